/- STORES INTO SLICES THAT THE CALL OWNS. Nothing here knows the program. -/
import Derived.Test.YtfapigccdbpepaaRd
namespace Go.Proofs.Ytfapigccdbpepaa
open Go.RowKit

theorem Sl.set {w : World} {g p cap e size n j : Nat} {xs : List Value} (h : Sl w (.slice (some ⟨g, p, none⟩) n cap) (some g) e size n xs) (hj : j < n * size) (u : Value) :
    Sl (w.setCell ⟨g, p + j, none⟩ u) (.slice (some ⟨g, p, none⟩) n cap) (some g) e size n (xs.set j u) := by
  obtain ⟨h1, h2⟩ := h
  refine ⟨by rw [List.length_set]; exact h1, ?_⟩
  rcases h2 with ⟨e, _⟩ | ⟨g', p', cap', cur, e1, e2, hg, hc, hs, ht⟩
  · cases e
  · cases e1
    cases e2
    have hlt := (Array.getElem?_eq_some_iff.1 hg).1
    have hcs : n * size ≤ cap * size := Nat.mul_le_mul_right _ hc
    refine .inr ⟨g, p, cap, cur.setIfInBounds (p + j) u, rfl, rfl, ?_, hc, by rw [Array.size_setIfInBounds]; exact hs, ?_⟩
    · have h' : w.heap[g] = .cells cur e (0, 0) := by simpa [Array.getElem?_eq_getElem hlt] using hg
      show (w.heap.modify g _)[g]? = _
      rw [Array.getElem?_eq_getElem (by simpa using hlt), Array.getElem_modify_self, h']
      rfl
    · rw [Array.toList_setIfInBounds]
      subst ht
      apply List.ext_getElem?
      intro i
      simp only [List.getElem?_take, List.getElem?_drop, List.getElem?_set, List.length_take, List.length_drop, Array.length_toList]
      by_cases hi : i < n * size
      · simp only [hi, if_true]
        by_cases hij : j = i
        · subst hij
          have a1 : p + j < cur.size := by omega
          have a2 : j < min (n * size) (cur.size - p) := by omega
          simp [a1, a2]
        · have : ¬ (p + j = p + i) := by omega
          simp [hij]
      · simp only [hi, if_false]
        have : ¬ (j = i) := by omega
        simp [this]
theorem set6 (A C : List Value) (a0 a1 a2 a3 a4 a5 u0 u1 u2 u3 u4 u5 : Value) :
    ((((((A ++ [a0, a1, a2, a3, a4, a5] ++ C).set A.length u0).set (A.length + 1) u1).set (A.length + 2) u2).set (A.length + 3) u3).set (A.length + 4) u4).set (A.length + 5) u5 = A ++ [u0, u1, u2, u3, u4, u5] ++ C := by
  simp
theorem set3 (A C : List Value) (a0 a1 a2 u0 u1 u2 : Value) :
    (((A ++ [a0, a1, a2] ++ C).set A.length u0).set (A.length + 1) u1).set (A.length + 2) u2 = A ++ [u0, u1, u2] ++ C := by
  simp
/-- An element of six cells is stored. -/
theorem Sl.set6 {w : World} {g p cap e n k : Nat} {A C : List Value} {a0 a1 a2 a3 a4 a5 : Value} (h : Sl w (.slice (some ⟨g, p, none⟩) n cap) (some g) e 6 n (A ++ [a0, a1, a2, a3, a4, a5] ++ C)) (hA : A.length = k * 6) (u0 u1 u2 u3 u4 u5 : Value) :
    Sl ((((((w.setCell ⟨g, p + k * 6, none⟩ u0).setCell ⟨g, p + k * 6 + 1, none⟩ u1).setCell ⟨g, p + k * 6 + 2, none⟩ u2).setCell ⟨g, p + k * 6 + 3, none⟩ u3).setCell ⟨g, p + k * 6 + 4, none⟩ u4).setCell ⟨g, p + k * 6 + 5, none⟩ u5)
      (.slice (some ⟨g, p, none⟩) n cap) (some g) e 6 n (A ++ [u0, u1, u2, u3, u4, u5] ++ C) := by
  have hl := h.1
  simp only [List.length_append, List.length_cons, List.length_nil] at hl
  have := (((((h.set (j := k * 6) (by omega) u0).set (j := k * 6 + 1) (by omega) u1).set (j := k * 6 + 2) (by omega) u2).set (j := k * 6 + 3) (by omega) u3).set (j := k * 6 + 4) (by omega) u4).set (j := k * 6 + 5) (by omega) u5
  rw [← hA, Go.Proofs.Ytfapigccdbpepaa.set6, hA] at this
  simp only [← Nat.add_assoc] at this
  exact this
theorem Sl.set3 {w : World} {g p cap e n k : Nat} {A C : List Value} {a0 a1 a2 : Value} (h : Sl w (.slice (some ⟨g, p, none⟩) n cap) (some g) e 3 n (A ++ [a0, a1, a2] ++ C)) (hA : A.length = k * 3) (u0 u1 u2 : Value) :
    Sl (((w.setCell ⟨g, p + k * 3, none⟩ u0).setCell ⟨g, p + k * 3 + 1, none⟩ u1).setCell ⟨g, p + k * 3 + 2, none⟩ u2)
      (.slice (some ⟨g, p, none⟩) n cap) (some g) e 3 n (A ++ [u0, u1, u2] ++ C) := by
  have hl := h.1
  simp only [List.length_append, List.length_cons, List.length_nil] at hl
  have := ((h.set (j := k * 3) (by omega) u0).set (j := k * 3 + 1) (by omega) u1).set (j := k * 3 + 2) (by omega) u2
  rw [← hA, Go.Proofs.Ytfapigccdbpepaa.set3, hA] at this
  simp only [← Nat.add_assoc] at this
  exact this
/-- A slice that is cut at its end, at its front. -/
theorem Sl.take {w : World} {g p cap e size n m : Nat} {xs : List Value} (h : Sl w (.slice (some ⟨g, p, none⟩) n cap) (some g) e size n xs) (hm : m ≤ n) :
    Sl w (.slice (some ⟨g, p, none⟩) m cap) (some g) e size m (xs.take (m * size)) := by
  obtain ⟨h1, h2⟩ := h
  have hms : m * size ≤ n * size := Nat.mul_le_mul_right _ hm
  refine ⟨by rw [List.length_take, h1]; omega, ?_⟩
  rcases h2 with ⟨e, _⟩ | ⟨g', p', cap', cur, e1, e2, hg, hc, hs, ht⟩
  · cases e
  · cases e1
    cases e2
    refine .inr ⟨g, p, cap, cur, rfl, rfl, hg, by omega, hs, ?_⟩
    rw [← ht, List.take_take, Nat.min_eq_left hms]
/-- A slice that is laid at once. -/
theorem Rds.lit {w : World} {N : Nat} (hN : w.heap.size = N) (cs : List Value) (e size n : Nat) (h : cs.length = n * size) : Rds (fun b => b = N) (w.alloc (.cells cs.toArray e)) (.slice (some ⟨N, 0, none⟩) n n) size n cs := by
  subst hN
  refine ⟨h, .inr ⟨_, n, rfl, fun _ => ⟨w.heap.size, 0, rfl, rfl, by simp, fun j x hj => ?_⟩⟩⟩
  have hb : (w.alloc (.cells cs.toArray e)).heap[w.heap.size]? = some (.cells cs.toArray e (0, 0)) := heap_alloc_new w _
  rw [cell_of_row _ _ _ _ _ _ hb, Nat.zero_add]
  simpa using hj
theorem Sl.alloc {w : World} {v : Value} {gb : Option Nat} {e size n : Nat} {xs : List Value} (h : Sl w v gb e size n xs) (o : Obj) : Sl (w.alloc o) v gb e size n xs := h.same fun b hb => Below.heap_alloc _ _ _ (h.lt b hb)
theorem Sl.below {w w' : World} {v : Value} {gb : Option Nat} {e size n : Nat} {xs : List Value} (h : Sl w v gb e size n xs) (hb : Below w.heap.size w w') : Sl w' v gb e size n xs := h.same fun b h' => hb.block b (h.lt b h')
/-- Behind an append to a slice of the call's own. -/
theorem below_appended {w w1 w2 : World} {gb gb' : Option Nat} {N : Nat} (h : Below w.heap.size w w1) (hg : w1.grownBy w2 gb) (hgb : ∀ b, gb = some b → w.heap.size ≤ b) (hn : gb' = gb ∨ ∃ g, gb' = some g ∧ N ≤ g) (hN : w.heap.size ≤ N) : Below w.heap.size w w2 ∧ ∀ b, gb' = some b → w.heap.size ≤ b := by
  refine ⟨⟨hg.os.trans h.os, hg.tape.trans h.tape, hg.output.trans h.output, Nat.le_trans h.size hg.size, fun k hk => (hg.block k (Nat.lt_of_lt_of_le hk h.size) (fun e => by have := hgb k e.symm; omega)).trans (h.block k hk)⟩, fun b hb => ?_⟩
  rcases hn with h1 | ⟨g, h1, h2⟩
  · exact hgb b (h1 ▸ hb)
  · rw [h1] at hb; cases hb; omega
end Go.Proofs.Ytfapigccdbpepaa
