import Derived.Test.YtdaoeplblkfapaaGreatDoorM03
import Derived.Test.YtdaoeplblkfapaaGreatDoorM08
import Derived.Deep.LoopGhost
import Derived.Shelf.Strings.OnBuilder
import Derived.Lib.AppendStr

/- STORES INTO SLICES THAT THE CALL OWNS. Nothing here knows the program. -/
namespace Go.Proofs.YtdaoeplblkfapaaGreatDoor
open Go.RowKit

theorem Sl.set {w : World} {g p cap e size n j : Nat} {xs : List Value} (h : Sl w (.slice (some ⟨g, p, none⟩) n cap) (some g) e size n xs) (hj : j < n * size) (u : Value) :
    Sl (w.setCell ⟨g, p + j, none⟩ u) (.slice (some ⟨g, p, none⟩) n cap) (some g) e size n (xs.set j u) := by
  obtain ⟨h1, h2⟩ := h
  refine ⟨by rw [List.length_set]; exact h1, ?_⟩
  rcases h2 with ⟨e, _⟩ | ⟨g', p', cap', cur, e1, e2, hg, hc, hs, ht⟩
  · cases e
  · cases e1
    cases e2
    have hlt := (Array.getElem?_eq_some_iff.1 hg).1
    have hcs : n * size ≤ cap * size := Nat.mul_le_mul_right _ hc
    refine .inr ⟨g, p, cap, cur.setIfInBounds (p + j) u, rfl, rfl, ?_, hc, by rw [Array.size_setIfInBounds]; exact hs, ?_⟩
    · have h' : w.heap[g] = .cells cur e (0, 0) := by simpa [Array.getElem?_eq_getElem hlt] using hg
      show (w.heap.modify g _)[g]? = _
      rw [Array.getElem?_eq_getElem (by simpa using hlt), Array.getElem_modify_self, h']
      rfl
    · rw [Array.toList_setIfInBounds]
      subst ht
      apply List.ext_getElem?
      intro i
      simp only [List.getElem?_take, List.getElem?_drop, List.getElem?_set, List.length_take, List.length_drop, Array.length_toList]
      by_cases hi : i < n * size
      · simp only [hi, if_true]
        by_cases hij : j = i
        · subst hij
          have a1 : p + j < cur.size := by omega
          have a2 : j < min (n * size) (cur.size - p) := by omega
          simp [a1, a2]
        · have : ¬ (p + j = p + i) := by omega
          simp [hij]
      · simp only [hi, if_false]
        have : ¬ (j = i) := by omega
        simp [this]
theorem set6 (A C : List Value) (a0 a1 a2 a3 a4 a5 u0 u1 u2 u3 u4 u5 : Value) :
    ((((((A ++ [a0, a1, a2, a3, a4, a5] ++ C).set A.length u0).set (A.length + 1) u1).set (A.length + 2) u2).set (A.length + 3) u3).set (A.length + 4) u4).set (A.length + 5) u5 = A ++ [u0, u1, u2, u3, u4, u5] ++ C := by
  simp
theorem set3 (A C : List Value) (a0 a1 a2 u0 u1 u2 : Value) :
    (((A ++ [a0, a1, a2] ++ C).set A.length u0).set (A.length + 1) u1).set (A.length + 2) u2 = A ++ [u0, u1, u2] ++ C := by
  simp
/-- An element of six cells is stored. -/
theorem Sl.set6 {w : World} {g p cap e n k : Nat} {A C : List Value} {a0 a1 a2 a3 a4 a5 : Value} (h : Sl w (.slice (some ⟨g, p, none⟩) n cap) (some g) e 6 n (A ++ [a0, a1, a2, a3, a4, a5] ++ C)) (hA : A.length = k * 6) (u0 u1 u2 u3 u4 u5 : Value) :
    Sl ((((((w.setCell ⟨g, p + k * 6, none⟩ u0).setCell ⟨g, p + k * 6 + 1, none⟩ u1).setCell ⟨g, p + k * 6 + 2, none⟩ u2).setCell ⟨g, p + k * 6 + 3, none⟩ u3).setCell ⟨g, p + k * 6 + 4, none⟩ u4).setCell ⟨g, p + k * 6 + 5, none⟩ u5)
      (.slice (some ⟨g, p, none⟩) n cap) (some g) e 6 n (A ++ [u0, u1, u2, u3, u4, u5] ++ C) := by
  have hl := h.1
  simp only [List.length_append, List.length_cons, List.length_nil] at hl
  have := (((((h.set (j := k * 6) (by omega) u0).set (j := k * 6 + 1) (by omega) u1).set (j := k * 6 + 2) (by omega) u2).set (j := k * 6 + 3) (by omega) u3).set (j := k * 6 + 4) (by omega) u4).set (j := k * 6 + 5) (by omega) u5
  rw [← hA, Go.Proofs.YtdaoeplblkfapaaGreatDoor.set6, hA] at this
  simp only [← Nat.add_assoc] at this
  exact this
theorem Sl.set3 {w : World} {g p cap e n k : Nat} {A C : List Value} {a0 a1 a2 : Value} (h : Sl w (.slice (some ⟨g, p, none⟩) n cap) (some g) e 3 n (A ++ [a0, a1, a2] ++ C)) (hA : A.length = k * 3) (u0 u1 u2 : Value) :
    Sl (((w.setCell ⟨g, p + k * 3, none⟩ u0).setCell ⟨g, p + k * 3 + 1, none⟩ u1).setCell ⟨g, p + k * 3 + 2, none⟩ u2)
      (.slice (some ⟨g, p, none⟩) n cap) (some g) e 3 n (A ++ [u0, u1, u2] ++ C) := by
  have hl := h.1
  simp only [List.length_append, List.length_cons, List.length_nil] at hl
  have := ((h.set (j := k * 3) (by omega) u0).set (j := k * 3 + 1) (by omega) u1).set (j := k * 3 + 2) (by omega) u2
  rw [← hA, Go.Proofs.YtdaoeplblkfapaaGreatDoor.set3, hA] at this
  simp only [← Nat.add_assoc] at this
  exact this
/-- A slice that is cut at its end, at its front. -/
theorem Sl.take {w : World} {g p cap e size n m : Nat} {xs : List Value} (h : Sl w (.slice (some ⟨g, p, none⟩) n cap) (some g) e size n xs) (hm : m ≤ n) :
    Sl w (.slice (some ⟨g, p, none⟩) m cap) (some g) e size m (xs.take (m * size)) := by
  obtain ⟨h1, h2⟩ := h
  have hms : m * size ≤ n * size := Nat.mul_le_mul_right _ hm
  refine ⟨by rw [List.length_take, h1]; omega, ?_⟩
  rcases h2 with ⟨e, _⟩ | ⟨g', p', cap', cur, e1, e2, hg, hc, hs, ht⟩
  · cases e
  · cases e1
    cases e2
    refine .inr ⟨g, p, cap, cur, rfl, rfl, hg, by omega, hs, ?_⟩
    rw [← ht, List.take_take, Nat.min_eq_left hms]
/-- A slice that is laid at once. -/
theorem Rds.lit {w : World} {N : Nat} (hN : w.heap.size = N) (cs : List Value) (e size n : Nat) (h : cs.length = n * size) : Rds (fun b => b = N) (w.alloc (.cells cs.toArray e)) (.slice (some ⟨N, 0, none⟩) n n) size n cs := by
  subst hN
  refine ⟨h, .inr ⟨_, n, rfl, fun _ => ⟨w.heap.size, 0, rfl, rfl, by simp, fun j x hj => ?_⟩⟩⟩
  have hb : (w.alloc (.cells cs.toArray e)).heap[w.heap.size]? = some (.cells cs.toArray e (0, 0)) := heap_alloc_new w _
  rw [cell_of_row _ _ _ _ _ _ hb, Nat.zero_add]
  simpa using hj
theorem Sl.alloc {w : World} {v : Value} {gb : Option Nat} {e size n : Nat} {xs : List Value} (h : Sl w v gb e size n xs) (o : Obj) : Sl (w.alloc o) v gb e size n xs := h.same fun b hb => Below.heap_alloc _ _ _ (h.lt b hb)
theorem Sl.below {w w' : World} {v : Value} {gb : Option Nat} {e size n : Nat} {xs : List Value} (h : Sl w v gb e size n xs) (hb : Below w.heap.size w w') : Sl w' v gb e size n xs := h.same fun b h' => hb.block b (h.lt b h')
/-- Behind an append to a slice of the call's own. -/
theorem below_appended {w w1 w2 : World} {gb gb' : Option Nat} {N : Nat} (h : Below w.heap.size w w1) (hg : w1.grownBy w2 gb) (hgb : ∀ b, gb = some b → w.heap.size ≤ b) (hn : gb' = gb ∨ ∃ g, gb' = some g ∧ N ≤ g) (hN : w.heap.size ≤ N) : Below w.heap.size w w2 ∧ ∀ b, gb' = some b → w.heap.size ≤ b := by
  refine ⟨⟨hg.os.trans h.os, hg.tape.trans h.tape, hg.output.trans h.output, Nat.le_trans h.size hg.size, fun k hk => (hg.block k (Nat.lt_of_lt_of_le hk h.size) (fun e => by have := hgb k e.symm; omega)).trans (h.block k hk)⟩, fun b hb => ?_⟩
  rcases hn with h1 | ⟨g, h1, h2⟩
  · exact hgb b (h1 ▸ hb)
  · rw [h1] at hb; cases hb; omega
end Go.Proofs.YtdaoeplblkfapaaGreatDoor

/- THE CONTRACTS OF strand.clones and Seg. -/
namespace Go.Proofs.YtdaoeplblkfapaaGreatDoor
open Go.RowKit

/-- Batches of memory of the call's own. -/
def Clones (w : World) (bs : List Pl.Bt) (e : Ending) (w' : World) : Prop :=
  ∃ v gb L, e = .returned v ∧ L.map (·.1) = bs ∧ Sl w' v gb 34 6 L.length (L.flatMap bc6) ∧ (∀ b, gb = some b → w.heap.size ≤ b) ∧ All (fun b => w.heap.size ≤ b ∧ gb ≠ some b) w' L ∧ Below w.heap.size w w'
/-- While the batches are cloned one by one: k are. -/
structure Cg (w : World) (g p cap n : Nat) (L : List (Pl.Bt × Value)) (k : Nat) (M : List (Pl.Bt × Value)) (wr : World) : Prop where
  len : M.length = k
  bts : M.map (·.1) = (L.take k).map (·.1)
  sl : Sl wr (.slice (some ⟨g, p, none⟩) n cap) (some g) 34 6 n ((M ++ L.drop k).flatMap bc6)
  new : All (fun b => w.heap.size ≤ b ∧ g ≠ b) wr M
  low : Below w.heap.size w wr
theorem flat_mid (M L : List (Pl.Bt × Value)) (k : Nat) (p : Pl.Bt × Value) (h : L[k]? = some p) : (M ++ L.drop k).flatMap bc6 = M.flatMap bc6 ++ bc6 p ++ (L.drop (k + 1)).flatMap bc6 := by
  have hl := (List.getElem?_eq_some_iff.1 h).1
  rw [List.drop_eq_getElem_cons hl, List.flatMap_append, List.flatMap_cons]
  rw [List.getElem?_eq_getElem hl] at h
  rw [Option.some.inj h, List.append_assoc]
theorem Cg.next {w : World} {g p cap n : Nat} {L : List (Pl.Bt × Value)} {k : Nat} {M : List (Pl.Bt × Value)} {wr w1 : World} (h : Cg w g p cap n L k M wr) {b : Pl.Bt} {v rv : Value} (hk : L[k]? = some (b, v)) (hb : Below wr.heap.size wr w1) (hr : RcIn (fun x => wr.heap.size ≤ x) w1 rv b.recs) (hg : w.heap.size ≤ g) :
    Cg w g p cap n L (k + 1) (M ++ [(b, rv)]) ((((((w1.setCell ⟨g, p + k * 6, none⟩ (.int .i64 b.base)).setCell ⟨g, p + k * 6 + 1, none⟩ (.int .i64 b.count)).setCell ⟨g, p + k * 6 + 2, none⟩ (.int .i64 b.prod)).setCell ⟨g, p + k * 6 + 3, none⟩ (.int .i64 b.seq)).setCell ⟨g, p + k * 6 + 4, none⟩ (.int .i64 b.time)).setCell ⟨g, p + k * 6 + 5, none⟩ rv) := by
  have hl := (List.getElem?_eq_some_iff.1 hk).1
  have hglt : g < wr.heap.size := h.sl.lt g rfl
  have hm := (((((Moved.setCell (B := fun b => b = g) w1 ⟨g, p + k * 6, none⟩ (.int .i64 b.base) rfl).trans (Moved.setCell _ ⟨g, p + k * 6 + 1, none⟩ (.int .i64 b.count) rfl)).trans (Moved.setCell _ ⟨g, p + k * 6 + 2, none⟩ (.int .i64 b.prod) rfl)).trans (Moved.setCell _ ⟨g, p + k * 6 + 3, none⟩ (.int .i64 b.seq) rfl)).trans (Moved.setCell _ ⟨g, p + k * 6 + 4, none⟩ (.int .i64 b.time) rfl)).trans (Moved.setCell _ ⟨g, p + k * 6 + 5, none⟩ rv rfl)
  refine ⟨by rw [List.length_append, h.len]; rfl, ?_, ?_, ?_, (hm.below (h.low.trans (hb.mono h.low.size)) (by rintro b rfl; exact hg)).1⟩
  · rw [List.map_append, h.bts, List.take_succ_eq_append_getElem hl, List.map_append]
    rw [List.getElem?_eq_getElem hl] at hk
    rw [Option.some.inj hk]
    rfl
  · have h1 : Sl w1 (.slice (some ⟨g, p, none⟩) n cap) (some g) 34 6 n ((M ++ L.drop k).flatMap bc6) := h.sl.same fun b hb' => hb.block b (h.sl.lt b hb')
    rw [flat_mid M L k _ hk] at h1
    have h2 := Sl.set6 (A := M.flatMap bc6) (k := k) h1 (by rw [flat_length bc6 6 bc6_length, h.len]) (.int .i64 b.base) (.int .i64 b.count) (.int .i64 b.prod) (.int .i64 b.seq) (.int .i64 b.time) rv
    rw [List.flatMap_append, List.flatMap_append]
    simpa [bc6] using h2
  · have h1 := h.new.below hb
    have h2 : All (fun x => wr.heap.size ≤ x) w1 [(b, rv)] := fun q hq => by
      obtain rfl := List.mem_singleton.1 hq
      exact hr
    intro q hq
    rcases List.mem_append.1 hq with hq | hq
    · exact (h1 q hq).keep hm.size fun b hb' hl' => ⟨hm.block b hl' (Ne.symm hb'.2), hb'⟩
    · exact (h2 q hq).keep hm.size fun b hb' hl' => ⟨hm.block b hl' (by omega), by have := h.low.size; omega, by omega⟩
set_option maxHeartbeats 2000000 in
set_option maxRecDepth 100000 in
theorem clones_any {A : Nat → Prop} (v : Value) (L : List (Pl.Bt × Value)) (w : World) (h : BtIn A w v L) (hn : L.length ≤ 1048576) (hr : ∀ p ∈ L, p.1.recs.length ≤ 1048576) :
    Calls Tryz.prog 87 #[v] w (Clones w (L.map (·.1))) := by
  have HC := Lib.hid (cloneBt v L.length _ w h.1 (bc6_one h.2) hn)
  have HA := Lib.hid h.2
  have HR := Lib.hid hr
  obtain ⟨a, cap, rfl⟩ := h.form
  obtain ⟨n, hnn⟩ : ∃ n, L.length = n := ⟨_, rfl⟩
  rw [hnn] at HC hn ⊢
  have HN := Lib.hid hnn
  clear h hr hnn
  go_enter Tryz.func87, Tryz.ntmps87
  go_wp2_with fail
  refine HC.out.mono ?_
  rintro e w1 ⟨v', gb, rfl, hS, hg, hb⟩
  rcases n with _ | n
  · obtain rfl := List.eq_nil_of_length_eq_zero HN.out
    obtain ⟨a', cap', rfl⟩ := hS.form
    have HS := Lib.hid hS
    have HG := Lib.hid hg
    have HB := Lib.hid hb
    clear hS hg hb HC HA HR
    go_wp2_with fail
    go_loopw [8] (fun iv wr => iv = .int .i64 0 ∧ wr = w1) (fun _ _ => 0)
    case atStart => exact ⟨rfl, rfl⟩
    case round =>
      obtain ⟨rfl, rfl⟩ := hrel
      go_wp2_with fail
      go_ret
      exact ⟨_, gb, [], rfl, rfl, HS.out, HG.out, (fun p hp => by cases hp), HB.out⟩
  · obtain ⟨g, p, cap', rfl, rfl⟩ : ∃ g p cap', gb = some g ∧ v' = .slice (some ⟨g, p, none⟩) (n + 1) cap' := by
      rcases hS.2 with ⟨_, _, h0⟩ | ⟨g, p, cap', cur, h1, h2, _⟩
      · cases h0
      · exact ⟨g, p, cap', h1, h2⟩
    obtain ⟨N, hN⟩ : ∃ N, n + 1 = N := ⟨_, rfl⟩
    rw [hN] at hS HN hn ⊢
    have HS := Lib.hid hS
    have HG := Lib.hid (hg g rfl)
    have HB := Lib.hid hb
    clear hS hg hb HC hN
    go_wp2_with fail
    go_loopw [8] (fun iv wr => ∃ (k : Nat) (M : List (Pl.Bt × Value)), k ≤ N ∧ iv = .int .i64 k ∧ Cg w g p cap' N L k M wr) (fun iv _ => N - (intOf iv).toNat)
    case atStart => exact ⟨0, [], Nat.zero_le _, rfl, ⟨rfl, rfl, by simpa using HS.out, (fun p hp => by cases hp), HB.out⟩⟩
    case round =>
      obtain ⟨k, M, hk, rfl, hcg⟩ := hrel
      by_cases hlt : k < N
      · obtain ⟨q, hq⟩ : ∃ q, L[k]? = some q := ⟨_, List.getElem?_eq_getElem (by rw [HN.out]; exact hlt)⟩
        have hj : (M ++ L.drop k)[k]? = some q := by rw [List.getElem?_append_right (by rw [hcg.len]; exact Nat.le_refl _), hcg.len, Nat.sub_self, List.getElem?_drop]; exact hq
        have hqm := List.mem_of_getElem? hq
        have HCL := Lib.hid (cloned_any q wr ((HA.out.below hcg.low) q hqm) (HR.out q hqm))
        have key : ∀ i u, i < 6 → (bc6 q)[i]? = some u → wr.cell? ⟨g, p + k * 6 + i, none⟩ = some u := fun i u hi hu => by
          have := hcg.sl.cell rfl (k * 6 + i) u (by rw [flat_at bc6 6 bc6_length _ k q hj i hi]; exact hu)
          rw [← Nat.add_assoc] at this
          exact this
        have hglt := hcg.sl.lt g rfl
        have fz : ∀ o, wr.frozen? ⟨g, o, none⟩ = false := fun o => hcg.sl.frozen rfl o
        obtain ⟨⟨base, count, prod, seq, time, recs⟩, rv⟩ := q
        have c0 : wr.cell? ⟨g, p + k * 6, none⟩ = some (.int .i64 base) := key 0 _ (by decide) rfl
        have c1 : wr.cell? ⟨g, p + k * 6 + 1, none⟩ = some (.int .i64 count) := key 1 _ (by decide) rfl
        have c2 : wr.cell? ⟨g, p + k * 6 + 2, none⟩ = some (.int .i64 prod) := key 2 _ (by decide) rfl
        have c3 : wr.cell? ⟨g, p + k * 6 + 3, none⟩ = some (.int .i64 seq) := key 3 _ (by decide) rfl
        have c4 : wr.cell? ⟨g, p + k * 6 + 4, none⟩ = some (.int .i64 time) := key 4 _ (by decide) rfl
        have c5 : wr.cell? ⟨g, p + k * 6 + 5, none⟩ = some rv := key 5 _ (by decide) rfl
        have HCG := Lib.hid hcg
        have HQ := Lib.hid hq
        have HF := Lib.hid fz
        have HGL := Lib.hid hglt
        have HK := Lib.hid key
        clear hcg hq hj hqm key fz
        go_wp2_with fail
        refine HCL.out.mono ?_
        rintro e w2 ⟨rv', rfl, hr', hb'⟩
        obtain ⟨a', cp', rfl⟩ := RcIn.slice hr'
        have d : ∀ o, w2.cell? ⟨g, o, none⟩ = wr.cell? ⟨g, o, none⟩ := fun o => hb'.cell (p := ⟨g, o, none⟩) hglt
        have d0 : w2.cell? ⟨g, p + k * 6, none⟩ = some (.int .i64 base) := (d _).trans c0
        have d1 : w2.cell? ⟨g, p + k * 6 + 1, none⟩ = some (.int .i64 count) := (d _).trans c1
        have d2 : w2.cell? ⟨g, p + k * 6 + 2, none⟩ = some (.int .i64 prod) := (d _).trans c2
        have d3 : w2.cell? ⟨g, p + k * 6 + 3, none⟩ = some (.int .i64 seq) := (d _).trans c3
        have d4 : w2.cell? ⟨g, p + k * 6 + 4, none⟩ = some (.int .i64 time) := (d _).trans c4
        have d5 : w2.cell? ⟨g, p + k * 6 + 5, none⟩ = some rv := (d _).trans c5
        have z : ∀ o, w2.frozen? ⟨g, o, none⟩ = false := fun o => (hb'.frozen (p := ⟨g, o, none⟩) hglt).trans (HF.out o)
        have z0 := z (p + k * 6)
        have z1 := z (p + k * 6 + 1)
        have z2 := z (p + k * 6 + 2)
        have z3 := z (p + k * 6 + 3)
        have z4 := z (p + k * 6 + 4)
        have z5 := z (p + k * 6 + 5)
        have HN2 := Lib.hid (HCG.out.next HQ.out hb' hr' HG.out)
        clear hr' hb' d z c0 c1 c2 c3 c4 c5
        go_wp2_with fail
        go_roundw
        case rel => exact ⟨k + 1, _, hlt, by go_num, HN2.out⟩
        case measure => simp [intOf]; omega
      · obtain rfl : k = N := by omega
        have hd : L.drop k = [] := List.drop_eq_nil_of_le (by rw [HN.out]; exact Nat.le_refl _)
        have hsl := hcg.sl
        rw [hd, List.append_nil] at hsl
        have HSL := Lib.hid hsl
        have HCG := Lib.hid hcg
        clear hcg hsl hd
        go_wp2_with fail
        go_ret
        exact ⟨_, some g, M, rfl, by rw [HCG.out.bts, List.take_of_length_le (by rw [HN.out]; exact Nat.le_refl _)], by rw [HCG.out.len]; exact HSL.out, (fun b hb => by cases hb; exact HG.out), HCG.out.new.mono (fun b hb => ⟨hb.1, fun e => hb.2 (Option.some.inj e)⟩), HCG.out.low⟩
end Go.Proofs.YtdaoeplblkfapaaGreatDoor

/- THE CONTRACTS OF strand's Seg and Bases. -/
namespace Go.Proofs.YtdaoeplblkfapaaGreatDoor
open Go.RowKit

set_option maxHeartbeats 1000000 in
set_option maxRecDepth 100000 in
theorem seg_in {w : World} {s : Nat} {h : Hs} {X : List Sx} {v : Value} {gb : Option Nat} {A : Nat → Prop} (k : Lies w s h X v gb A) {j : Nat} {x : Sx} (hx : X[j]? = some x) (_hX : X.length ≤ 1048576) (hL : x.L.length ≤ 1048576) (hr : ∀ p ∈ x.L, p.1.recs.length ≤ 1048576) :
    Calls Tryz.prog 38 #[.pointer (some ⟨s, 0, none⟩), .int .i64 j] w (Clones w x.bts) := by
  have HC := Lib.hid (clones_any x.lv x.L w (k.list (List.mem_of_getElem? hx)) hL hr)
  obtain ⟨g, o, cap, rfl, rfl, hc, hg, c0, c1, c2⟩ := k.get hx
  have d4 : w.cell? ⟨s, 4, none⟩ = some (.slice (some ⟨g, o, none⟩) X.length cap) := k.head.cell rfl
  have hjl := (List.getElem?_eq_some_iff.1 hx).1
  obtain ⟨N, hN⟩ : ∃ N, X.length = N := ⟨_, rfl⟩
  rw [hN] at d4 hjl
  have i0 : (0 : Int) ≤ (j : Int) := by omega
  have i1 : (j : Int) < (N : Int) := by omega
  have i2 : ¬ ((j : Int) < 0) := by omega
  obtain ⟨lv, hlv⟩ : ∃ lv, x.lv = lv := ⟨_, rfl⟩
  rw [hlv] at c2 HC
  clear k hx hc hN hL hr hlv c0 c1
  go_enter Tryz.func38, Tryz.ntmps38
  go_wp2_with fail
  refine HC.out.mono ?_
  rintro e w1 ⟨v', gb', L, rfl, h1, h2, h3, h4, h5⟩
  have H1 := Lib.hid h1
  have H2 := Lib.hid h2
  have H3 := Lib.hid h3
  have H4 := Lib.hid h4
  have H5 := Lib.hid h5
  clear h1 h2 h3 h4 h5
  go_wp2_with fail
  go_ret
  exact ⟨v', gb', L, rfl, H1.out, H2.out, H3.out, H4.out, H5.out⟩
set_option maxHeartbeats 1000000 in
set_option maxRecDepth 100000 in
theorem seg_out {w : World} {s : Nat} {h : Hs} {X : List Sx} {v : Value} {gb : Option Nat} {A : Nat → Prop} (k : Lies w s h X v gb A) (j : Int) (hj : j < 0 ∨ (X.length : Int) ≤ j) :
    Calls Tryz.prog 38 #[.pointer (some ⟨s, 0, none⟩), .int .i64 j] w fun e w' => e = .returned (.slice none 0 0) ∧ w = w' := by
  obtain ⟨a, cap, rfl⟩ := k.segs.form
  have d4 : w.cell? ⟨s, 4, none⟩ = some (.slice a X.length cap) := k.head.cell rfl
  obtain ⟨N, hN⟩ : ∃ N, X.length = N := ⟨_, rfl⟩
  rw [hN] at d4 hj
  clear k hN
  by_cases h0 : j < 0
  · clear hj
    go_enter Tryz.func38, Tryz.ntmps38
    go_wp2_with fail
    go_ret
    exact ⟨rfl, rfl⟩
  · have h1 : (N : Int) ≤ j := by omega
    have h2 : 0 ≤ j := by omega
    have h3 : decide ((N : Int) ≤ j) = true := decide_eq_true h1
    clear hj h0
    go_enter Tryz.func38, Tryz.ntmps38
    go_wp2_with fail
    go_ret
    exact ⟨rfl, rfl⟩

def fcells (X : List Sx) : List Value := X.map fun x => .int .i64 x.first
theorem fcells_length (X : List Sx) : (fcells X).length = X.length := by simp [fcells]
/-- The segments' first offsets. -/
def Based (w : World) (X : List Sx) (e : Ending) (w' : World) : Prop :=
  ∃ v gb, e = .returned v ∧ Sl w' v gb 3 1 X.length (fcells X) ∧ (∀ b, gb = some b → w.heap.size ≤ b) ∧ Below w.heap.size w w'
theorem fcells_snoc {X : List Sx} {k : Nat} {x : Sx} (h : X[k]? = some x) : fcells (X.take (k + 1)) = fcells (X.take k) ++ [.int .i64 x.first] := by
  have hl := (List.getElem?_eq_some_iff.1 h).1
  rw [List.take_succ_eq_append_getElem hl]
  rw [List.getElem?_eq_getElem hl] at h
  rw [Option.some.inj h]
  simp [fcells]
set_option maxHeartbeats 2000000 in
set_option maxRecDepth 100000 in
theorem bases_any {w : World} {s : Nat} {h : Hs} {X : List Sx} {v : Value} {gb : Option Nat} {A : Nat → Prop} (k : Lies w s h X v gb A) (hX : X.length ≤ 1048576) :
    Calls Tryz.prog 37 #[.pointer (some ⟨s, 0, none⟩)] w (Based w X) := by
  obtain ⟨a, cap, rfl⟩ := k.segs.form
  have d4 : w.cell? ⟨s, 4, none⟩ = some (.slice a X.length cap) := k.head.cell rfl
  obtain ⟨n, hn⟩ : ∃ n, X.length = n := ⟨_, rfl⟩
  rw [hn] at d4 hX
  have HN := Lib.hid hn
  have HK := Lib.hid k
  clear k hn
  go_enter Tryz.func37, Tryz.ntmps37
  go_wp2_with fail
  go_loopw [3, 13] (fun lv iv wr => ∃ (j : Nat) (gl : Option Nat), j ≤ n ∧ iv = .int .i64 j ∧ Sl wr lv gl 3 1 j (fcells (X.take j)) ∧ (∀ b, gl = some b → w.heap.size ≤ b) ∧ Below w.heap.size w wr) (fun _ iv _ => n - (intOf iv).toNat)
  case atStart => exact ⟨0, none, Nat.zero_le _, rfl, Sl.nil _ _ _, (fun b hb => by cases hb), Below.refl _ _⟩
  case round =>
    obtain ⟨j, gl, hj, rfl, hS, hG, hB⟩ := hrel
    obtain ⟨la, lc, rfl⟩ := hS.form
    by_cases hlt : j < n
    · obtain ⟨x, hx⟩ : ∃ x, X[j]? = some x := ⟨_, List.getElem?_eq_getElem (by rw [HN.out]; exact hlt)⟩
      obtain ⟨g, o, cap', rfl, e, hc, hg, c0, c1, c2⟩ := (HK.out.below hB).get hx
      injection e with e1 e2 e3
      subst e1 e3
      obtain ⟨sa, sc, hlv⟩ := (HK.out.list (List.mem_of_getElem? hx)).form
      rw [hlv] at c2
      obtain ⟨y, hy⟩ : ∃ y, (frs x.bts).length = y := ⟨_, rfl⟩
      obtain ⟨m, hm⟩ : ∃ m, x.L.length = m := ⟨_, rfl⟩
      rw [hy] at c1
      rw [hm] at c2
      obtain ⟨i0, hi, hz0, hz1, hz2⟩ := infoInt
      have HS := Lib.hid hS
      have HG := Lib.hid hG
      have HB := Lib.hid hB
      have HX := Lib.hid (fcells_snoc hx)
      obtain ⟨f, hf⟩ : ∃ f, x.first = f := ⟨_, rfl⟩
      rw [hf] at c0 HX
      clear hS hG hB hx hlv hy hm hf e2 hc
      go_wp2_with (at_builtin; refine wpList_append_rd rfl _ _ 35 rfl 3 i0 (.int .i64 0) 1 8 Tryz.underlying35 hi hz0 hz1 hz2 rfl _ gl j _ rfl ((HS.out.alloc _).alloc _) _ 1 [.int .i64 f] rfl (Rds.lit (by simp) _ _ _ _ rfl) (fun u hu => by obtain rfl := List.mem_singleton.1 hu; rfl) (by omega) (by omega) ?_)
      intro v' w9 gb' hS9 hG9 hgb9
      have hbb := below_appended (((HB.out.trans ((Below.refl _ wr).alloc (Nat.le_refl _) _ |>.mono HB.out.size)).alloc (by have := HB.out.size; simp; omega) _)) hG9 HG.out hgb9 (by have := HB.out.size; omega)
      rw [← HX.out] at hS9
      have HB9 := Lib.hid hbb.1
      have HG9 := Lib.hid hbb.2
      have HS9 := Lib.hid hS9
      clear hS9 hG9 hgb9 hbb
      go_wp2_with fail
      go_roundw
      case rel => exact ⟨j + 1, gb', hlt, by go_num, HS9.out, HG9.out, HB9.out⟩
      case measure => simp [intOf]; omega
    · obtain rfl : j = n := by omega
      rw [List.take_of_length_le (by rw [HN.out]; exact Nat.le_refl _)] at hS
      have HS := Lib.hid hS
      have HG := Lib.hid hG
      have HB := Lib.hid hB
      clear hS hG hB
      go_wp2_with fail
      go_ret
      exact ⟨_, gl, rfl, by rw [HN.out]; exact HS.out, HG.out, HB.out⟩
end Go.Proofs.YtdaoeplblkfapaaGreatDoor

/- THE CONTRACTS OF sort.Search at strand's closures, upto, left. -/
namespace Go.Proofs.YtdaoeplblkfapaaGreatDoor
open Go.RowKit

/-- sort.Search at the closure (heliograph/strand.segment).upto$1. -/
def FoundUp (P : Nat → Bool) (n : Nat) (w : World) (e : Ending) (w' : World) : Prop :=
  ∃ k : Nat, k ≤ n ∧ e = .returned (.int .i64 k) ∧ (∀ j, j < k → P j = false) ∧ (∀ j, k ≤ j → j < n → P j = true) ∧ Below w.heap.size w w'
set_option maxHeartbeats 1000000 in
set_option maxRecDepth 100000 in
theorem searchUp (P : Nat → Bool) (n : Nat) (p q : Value) (w : World) (hn : n ≤ 1048576)
    (hf : ∀ i, i < n → ∀ wx, Below w.heap.size w wx → Calls Tryz.prog 137 #[.int .i64 i, p, q] wx fun e w' => e = .returned (.bool (P i)) ∧ Below wx.heap.size wx w')
    (hm : ∀ i j, i ≤ j → j < n → P i = true → P j = true) :
    Calls Tryz.prog 135 #[.int .i64 n, .func (.func 137) #[] #[p, q]] w (FoundUp P n w) := by
  have HF := Lib.hid hf
  have HM := Lib.hid hm
  clear hf hm
  go_enter Tryz.func135, Tryz.ntmps135
  go_wp2_with fail
  go_loopw [5, 6] (fun iv jv wr => ∃ lo hi : Nat, lo ≤ hi ∧ hi ≤ n ∧ iv = .int .i64 lo ∧ jv = .int .i64 hi ∧ (∀ j, j < lo → P j = false) ∧ (∀ j, hi ≤ j → j < n → P j = true) ∧ Below w.heap.size w wr) (fun iv jv _ => (intOf jv).toNat - (intOf iv).toNat)
  case atStart => exact ⟨0, n, Nat.zero_le _, Nat.le_refl _, rfl, rfl, fun j hj => absurd hj (Nat.not_lt_zero _), (fun j h1 h2 => absurd h2 (Nat.not_lt.2 h1)), Below.refl _ _⟩
  case round =>
    obtain ⟨lo, hi, hlh, hhn, rfl, rfl, hlo, hhi, hb⟩ := hrel
    have HLO := Lib.hid hlo
    have HHI := Lib.hid hhi
    have HB := Lib.hid hb
    clear hlo hhi hb
    by_cases hlt : lo < hi
    · have hk1 : lo ≤ (lo + hi) / 2 := by omega
      have hk2 : (lo + hi) / 2 < hi := by omega
      have e2 : Value.int .i64 (((lo : Int) + (hi : Int)) / 2) = .int .i64 (((lo + hi) / 2 : Nat) : Int) := congrArg _ (by omega)
      have e1 : Value.int .i64 (((lo : Int) + (hi : Int)) / 2 + 1) = .int .i64 (((lo + hi) / 2 + 1 : Nat) : Int) := congrArg _ (by omega)
      have hc := HF.out ((lo + hi) / 2) (by omega)
      rw [← e2] at hc
      have HC := Lib.hid hc
      have HE1 := Lib.hid e1
      have HE2 := Lib.hid e2
      obtain ⟨r, hr⟩ : ∃ r, P ((lo + hi) / 2) = r := ⟨_, rfl⟩
      rw [hr] at HC
      have HR := Lib.hid hr
      clear hc e1 e2 hr
      cases r with
      | false =>
        go_wp2_with fail
        refine (HC.out _ HB.out).mono ?_
        rintro e w1 ⟨rfl, hb1⟩
        have HB1 := Lib.hid hb1
        clear hb1
        go_wp2_with fail
        go_roundw
        case rel =>
          refine ⟨(lo + hi) / 2 + 1, hi, by omega, hhn, HE1.out, rfl, fun j hj => ?_, HHI.out, HB.out.trans (HB1.out.mono HB.out.size)⟩
          cases hp : P j with
          | false => rfl
          | true => rw [← HR.out, HM.out j ((lo + hi) / 2) (by omega) (by omega) hp]
        case measure => simp [intOf]; omega
      | true =>
        go_wp2_with fail
        refine (HC.out _ HB.out).mono ?_
        rintro e w1 ⟨rfl, hb1⟩
        have HB1 := Lib.hid hb1
        clear hb1
        go_wp2_with fail
        go_roundw
        case rel => exact ⟨lo, (lo + hi) / 2, by omega, by omega, rfl, HE2.out, HLO.out, fun j h1 h2 => HM.out ((lo + hi) / 2) j h1 h2 HR.out, HB.out.trans (HB1.out.mono HB.out.size)⟩
        case measure => simp [intOf]; omega
    · obtain rfl : lo = hi := by omega
      go_wp2_with fail
      go_ret
      exact ⟨lo, hhn, rfl, HLO.out, HHI.out, HB.out⟩

/-- sort.Search at the closure (*heliograph/strand.Strand).left$1. -/
def FoundLf (P : Nat → Bool) (n : Nat) (w : World) (e : Ending) (w' : World) : Prop :=
  ∃ k : Nat, k ≤ n ∧ e = .returned (.int .i64 k) ∧ (∀ j, j < k → P j = false) ∧ (∀ j, k ≤ j → j < n → P j = true) ∧ Below w.heap.size w w'
set_option maxHeartbeats 1000000 in
set_option maxRecDepth 100000 in
theorem searchLf (P : Nat → Bool) (n : Nat) (p q : Value) (w : World) (hn : n ≤ 1048576)
    (hf : ∀ i, i < n → ∀ wx, Below w.heap.size w wx → Calls Tryz.prog 136 #[.int .i64 i, p, q] wx fun e w' => e = .returned (.bool (P i)) ∧ Below wx.heap.size wx w')
    (hm : ∀ i j, i ≤ j → j < n → P i = true → P j = true) :
    Calls Tryz.prog 135 #[.int .i64 n, .func (.func 136) #[] #[p, q]] w (FoundLf P n w) := by
  have HF := Lib.hid hf
  have HM := Lib.hid hm
  clear hf hm
  go_enter Tryz.func135, Tryz.ntmps135
  go_wp2_with fail
  go_loopw [5, 6] (fun iv jv wr => ∃ lo hi : Nat, lo ≤ hi ∧ hi ≤ n ∧ iv = .int .i64 lo ∧ jv = .int .i64 hi ∧ (∀ j, j < lo → P j = false) ∧ (∀ j, hi ≤ j → j < n → P j = true) ∧ Below w.heap.size w wr) (fun iv jv _ => (intOf jv).toNat - (intOf iv).toNat)
  case atStart => exact ⟨0, n, Nat.zero_le _, Nat.le_refl _, rfl, rfl, fun j hj => absurd hj (Nat.not_lt_zero _), (fun j h1 h2 => absurd h2 (Nat.not_lt.2 h1)), Below.refl _ _⟩
  case round =>
    obtain ⟨lo, hi, hlh, hhn, rfl, rfl, hlo, hhi, hb⟩ := hrel
    have HLO := Lib.hid hlo
    have HHI := Lib.hid hhi
    have HB := Lib.hid hb
    clear hlo hhi hb
    by_cases hlt : lo < hi
    · have hk1 : lo ≤ (lo + hi) / 2 := by omega
      have hk2 : (lo + hi) / 2 < hi := by omega
      have e2 : Value.int .i64 (((lo : Int) + (hi : Int)) / 2) = .int .i64 (((lo + hi) / 2 : Nat) : Int) := congrArg _ (by omega)
      have e1 : Value.int .i64 (((lo : Int) + (hi : Int)) / 2 + 1) = .int .i64 (((lo + hi) / 2 + 1 : Nat) : Int) := congrArg _ (by omega)
      have hc := HF.out ((lo + hi) / 2) (by omega)
      rw [← e2] at hc
      have HC := Lib.hid hc
      have HE1 := Lib.hid e1
      have HE2 := Lib.hid e2
      obtain ⟨r, hr⟩ : ∃ r, P ((lo + hi) / 2) = r := ⟨_, rfl⟩
      rw [hr] at HC
      have HR := Lib.hid hr
      clear hc e1 e2 hr
      cases r with
      | false =>
        go_wp2_with fail
        refine (HC.out _ HB.out).mono ?_
        rintro e w1 ⟨rfl, hb1⟩
        have HB1 := Lib.hid hb1
        clear hb1
        go_wp2_with fail
        go_roundw
        case rel =>
          refine ⟨(lo + hi) / 2 + 1, hi, by omega, hhn, HE1.out, rfl, fun j hj => ?_, HHI.out, HB.out.trans (HB1.out.mono HB.out.size)⟩
          cases hp : P j with
          | false => rfl
          | true => rw [← HR.out, HM.out j ((lo + hi) / 2) (by omega) (by omega) hp]
        case measure => simp [intOf]; omega
      | true =>
        go_wp2_with fail
        refine (HC.out _ HB.out).mono ?_
        rintro e w1 ⟨rfl, hb1⟩
        have HB1 := Lib.hid hb1
        clear hb1
        go_wp2_with fail
        go_roundw
        case rel => exact ⟨lo, (lo + hi) / 2, by omega, by omega, rfl, HE2.out, HLO.out, fun j h1 h2 => HM.out ((lo + hi) / 2) j h1 h2 HR.out, HB.out.trans (HB1.out.mono HB.out.size)⟩
        case measure => simp [intOf]; omega
    · obtain rfl : lo = hi := by omega
      go_wp2_with fail
      go_ret
      exact ⟨lo, hhn, rfl, HLO.out, HHI.out, HB.out⟩

/-- How many of the batches end at an offset or below it. -/
def upN (l : List Pl.Bt) (off : Int) : Nat := (l.takeWhile fun b => decide (bend b ≤ off)).length
theorem upN_eq {l : List Pl.Bt} {off : Int} {k : Nat} (hk : k ≤ l.length) (h1 : ∀ j b, j < k → l[j]? = some b → bend b ≤ off) (h2 : ∀ b, l[k]? = some b → off < bend b) : k = upN l off := by
  unfold upN
  induction l generalizing k with
  | nil => simpa using hk
  | cons b l ih =>
    rw [List.takeWhile_cons]
    cases k with
    | zero =>
      have := h2 b rfl
      rw [if_neg (by simp; omega)]
      rfl
    | succ k =>
      have := h1 0 b (Nat.succ_pos _) rfl
      rw [if_pos (by simpa using this), List.length_cons, ← ih (k := k) (by simpa using hk) (fun j c hj hc => h1 (j + 1) c (by omega) hc) (fun c hc => h2 c hc)]
/-- Which segment is left last. -/
def leftN (G : List Sg) (off : Int) : Nat := (G.takeWhile fun g => decide (g.first < off)).length
theorem leftN_eq {G : List Sg} {off : Int} {k : Nat} (hk : k ≤ G.length) (h1 : ∀ j g, j < k → G[j]? = some g → g.first < off) (h2 : ∀ g, G[k]? = some g → off ≤ g.first) : k = leftN G off := by
  unfold leftN
  induction G generalizing k with
  | nil => simpa using hk
  | cons b l ih =>
    rw [List.takeWhile_cons]
    cases k with
    | zero =>
      have := h2 b rfl
      rw [if_neg (by simp; omega)]
      rfl
    | succ k =>
      have := h1 0 b (Nat.succ_pos _) rfl
      rw [if_pos (by simpa using this), List.length_cons, ← ih (k := k) (by simpa using hk) (fun j c hj hc => h1 (j + 1) c (by omega) hc) (fun c hc => h2 c hc)]
theorem Chain.bends {x : Int} {l : List Pl.Bt} (h : Chain x l) : ∀ (i j : Nat) (a b : Pl.Bt), i ≤ j → l[i]? = some a → l[j]? = some b → bend a ≤ bend b := by
  induction l generalizing x with
  | nil => intro i j a b _ ha; simp at ha
  | cons c l ih =>
    intro i j a b hij ha hb
    obtain ⟨h1, h2, h3⟩ := h
    cases i with
    | zero =>
      obtain rfl := Option.some.inj ha
      cases j with
      | zero => rw [Option.some.inj hb]; exact Int.le_refl _
      | succ j =>
        have hb' : l[j]? = some b := hb
        have hbm := List.mem_of_getElem? hb'
        have hch := h3
        have key : ∀ (y : Int) (m : List Pl.Bt), Chain y m → ∀ d ∈ m, y ≤ bend d := by
          intro y m
          induction m generalizing y with
          | nil => intro _ d hd; cases hd
          | cons e m ihm =>
            intro hm d hd
            obtain ⟨m1, m2, m3⟩ := hm
            have := good_bend m1
            rcases List.mem_cons.1 hd with rfl | hd
            · omega
            · have := ihm _ m3 d hd; omega
        exact key _ _ hch b hbm
    | succ i =>
      cases j with
      | zero => omega
      | succ j => exact ih h3 i j a b (by omega) ha hb

set_option maxHeartbeats 1000000 in
set_option maxRecDepth 100000 in
theorem upto1 {A : Nat → Prop} (b2 b3 : Nat) (f y off : Int) (lv : Value) (L : List (Pl.Bt × Value)) (w : World) (hb2 : Blk w b2 #[.int .i64 f, .int .i64 y, lv] 119) (hb3 : Blk w b3 #[.int .i64 off] 3) (hl : BtIn A w lv L) {j : Nat} {p : Pl.Bt × Value} (hj : L[j]? = some p) (hg : Pl.goodB p.1 = true) :
    Calls Tryz.prog 137 #[.int .i64 j, .pointer (some ⟨b2, 0, none⟩), .pointer (some ⟨b3, 0, none⟩)] w fun e w' => e = .returned (.bool (decide (off < bend p.1))) ∧ Below w.heap.size w w' := by
  have HE := Lib.hid fun wx => end_any p hg wx
  have c2 : w.cell? ⟨b2, 2, none⟩ = some lv := hb2.cell rfl
  have c3 : w.cell? ⟨b3, 0, none⟩ = some (.int .i64 off) := hb3.cell rfl
  obtain ⟨⟨base, count, prod, seq, time, recs⟩, rv⟩ := p
  obtain ⟨b, o, cap, rfl, -, hb, d0, d1, d2, d3, d4, d5, -⟩ := hl.get hj
  have hjl := (List.getElem?_eq_some_iff.1 hj).1
  obtain ⟨N, hN⟩ : ∃ N, L.length = N := ⟨_, rfl⟩
  rw [hN] at c2 hjl
  have i0 : (0 : Int) ≤ (j : Int) := by omega
  have i1 : (j : Int) < (N : Int) := by omega
  obtain ⟨z, hz⟩ : ∃ z, bend ⟨base, count, prod, seq, time, recs⟩ = z := ⟨_, rfl⟩
  simp only at HE
  rw [hz] at HE
  show Calls _ _ _ _ fun e w' => e = .returned (.bool (decide (off < bend ⟨base, count, prod, seq, time, recs⟩))) ∧ _
  rw [hz]
  have k2 : ∀ d os, _ := cell_regrown c2
  have k3 : ∀ d os, _ := cell_regrown c3
  have e0 : ∀ d os, _ := cell_regrown d0
  have e1 : ∀ d os, _ := cell_regrown d1
  have e2 : ∀ d os, _ := cell_regrown d2
  have e3 : ∀ d os, _ := cell_regrown d3
  have e4 : ∀ d os, _ := cell_regrown d4
  have e5 : ∀ d os, _ := cell_regrown d5
  have HEE := Lib.hid fun d os => Calls.regrown_of (HE.out (Go.Sort.grow (redrawn w d) os))
  clear hb2 hb3 hl hj hg hz hN HE
  go_enter Tryz.func137, Tryz.ntmps137
  go_wp2_with fail
  refine wp_region_quiet_below (by kernel_rfl) (by kernel_rfl) ?_
  repeat (go_big_quiet_step ((go_at_call 117; with_reducible exact HEE.out _ _)))
  refine wpQuiet_nil ?_
  intro _ hw'
  obtain ⟨⟨dq, osq⟩, hw''⟩ := hw'
  subst hw''
  go_wp2_with fail
  go_ret
  exact ⟨rfl, below_regrown w dq osq⟩
end Go.Proofs.YtdaoeplblkfapaaGreatDoor

/- THE CONTRACTS OF strand's upto and left. -/
namespace Go.Proofs.YtdaoeplblkfapaaGreatDoor
open Go.RowKit

set_option maxHeartbeats 400000 in
set_option maxRecDepth 100000 in
theorem upto_any {A : Nat → Prop} (f y off : Int) (lv : Value) (L : List (Pl.Bt × Value)) (w : World) (hl : BtIn A w lv L) (hc : Chain f (L.map (·.1))) (hL : L.length ≤ 1048576) :
    Calls Tryz.prog 96 #[.agg #[.int .i64 f, .int .i64 y, lv], .int .i64 off] w fun e w' => e = .returned (.int .i64 (upN (L.map (·.1)) off : Nat)) ∧ Below w.heap.size w w' := by
  obtain ⟨a, cap, rfl⟩ := hl.form
  obtain ⟨N, hN⟩ : ∃ N, L.length = N := ⟨_, rfl⟩
  rw [hN] at hl ⊢
  obtain ⟨W0, hW0⟩ : ∃ W0, w.alloc (.cells #[.int .i64 f, .int .i64 y, .slice a N cap] 119) = W0 := ⟨_, rfl⟩
  have hw0 : Below w.heap.size w W0 := by rw [← hW0]; exact (Below.refl _ _).alloc (Nat.le_refl _) _
  have hsz : W0.heap.size = w.heap.size + 1 := by rw [← hW0]; simp
  have hb2 : Blk W0 w.heap.size #[.int .i64 f, .int .i64 y, .slice a N cap] 119 := by rw [← hW0]; exact Blk.new _ _ _
  obtain ⟨W1, hW1⟩ : ∃ W1, W0.alloc (.cells #[.int .i64 off] 3) = W1 := ⟨_, rfl⟩
  have hw1 : Below w.heap.size w W1 := by rw [← hW1]; exact hw0.alloc (by omega) _
  have hb2 : Blk W1 w.heap.size #[.int .i64 f, .int .i64 y, .slice a N cap] 119 := by rw [← hW1]; exact hb2.alloc _
  have hb3 : Blk W1 W0.heap.size #[.int .i64 off] 3 := by rw [← hW1]; exact Blk.new _ _ _
  have hs := searchUp (fun i => match L[i]? with | some p => decide (off < bend p.1) | none => true) N (.pointer (some ⟨w.heap.size, 0, none⟩)) (.pointer (some ⟨W0.heap.size, 0, none⟩)) W1 (by omega)
    (fun i hi wx hbx => by
      obtain ⟨p, hp⟩ : ∃ p, L[i]? = some p := ⟨_, List.getElem?_eq_getElem (by omega)⟩
      simp only [hp]
      exact upto1 _ _ f y off _ L wx (hb2.below hbx) (hb3.below hbx) ((hl.below hw1).below hbx) hp (hc.good _ (List.mem_map.2 ⟨p, List.mem_of_getElem? hp, rfl⟩)))
    (fun i j hij hj hi => by
      obtain ⟨p, hp⟩ : ∃ p, L[i]? = some p := ⟨_, List.getElem?_eq_getElem (by omega)⟩
      obtain ⟨q, hq⟩ : ∃ q, L[j]? = some q := ⟨_, List.getElem?_eq_getElem (by omega)⟩
      simp only [hp, decide_eq_true_eq] at hi
      simp only [hq, decide_eq_true_eq]
      have := hc.bends i j p.1 q.1 hij (by rw [List.getElem?_map, hp]; rfl) (by rw [List.getElem?_map, hq]; rfl)
      omega)
  have HS := Lib.hid hs
  have HW1 := Lib.hid hw1
  have c2 : W1.cell? ⟨w.heap.size, 2, none⟩ = some (.slice a N cap) := hb2.cell rfl
  have hlt : w.heap.size < W1.heap.size := hb2.lt
  have HN := Lib.hid hN
  clear hl hc hw0 hw1 hb2 hb3 hsz hs hN
  go_enter Tryz.func96, Tryz.ntmps96
  go_wp2_with fail
  ((with_reducible refine HS.out.mono ?_); rintro e w2 ⟨k, hk, rfl, h1, h2, hb⟩)
  have HB := Lib.hid hb
  have hkk : k = upN (L.map (·.1)) off := by
    refine upN_eq (by rw [List.length_map, HN.out]; exact hk) (fun j b hj hb => ?_) (fun b hb => ?_)
    · rw [List.getElem?_map] at hb
      obtain ⟨p, hp, rfl⟩ := Option.map_eq_some_iff.1 hb
      have := h1 j hj
      simp only [hp, decide_eq_false_iff_not] at this
      omega
    · rw [List.getElem?_map] at hb
      obtain ⟨p, hp, rfl⟩ := Option.map_eq_some_iff.1 hb
      have hkl := (List.getElem?_eq_some_iff.1 hp).1
      have := h2 k (Nat.le_refl _) (by rw [← HN.out]; exact hkl)
      simp only [hp, decide_eq_true_eq] at this
      exact this
  have HKK := Lib.hid hkk
  clear h1 h2 hb hkk
  go_wp2_with fail
  go_ret
  exact ⟨by rw [← HKK.out]; rfl, HW1.out.trans (HB.out.mono HW1.out.size)⟩
end Go.Proofs.YtdaoeplblkfapaaGreatDoor

/- strings.Builder at this dump: copyCheck, WriteString. -/
namespace Go.Proofs.YtdaoeplblkfapaaGreatDoor
open Go.RowKit

theorem sizeBu : (Tryz.prog.info? 157).map (·.size) = some 2 := by kernel_rfl
theorem liesBu : liesAt Tryz.prog Tryz.prog.depth 157 (2 / Tryz.prog.cellsOf 157) 0 157 1 = true := by kernel_rfl
theorem infoU8' : (Tryz.prog.info? 5).map (fun i => (i.zero, i.size, i.bytes)) = some (some (.int .u8 0), 1, 1) := by kernel_rfl
abbrev Bu (B b : Nat) (p : Value) (bs : List Value) (w : World) : Prop := Lib.BuilderAt 157 5 B b p bs w
abbrev IsBu (B b : Nat) (bs : List Value) (w : World) : Prop := Lib.IsBuilder 157 5 B b bs w

set_option maxHeartbeats 1000000 in
set_option maxRecDepth 100000 in
theorem check_used (b : Nat) (w : World) (h0 : w.cell? ⟨b, 0, none⟩ = some (.pointer (some ⟨b, 0, none⟩))) :
    Calls Tryz.prog 162 #[.pointer (some ⟨b, 0, none⟩)] w fun e w' => e = .returned (.tuple #[]) ∧ w = w' := by
  obtain ⟨j, hj, _⟩ := Option.map_eq_some_iff.1 sizeBu
  have hne := Lib.run_neq_ptr_same (P := Tryz.prog) w ⟨b, 0, none⟩ Tryz.underlying155 hj
  go_enter Tryz.func162, Tryz.ntmps162
  go_wp2_with fail
  go_end0
  exact ⟨rfl, rfl⟩
set_option maxHeartbeats 1000000 in
set_option maxRecDepth 100000 in
theorem check_fresh (b : Nat) (w : World) (h0 : w.cell? ⟨b, 0, none⟩ = some (.pointer none)) (hsh : w.shape? b = some (157, 2)) (hfz : w.frozen? ⟨b, 0, none⟩ = false) :
    Calls Tryz.prog 162 #[.pointer (some ⟨b, 0, none⟩)] w fun e w' => e = .returned (.tuple #[]) ∧ w' = w.setCell ⟨b, 0, none⟩ (.pointer (some ⟨b, 0, none⟩)) := by
  obtain ⟨j, hj, hjs⟩ := Option.map_eq_some_iff.1 sizeBu
  go_enter Tryz.func162, Tryz.ntmps162
  go_wp2
  rw [Lib.run_to_unsafe w ⟨b, 0, none⟩ Tryz.underlying155 Tryz.underlying211 hj (by rw [hjs]; decide) hsh (Nat.zero_lt_succ 1)]
  simp only [Result.andThen]
  rw [Oper.upon_value]
  go_wp2
  rw [run_callFunc_extern Tryz.func193 (by kernel_rfl) (by kernel_rfl) (by kernel_rfl) (e := Extern.AbiNoEscape.same) (by kernel_rfl)]
  rw [Lib.run_noEscape]
  simp only [Result.andThen]
  rw [Oper.upon_value]
  go_wp2
  rw [Lib.run_from_unsafe w ⟨b, 0, none⟩ Tryz.underlying211 Tryz.underlying155 hj hsh liesBu]
  simp only [Result.andThen]
  rw [Oper.upon_value]
  go_wp2
  go_end0
  exact ⟨rfl, rfl⟩
theorem check_any (B b : Nat) (bs : List Value) (w : World) (h : IsBu B b bs w) :
    Calls Tryz.prog 162 #[.pointer (some ⟨b, 0, none⟩)] w fun e w' => e = .returned (.tuple #[]) ∧ (Bu B b (.pointer (some ⟨b, 0, none⟩)) bs w' ∧ Below B w w') := by
  rcases h with h | h
  · refine (check_fresh b w h.cell0 h.shape h.frozen0).mono ?_
    rintro e w' ⟨rfl, rfl⟩
    exact ⟨rfl, h.used _, (Below.refl B w).setCell (p := ⟨b, 0, none⟩) h.1 _⟩
  · refine (check_used b w h.cell0).mono ?_
    rintro e w' ⟨rfl, rfl⟩
    exact ⟨rfl, h, Below.refl B _⟩
set_option maxHeartbeats 1000000 in
set_option maxRecDepth 100000 in
theorem write_any (B b : Nat) (bs : List Value) (s : ByteArray) (w : World) (h : IsBu B b bs w) (hlen : bs.length + s.size ≤ 140737488355328) (hBw : B ≤ w.heap.size) :
    Calls Tryz.prog 124 #[.pointer (some ⟨b, 0, none⟩), .string s] w fun e w' => (∃ v, e = .returned v) ∧ (Bu B b (.pointer (some ⟨b, 0, none⟩)) (bs ++ Lib.strCells s) w' ∧ Below B w w') := by
  obtain ⟨i0, hi, hz0, hz1, hz2⟩ := info_parts infoU8'
  have HC := Lib.hid (check_any B b bs w h)
  clear h
  go_enter Tryz.func124, Tryz.ntmps124
  go_wp2_with fail
  refine HC.out.mono ?_
  rintro e w1 ⟨rfl, h1, hb1⟩
  obtain ⟨hB, v, hbk, hown, hne⟩ := h1
  have c0 : w1.cell? ⟨b, 0, none⟩ = some (.pointer (some ⟨b, 0, none⟩)) := by rw [Lib.cell_of_heap hbk]; rfl
  have c1 : w1.cell? ⟨b, 1, none⟩ = some v := by rw [Lib.cell_of_heap hbk]; rfl
  go_wp2_with (at_builtin; refine Lib.wpList_append_own_string _ rfl _ _ 90 9 rfl B 5 i0 Tryz.underlying90 Tryz.underlying9 hi hz0 hz1 hz2 _ _ _ rfl hown s rfl ?c3 ?c4 ?c5 ?_)
  case c3 => unfold maxLen; omega
  case c4 => omega
  case c5 => have := hb1.size; omega
  intro v' w2 hown' hgrow _
  have hlt : b < w1.heap.size := by
    rcases Nat.lt_or_ge b w1.heap.size with h' | h'
    · exact h'
    · simp [Array.getElem?_eq_none h'] at hbk
  have hb2 : w2.heap[b]? = some (.cells #[.pointer (some ⟨b, 0, none⟩), v] 157 (0, 0)) := by
    rw [hgrow.block b hlt (fun e => hne e.symm)]
    exact hbk
  have d0 : w2.cell? ⟨b, 0, none⟩ = some (.pointer (some ⟨b, 0, none⟩)) := by rw [Lib.cell_of_heap hb2]; rfl
  have d1 : w2.cell? ⟨b, 1, none⟩ = some v := by rw [Lib.cell_of_heap hb2]; rfl
  have f1 : w2.frozen? ⟨b, 1, none⟩ = false := Lib.frozen_of_heap hb2 1
  obtain ⟨ao, n', cap, rfl⟩ : ∃ ao n' cap, v' = .slice ao n' cap := by
    rcases hown'.2 with ⟨hv, _⟩ | ⟨g, cap, cur, hv, _⟩
    · exact ⟨_, _, _, hv⟩
    · exact ⟨_, _, _, hv⟩
  go_wp2
  go_ret2
  refine ⟨⟨_, rfl⟩, ?_, ?_⟩
  · exact Lib.BuilderAt.put (T := 157) (e := 5) hB hb2 (bs' := bs ++ Lib.strCells s) (by simpa [Lib.strCells_length] using hown') (by decide)
  · exact (hb1.grown hgrow (by have := hb1.size; omega) (fun k hk => (hown.lt k hk).1)).setCell (p := ⟨b, 1, none⟩) hB _
theorem Bu.below {B b : Nat} {p : Value} {bs : List Value} {w w' : World} (h : Bu B b p bs w) (hb : Below w.heap.size w w') : Bu B b p bs w' := by
  obtain ⟨h1, v, h2, h3, h4⟩ := h
  exact ⟨h1, v, (hb.block b (lt_of_block h2)).trans h2, h3.kept (row := none) ⟨hb.os, hb.tape, hb.output, hb.size, fun k hk _ => hb.block k hk⟩ (by cases v.ownBlock <;> simp), h4⟩
theorem IsBu.below {B b : Nat} {bs : List Value} {w w' : World} (h : IsBu B b bs w) (hb : Below w.heap.size w w') : IsBu B b bs w' := h.imp (fun h => Bu.below h hb) (fun h => Bu.below h hb)
end Go.Proofs.YtdaoeplblkfapaaGreatDoor
