/- PLAIN: sums of sizes; which of them must go. And slices that the call owns. -/
import Derived.Test.YtfapigccdbpepaaSlSet
namespace Go.Proofs.Ytfapigccdbpepaa
open Go.RowKit

theorem Blk.kb2 {a c : Option Nat} {w w' : World} {b : Nat} {cs : Array Value} {T : TypeId} (h : Blk w b cs T) (hk : Kb2 a c w w') (h1 : some b ≠ a) (h2 : some b ≠ c) : Blk w' b cs T := by
  unfold Blk at h ⊢
  rw [hk.block b (lt_of_block h) h1 h2]
  exact h
abbrev P2 := Int × Int
/-- A pair that is a size. -/
def Ok (p : P2) : Prop := 0 ≤ p.1 ∧ p.1 ≤ 1099511627776 ∧ 0 ≤ p.2 ∧ p.2 ≤ 1099511627776
def add2 (p q : P2) : P2 := (p.1 + q.1, p.2 + q.2)
def sub2 (p q : P2) : P2 := (p.1 - q.1, p.2 - q.2)
/-- All of them together. -/
def tot : List P2 → P2
  | [] => (0, 0)
  | p :: l => add2 p (tot l)
theorem tot_append (l m : List P2) : tot (l ++ m) = add2 (tot l) (tot m) := by
  induction l with
  | nil => simp [tot, add2]
  | cons p l ih => simp only [List.cons_append, tot, ih, add2]; simp only [Prod.mk.injEq]; omega
theorem tot_one (p : P2) : tot [p] = p := by simp [tot, add2]
theorem tot_snoc (l : List P2) (p : P2) : tot (l ++ [p]) = add2 (tot l) p := by rw [tot_append, tot_one]
theorem tot_bound (l : List P2) (h : ∀ p ∈ l, Ok p) : 0 ≤ (tot l).1 ∧ (tot l).1 ≤ 1099511627776 * l.length ∧ 0 ≤ (tot l).2 ∧ (tot l).2 ≤ 1099511627776 * l.length := by
  induction l with
  | nil => simp [tot]
  | cons p l ih =>
    obtain ⟨a1, a2, a3, a4⟩ := h p (by simp)
    obtain ⟨b1, b2, b3, b4⟩ := ih (fun q hq => h q (by simp [hq]))
    simp only [tot, add2, List.length_cons]
    omega
/-- The slice's make: its length, its address if there is one. -/
theorem Sl.make {w : World} {v : Value} {gb : Option Nat} {e size n : Nat} {xs : List Value} (h : Sl w v gb e size n xs) : ∃ ao cap, v = .slice ao n cap ∧ n ≤ cap ∧ (0 < n → ∃ g p, ao = some ⟨g, p, none⟩ ∧ gb = some g) := by
  rcases h.2 with ⟨rfl, rfl, rfl⟩ | ⟨g, p, cap, cur, rfl, rfl, _, hn, _⟩
  · exact ⟨none, 0, rfl, Nat.le_refl _, fun h => by omega⟩
  · exact ⟨_, cap, rfl, hn, fun _ => ⟨g, p, rfl, rfl⟩⟩
theorem Sl.setCell {w : World} {v : Value} {gb : Option Nat} {e size n : Nat} {xs : List Value} (h : Sl w v gb e size n xs) (a : Addr) (u : Value) (hne : some a.block ≠ gb) : Sl (w.setCell a u) v gb e size n xs :=
  h.same (fun k hk => Below.heap_setCell _ _ _ _ (by rintro rfl; exact hne hk.symm))
theorem tot_take_succ {L : List P2} {k : Nat} {p : P2} (h : L[k]? = some p) : tot (L.take (k + 1)) = add2 (tot (L.take k)) p := by
  rw [List.take_add_one, h]
  exact tot_snoc _ _
theorem tot_take_le (L : List P2) (k : Nat) (h : ∀ p ∈ L, Ok p) (hl : L.length ≤ 4096) : 0 ≤ (tot (L.take k)).1 ∧ (tot (L.take k)).1 ≤ 4503599627370496 ∧ 0 ≤ (tot (L.take k)).2 ∧ (tot (L.take k)).2 ≤ 4503599627370496 := by
  have := tot_bound (L.take k) (fun p hp => h p (List.mem_of_mem_take hp))
  have hk : (L.take k).length ≤ 4096 := by rw [List.length_take]; omega
  omega
theorem tot_drop_le (L : List P2) (k : Nat) (h : ∀ p ∈ L, Ok p) (hl : L.length ≤ 4096) : 0 ≤ (tot (L.drop k)).1 ∧ (tot (L.drop k)).1 ≤ 4503599627370496 ∧ 0 ≤ (tot (L.drop k)).2 ∧ (tot (L.drop k)).2 ≤ 4503599627370496 := by
  have := tot_bound (L.drop k) (fun p hp => h p (List.mem_of_mem_drop hp))
  have hk : (L.drop k).length ≤ 4096 := by rw [List.length_drop]; omega
  omega
theorem tot_split (L : List P2) (k : Nat) : tot L = add2 (tot (L.take k)) (tot (L.drop k)) := by
  rw [← tot_append, List.take_append_drop]
theorem tot_drop {L : List P2} {k : Nat} {p : P2} (h : L[k]? = some p) : tot (L.drop k) = add2 p (tot (L.drop (k + 1))) := by
  obtain ⟨hk, hp⟩ := List.getElem?_eq_some_iff.1 h
  rw [List.drop_eq_getElem_cons hk, hp]; rfl
/-- What Over answers. -/
def OverSays (L : List P2) (most : Int) (n : Nat) : Prop := (L = [] → n = 0) ∧ (L ≠ [] → n < L.length ∧ ((tot (L.drop n)).2 ≤ most ∨ n + 1 = L.length)) ∧ ∀ j, j < n → most < (tot (L.drop j)).2
/-- What Over answers is one number. -/
theorem over_one {L : List P2} {most : Int} {n m : Nat} (h1 : OverSays L most n) (h2 : OverSays L most m) : n = m := by
  by_cases hL : L = []
  · rw [h1.1 hL, h2.1 hL]
  · obtain ⟨a1, a2⟩ := h1.2.1 hL
    obtain ⟨b1, b2⟩ := h2.2.1 hL
    rcases Nat.lt_trichotomy n m with h | h | h
    · have := h2.2.2 n h
      rcases a2 with a2 | a2
      · omega
      · omega
    · exact h
    · have := h1.2.2 m h
      rcases b2 with b2 | b2
      · omega
      · omega
/-- There is such a number. -/
theorem over_is (L : List P2) (most : Int) : ∃ n, OverSays L most n := by
  by_cases hL : L = []
  · exact ⟨0, fun _ => rfl, fun h => absurd hL h, fun j hj => absurd hj (by omega)⟩
  · have hpos : 0 < L.length := List.length_pos_iff.2 hL
    have key : ∀ d k, k + d + 1 = L.length → (∀ j, j < k → most < (tot (L.drop j)).2) → ∃ n, OverSays L most n := by
      intro d
      induction d with
      | zero => intro k hk hj; exact ⟨k, fun h => absurd h hL, fun _ => ⟨by omega, .inr (by omega)⟩, hj⟩
      | succ d ih =>
        intro k hk hj
        by_cases hle : (tot (L.drop k)).2 ≤ most
        · exact ⟨k, fun h => absurd h hL, fun _ => ⟨by omega, .inl hle⟩, hj⟩
        · refine ih (k + 1) (by omega) (fun j hjk => ?_)
          rcases Nat.lt_or_ge j k with h | h
          · exact hj j h
          · obtain rfl : j = k := by omega
            omega
    exact key (L.length - 1) 0 (by omega) (fun j hj => absurd hj (by omega))
end Go.Proofs.Ytfapigccdbpepaa
