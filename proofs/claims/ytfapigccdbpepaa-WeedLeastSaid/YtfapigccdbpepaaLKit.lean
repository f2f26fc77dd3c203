/- WHAT THE LAWS' WALKS SHARE: cells behind calls that change nothing that lay there; what Old answers, plain. -/
import Derived.Test.YtfapigccdbpepaaAwk8
import Derived.Deep.RegionHeld3
namespace Go.Proofs.Ytfapigccdbpepaa
open Go.RowKit

theorem dcell {V w3 : World} {b i : Nat} {v : Value} (hb : Below V.heap.size V.drew w3) (h : V.cell? ⟨b, i, none⟩ = some v) : w3.cell? ⟨b, i, none⟩ = some v := by
  rw [← h]
  exact Below.cell (p := ⟨b, i, none⟩) hb (block_lt_of_cell h)
theorem drew_refl (V : World) : Below V.heap.size V.drew V.drew := Below.refl _ _
theorem of_drew {V w3 : World} (h : Below V.heap.size V.drew w3) : Below V.heap.size V w3 := ((Below.refl _ _).drew).trans h
theorem drew_trans {V wx w' : World} (h : Below V.heap.size V.drew wx) (k : Below wx.heap.size wx w') : Below V.heap.size V.drew w' := h.trans (k.mono h.size)
theorem Wd.fold_len (l : List Pl.Bt) (u : Int) : (Wd.fold l u).length ≤ (Wd.rcs l).length :=
  Nat.le_trans (List.length_filter_le _ _) (Nat.le_trans (Wd.lasts_len _) (List.length_filter_le _ _))
/-- There is such a number. -/
theorem safe_is (ends : List Int) (high : Int) : ∀ n, n ≤ ends.length → ∃ k, k ≤ n ∧ (∀ j e, j < k → ends[j]? = some e → e ≤ high) ∧ (k = n ∨ ∃ e, ends[k]? = some e ∧ high < e)
  | 0, _ => ⟨0, Nat.le_refl _, fun j e h => absurd h (Nat.not_lt_zero _), .inl rfl⟩
  | n + 1, hn => by
    obtain ⟨k, h1, h2, h3⟩ := safe_is ends high n (by omega)
    rcases h3 with h3 | h3
    · subst h3
      obtain ⟨e, he⟩ : ∃ e, ends[k]? = some e := ⟨_, List.getElem?_eq_getElem (by omega)⟩
      by_cases hle : e ≤ high
      · refine ⟨k + 1, Nat.le_refl _, fun j x hj hx => ?_, .inl rfl⟩
        by_cases hjk : j = k
        · subst hjk
          rw [he] at hx
          cases hx
          exact hle
        · exact h2 j x (by omega) hx
      · exact ⟨k, by omega, h2, .inr ⟨e, he, by omega⟩⟩
    · exact ⟨k, by omega, h2, .inr h3⟩
theorem old_is (ends bytes : List Int) (high keep : Int) : ∃ k, OldSays ends bytes high keep k := by
  by_cases hb : OldBad ends bytes
  · exact ⟨0, fun _ => rfl, fun h => absurd hb h⟩
  · obtain ⟨n, hn⟩ := over_is (bytes.map fun b => ((0, b) : P2)) keep
    have hlen : ends.length = bytes.length := Classical.not_not.1 fun h => hb (.inl h)
    have hle : n ≤ ends.length := by
      by_cases h0 : (bytes.map fun b => ((0, b) : P2)) = []
      · rw [hn.1 h0]; exact Nat.zero_le _
      · have := (hn.2.1 h0).1
        rw [List.length_map] at this
        omega
    obtain ⟨k, h1, h2, h3⟩ := safe_is ends high n hle
    exact ⟨k, fun h => absurd h hb, fun _ => ⟨n, hn, h1, h2, h3⟩⟩
end Go.Proofs.Ytfapigccdbpepaa
