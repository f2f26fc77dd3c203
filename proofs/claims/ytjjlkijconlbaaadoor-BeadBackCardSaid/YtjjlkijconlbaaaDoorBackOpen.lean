/- An argument that is a slice of texts, opened. -/
import Derived.Test.YtjjlkijconlbaaaDoorOpen
import Derived.Test.YtjjlkijconlbaaaDoorBackWalk
import Derived.SliceStrings
namespace Go.Proofs.YtjjlkijconlbaaaDoor
open Go.ChangeShapes Go.WideShapes Go.ChangeAt Go.RowKit

theorem open_texts {H : Type} {enc : TypeId × Value → H} {W : World} {fuel : Nat} {a0 : Option Addr} {len cap : Nat} {x : DataW H × List MemPlace} (h : DataW.trod enc Tryd.prog W 0 (fun _ => true) true fuel 40 [.slice a0 len cap] = some x) :
    ∃ ss : List ByteArray, ss.length = len ∧ len ≤ maxLen ∧ (∀ s ∈ ss, s.size ≤ maxLen) ∧ Texts a0 ss W := by
  rcases open_strings Tryd.underlying40 Tryd.underlying9 cellsStr h with ⟨hcs, -⟩ | ⟨a, len', cap', ss, hcs, -, hl, hm, hz, -, hcell, hws⟩
  · simp at hcs
    obtain ⟨rfl, rfl, rfl⟩ := hcs
    exact ⟨[], rfl, Nat.zero_le _, by simp, Or.inl rfl⟩
  · simp at hcs
    obtain ⟨rfl, rfl, rfl⟩ := hcs
    have hzl : ss.length = cap := by simpa using hz
    have htl : (ss.take len).length = len := by rw [List.length_take]; omega
    refine ⟨ss.take len, htl, by omega, fun s hs => hws s (List.mem_of_mem_take hs), ?_⟩
    rcases Nat.eq_zero_or_pos len with h0 | h0
    · left
      rw [h0]; rfl
    · obtain ⟨b, off, spot⟩ := a
      have hspot : spot = none := by
        have := World.cell?_spot (hcell 0 (by omega))
        simpa [Addr.add] using this
      subst hspot
      have add_plain : ∀ j, (⟨b, off, none⟩ : Addr).add j = ⟨b, off + j, none⟩ := fun j => by
        unfold Addr.add
        by_cases hj : j = 0 <;> simp [hj]
      refine Or.inr ⟨b, off, rfl, ?_, fun i hil => ?_⟩
      · have := block_lt_of_cell (hcell 0 (by omega))
        rw [add_plain] at this
        exact this
      · have := hcell i (by omega)
        rw [add_plain] at this
        rw [this, show (ss.take len).getD i ByteArray.empty = ss.getD i ByteArray.empty by simp [show i < len by omega]]
end Go.Proofs.YtjjlkijconlbaaaDoor
