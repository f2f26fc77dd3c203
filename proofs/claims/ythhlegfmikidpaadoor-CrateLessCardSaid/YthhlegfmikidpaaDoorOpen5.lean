/- An argument that is a slice of numbers, opened. -/
import Derived.Test.YthhlegfmikidpaaDoorOpen4
import Derived.Test.YthhlegfmikidpaaDoorLessWalk
import Derived.ChangeSlices
namespace Go.Proofs.YthhlegfmikidpaaDoor
open Go.ChangeShapes Go.WideShapes Go.ChangeAt Go.RowKit

/-- An argument that is a slice of numbers, opened. -/
theorem open_nums {H : Type} {enc : TypeId × Value → H} {W : World} {fuel : Nat} {a0 : Option Addr} {len cap : Nat} {x : DataW H × List MemPlace} (h : DataW.trod enc Tryd.prog W 0 (fun _ => true) true fuel 42 [.slice a0 len cap] = some x) :
    ∃ zs : List Int, zs.length = len ∧ len ≤ maxLen ∧ (∀ z ∈ zs, Pl.I64 z) ∧ Nums a0 zs W := by
  rcases open_ints Tryd.underlying42 Tryd.underlying3 cellsInt h with ⟨hcs, -⟩ | ⟨a, len', cap', zs, hcs, -, hl, hm, hz, -, hcell, hwz⟩
  · simp at hcs
    obtain ⟨rfl, rfl, rfl⟩ := hcs
    exact ⟨[], rfl, Nat.zero_le _, by simp, Or.inl rfl⟩
  · simp at hcs
    obtain ⟨rfl, rfl, rfl⟩ := hcs
    have hzl : zs.length = cap := by simpa using hz
    have hi : ∀ z ∈ zs.take len, Pl.I64 z := by
      intro z hzm
      have h1 := hwz z (List.mem_of_mem_take hzm)
      have e1 : IntKind.i64.min = -9223372036854775808 := rfl
      have e2 : IntKind.i64.max = 9223372036854775807 := rfl
      simp only [Lit.wf, Bool.and_eq_true, decide_eq_true_eq, e1, e2] at h1
      exact h1
    have htl : (zs.take len).length = len := by rw [List.length_take]; omega
    refine ⟨zs.take len, htl, by omega, hi, ?_⟩
    rcases Nat.eq_zero_or_pos len with h0 | h0
    · left
      rw [h0]; rfl
    · obtain ⟨b, off, spot⟩ := a
      have hspot : spot = none := by
        have := World.cell?_spot (hcell 0 (by omega))
        simpa [Addr.add] using this
      subst hspot
      refine Or.inr ⟨b, off, rfl, ?_, fun i hil => ?_⟩
      · have := block_lt_of_cell (hcell 0 (by omega))
        rw [add_plain] at this
        exact this
      · have := hcell i (by omega)
        rw [add_plain] at this
        rw [this, show (zs.take len).getD i 0 = zs.getD i 0 by simp [show i < len by omega]]
end Go.Proofs.YthhlegfmikidpaaDoor
