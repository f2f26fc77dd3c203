/- A slice that reads as records. -/
import Derived.Test.YtfapigccdbpepaaCPlain
import Derived.Test.YtfapigccdbpepaaBase
namespace Go.Proofs.Ytfapigccdbpepaa
open Go.RowKit

/-- A slice that reads as these records. -/
def Recs (sv : Value) (ls : List Pl.Rc) (w : World) : Prop :=
  ∃ a cap, sv = .slice a ls.length cap ∧ ∀ j x, ls[j]? = some x → ∃ b off, a = some ⟨b, off, none⟩ ∧ b < w.heap.size ∧
    w.cell? ⟨b, off + j * 4, none⟩ = some (.int .i64 x.off) ∧ w.cell? ⟨b, off + j * 4 + 1, none⟩ = some (.string ⟨x.key.toArray⟩) ∧ w.cell? ⟨b, off + j * 4 + 2, none⟩ = some (.string ⟨x.val.toArray⟩) ∧ w.cell? ⟨b, off + j * 4 + 3, none⟩ = some (.bool x.gone)
theorem Recs.below {v : Value} {ls : List Pl.Rc} {w w' : World} (h : Recs v ls w) (hb : Below w.heap.size w w') : Recs v ls w' := by
  obtain ⟨a, cap, rfl, hc⟩ := h
  refine ⟨a, cap, rfl, fun j l hj => ?_⟩
  obtain ⟨b, off, rfl, hlt, h0, h1, h2, h3⟩ := hc j l hj
  have e : ∀ o, w'.cell? ⟨b, o, none⟩ = w.cell? ⟨b, o, none⟩ := fun o => hb.cell (p := ⟨b, o, none⟩) hlt
  exact ⟨b, off, rfl, Nat.lt_of_lt_of_le hlt hb.size, (e _).trans h0, (e _).trans h1, (e _).trans h2, (e _).trans h3⟩
end Go.Proofs.Ytfapigccdbpepaa
