/- FEW BATCHES: what the laws ask of their arguments. -/
import Derived.Test.YtfapigccdbpepaaWFold
import Derived.Test.YtfapigccdbpepaaSRep
namespace Go.Proofs.Ytfapigccdbpepaa
open Go.RowKit

/-- A record as the laws ask of it. -/
def FewR (x : Pl.Rc) : Prop := x.key.length ≤ 1000
/-- Few batches of few records. -/
def Few (L : List Pl.Bt) : Prop := L.length ≤ 64 ∧ ∀ b ∈ L, b.recs.length ≤ 64 ∧ ∀ x ∈ b.recs, FewR x
theorem Few.len {L : List Pl.Bt} (h : Few L) : L.length ≤ 1099511627776 := Nat.le_trans h.1 (by decide)
theorem Few.recs {M : List (Pl.Bt × Value)} (h : Few (M.map (·.1))) : ∀ q ∈ M, q.1.recs.length ≤ 1099511627776 := fun q hq => Nat.le_trans (h.2 q.1 (List.mem_map.2 ⟨q, hq, rfl⟩)).1 (by decide)
theorem Few.rcs {L : List Pl.Bt} (h : Few L) : (Wd.rcs L).length ≤ 4096 := by
  have := Wd.rcs_len L 64 fun b hb => (h.2 b hb).1
  have h1 := h.1
  omega
theorem Few.thin {L : List Pl.Bt} (h : Few L) (high now hor : Int) : Few (Wd.thin L high now hor) := by
  refine ⟨by unfold Wd.thin; rw [List.length_map]; exact h.1, fun c hc => ?_⟩
  obtain ⟨b, hb, rfl⟩ := List.mem_map.1 hc
  obtain ⟨h1, h3⟩ := h.2 b hb
  exact ⟨Nat.le_trans (List.length_filter_le _ _) h1, fun x hx => h3 x (List.mem_filter.1 hx).1⟩
theorem Few.sub {L : List Pl.Bt} (h : Few L) : ∀ x ∈ Wd.rcs L, FewR x := fun x hx => by
  obtain ⟨b, hb, hx⟩ := Wd.mem_rcs.1 hx
  exact (h.2 b hb).2 x hx

end Go.Proofs.Ytfapigccdbpepaa
