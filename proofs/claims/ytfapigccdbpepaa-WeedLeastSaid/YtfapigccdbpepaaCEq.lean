/- When batches are the same; records compared. -/
import Derived.Test.YtfapigccdbpepaaCBlk
import Derived.Laws.StructEq
import Derived.WalkLawsBesides
namespace Go.Proofs.Ytfapigccdbpepaa
open Go.RowKit

def Pl.eqR (x y : Pl.Rc) : Bool := x.off == y.off && x.key == y.key && x.val == y.val && x.gone == y.gone
def Pl.eqRs : List Pl.Rc → List Pl.Rc → Bool
  | [], [] => true
  | x :: l, y :: m => Pl.eqR x y && Pl.eqRs l m
  | _, _ => false
def Pl.sameB (a b : Pl.Bt) : Bool := a.base == b.base && a.count == b.count && a.prod == b.prod && a.seq == b.seq && a.time == b.time && (a.recs.length == b.recs.length) && Pl.eqRs a.recs b.recs
theorem Pl.eqR_iff {x y : Pl.Rc} : Pl.eqR x y = true ↔ x = y := by
  obtain ⟨a, b, c, d⟩ := x
  obtain ⟨a', b', c', d'⟩ := y
  simp only [Pl.eqR, Bool.and_eq_true, beq_iff_eq, Pl.Rc.mk.injEq, and_assoc]
theorem Pl.eqRs_iff : ∀ {l m : List Pl.Rc}, Pl.eqRs l m = true ↔ l = m
  | [], [] => by simp [Pl.eqRs]
  | [], _ :: _ => by simp [Pl.eqRs]
  | _ :: _, [] => by simp [Pl.eqRs]
  | x :: l, y :: m => by simp only [Pl.eqRs, Bool.and_eq_true, Pl.eqR_iff, Pl.eqRs_iff, List.cons.injEq]
theorem Pl.sameB_iff {a b : Pl.Bt} : Pl.sameB a b = true ↔ a = b := by
  obtain ⟨a1, a2, a3, a4, a5, a6⟩ := a
  obtain ⟨b1, b2, b3, b4, b5, b6⟩ := b
  simp only [Pl.sameB, Bool.and_eq_true, beq_iff_eq, Pl.eqRs_iff, Pl.Bt.mk.injEq]
  constructor
  · rintro ⟨⟨⟨⟨⟨⟨h1, h2⟩, h3⟩, h4⟩, h5⟩, -⟩, h6⟩; exact ⟨h1, h2, h3, h4, h5, h6⟩
  · rintro ⟨h1, h2, h3, h4, h5, h6⟩; exact ⟨⟨⟨⟨⟨⟨h1, h2⟩, h3⟩, h4⟩, h5⟩, by rw [h6]⟩, h6⟩

theorem rec_guard : Try.prog.eqGuardType Try.prog.depth 44 = false := by kernel_rfl
theorem rec_held : Try.prog.stoodInHeld 44 = false := by kernel_rfl
theorem rec_under : Try.prog.underlying 44 = some (.struct (Try.prog.fieldsOf 44)) := by kernel_rfl
set_option maxRecDepth 100000 in
theorem rec_neq (o o' : Int) (K K' V V' : ByteArray) (g g' : Bool) (wx : World) :
    (binOp .neq 44 (.agg #[.int .i64 o, .string K, .string V, .bool g]) (.agg #[.int .i64 o', .string K', .string V', .bool g'])).run Try.prog wx = .ok (.bool (!(o == o' && (K.toList == K'.toList && (V.toList == V'.toList && g == g'))))) wx := by
  rw [run_neq_struct, show (10000 : Nat) = 9999 + 1 from rfl, run_equalIn_struct wx 9999 _ _ _ rec_under rec_held]
  go_simp
  by_cases h1 : o = o' <;> by_cases h2 : K.toList = K'.toList <;> by_cases h3 : V.toList = V'.toList <;> by_cases h4 : g = g' <;> simp [h1, h2, h3, h4]
theorem rec_differ {x y : Pl.Rc} (h : (!x.off == y.off) = true ∨ (!x.key == y.key) = true ∨ (!x.val == y.val) = true ∨ (!x.gone == y.gone) = true) : Pl.eqR x y = false := by
  unfold Pl.eqR
  simp only [Bool.not_eq_true'] at h
  rcases h with h | h | h | h <;> simp [h]
theorem rec_agree {x y : Pl.Rc} (h : (!x.off == y.off) = false ∧ (!x.key == y.key) = false ∧ (!x.val == y.val) = false ∧ (!x.gone == y.gone) = false) : Pl.eqR x y = true := by
  unfold Pl.eqR
  simp only [Bool.not_eq_false'] at h
  obtain ⟨h1, h2, h3, h4⟩ := h
  rw [h1, h2, h3, h4]
  rfl
end Go.Proofs.Ytfapigccdbpepaa
