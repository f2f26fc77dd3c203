/- A batch that came in: its slice is nil, or points somewhere; a place that came in; a row of numbers that came in. -/
import Derived.Test.YthhlegfmikidpaaDoorOpen3
namespace Go.Proofs.YthhlegfmikidpaaDoor
open Go.ChangeShapes Go.WideShapes Go.ChangeAt Go.RowKit

set_option maxRecDepth 100000 in
theorem batch_shape {H : Type} {enc : TypeId × Value → H} {W : World} {c0 c1 c2 c3 c4 sv : Value} {d : DataW H} {p : List MemPlace} (h : DataW.Trod enc Tryd.prog W 0 (fun _ => true) true 24 (.agg #[c0, c1, c2, c3, c4, sv]) d p) :
    sv = .slice none 0 0 ∨ ∃ ad m cap, sv = .slice (some ad) m cap := by
  obtain ⟨fuel, hf⟩ := h
  obtain ⟨ys, n', -, -, -, hyl, hf⟩ := DataW.trod_struct Tryd.underlying24 hf
  have f5 := hf 5 _ rfl
  have l5 : ys[5]? = some (ys[5]'(by rw [hyl]; decide)) := List.getElem?_eq_getElem _
  have g5 : DataW.trod enc Tryd.prog W 0 (fun _ => true) true n' 22 [sv] = ys[5]? := f5
  rcases Deep.open_slice Tryd.underlying22 (g5.trans l5) with ⟨hcs, _⟩ | ⟨a', len', cap', m, n, D, PLS, hcs, _⟩
  · simp at hcs; exact Or.inl hcs
  · simp at hcs; exact Or.inr ⟨_, _, _, hcs⟩

theorem cellsPlace : Tryd.prog.cellsOf 36 = 4 := by kernel_rfl
theorem array4 {α : Type} {cs : Array α} (h : cs.size = 4) : ∃ c0 c1 c2 c3, cs = #[c0, c1, c2, c3] := by
  obtain ⟨l⟩ := cs
  match l, h with
  | [c0, c1, c2, c3], _ => exact ⟨c0, c1, c2, c3, rfl⟩
set_option maxRecDepth 100000 in
theorem open_place {H : Type} {enc : TypeId × Value → H} {W : World} {base : Nat} {v : Value} {d : DataW H} {p : List MemPlace} (hv : Value.okWide Tryd.prog W .any base 36 v) (h : DataW.Trod enc Tryd.prog W 0 (fun _ => true) true 36 v d p) :
    ∃ z0 z1 z2 z3 : Int, v = .agg #[.int .i64 z0, .int .i64 z1, .int .i64 z2, .int .i64 z3] ∧ Pl.I64 z0 := by
  obtain ⟨cs, rfl, hsz⟩ := okWide_struct Tryd.underlying36 hv
  obtain ⟨c0, c1, c2, c3, rfl⟩ := array4 (hsz.trans cellsPlace)
  obtain ⟨fuel, hf⟩ := h
  obtain ⟨ys, n', -, -, -, hyl, hf⟩ := DataW.trod_struct Tryd.underlying36 hf
  have f0 := hf 0 _ rfl
  have f1 := hf 1 _ rfl
  have f2 := hf 2 _ rfl
  have f3 := hf 3 _ rfl
  have l0 : ys[0]? = some (ys[0]'(by rw [hyl]; decide)) := List.getElem?_eq_getElem _
  have l1 : ys[1]? = some (ys[1]'(by rw [hyl]; decide)) := List.getElem?_eq_getElem _
  have l2 : ys[2]? = some (ys[2]'(by rw [hyl]; decide)) := List.getElem?_eq_getElem _
  have l3 : ys[3]? = some (ys[3]'(by rw [hyl]; decide)) := List.getElem?_eq_getElem _
  have g0 : DataW.trod enc Tryd.prog W 0 (fun _ => true) true n' 3 [c0] = ys[0]? := f0
  have g1 : DataW.trod enc Tryd.prog W 0 (fun _ => true) true n' 3 [c1] = ys[1]? := f1
  have g2 : DataW.trod enc Tryd.prog W 0 (fun _ => true) true n' 3 [c2] = ys[2]? := f2
  have g3 : DataW.trod enc Tryd.prog W 0 (fun _ => true) true n' 3 [c3] = ys[3]? := f3
  have m1 : IntKind.i64.min = -9223372036854775808 := rfl
  have m2 : IntKind.i64.max = 9223372036854775807 := rfl
  obtain ⟨z0, e0, -, w0⟩ := DataW.trod_int Tryd.underlying3 (g0.trans l0)
  obtain ⟨z1, e1, -, -⟩ := DataW.trod_int Tryd.underlying3 (g1.trans l1)
  obtain ⟨z2, e2, -, -⟩ := DataW.trod_int Tryd.underlying3 (g2.trans l2)
  obtain ⟨z3, e3, -, -⟩ := DataW.trod_int Tryd.underlying3 (g3.trans l3)
  simp at e0 e1 e2 e3
  subst e0 e1 e2 e3
  simp only [Lit.wf, Bool.and_eq_true, decide_eq_true_eq, m1, m2] at w0
  exact ⟨z0, z1, z2, z3, rfl, w0⟩
end Go.Proofs.YthhlegfmikidpaaDoor
