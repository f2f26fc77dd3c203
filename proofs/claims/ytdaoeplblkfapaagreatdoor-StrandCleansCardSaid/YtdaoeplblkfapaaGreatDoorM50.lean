import Derived.Test.YtdaoeplblkfapaaGreatDoorM27

/- An argument opened: a cleaning. -/
namespace Go.Proofs.YtdaoeplblkfapaaGreatDoor
open Go.ChangeShapes Go.WideShapes Go.ChangeAt Go.RowKit

theorem cellsClean : Tryz.prog.cellsOf 66 = 5 := by kernel_rfl
theorem array5 {α : Type} {cs : Array α} (h : cs.size = 5) : ∃ c0 c1 c2 c3 c4, cs = #[c0, c1, c2, c3, c4] := by
  obtain ⟨l⟩ := cs
  match l, h with
  | [c0, c1, c2, c3, c4], _ => exact ⟨c0, c1, c2, c3, c4, rfl⟩
set_option maxRecDepth 100000 in
theorem open_clean {H : Type} {enc : TypeId × Value → H} {W : World} {base : Nat} {v : Value} {d : DataW H} {p : List MemPlace} (hv : Value.okWide Tryz.prog W .any base 66 v) (h : DataW.Trod enc Tryz.prog W 0 (fun _ => true) true 66 v d p) :
    ∃ (atv dv av : Int) (lv fv : Value) (less fates : List Int), v = .agg #[.int .i64 atv, lv, .int .i64 dv, .int .i64 av, fv] ∧ Ta.Nums W lv less ∧ Ta.Nums W fv fates ∧ (0 < fates.length → ∀ a n c, fv = .slice (some a) n c → a.block < W.heap.size) := by
  obtain ⟨cs, rfl, hsz⟩ := okWide_struct Tryz.underlying66 hv
  obtain ⟨c0, c1, c2, c3, c4, rfl⟩ := array5 (hsz.trans cellsClean)
  obtain ⟨fuel, hf⟩ := h
  obtain ⟨ys, n', -, -, -, hyl, hf⟩ := DataW.trod_struct Tryz.underlying66 hf
  have f0 := hf 0 _ rfl
  have f1 := hf 1 _ rfl
  have f2 := hf 2 _ rfl
  have f3 := hf 3 _ rfl
  have f4 := hf 4 _ rfl
  have l0 : ys[0]? = some (ys[0]'(by rw [hyl]; decide)) := List.getElem?_eq_getElem _
  have l1 : ys[1]? = some (ys[1]'(by rw [hyl]; decide)) := List.getElem?_eq_getElem _
  have l2 : ys[2]? = some (ys[2]'(by rw [hyl]; decide)) := List.getElem?_eq_getElem _
  have l3 : ys[3]? = some (ys[3]'(by rw [hyl]; decide)) := List.getElem?_eq_getElem _
  have l4 : ys[4]? = some (ys[4]'(by rw [hyl]; decide)) := List.getElem?_eq_getElem _
  have g0 : DataW.trod enc Tryz.prog W 0 (fun _ => true) true n' 3 [c0] = ys[0]? := f0
  have g1 : DataW.trod enc Tryz.prog W 0 (fun _ => true) true n' 35 [c1] = ys[1]? := f1
  have g2 : DataW.trod enc Tryz.prog W 0 (fun _ => true) true n' 3 [c2] = ys[2]? := f2
  have g3 : DataW.trod enc Tryz.prog W 0 (fun _ => true) true n' 3 [c3] = ys[3]? := f3
  have g4 : DataW.trod enc Tryz.prog W 0 (fun _ => true) true n' 35 [c4] = ys[4]? := f4
  obtain ⟨z0, e0, -, -⟩ := DataW.trod_int Tryz.underlying3 (g0.trans l0)
  obtain ⟨z2, e2, -, -⟩ := DataW.trod_int Tryz.underlying3 (g2.trans l2)
  obtain ⟨z3, e3, -, -⟩ := DataW.trod_int Tryz.underlying3 (g3.trans l3)
  have hint : ∀ (n : Nat) (cs : List Value) (y : DataW H × List MemPlace), cs.length = 1 → DataW.trod enc Tryz.prog W 0 (fun _ => true) true n 3 cs = some y → ∃ z : Int, cs = [Value.int .i64 z] ∧ True := fun n cs y hl ht => by
    match cs, hl with
    | [u], _ =>
      obtain ⟨z, e, -, -⟩ := DataW.trod_int Tryz.underlying3 ht
      exact ⟨z, e, trivial⟩
  obtain ⟨less, -, hl⟩ := open_rows Tryz.underlying35 (fun z : Int => [Value.int .i64 z]) 1 (by decide) (fun _ => rfl) cellsInt (fun _ => True) hint (g1.trans l1)
  obtain ⟨fates, -, hfa⟩ := open_rows Tryz.underlying35 (fun z : Int => [Value.int .i64 z]) 1 (by decide) (fun _ => rfl) cellsInt (fun _ => True) hint (g4.trans l4)
  simp at e0 e2 e3
  subst e0 e2 e3
  exact ⟨z0, z2, z3, _, _, less, fates, rfl, (nums_of hl).1, (nums_of hfa).1, (nums_of hfa).2⟩
end Go.Proofs.YtdaoeplblkfapaaGreatDoor
