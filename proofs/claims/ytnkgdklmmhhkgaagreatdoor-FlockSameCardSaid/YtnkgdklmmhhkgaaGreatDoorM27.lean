import Derived.Test.YtnkgdklmmhhkgaaGreatDoorM24
import Derived.Test.YtnkgdklmmhhkgaaGreatDoorM14

/- An argument opened: a record; rows of records. -/
namespace Go.Proofs.YtnkgdklmmhhkgaaGreatDoor
open Go.ChangeShapes Go.WideShapes Go.ChangeAt Go.RowKit

theorem cellsRec : Tryz.prog.cellsOf 28 = 4 := by kernel_rfl
def rcCells (x : Int × ByteArray × ByteArray × Bool) : List Value := [.int .i64 x.1, .string x.2.1, .string x.2.2.1, .bool x.2.2.2]
set_option maxRecDepth 100000 in
theorem rec_of {H : Type} {enc : TypeId × Value → H} {W : World} {n : Nat} {cs : List Value} {y : DataW H × List MemPlace} (hlen : cs.length = 4) (h : DataW.trod enc Tryz.prog W 0 (fun _ => true) true n 28 cs = some y) :
    ∃ x : Int × ByteArray × ByteArray × Bool, cs = rcCells x := by
  obtain ⟨ys, n', -, -, -, hyl, hf⟩ := DataW.trod_struct Tryz.underlying28 h
  match cs, hlen with
  | [x0, x1, x2, x3], _ =>
    have g0 : DataW.trod enc Tryz.prog W 0 (fun _ => true) true n' 3 [x0] = ys[0]? := hf 0 _ rfl
    have g1 : DataW.trod enc Tryz.prog W 0 (fun _ => true) true n' 9 [x1] = ys[1]? := hf 1 _ rfl
    have g2 : DataW.trod enc Tryz.prog W 0 (fun _ => true) true n' 9 [x2] = ys[2]? := hf 2 _ rfl
    have g3 : DataW.trod enc Tryz.prog W 0 (fun _ => true) true n' 4 [x3] = ys[3]? := hf 3 _ rfl
    have lk : ∀ i (hi : i < 4), ys[i]? = some (ys[i]'(by rw [hyl]; exact hi)) := fun i hi => List.getElem?_eq_getElem _
    obtain ⟨o, e0, -, -⟩ := DataW.trod_int Tryz.underlying3 (g0.trans (lk 0 (by decide)))
    obtain ⟨K, e1, -, -⟩ := DataW.trod_string Tryz.underlying9 (g1.trans (lk 1 (by decide)))
    obtain ⟨V, e2, -, -⟩ := DataW.trod_string Tryz.underlying9 (g2.trans (lk 2 (by decide)))
    obtain ⟨g, e3, -⟩ := DataW.trod_bool Tryz.underlying4 (g3.trans (lk 3 (by decide)))
    simp at e0 e1 e2 e3
    refine ⟨(o, K, V, g), ?_⟩
    unfold rcCells
    rw [e0, e1, e2, e3]
set_option maxRecDepth 100000 in
theorem open_rec {H : Type} {enc : TypeId × Value → H} {W : World} {base : Nat} {v : Value} {d : DataW H} {p : List MemPlace} (hv : Value.okWide Tryz.prog W .any base 28 v) (h : DataW.Trod enc Tryz.prog W 0 (fun _ => true) true 28 v d p) :
    ∃ (o : Int) (k t : ByteArray) (g : Bool), v = .agg #[.int .i64 o, .string k, .string t, .bool g] := by
  simp only [Value.okWide, Tryz.underlying28] at hv
  obtain ⟨cs, rfl, hsz, -⟩ := hv
  rw [cellsRec] at hsz
  obtain ⟨fuel, hf⟩ := h
  have hf' : DataW.trod enc Tryz.prog W 0 (fun _ => true) true fuel 28 cs.toList = some (d, p) := hf
  obtain ⟨⟨o, k, t, g⟩, e⟩ := rec_of (by rw [Array.length_toList]; exact hsz) hf'
  refine ⟨o, k, t, g, ?_⟩
  obtain ⟨l⟩ := cs
  simp only at e
  subst e
  rfl
set_option maxRecDepth 100000 in
theorem open_recs {H : Type} {enc : TypeId × Value → H} {W : World} {fuel : Nat} {c : Value} {x : DataW H × List MemPlace} (h : DataW.trod enc Tryz.prog W 0 (fun _ => true) true fuel 22 [c] = some x) :
    ∃ l : List (Int × ByteArray × ByteArray × Bool), Rcs (fun b => b < W.heap.size) W c l := by
  haveI : Inhabited (Int × ByteArray × ByteArray × Bool) := ⟨(0, default, default, false)⟩
  obtain ⟨zs, -, hz⟩ := open_rows Tryz.underlying22 rcCells 4 (by decide) (fun _ => rfl) cellsRec (fun _ => True) (fun n cs y hl ht => by
    obtain ⟨z, hz⟩ := rec_of hl ht
    exact ⟨z, hz, trivial⟩) h
  exact ⟨zs, hz⟩
end Go.Proofs.YtnkgdklmmhhkgaaGreatDoor
