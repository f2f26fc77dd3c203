/- An argument opened: an event. -/
import Derived.Test.YtmkinnheoejphaaGreatDoorLift
import Derived.Test.YtmkinnheoejphaaGreatDoorPnZ
import Derived.Deep.Slices
import Derived.Deep.Fields
import Derived.Carry
import Derived.ChangeArms
namespace Go.Proofs.YtmkinnheoejphaaGreatDoor
open Go.ChangeShapes Go.WideShapes Go.ChangeAt Go.RowKit

theorem cellsEvent : Tryz.prog.cellsOf 27 = 4 := by kernel_rfl
def evc (x : Pn.Ev) : List Value := [.int .i64 x.kind, .int .i64 x.node, .int .i64 x.part, .int .i64 x.n]
set_option maxRecDepth 100000 in
/-- An event's cells. -/
theorem ev_of {H : Type} {enc : TypeId × Value → H} {W : World} {n : Nat} {cs : List Value} {y : DataW H × List MemPlace} (hlen : cs.length = 4) (h : DataW.trod enc Tryz.prog W 0 (fun _ => true) true n 27 cs = some y) :
    ∃ x : Pn.Ev, cs = evc x ∧ True := by
  obtain ⟨ys, n', -, -, -, hyl, hf⟩ := DataW.trod_struct Tryz.underlying27 h
  match cs, hlen with
  | [x0, x1, x2, x3], _ =>
    have g0 : DataW.trod enc Tryz.prog W 0 (fun _ => true) true n' 3 [x0] = ys[0]? := hf 0 _ rfl
    have g1 : DataW.trod enc Tryz.prog W 0 (fun _ => true) true n' 3 [x1] = ys[1]? := hf 1 _ rfl
    have g2 : DataW.trod enc Tryz.prog W 0 (fun _ => true) true n' 3 [x2] = ys[2]? := hf 2 _ rfl
    have g3 : DataW.trod enc Tryz.prog W 0 (fun _ => true) true n' 3 [x3] = ys[3]? := hf 3 _ rfl
    have lk : ∀ i (hi : i < 4), ys[i]? = some (ys[i]'(by rw [hyl]; exact hi)) := fun i hi => List.getElem?_eq_getElem _
    obtain ⟨o0, e0, -, -⟩ := DataW.trod_int Tryz.underlying3 (g0.trans (lk 0 (by decide)))
    obtain ⟨o1, e1, -, -⟩ := DataW.trod_int Tryz.underlying3 (g1.trans (lk 1 (by decide)))
    obtain ⟨o2, e2, -, -⟩ := DataW.trod_int Tryz.underlying3 (g2.trans (lk 2 (by decide)))
    obtain ⟨o3, e3, -, -⟩ := DataW.trod_int Tryz.underlying3 (g3.trans (lk 3 (by decide)))
    simp at e0 e1 e2 e3
    exact ⟨⟨o0, o1, o2, o3⟩, by rw [e0, e1, e2, e3]; rfl, trivial⟩
set_option maxRecDepth 100000 in
theorem open_event {H : Type} {enc : TypeId × Value → H} {W : World} {base : Nat} {v : Value} {d : DataW H} {p : List MemPlace} (hv : Value.okWide Tryz.prog W .any base 27 v) (h : DataW.Trod enc Tryz.prog W 0 (fun _ => true) true 27 v d p) :
    ∃ x : Pn.Ev, v = evV x := by
  simp only [Value.okWide, Tryz.underlying27] at hv
  obtain ⟨cs, rfl, hsz, -⟩ := hv
  rw [cellsEvent] at hsz
  obtain ⟨fuel, hf⟩ := h
  have hf' : DataW.trod enc Tryz.prog W 0 (fun _ => true) true fuel 27 cs.toList = some (d, p) := hf
  obtain ⟨x, e, -⟩ := ev_of (by rw [Array.length_toList]; exact hsz) hf'
  refine ⟨x, ?_⟩
  obtain ⟨l⟩ := cs
  simp only at e
  subst e
  rfl
end Go.Proofs.YtmkinnheoejphaaGreatDoor
