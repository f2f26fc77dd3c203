/- Arguments opened: a slice of texts; what is asked. -/
import Derived.Test.YtaefcbgmljaleaaLift
import Derived.Test.YtaefcbgmljaleaaShN
import Derived.Deep.Slices
import Derived.Deep.Fields
import Derived.ChangeArms
import Derived.SliceStrings
namespace Go.Proofs.Ytaefcbgmljaleaa
open Go.ChangeShapes Go.WideShapes Go.ChangeAt Go.RowKit

theorem cellsStr : Try.prog.cellsOf 9 = 1 := by kernel_rfl
theorem cellsAsk : Try.prog.cellsOf 31 = 2 := by kernel_rfl
theorem add_plain (b off j : Nat) : (⟨b, off, none⟩ : Addr).add j = ⟨b, off + j, none⟩ := by
  unfold Addr.add
  by_cases hj : j = 0 <;> simp [hj]
theorem open_nms {H : Type} {enc : TypeId × Value → H} {W : World} {fuel : Nat} {a0 : Option Addr} {len cap : Nat} {x : DataW H × List MemPlace} (h : DataW.trod enc Try.prog W 0 (fun _ => true) true fuel 22 [.slice a0 len cap] = some x) :
    ∃ L : List ByteArray, Nms (fun b => b < W.heap.size) W (.slice a0 len cap) L := by
  rcases open_strings Try.underlying22 Try.underlying9 cellsStr h with ⟨hcs, -⟩ | ⟨a, len', cap', ss, hcs, -, hl, hm, hz, -, hcell, hws⟩
  · simp at hcs
    obtain ⟨rfl, rfl, rfl⟩ := hcs
    exact ⟨[], Nms.nil _ _⟩
  · simp at hcs
    obtain ⟨rfl, rfl, rfl⟩ := hcs
    have hzl : ss.length = cap := by simpa using hz
    have htl : (ss.take len).length = len := by rw [List.length_take]; omega
    refine ⟨ss.take len, by simp, .inr ⟨a, cap, by rw [htl], fun h0 => ?_⟩⟩
    rw [htl] at h0
    have plain : a = ⟨a.block, a.off, none⟩ := by
      obtain ⟨b, off, spot⟩ := a
      have := World.cell?_spot (hcell 0 (by omega))
      simp only [Addr.mk.injEq, true_and]
      simpa [Addr.add] using this
    have hc0 := hcell 0 (by omega)
    rw [plain, add_plain] at hc0
    have hlt := World.block_lt_of_cell? _ _ hc0
    refine ⟨a.block, a.off, plain, hlt, hlt, fun j u hj => ?_⟩
    have hjl : j < len := by have := (List.getElem?_eq_some_iff.1 hj).1; rw [List.length_map, htl] at this; exact this
    have hc := hcell j (by omega)
    rw [plain, add_plain] at hc
    rw [List.getElem?_map, List.getElem?_take_of_lt hjl, List.getElem?_eq_getElem (by omega)] at hj
    rw [List.getD_eq_getElem?_getD, List.getElem?_eq_getElem (by omega), Option.getD_some] at hc
    exact hc.trans hj
set_option maxRecDepth 100000 in
theorem open_ask {H : Type} {enc : TypeId × Value → H} {W : World} {base : Nat} {v : Value} {d : DataW H} {p : List MemPlace} (hv : Value.okWide Try.prog W .any base 31 v) (h : DataW.Trod enc Try.prog W 0 (fun _ => true) true 31 v d p) :
    ∃ (n : Int) (s : ByteArray), v = .agg #[.int .i64 n, .string s] := by
  simp only [Value.okWide, Try.underlying31] at hv
  obtain ⟨cs, rfl, hsz, -⟩ := hv
  rw [cellsAsk] at hsz
  obtain ⟨l⟩ := cs
  match l, hsz with
  | [c0, c1], _ =>
    obtain ⟨fuel, hf⟩ := h
    have hf' : DataW.trod enc Try.prog W 0 (fun _ => true) true fuel 31 [c0, c1] = some (d, p) := hf
    obtain ⟨ys, n', -, -, -, hyl, hat⟩ := DataW.trod_struct Try.underlying31 hf'
    have f0 := hat 0 _ rfl
    have f1 := hat 1 _ rfl
    have l0 : ys[0]? = some (ys[0]'(by rw [hyl]; decide)) := List.getElem?_eq_getElem _
    have l1 : ys[1]? = some (ys[1]'(by rw [hyl]; decide)) := List.getElem?_eq_getElem _
    have g0 : DataW.trod enc Try.prog W 0 (fun _ => true) true n' 3 [c0] = ys[0]? := f0
    have g1 : DataW.trod enc Try.prog W 0 (fun _ => true) true n' 9 [c1] = ys[1]? := f1
    obtain ⟨a, e0, -, -⟩ := DataW.trod_int Try.underlying3 (g0.trans l0)
    obtain ⟨s, e1, -, -⟩ := DataW.trod_string Try.underlying9 (g1.trans l1)
    simp at e0 e1
    exact ⟨a, s, by rw [e0, e1]⟩
end Go.Proofs.Ytaefcbgmljaleaa
