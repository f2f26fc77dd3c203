/- Arguments opened: a slice of texts; a struct of a number and an array of four bytes. -/
import Derived.Test.YtddlkagcdlgllaaLift
import Derived.Test.YtddlkagcdlgllaaSame
import Derived.SliceStrings
import Derived.Deep.Slices
import Derived.Carry
import Derived.ChangeArms
import Derived.Lib.SmallJoins
namespace Go.Proofs.Ytddlkagcdlgllaa
open Go.ChangeShapes Go.WideShapes Go.ChangeAt Go.RowKit

theorem cellsStr : Try.prog.cellsOf 9 = 1 := by kernel_rfl
theorem cellsU8 : Try.prog.cellsOf 5 = 1 := by kernel_rfl
theorem cellsInt : Try.prog.cellsOf 3 = 1 := by kernel_rfl
theorem cellsArr : Try.prog.cellsOf 39 = 4 := by kernel_rfl
theorem cellsFour : Try.prog.cellsOf 41 = 5 := by kernel_rfl

theorem open_texts {H : Type} {enc : TypeId × Value → H} {W : World} {fuel : Nat} {a0 : Option Addr} {len cap : Nat} {x : DataW H × List MemPlace} (h : DataW.trod enc Try.prog W 0 (fun _ => true) true fuel 31 [.slice a0 len cap] = some x) :
    ∃ ls : List (List UInt8), ls.length = len ∧ len ≤ cap ∧ Readable (.slice a0 len cap) ls W := by
  rcases open_strings Try.underlying31 Try.underlying9 cellsStr h with ⟨hcs, -⟩ | ⟨a, len', cap', ss, hcs, -, hl, hm, hz, -, hcell, hws⟩
  · simp at hcs
    obtain ⟨rfl, rfl, rfl⟩ := hcs
    exact ⟨[], rfl, Nat.le_refl _, none, 0, rfl, fun j l hj => by simp at hj⟩
  · simp at hcs
    obtain ⟨rfl, rfl, rfl⟩ := hcs
    have hzl : ss.length = cap := by simpa using hz
    have htl : ((ss.take len).map fun s => s.data.toList).length = len := by rw [List.length_map, List.length_take]; omega
    refine ⟨(ss.take len).map fun s => s.data.toList, htl, by omega, _, cap, by rw [htl], fun j l hj => ?_⟩
    have hjl : j < len := by have := (List.getElem?_eq_some_iff.1 hj).1; omega
    obtain ⟨b, off, spot⟩ := a
    have hspot : spot = none := by
      have := World.cell?_spot (hcell 0 (by omega))
      simpa [Addr.add] using this
    subst hspot
    have add_plain : ∀ j, (⟨b, off, none⟩ : Addr).add j = ⟨b, off + j, none⟩ := fun j => by
      unfold Addr.add
      by_cases hj : j = 0 <;> simp [hj]
    have hc := hcell j (by omega)
    rw [add_plain] at hc
    refine ⟨b, off, rfl, block_lt_of_cell hc, ?_⟩
    rw [hc]
    rw [List.getElem?_map, List.getElem?_take_of_lt hjl, List.getElem?_eq_getElem (by omega)] at hj
    have hj' : ss[j].data.toList = l := Option.some.inj hj
    rw [List.getD_eq_getElem?_getD, List.getElem?_eq_getElem (by omega), Option.getD_some]
    rw [← hj', ← ofList_eq ss[j] _ rfl]

theorem open_four {H : Type} {enc : TypeId × Value → H} {W : World} {base : Nat} {v : Value} {d : DataW H} {p : List MemPlace} (hv : Value.okWide Try.prog W .any base 41 v) (h : DataW.Trod enc Try.prog W 0 (fun _ => true) true 41 v d p) :
    ∃ x y0 y1 y2 y3 : Int, v = .agg #[.int .i64 x, .int .u8 y0, .int .u8 y1, .int .u8 y2, .int .u8 y3] := by
  obtain ⟨cs, rfl, hsz⟩ := okWide_struct Try.underlying41 hv
  rw [cellsFour] at hsz
  obtain ⟨l⟩ := cs
  match l, hsz with
  | [c0, c1, c2, c3, c4], _ =>
    obtain ⟨fuel, hf⟩ := h
    obtain ⟨ys, n, -, -, -, hyl, hfs⟩ := DataW.trod_struct Try.underlying41 hf
    have f0 := hfs 0 _ rfl
    have f1 := hfs 1 _ rfl
    have l0 : ys[0]? = some (ys[0]'(by rw [hyl]; decide)) := List.getElem?_eq_getElem _
    have l1 : ys[1]? = some (ys[1]'(by rw [hyl]; decide)) := List.getElem?_eq_getElem _
    have g0 : DataW.trod enc Try.prog W 0 (fun _ => true) true n 3 [c0] = ys[0]? := f0
    have g1 : DataW.trod enc Try.prog W 0 (fun _ => true) true n 39 [c1, c2, c3, c4] = ys[1]? := f1
    obtain ⟨x, hx, -, -⟩ := DataW.trod_int Try.underlying3 (g0.trans l0)
    obtain ⟨zs, m, -, -, -, hzl, hat⟩ := DataW.trod_array Try.underlying39 (g1.trans l1)
    have at' : ∀ i (hi : i < 4), DataW.trod enc Try.prog W 0 (fun _ => true) true m 5 (([c1, c2, c3, c4].drop i).take 1) = some (zs[i]'(by omega)) := fun i hi => by
      have := hat i hi
      rw [cellsU8, Nat.mul_one] at this
      rw [this, List.getElem?_eq_getElem]
    obtain ⟨y0, h0, -, -⟩ := DataW.trod_int Try.underlying5 (at' 0 (by omega))
    obtain ⟨y1, h1, -, -⟩ := DataW.trod_int Try.underlying5 (at' 1 (by omega))
    obtain ⟨y2, h2, -, -⟩ := DataW.trod_int Try.underlying5 (at' 2 (by omega))
    obtain ⟨y3, h3, -, -⟩ := DataW.trod_int Try.underlying5 (at' 3 (by omega))
    simp at hx h0 h1 h2 h3
    exact ⟨x, y0, y1, y2, y3, by rw [hx, h0, h1, h2, h3]⟩
end Go.Proofs.Ytddlkagcdlgllaa
