/- Arguments opened: a slice of texts; a struct of a number and numbers. -/
import Derived.Test.YtnenpcbofbcllaaOpen
import Derived.Test.YtnenpcbofbcllaaSwapsWalk
import Derived.SliceStrings
namespace Go.Proofs.Ytnenpcbofbcllaa
open Go.ChangeShapes Go.WideShapes Go.ChangeAt Go.RowKit

theorem cellsStr : Try.prog.cellsOf 9 = 1 := by kernel_rfl
theorem cellsPower : Try.prog.cellsOf 43 = 2 := by kernel_rfl
theorem of_list (s : ByteArray) : (⟨s.data.toList.toArray⟩ : ByteArray) = s := by
  apply ByteArray.ext
  simp
theorem open_txts {H : Type} {enc : TypeId × Value → H} {W : World} {fuel : Nat} {a0 : Option Addr} {len cap : Nat} {x : DataW H × List MemPlace} (h : DataW.trod enc Try.prog W 0 (fun _ => true) true fuel 38 [.slice a0 len cap] = some x) :
    ∃ ls : List (List UInt8), ls.length = len ∧ Txts W W.heap.size (.slice a0 len cap) ls := by
  rcases open_strings Try.underlying38 Try.underlying9 cellsStr h with ⟨hcs, -⟩ | ⟨a, len', cap', ss, hcs, -, hl, hm, hz, -, hcell, hws⟩
  · simp at hcs
    obtain ⟨rfl, rfl, rfl⟩ := hcs
    exact ⟨[], rfl, none, 0, rfl, fun j l hj => by simp at hj⟩
  · simp at hcs
    obtain ⟨rfl, rfl, rfl⟩ := hcs
    have hzl : ss.length = cap := by simpa using hz
    have htl : ((ss.take len).map (·.data.toList)).length = len := by rw [List.length_map, List.length_take]; omega
    refine ⟨(ss.take len).map (·.data.toList), htl, some a, cap, by rw [htl], fun j l hj => ?_⟩
    have hjl : j < len := by have := (List.getElem?_eq_some_iff.1 hj).1; omega
    have hc := hcell j (by omega)
    have plain : a = ⟨a.block, a.off, none⟩ := by
      obtain ⟨b, off, spot⟩ := a
      have := World.cell?_spot (hcell 0 (by omega))
      simp only [Addr.mk.injEq, true_and]
      simpa [Addr.add] using this
    rw [plain, add_plain] at hc
    rw [List.getElem?_map, List.getElem?_take_of_lt hjl, List.getElem?_eq_getElem (by omega)] at hj
    simp only [Option.map_some, Option.some.injEq] at hj
    rw [List.getD_eq_getElem?_getD, List.getElem?_eq_getElem (by omega), Option.getD_some] at hc
    exact ⟨a.block, a.off, by rw [← plain], (World.block_lt_of_cell? W ⟨a.block, a.off + j, none⟩ hc : a.block < W.heap.size), by rw [← hj, of_list]; exact hc⟩
theorem open_nums_of {H : Type} {enc : TypeId × Value → H} {W : World} {fuel : Nat} {c : Value} {x : DataW H × List MemPlace} (h : DataW.trod enc Try.prog W 0 (fun _ => true) true fuel 23 [c] = some x) :
    ∃ zs : List Int, Nums W c zs ∧ (0 < zs.length → ∀ a n d, c = .slice (some a) n d → a.block < W.heap.size) := by
  have hs : ∃ a l k, c = .slice a l k := by
    rcases open_ints Try.underlying23 Try.underlying3 cellsInt h with ⟨hcs, -⟩ | ⟨a, len', cap', zs, hcs, -⟩
    · simp at hcs; exact ⟨_, _, _, hcs⟩
    · simp at hcs; exact ⟨_, _, _, hcs⟩
  obtain ⟨a, l, k, rfl⟩ := hs
  exact open_nums h
set_option maxRecDepth 100000 in
theorem open_power {H : Type} {enc : TypeId × Value → H} {W : World} {base : Nat} {v : Value} {d : DataW H} {p : List MemPlace} (hv : Value.okWide Try.prog W .any base 43 v) (h : DataW.Trod enc Try.prog W 0 (fun _ => true) true 43 v d p) :
    ∃ (pa : Int) (fv : Value) (zs : List Int), v = .agg #[.int .i64 pa, fv] ∧ Nums W fv zs ∧ (0 < zs.length → ∀ a n d, fv = .slice (some a) n d → a.block < W.heap.size) := by
  simp only [Value.okWide, Try.underlying43] at hv
  obtain ⟨cs, rfl, hsz, -⟩ := hv
  rw [cellsPower] at hsz
  obtain ⟨l⟩ := cs
  match l, hsz with
  | [c0, c1], _ =>
    obtain ⟨fuel, hf⟩ := h
    have hf' : DataW.trod enc Try.prog W 0 (fun _ => true) true fuel 43 [c0, c1] = some (d, p) := hf
    obtain ⟨ys, n', -, -, -, hyl, hat⟩ := DataW.trod_struct Try.underlying43 hf'
    have f0 := hat 0 _ rfl
    have f1 := hat 1 _ rfl
    have l0 : ys[0]? = some (ys[0]'(by rw [hyl]; decide)) := List.getElem?_eq_getElem _
    have l1 : ys[1]? = some (ys[1]'(by rw [hyl]; decide)) := List.getElem?_eq_getElem _
    have g0 : DataW.trod enc Try.prog W 0 (fun _ => true) true n' 3 [c0] = ys[0]? := f0
    have g1 : DataW.trod enc Try.prog W 0 (fun _ => true) true n' 23 [c1] = ys[1]? := f1
    obtain ⟨a, e0, -, -⟩ := DataW.trod_int Try.underlying3 (g0.trans l0)
    obtain ⟨zs, h1, h2⟩ := open_nums_of (g1.trans l1)
    simp at e0
    exact ⟨a, c1, zs, by rw [e0], h1, h2⟩
theorem swaps_law (s : ByteArray) (a : Option Addr) (cap : Nat) (ls : List (List UInt8)) (pa : Int) (fv : Value) (zs : List Int) (w : World) (hp : Txts w w.heap.size (.slice a ls.length cap) ls)
    (hf : Nums w fv zs) (hfb : 0 < zs.length → ∀ a c d, fv = .slice (some a) c d → a.block < w.heap.size) :
    Calls Try.prog 4 #[.string s, .slice a ls.length cap, .agg #[.int .i64 pa, fv]] w fun e w' => e = .returned (.bool true) ∧ RowKit.Below w.heap.size w w' := by
  have := swaps_any s.data.toList a cap ls pa fv zs w hp hf hfb
  rwa [of_list] at this
end Go.Proofs.Ytnenpcbofbcllaa
