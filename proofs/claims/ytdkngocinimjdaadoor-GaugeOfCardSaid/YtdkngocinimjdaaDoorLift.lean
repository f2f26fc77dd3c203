/- FROM A ROW's LISTED VARIABLES TO WHAT THE WALKS ASK ('Lb'); a world in which each listed variable holds what its initialiser lays. -/
import Derived.Test.YtdkngocinimjdaaDoorCards
import Derived.Test.YtdkngocinimjdaaDoorTie
import Derived.Test.YtdkngocinimjdaaDoorBase
import Derived.WalkKit
import Derived.ProofKit
import Derived.OpenShut
import Derived.Deep.DeepHandedRow
import Derived.Deep.DeepWitnessRowRef
import Derived.SizedLaws
import Derived.Lib.LaidTab
import Derived.Stop.LaidErr
namespace Go.Proofs.YtdkngocinimjdaaDoor
open Go.ChangeShapes Go.WideShapes Go.ChangeAt Go.RowKit

theorem own : ownKnob Tryd.prog.godebug = none := by kernel_rfl

def lst : List (String × DataW Unit) := [("math/bits.deBruijn32tab", Rows.laid_math_bits_deBruijn32tab), ("math/bits.deBruijn64tab", Rows.laid_math_bits_deBruijn64tab), ("internal/strconv.uint64pow10", Rows.laid_internal_strconv_uint64pow10), ("heliograph/crate.least", Rows.laid_heliograph_crate_least), ("heliograph/crate.greatest", Rows.laid_heliograph_crate_greatest)]

theorem gPowType : (Tryd.prog.globals[3]?).map (·.type) = some 101 := by kernel_rfl
theorem gLstType : (Tryd.prog.globals[0]?).map (·.type) = some 68 := by kernel_rfl
theorem gGrtType : (Tryd.prog.globals[1]?).map (·.type) = some 68 := by kernel_rfl
theorem cells5 : Tryd.prog.cellsOf 68 = 5 := by kernel_rfl
theorem cellsInt : Tryd.prog.cellsOf 3 = 1 := by kernel_rfl
theorem cellsPow : Tryd.prog.cellsOf 101 = 20 := by kernel_rfl
theorem cellsU64 : Tryd.prog.cellsOf 75 = 1 := by kernel_rfl

theorem powTab : ([1, 10, 100, 1000, 10000, 100000, 1000000, 10000000, 100000000, 1000000000, 10000000000, 100000000000, 1000000000000, 10000000000000, 100000000000000, 1000000000000000, 10000000000000000, 100000000000000000, 1000000000000000000, 10000000000000000000] : List Int) = Lib.pow10Tab := by decide +kernel

theorem heap_of_var {W : World} {name : String} {g : Nat} {cs : Array Value} (hg : Tryd.prog.globalNamed name = some g) (h : W.var? Tryd.prog name = some cs) : g < W.heap.size := by
  unfold World.var? at h
  rw [hg] at h
  simp only [Option.bind_some] at h
  rcases Nat.lt_or_ge g W.heap.size with h' | h'
  · exact h'
  · rw [Array.getElem?_eq_none h'] at h; simp at h

theorem gLast : Tryd.prog.globalNamed "math/bits.deBruijn64tab" = some 6 := by kernel_rfl
theorem lb_of_laid {W : World} (h : laidMet Tryd.prog lst W) : Lb W := by
  have hs : 7 ≤ W.heap.size := by
    obtain ⟨ps, ⟨g, t, cs, fuel, p, q, hg, _, hvar, _⟩, _⟩ := h.tail
    have := heap_of_var hg hvar
    have e : g = 6 := Option.some.inj (hg.symm.trans gLast)
    omega
  have h3 := h.tail.tail
  have h6 := h3.tail
  have h7 := h6.tail
  refine ⟨?_, ?_, ?_, hs⟩
  · rw [← powTab]
    exact Lib.tabIs_of_head gPow gPowType Tryd.underlying101 Tryd.underlying75 cellsU64 cellsPow h3
  · exact Lib.tabIs_of_head gLst gLstType Tryd.underlying68 Tryd.underlying3 cellsInt cells5 h6
  · exact Lib.tabIs_of_head gGrt gGrtType Tryd.underlying68 Tryd.underlying3 cellsInt cells5 h7

/-- The settled world, the listed variables holding what their initialisers lay. -/
noncomputable def laidWorld (os : Os) : World :=
  let w0 := World.holding Tryd.prog os ⟨#[], #[], []⟩
  let put (h : Array Obj) (g : Nat) (cs : Array Value) : Array Obj := h.modify g fun
    | .cells _ t frozen => .cells cs t frozen
    | o => o
  let h1 := put w0.heap 3 (Lib.pow10Tab.map fun z => Value.int .u64 z).toArray
  let h4 := put h1 5 #[.int .u8 0, .int .u8 1, .int .u8 28, .int .u8 2, .int .u8 29, .int .u8 14, .int .u8 24, .int .u8 3, .int .u8 30, .int .u8 22, .int .u8 20, .int .u8 15, .int .u8 25, .int .u8 17, .int .u8 4, .int .u8 8, .int .u8 31, .int .u8 27, .int .u8 13, .int .u8 23, .int .u8 21, .int .u8 19, .int .u8 16, .int .u8 7, .int .u8 26, .int .u8 12, .int .u8 18, .int .u8 6, .int .u8 11, .int .u8 5, .int .u8 10, .int .u8 9]
  let h5 := put h4 6 #[.int .u8 0, .int .u8 1, .int .u8 56, .int .u8 2, .int .u8 57, .int .u8 49, .int .u8 28, .int .u8 3, .int .u8 61, .int .u8 58, .int .u8 42, .int .u8 50, .int .u8 38, .int .u8 29, .int .u8 17, .int .u8 4, .int .u8 62, .int .u8 47, .int .u8 59, .int .u8 36, .int .u8 45, .int .u8 43, .int .u8 51, .int .u8 22, .int .u8 53, .int .u8 39, .int .u8 33, .int .u8 30, .int .u8 24, .int .u8 18, .int .u8 12, .int .u8 5, .int .u8 63, .int .u8 55, .int .u8 48, .int .u8 27, .int .u8 60, .int .u8 41, .int .u8 37, .int .u8 16, .int .u8 46, .int .u8 35, .int .u8 44, .int .u8 21, .int .u8 52, .int .u8 32, .int .u8 23, .int .u8 11, .int .u8 54, .int .u8 26, .int .u8 40, .int .u8 15, .int .u8 34, .int .u8 20, .int .u8 31, .int .u8 10, .int .u8 25, .int .u8 14, .int .u8 19, .int .u8 9, .int .u8 13, .int .u8 8, .int .u8 7, .int .u8 6]
  let h6 := put h5 0 #[.int .i64 0, .int .i64 1, .int .i64 0, .int .i64 0, .int .i64 0]
  let h7 := put h6 1 #[.int .i64 1099511627776, .int .i64 8, .int .i64 1099511627776, .int .i64 1099511627776, .int .i64 1099511627776]
  { w0 with heap := h7 }
theorem laid_met (os : Os) (args : Array Value) : laidMet Tryd.prog lst ((laidWorld os).forCall (fun _ _ => 0) ⟨#[], args, []⟩).memory :=
  laidMet_of_run' 8 (by kernel_rfl) (by kernel_rfl)
end Go.Proofs.YtdkngocinimjdaaDoor
