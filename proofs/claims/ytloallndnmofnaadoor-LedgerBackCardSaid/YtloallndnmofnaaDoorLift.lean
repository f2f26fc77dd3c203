/- FROM A ROW's TWO LISTED VARIABLES TO WHAT THE WALKS ASK ('Lg'); a world in which each listed variable holds what its initialiser lays. -/
import Derived.Test.YtloallndnmofnaaDoorCards
import Derived.Test.YtloallndnmofnaaDoorTie
import Derived.Test.YtloallndnmofnaaDoorBase
import Derived.WalkKit
import Derived.ProofKit
import Derived.OpenShut
import Derived.Deep.DeepHandedRow
import Derived.Deep.DeepWitnessRowRef
import Derived.SizedLaws
import Derived.Lib.LaidTab
import Derived.Stop.LaidErr
namespace Go.Proofs.YtloallndnmofnaaDoor
open Go.ChangeShapes Go.WideShapes Go.ChangeAt Go.RowKit

theorem own : ownKnob Tryd.prog.godebug = none := by kernel_rfl
theorem laidOut : laidOutB Tryd.prog = true := by kernel_rfl

def lst2 : List (String × DataW Unit) := [("heliograph/crate.least", Rows.laid_heliograph_crate_least), ("heliograph/crate.greatest", Rows.laid_heliograph_crate_greatest)]

theorem gLstType : (Tryd.prog.globals[0]?).map (·.type) = some 86 := by kernel_rfl
theorem gGrtType : (Tryd.prog.globals[1]?).map (·.type) = some 86 := by kernel_rfl
theorem cells5 : Tryd.prog.cellsOf 86 = 5 := by kernel_rfl
theorem cellsInt : Tryd.prog.cellsOf 3 = 1 := by kernel_rfl

theorem heap_of_var {W : World} {name : String} {g : Nat} {cs : Array Value} (hg : Tryd.prog.globalNamed name = some g) (h : W.var? Tryd.prog name = some cs) : g < W.heap.size := by
  unfold World.var? at h
  rw [hg] at h
  simp only [Option.bind_some] at h
  rcases Nat.lt_or_ge g W.heap.size with h' | h'
  · exact h'
  · rw [Array.getElem?_eq_none h'] at h; simp at h

theorem lg_of_laid {W : World} (h : laidMet Tryd.prog lst2 W) : Lg W := by
  have hs : 2 ≤ W.heap.size := by
    obtain ⟨ps, ⟨g, t, cs, fuel, p, q, hg, _, hvar, _⟩, _⟩ := h.tail
    have := heap_of_var hg hvar
    have e : g = 1 := Option.some.inj (hg.symm.trans gGrt)
    omega
  have h7 := h.tail
  refine ⟨?_, ?_, hs⟩
  · exact Lib.tabIs_of_head gLst gLstType Tryd.underlying86 Tryd.underlying3 cellsInt cells5 h
  · exact Lib.tabIs_of_head gGrt gGrtType Tryd.underlying86 Tryd.underlying3 cellsInt cells5 h7

/-- The settled world, the listed variables holding what their initialisers lay. -/
noncomputable def laidWorld2 (os : Os) : World :=
  let w0 := World.holding Tryd.prog os ⟨#[], #[], []⟩
  let put (h : Array Obj) (g : Nat) (cs : Array Value) : Array Obj := h.modify g fun
    | .cells _ t frozen => .cells cs t frozen
    | o => o
  let h6 := put w0.heap 0 #[.int .i64 0, .int .i64 1, .int .i64 0, .int .i64 0, .int .i64 0]
  let h7 := put h6 1 #[.int .i64 1099511627776, .int .i64 8, .int .i64 1099511627776, .int .i64 1099511627776, .int .i64 1099511627776]
  { w0 with heap := h7 }
theorem laid_met2 (os : Os) (args : Array Value) : laidMet Tryd.prog lst2 ((laidWorld2 os).forCall (fun _ _ => 0) ⟨#[], args, []⟩).memory :=
  laidMet_of_run' 8 (by kernel_rfl) (by kernel_rfl)
end Go.Proofs.YtloallndnmofnaaDoor
