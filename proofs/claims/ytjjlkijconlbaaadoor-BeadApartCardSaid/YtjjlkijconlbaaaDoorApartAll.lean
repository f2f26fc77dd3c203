/- The walk of the law BeadApart, whatever the two things are; such an argument, opened. -/
import Derived.Test.YtjjlkijconlbaaaDoorApartWalk
import Derived.Test.YtjjlkijconlbaaaDoorOpen
import Derived.Lib.SmallJoins
import Derived.ChangeArms
namespace Go.Proofs.YtjjlkijconlbaaaDoor
open Go.RowKit Go.ChangeShapes Go.WideShapes Go.Joins

set_option maxHeartbeats 1000000 in
set_option maxRecDepth 100000 in
theorem apart_long (is js : Bool) (na nb : Int) (ta tb : ByteArray) (cut : Int) (w : World) (hl : Lb w) (ht : 4096 < ta.size ∨ (¬ 4096 < ta.size ∧ 4096 < tb.size)) :
    Calls Tryd.prog 7 #[.agg #[.bool is, .int .i64 na, .string ta], .agg #[.bool js, .int .i64 nb, .string tb], .int .i64 cut] w fun e w' => e = .returned (.bool true) ∧ Below w.heap.size w w' := by
  have i0 := Ap.start hl is na ta js nb tb
  rcases ht with ht | ⟨hs, ht⟩
  all_goals
    go_enter Tryd.func7, Tryd.ntmps7
    go_wp2_with fail
    refine (awake_any _ i0.lb).mono ?_
    rintro e w1 ⟨rfl, b1⟩
    have i1 := i0.next b1
    have c2 := i1.c2
    have d2 := i1.d2
    clear b1 i0
    go_wp2_with fail
    go_ret
    exact ⟨rfl, i1.below⟩

theorem apart_any (is js : Bool) (na nb : Int) (ta tb : ByteArray) (cut : Int) (w : World) (hl : Lb w) (hn : Pl.I64 na) (hm : Pl.I64 nb) :
    Calls Tryd.prog 7 #[.agg #[.bool is, .int .i64 na, .string ta], .agg #[.bool js, .int .i64 nb, .string tb], .int .i64 cut] w fun e w' => e = .returned (.bool true) ∧ Below w.heap.size w w' := by
  by_cases h1 : 4096 < ta.size
  · exact apart_long is js na nb ta tb cut w hl (Or.inl h1)
  · by_cases h2 : 4096 < tb.size
    · exact apart_long is js na nb ta tb cut w hl (Or.inr ⟨h1, h2⟩)
    · have ht : ta.size ≤ 4096 := by omega
      have hu : tb.size ≤ 4096 := by omega
      cases is <;> cases js
      · exact apart_nn na nb ta tb cut w hl hn hm ht hu
      · exact apart_nt na nb ta tb cut w hl hn hm ht hu
      · exact apart_tn na nb ta tb cut w hl hn hm ht hu
      · exact apart_tt na nb ta tb cut w hl hn hm ht hu

theorem cellsThing : Tryd.prog.cellsOf 44 = 3 := by kernel_rfl
set_option maxRecDepth 100000 in
theorem open_thing {H : Type} {enc : TypeId × Value → H} {W : World} {base : Nat} {v : Value} {d : DataW H} {p : List MemPlace} (hv : Value.okWide Tryd.prog W .any base 44 v) (h : DataW.Trod enc Tryd.prog W 0 (fun _ => true) true 44 v d p) :
    ∃ (is : Bool) (n : Int) (t : ByteArray), v = .agg #[.bool is, .int .i64 n, .string t] ∧ Pl.I64 n := by
  obtain ⟨v0, v1, v2, y0, y1, y2, n, rfl, -, -, h0, h1, h2⟩ := open_agg3 Tryd.underlying44 (by kernel_rfl) cellsThing hv h
  obtain ⟨b, e0, -⟩ := DataW.trod_bool Tryd.underlying4 h0
  obtain ⟨k, e1, -, hw⟩ := DataW.trod_int Tryd.underlying3 h1
  obtain ⟨t, e2, -⟩ := DataW.trod_string Tryd.underlying9 h2
  simp at e0 e1 e2
  refine ⟨b, k, t, by rw [e0, e1, e2], ?_⟩
  have m1 : IntKind.i64.min = -9223372036854775808 := rfl
  have m2 : IntKind.i64.max = 9223372036854775807 := rfl
  simp only [Lit.wf, Bool.and_eq_true, decide_eq_true_eq, m1, m2] at hw
  exact hw
end Go.Proofs.YtjjlkijconlbaaaDoor
