/- 'awake' answers true; 'filled' makes a row of what it is given. -/
import Derived.Test.YtdkngocinimjdaaWalk4
import Derived.Lib.SmallJoins
namespace Go.Proofs.Ytdkngocinimjdaa
open Go.RowKit
attribute [local go_sem] run_store_complex

theorem w_2 : Fl.Is 4611686018427387904 2 := Fl.ofInt_is (z := 2) (by decide)
theorem w_30 : Fl.Is 4629137466983448576 30 := Fl.ofInt_is (z := 30) (by decide)
theorem w_1 : Fl.Is 4607182418800017408 1 := Fl.ofInt_is (z := 1) (by decide)
theorem w_20 : Fl.Is 4626322717216342016 20 := Fl.ofInt_is (z := 20) (by decide)
theorem w_10 : Fl.Is 4621819117588971520 10 := Fl.ofInt_is (z := 10) (by decide)
theorem w_4 : Fl.Is 4616189618054758400 4 := Fl.ofInt_is (z := 4) (by decide)
theorem w_60 : Fl.Is 4633641066610819072 60 := Fl.ofInt_is (z := 60) (by decide)
theorem w_m1 : Fl.Is 13830554455654793216 (-1) := by
  have h := Fl.ofInt_is (z := -1) (by decide)
  rwa [show floatOfInt .f64 (-1) = 13830554455654793216 by kernel_rfl] at h

theorem ord_eq {x y : Nat} {a b : Int} (hx : Fl.Is x a) (hy : Fl.Is y b) : (FloatKind.f64.format.order x y == some .eq) = decide (a = b) := by
  rw [show FloatKind.f64.format.order x y = some (compare a b) from Fl.order_is hx hy]
  by_cases h : a = b
  · rw [cmp_eq h]; simp [h]
  · rcases Int.lt_or_gt_of_ne h with h1 | h1
    · rw [cmp_lt h1]; simp [h]
    · rw [cmp_gt h1]; simp [h]

/-- A row of the call's own (from block B on), and what lay there before is as it was. -/
structure Mine (B : Nat) (w0 w : World) (g : Nat) (gb : Option Nat) (L : List P2) : Prop where
  row : Rw w g gb L
  low : Below B w0 w
  head : B ≤ g
  body : ∀ k, gb = some k → B ≤ k
  room : B ≤ w.heap.size
theorem Mine.step {B : Nat} {w0 w w' : World} {g : Nat} {gb : Option Nat} {L : List P2} (h : Mine B w0 w g gb L) (hb : Below w.heap.size w w') : Mine B w0 w' g gb L :=
  ⟨h.row.below hb, h.low.trans (hb.mono h.room), h.head, h.body, Nat.le_trans h.room hb.size⟩
theorem Mine.turn {B : Nat} {w0 w w' : World} {g : Nat} {gb gb' : Option Nat} {L L' : List P2} (h : Mine B w0 w g gb L) (hr : Rw w' g gb' L') (hk : Kb2 (some g) gb w w') (hg : gb' = gb ∨ ∃ k, gb' = some k ∧ w.heap.size ≤ k) : Mine B w0 w' g gb' L' :=
  ⟨hr, h.low.trans (hk.below h.room (fun k e => by cases e; exact h.head) h.body), h.head, fun k e => by
    rcases hg with rfl | ⟨j, rfl, hj⟩
    · exact h.body k e
    · cases e; exact Nat.le_trans h.room hj, Nat.le_trans h.room hk.size⟩

theorem my_new (w : World) : Calls Try.prog 10 #[] w fun e w' => e = .returned (.pointer (some ⟨w.heap.size, 0, none⟩)) ∧ Mine w.heap.size w w' w.heap.size none [] :=
  (new_any w).mono fun _ _ ⟨he, hb, hr⟩ => ⟨he, hr, hb, Nat.le_refl _, fun k e => (by cases e), hb.size⟩
theorem my_push {B : Nat} {w0 w : World} {g : Nat} {gb : Option Nat} {L : List P2} (h : Mine B w0 w g gb L) (x y m n : Nat) (hx : Fl.part x = some m) (hy : Fl.part y = some n) (hl : L.length < 4096) :
    Calls Try.prog 11 #[.pointer (some ⟨g, 0, none⟩), .complex .f64 x y] w fun e w' => e = .returned (.int .i64 0) ∧ ∃ gb', Mine B w0 w' g gb' (L ++ [((m : Int), (n : Int))]) :=
  (push_ok x y m n w g gb L h.row hx hy hl).mono fun _ _ ⟨he, gb', hr, hk, hg⟩ => ⟨he, gb', h.turn hr hk hg⟩

theorem ord_is {x y : Nat} {a : Int} (hx : Fl.Is x a) (hy : Fl.Is y a) : FloatKind.f64.format.order x y = some .eq := by
  rw [show FloatKind.f64.format.order x y = some (compare a a) from Fl.order_is hx hy, cmp_eq rfl]
/-- A call that is known for any world, as the walk takes it: guarded calls of one and the same function. -/
theorem cv_eq {v : Value} {p : P2} {a b : Nat} {q : P2} (h : CV v p) (ha : Fl.Is a q.1) (hb : Fl.Is b q.2) : ∃ x y, v = .complex .f64 x y ∧ ((FloatKind.f64.format.order x a == some .eq) && (FloatKind.f64.format.order y b == some .eq)) = decide (p = q) := by
  obtain ⟨x, y, rfl, hx, hy⟩ := h
  refine ⟨x, y, rfl, ?_⟩
  rw [ord_eq hx ha, ord_eq hy hb, ← Bool.decide_and]
  congr 1
  exact propext (Prod.ext_iff).symm

set_option maxHeartbeats 2000000 in
theorem awake_any (w : World) :
    Calls Try.prog 9 #[] w fun e w' => e = .returned (.bool true) ∧ Below w.heap.size w w' := by
  have HP0 := Lib.hid (Fl.is_part w_2 (by decide) (by decide))
  have HP1 := Lib.hid (Fl.is_part w_30 (by decide) (by decide))
  have HP2 := Lib.hid (Fl.is_part w_1 (by decide) (by decide))
  have HP3 := Lib.hid (Fl.is_part w_20 (by decide) (by decide))
  have HP4 := Lib.hid (Fl.is_part w_10 (by decide) (by decide))
  have HP5 := Lib.hid (Fl.is_no_part w_m1 (by decide))
  go_enter Try.func9, Try.ntmps9
  go_wp2_with fail
  refine (my_new _).mono ?_
  rintro e w1 ⟨rfl, M⟩
  have M1 := Lib.hid M
  clear M
  obtain ⟨g, hg⟩ : ∃ g, w.heap.size = g := ⟨_, rfl⟩
  rw [hg] at M1 ⊢
  have HG := Lib.hid hg
  clear hg
  go_wp2_with fail
  refine (my_push M1.out _ _ _ _ HP0.out HP1.out (by decide)).mono ?_
  rintro e w2 ⟨rfl, gb2, M⟩
  have M2 := Lib.hid M
  clear M M1
  go_wp2_with fail
  refine (my_push M2.out _ _ _ _ HP2.out HP3.out (by decide)).mono ?_
  rintro e w3 ⟨rfl, gb3, M⟩
  have M3 := Lib.hid M
  clear M M2
  go_wp2_with fail
  refine (my_push M3.out _ _ _ _ HP2.out HP4.out (by decide)).mono ?_
  rintro e w4 ⟨rfl, gb4, M⟩
  have M4 : Hid (Mine g w w4 g gb4 [(2, 30), (1, 20), (1, 10)]) := Lib.hid M
  clear M M3
  go_wp2_with fail
  refine (sum_any _ _ _ _ M4.out.row).mono ?_
  rintro e w' ⟨⟨v, rfl, hcv⟩, rfl⟩
  obtain ⟨x, y, rfl, hx, hy⟩ := hcv
  have hx' : Fl.Is x 4 := hx
  have hy' : Fl.Is y 60 := hy
  have HX := Lib.hid hx'
  have HY := Lib.hid hy'
  clear hx hy hx' hy'
  go_wp2_with fail
  refine (parts_ok x y 4 60 (Fl.is_part HX.out (by decide) (by decide)) (Fl.is_part HY.out (by decide) (by decide)) _).mono ?_
  rintro e w' ⟨rfl, rfl⟩
  go_wp2_with fail
  refine (sum_any _ _ _ _ M4.out.row).mono ?_
  rintro e w' ⟨⟨v, rfl, hcv⟩, rfl⟩
  obtain ⟨x2, y2, rfl, hx, hy⟩ := hcv
  have o1 := ord_is (show Fl.Is x2 4 from hx) w_4
  have o2 := ord_is (show Fl.Is y2 60 from hy) w_60
  clear hx hy
  go_wp2_with fail
  refine (over_any 35 _ _ _ _ M4.out.row).mono ?_
  rintro e w' ⟨⟨n, rfl, hn⟩, rfl⟩
  obtain rfl : n = 1 := by
    obtain ⟨-, h1, h2⟩ := hn
    obtain ⟨h1, h3⟩ := h1 (by simp)
    match n, h1 with
    | 0, _ => rcases h3 with h3 | h3 <;> revert h3 <;> decide
    | 1, _ => rfl
    | 2, _ => have := h2 1 (by omega); revert this; decide
  clear hn o1 o2
  go_wp2_with fail
  refine (over_any 0 _ _ _ _ M4.out.row).mono ?_
  rintro e w' ⟨⟨n, rfl, hn⟩, rfl⟩
  obtain rfl : n = 2 := by
    obtain ⟨-, h1, h2⟩ := hn
    obtain ⟨h1, h3⟩ := h1 (by simp)
    match n, h1 with
    | 0, _ => rcases h3 with h3 | h3 <;> revert h3 <;> decide
    | 1, _ => rcases h3 with h3 | h3 <;> revert h3 <;> decide
    | 2, _ => rfl
  clear hn
  go_wp2_with fail
  refine (ahead_any 1 _ _ _ _ M4.out.row).mono ?_
  rintro e w5 ⟨⟨v, rfl, hcv⟩, hb5⟩
  obtain ⟨x3, y3, rfl, hx, hy⟩ := hcv
  have o1 := ord_is (show Fl.Is x3 2 from hx) w_2
  have o2 := ord_is (show Fl.Is y3 30 from hy) w_30
  have M5 := Lib.hid (M4.out.step hb5)
  clear hx hy hb5
  go_wp2_with fail
  refine (push_no _ _ _ _ _ _ M5.out.row (.inl HP5.out)).mono ?_
  rintro e w' ⟨rfl, rfl⟩
  go_wp2_with fail
  go_ret
  exact ⟨rfl, by rw [HG.out]; exact M5.out.low⟩
end Go.Proofs.Ytdkngocinimjdaa
