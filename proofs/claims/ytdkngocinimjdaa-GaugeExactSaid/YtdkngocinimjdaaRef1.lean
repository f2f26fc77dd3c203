/- THE CONTRACTS OF the document's From and Complex. -/
import Derived.Test.YtdkngocinimjdaaFilled
import Derived.Laws.ResultCell
import Derived.Laws.Rows
namespace Go.Proofs.Ytdkngocinimjdaa
open Go.RowKit
attribute [local go_sem] run_store_complex

/-- How a word stands to the bounds, and what it is cut to. -/
theorem word_kind (x : Nat) :
    (((FloatKind.f64.format.order x 0 == some .gt) || (FloatKind.f64.format.order x 0 == some .eq)) = false ∧ Fl.part x = none) ∨
    (((FloatKind.f64.format.order x 0 == some .gt) || (FloatKind.f64.format.order x 0 == some .eq)) = true ∧ ((FloatKind.f64.format.order x 4787326403894837248 == some .lt) || (FloatKind.f64.format.order x 4787326403894837248 == some .eq)) = false ∧ Fl.part x = none) ∨
    (((FloatKind.f64.format.order x 0 == some .gt) || (FloatKind.f64.format.order x 0 == some .eq)) = true ∧ ((FloatKind.f64.format.order x 4787326403894837248 == some .lt) || (FloatKind.f64.format.order x 4787326403894837248 == some .eq)) = true ∧
      ∃ z : Int, floatToIntVal .f64 x .i64 = some z ∧ ((FloatKind.f64.format.order (floatOfInt .f64 z) x == some .eq) = (Fl.part x).isSome) ∧ ∀ n, Fl.part x = some n → z = n) := by
  rcases Fl.read_kind x with ⟨u, hu⟩ | ⟨s, hs⟩ | ⟨s, t, hs⟩
  · obtain ⟨q, hq⟩ : ∃ q : Int, q = 2 ^ 1074 := ⟨_, rfl⟩
    have hq0 : 0 < q := by rw [hq]; exact Fl.pow_pos_int _
    have z0 : Fl.U 0 0 := by have := is_zero; unfold Fl.Is at this; rwa [Int.zero_mul] at this
    have t0 : Fl.U 4787326403894837248 (1099511627776 * q) := by rw [hq]; exact is_top
    rw [Fl.part_U hq hu]
    by_cases c0 : 0 ≤ u
    · have g0 : ((FloatKind.f64.format.order x 0 == some .gt) || (FloatKind.f64.format.order x 0 == some .eq)) = true := by
        by_cases h : u = 0
        · rw [order_at hu z0 (cmp_eq h)]; rfl
        · rw [order_at hu z0 (cmp_gt (by omega))]; rfl
      by_cases c1 : u ≤ 1099511627776 * q
      · have g1 : ((FloatKind.f64.format.order x 4787326403894837248 == some .lt) || (FloatKind.f64.format.order x 4787326403894837248 == some .eq)) = true := by
          by_cases h : u = 1099511627776 * q
          · rw [order_at hu t0 (cmp_eq h)]; rfl
          · rw [order_at hu t0 (cmp_lt (by omega))]; rfl
        have hdiv : u / q ≤ 1099511627776 := by
          have := Int.ediv_le_ediv hq0 c1
          rwa [Int.mul_ediv_cancel _ (Int.ne_of_gt hq0)] at this
        have hdiv0 : 0 ≤ u / q := Int.ediv_nonneg c0 (Int.le_of_lt hq0)
        have ht := Fl.ofInt_is (z := u / q) (by omega)
        have ht' : Fl.U (floatOfInt .f64 (u / q)) (u / q * q) := by unfold Fl.Is at ht; rw [← hq] at ht; exact ht
        have hm := Int.mul_ediv_add_emod u q
        rw [Int.mul_comm] at hm
        refine .inr (.inr ⟨g0, g1, u / q, ?_, ?_, ?_⟩)
        · unfold floatToIntVal
          rw [show (FloatKind.f64.decode x).toInt .zero = some (u / q) from Fl.toInt_U hq hu c0]
          have h1 : IntKind.i64.min = -2 ^ 63 := by decide
          have h2 : IntKind.i64.max = 2 ^ 63 - 1 := by decide
          simp only [h1, h2]
          rw [if_pos]; omega
        · by_cases h : u % q = 0
          · rw [if_pos ⟨c0, c1, h⟩, order_at ht' hu (cmp_eq (by omega))]; rfl
          · have := Int.emod_nonneg u (Int.ne_of_gt hq0)
            rw [if_neg (fun hc => h hc.2.2), order_at ht' hu (cmp_lt (by omega))]; rfl
        · intro n hn
          split at hn
          · have := Option.some.inj hn; omega
          · cases hn
      · refine .inr (.inl ⟨g0, ?_, if_neg (fun hc => c1 hc.2.1)⟩)
        rw [order_at hu t0 (cmp_gt (by omega))]; rfl
    · refine .inl ⟨?_, if_neg (fun hc => c0 hc.1)⟩
      rw [order_at hu z0 (cmp_lt (by omega))]; rfl
  · have r0 : Ieee.double.read 0 = Ieee.Datum.number false 0 (-1074) := by decide
    have rt : Ieee.double.read 4787326403894837248 = Ieee.Datum.number false 4503599627370496 (-12) := by decide
    have o0 : FloatKind.f64.format.order x 0 = some (if s then .lt else .gt) := by
      show (Ieee.double.read x).order (Ieee.double.read 0) = _; rw [hs, r0]; rfl
    have o1 : FloatKind.f64.format.order x 4787326403894837248 = some (if s then .lt else .gt) := by
      show (Ieee.double.read x).order (Ieee.double.read _) = _; rw [hs, rt]; rfl
    rw [o0, o1, Fl.part_inf hs]
    cases s
    · exact .inr (.inl ⟨rfl, rfl, rfl⟩)
    · exact .inl ⟨rfl, rfl⟩
  · have o0 : FloatKind.f64.format.order x 0 = none := by
      show (Ieee.double.read x).order (Ieee.double.read 0) = _; rw [hs]; rfl
    rw [o0, Fl.part_nan hs]
    exact .inl ⟨rfl, rfl⟩

theorem rcomplex_any (a b : Int) (w : World) :
    Calls Try.prog 15 #[.agg #[.int .i64 a, .int .i64 b]] w fun e w' => e = .returned (.complex .f64 (floatOfInt .f64 a) (floatOfInt .f64 b)) ∧ Below w.heap.size w w' := by
  have hb := Blk.new w #[.int .i64 a, .int .i64 b] 39
  have c0 := hb.cell (i := 0) rfl
  have c1 := hb.cell (i := 1) rfl
  clear hb
  go_enter Try.func15, Try.ntmps15
  go_wp2
  go_ret
  exact ⟨rfl, (Below.refl _ _).alloc (Nat.le_refl _) _⟩

/-- What From answers. -/
def FromSays (x y : Nat) (e : Ending) : Prop := ∃ (a b : Int) (ok : Bool), e = .returned (.tuple #[.agg #[.int .i64 a, .int .i64 b], .bool ok]) ∧ ok = ((Fl.part x).isSome && (Fl.part y).isSome) ∧ ∀ m n, Fl.part x = some m → Fl.part y = some n → a = m ∧ b = n

theorem undS : (Try.prog.underlying 39).map (fun d => match d with | .struct _ | .array _ _ => true | _ => false) = some true := by kernel_rfl
theorem sizeS : (Try.prog.info? 39).map (·.size) = some 2 := by kernel_rfl
theorem load_size {W : World} {rb : Nat} {a0 a1 : Value} (hb : Blk W rb #[a0, a1] 39) : (loadVar 39 ⟨rb, 0, none⟩).run Try.prog W = .ok (.agg #[a0, a1]) W := by
  obtain ⟨d, hd, hs⟩ : ∃ d, Try.prog.underlying 39 = some d ∧ (match d with | .struct _ | .array _ _ => true | _ => false) = true := by
    have h := undS
    cases hd : Try.prog.underlying 39 with
    | none => rw [hd] at h; cases h
    | some d => rw [hd] at h; exact ⟨d, rfl, Option.some.inj h⟩
  exact run_loadVar_row (P := Try.prog) W rb 39 39 #[a0, a1] (0, 0) d hb hd (by cases d <;> exact hs) sizeS
theorem from_ret {W : World} {rb : Nat} {a0 a1 n : Value} {tmps : Array Value} (hb : Blk W rb #[a0, a1] 39) (h2 : tmps.getD 2 undef = .pointer (some ⟨rb, 0, none⟩)) (h3 : tmps.getD 3 undef = n) :
    (results Try.f20 tmps).run Try.prog W = .ok (.tuple #[.agg #[a0, a1], n]) W := by
  rw [results_cell_tmp (p := 2) (u := 3) (ty := 39) rfl, h2, h3]
  have hl := load_size hb
  simp [asAddr, hl]

theorem below_drew {B : Nat} (w : World) : Below B w w.drew := ⟨rfl, rfl, rfl, Nat.le_refl _, fun _ _ => rfl⟩

set_option maxHeartbeats 2000000 in
theorem from_any (x y : Nat) (w : World) :
    Calls Try.prog 20 #[.complex .f64 x y] w fun e w' => FromSays x y e ∧ Below w.heap.size w w' := by
  have hb := Blk.new w #[.int .i64 0, .int .i64 0] 39
  have hw0 : Below w.heap.size w (w.alloc (.cells #[.int .i64 0, .int .i64 0] 39)) := (Below.refl _ _).alloc (Nat.le_refl _) _
  have HW0 := Lib.hid hw0
  have HB := Lib.hid hb
  have d0 := hb.cell (i := 0) rfl
  have d1 := hb.cell (i := 1) rfl
  have f0 := hb.free (i := 0)
  have f1 := hb.free (i := 1)
  clear hb hw0
  rcases word_kind x with ⟨g0, hx⟩ | ⟨g0, g1, hx⟩ | ⟨g0, g1, z, hz, he, hp⟩
  · have HX := Lib.hid hx
    clear hx
    go_enter Try.func20, Try.ntmps20
    go_wp2_with fail
    exact bodyPost_ret (from_ret HB.out rfl rfl) rfl ⟨⟨0, 0, false, rfl, by rw [HX.out]; simp, fun m n h _ => by rw [HX.out] at h; cases h⟩, HW0.out⟩
  · have HX := Lib.hid hx
    clear hx
    go_enter Try.func20, Try.ntmps20
    go_wp2_with fail
    exact bodyPost_ret (from_ret HB.out rfl rfl) rfl ⟨⟨0, 0, false, rfl, by rw [HX.out]; simp, fun m n h _ => by rw [HX.out] at h; cases h⟩, HW0.out⟩
  · rcases word_kind y with ⟨k0, hy⟩ | ⟨k0, k1, hy⟩ | ⟨k0, k1, z', hz', he', hp'⟩
    · have HY := Lib.hid hy
      clear hy hz he hp
      go_enter Try.func20, Try.ntmps20
      go_wp2_with fail
      exact bodyPost_ret (from_ret HB.out rfl rfl) rfl ⟨⟨0, 0, false, rfl, by rw [HY.out]; simp, fun m n _ h => by rw [HY.out] at h; cases h⟩, HW0.out⟩
    · have HY := Lib.hid hy
      clear hy hz he hp
      go_enter Try.func20, Try.ntmps20
      go_wp2_with fail
      exact bodyPost_ret (from_ret HB.out rfl rfl) rfl ⟨⟨0, 0, false, rfl, by rw [HY.out]; simp, fun m n _ h => by rw [HY.out] at h; cases h⟩, HW0.out⟩
    · obtain ⟨bx, hbx⟩ : ∃ b, (FloatKind.f64.format.order (floatOfInt .f64 z) x == some .eq) = b := ⟨_, rfl⟩
      obtain ⟨bY, hby⟩ : ∃ b, (FloatKind.f64.format.order (floatOfInt .f64 z') y == some .eq) = b := ⟨_, rfl⟩
      have HX := Lib.hid (And.intro (hbx.symm.trans he) hp)
      have HY := Lib.hid (And.intro (hby.symm.trans he') hp')
      clear he he' hp hp'
      have cx : ∀ w, (convert 30 3 (.float .f64 x)).run Try.prog w = .ok (.int .i64 z) w := fun w => run_convert_float_int w _ _ _ _ _ _ (by rw [Try.underlying30]; rfl) Try.underlying3 hz
      have cy : ∀ w, (convert 30 3 (.float .f64 y)).run Try.prog w = .ok (.int .i64 z') w := fun w => run_convert_float_int w _ _ _ _ _ _ (by rw [Try.underlying30]; rfl) Try.underlying3 hz'
      clear hz hz'
      have hw1 := HW0.out.alloc (Nat.le_trans (Nat.le_refl _) HW0.out.size) (.cells #[.int .i64 z, .int .i64 z'] 39)
      have hn := Blk.new (w.alloc (.cells #[.int .i64 0, .int .i64 0] 39)) #[.int .i64 z, .int .i64 z'] 39
      have hb1 := HB.out.below (w' := (w.alloc (.cells #[.int .i64 0, .int .i64 0] 39)).alloc (.cells #[.int .i64 z, .int .i64 z'] 39)) ((Below.refl _ _).alloc (Nat.le_refl _) _)
      have e0 : (w.alloc (.cells #[.int .i64 0, .int .i64 0] 39)).heap.size = w.heap.size + 1 := by simp
      rw [e0] at hn
      have c0 := hn.cell (i := 0) rfl
      have c1 := hn.cell (i := 1) rfl
      have d0' := hb1.cell (i := 0) rfl
      have d1' := hb1.cell (i := 1) rfl
      have f0' := hb1.free (i := 0)
      have f1' := hb1.free (i := 1)
      have HB1 := Lib.hid hb1
      have HW1 := Lib.hid hw1
      clear hn hb1 hw1 e0
      have hf := Blk.new w #[.int .i64 z, .int .i64 z'] 39
      have hw2 : Below w.heap.size w (w.alloc (.cells #[.int .i64 z, .int .i64 z'] 39)) := (Below.refl _ _).alloc (Nat.le_refl _) _
      have HF := Lib.hid hf
      have HW2 := Lib.hid hw2
      clear hf hw2
      cases bx with
      | true =>
        cases bY with
        | true =>
          go_enter Try.func20, Try.ntmps20
          go_wp2_with fail
          go_region
          go_wp2_with fail
          exact bodyPost_ret (from_ret ((HF.out.below ((Below.refl _ _).alloc (Nat.le_refl _) _)).below (below_drew _)) rfl rfl) rfl ⟨⟨z, z', true, rfl, by rw [← HX.out.1, ← HY.out.1]; rfl, fun m n h1 h2 => ⟨HX.out.2 m h1, HY.out.2 n h2⟩⟩, (HW2.out.alloc HW2.out.size _).trans (below_drew _)⟩
        | false =>
          go_enter Try.func20, Try.ntmps20
          go_wp2_with fail
          go_region
          go_wp2_with fail
          exact bodyPost_ret (from_ret ((HF.out.below ((Below.refl _ _).alloc (Nat.le_refl _) _)).below (below_drew _)) rfl rfl) rfl ⟨⟨z, z', false, rfl, by rw [← HX.out.1, ← HY.out.1]; rfl, fun m n h1 h2 => ⟨HX.out.2 m h1, HY.out.2 n h2⟩⟩, (HW2.out.alloc HW2.out.size _).trans (below_drew _)⟩
      | false =>
        go_enter Try.func20, Try.ntmps20
        go_wp2_with fail
        go_region
        go_wp2_with fail
        exact bodyPost_ret (from_ret ((HF.out.below ((Below.refl _ _).alloc (Nat.le_refl _) _)).below (below_drew _)) rfl rfl) rfl ⟨⟨z, z', false, rfl, by rw [← HX.out.1, ← HY.out.1]; rfl, fun m n h1 h2 => ⟨HX.out.2 m h1, HY.out.2 n h2⟩⟩, (HW2.out.alloc HW2.out.size _).trans (below_drew _)⟩
end Go.Proofs.Ytdkngocinimjdaa
