/- THE CONTRACTS OF gauge's New, Push, Over. -/
import Derived.Test.YtfapigccdbpepaaHRow
import Derived.WalkKit
import Derived.WalkSpells
import Derived.WalkLawsBesides
import Derived.Handy
import Derived.Outline
import Derived.Lib.Hide
import Derived.Laws.Externs
import Derived.ScopeJumps
import Derived.BigRegion
import Derived.RegionTactic
import Derived.Carry
namespace Go.Proofs.Ytfapigccdbpepaa
open Go.RowKit
attribute [local go_sem] run_store_complex

theorem arch_trunc (x : Nat) (w : World) (h : ∀ s t, Ieee.double.read x ≠ Ieee.Datum.nan s t) : (callFunc 74 #[.float .f64 x]).run Try.prog w = .ok (.value (.float .f64 (Fl.tr x))) w := by
  rw [run_callFunc_extern Try.func74 (by kernel_rfl) (by kernel_rfl) (by kernel_rfl) (e := Extern.MathFloor.toIntegral "math.archTrunc" .zero) (by kernel_rfl)]
  have : (Extern.MathFloor.toIntegral "math.archTrunc" .zero #[.float .f64 x]).run Try.prog w = .ok (.float .f64 (Fl.tr x)) w := by
    unfold Extern.MathFloor.toIntegral
    show Sem.run _ (match FloatKind.f64.decode x with | .nan s t => _ | d => _) w = _
    have e : FloatKind.f64.decode x = Ieee.double.read x := rfl
    split
    · rename_i s t hs
      exact absurd (e ▸ hs) (h s t)
    · rfl
  rw [this]
  rfl
theorem trunc_any (x : Nat) (w : World) (h : ∀ s t, Ieee.double.read x ≠ Ieee.Datum.nan s t) :
    Calls Try.prog 72 #[.float .f64 x] w fun e w' => e = .returned (.float .f64 (Fl.tr x)) ∧ w = w' := by
  have hd := fun w => arch_trunc x w h
  clear h
  go_enter Try.func72, Try.ntmps72
  go_wp2
  go_ret
  exact ⟨rfl, rfl⟩
theorem is_zero : Fl.Is 0 0 := ⟨false, 0, 0, by decide, by rw [Fl.signed_zero, Int.zero_mul]⟩
theorem is_top : Fl.Is 4787326403894837248 1099511627776 := Fl.ofInt_is (z := 1099511627776) (by decide)
theorem order_at {x y : Nat} {a b : Int} {o : Ordering} (hx : Fl.U x a) (hy : Fl.U y b) (h : compare a b = o) : FloatKind.f64.format.order x y = some o := by
  rw [← h]; exact Fl.order_U hx hy
theorem cmp_lt {a b : Int} (h : a < b) : compare a b = .lt := by simp [compare, compareOfLessAndEq, h]
theorem cmp_gt {a b : Int} (h : b < a) : compare a b = .gt := by
  have h1 : ¬ a < b := by omega
  have h2 : ¬ a = b := by omega
  simp [compare, compareOfLessAndEq, h1, h2]
theorem cmp_eq {a b : Int} (h : a = b) : compare a b = .eq := by subst h; simp [compare, compareOfLessAndEq]
/-- Which words are parts. -/
theorem part_any (x : Nat) (w : World) :
    Calls Try.prog 66 #[.float .f64 x] w fun e w' => e = .returned (.bool (Fl.part x).isSome) ∧ w = w' := by
  rcases Fl.read_kind x with ⟨u, hu⟩ | ⟨s, hs⟩ | ⟨s, t, hs⟩
  · obtain ⟨q, hq⟩ : ∃ q : Int, q = 2 ^ 1074 := ⟨_, rfl⟩
    have hq0 : 0 < q := by rw [hq]; exact Fl.pow_pos_int _
    have z0 : Fl.U 0 0 := by have := is_zero; unfold Fl.Is at this; rwa [Int.zero_mul] at this
    have t0 : Fl.U 4787326403894837248 (1099511627776 * q) := by rw [hq]; exact is_top
    have hT : ∀ w, Calls Try.prog 72 #[.float .f64 x] w fun e w' => e = .returned (.float .f64 (Fl.tr x)) ∧ w = w' := fun w => trunc_any x w (fun s t hs => by obtain ⟨_, _, _, hr, _⟩ := hu; rw [hr] at hs; cases hs)
    have HT := Lib.hid hT
    rw [Fl.part_U hq hu]
    by_cases c0 : 0 ≤ u
    · have o0 : FloatKind.f64.format.order 0 x = some .lt ∨ FloatKind.f64.format.order 0 x = some .eq := by
        by_cases h : u = 0
        · exact .inr (order_at z0 hu (cmp_eq h.symm))
        · exact .inl (order_at z0 hu (cmp_lt (by omega)))
      have b0 : ((FloatKind.f64.format.order 0 x == some .lt) || (FloatKind.f64.format.order 0 x == some .eq)) = true := by
        rcases o0 with h | h <;> rw [h] <;> rfl
      by_cases c1 : u ≤ 1099511627776 * q
      · have o1 : FloatKind.f64.format.order x 4787326403894837248 = some .lt ∨ FloatKind.f64.format.order x 4787326403894837248 = some .eq := by
          by_cases h : u = 1099511627776 * q
          · exact .inr (order_at hu t0 (cmp_eq h))
          · exact .inl (order_at hu t0 (cmp_lt (by omega)))
        have b1 : ((FloatKind.f64.format.order x 4787326403894837248 == some .lt) || (FloatKind.f64.format.order x 4787326403894837248 == some .eq)) = true := by
          rcases o1 with h | h <;> rw [h] <;> rfl
        have hdiv : u / q ≤ 1099511627776 := by
          have := Int.ediv_le_ediv hq0 c1
          rwa [Int.mul_ediv_cancel _ (Int.ne_of_gt hq0)] at this
        have ht := Fl.tr_is hq hu c0 (by omega)
        have ht' : Fl.U (Fl.tr x) (u / q * q) := by rw [hq]; rw [hq] at ht; exact ht
        have e1 : (if 0 ≤ u ∧ u ≤ 2 ^ 40 * q ∧ u % q = 0 then some (u / q).toNat else none).isSome = (FloatKind.f64.format.order x (Fl.tr x) == some .eq) := by
          have hm := Int.mul_ediv_add_emod u q
          rw [Int.mul_comm] at hm
          by_cases h : u % q = 0
          · rw [if_pos ⟨c0, c1, h⟩, order_at hu ht' (cmp_eq (by omega))]; rfl
          · have := Int.emod_nonneg u (Int.ne_of_gt hq0)
            rw [if_neg (fun hc => h hc.2.2), order_at hu ht' (cmp_gt (by omega))]; rfl
        rw [e1]
        clear hT e1 ht ht' hdiv o0 o1 c0 c1 z0 t0 hu hq hq0
        generalize Fl.tr x = y at *
        go_enter Try.func66, Try.ntmps66
        go_wp2_with fail
        refine (HT.out _).mono ?_
        rintro e w' ⟨rfl, rfl⟩
        go_wp2_with fail
        go_ret
        exact ⟨by simp, rfl⟩
      · have b1 : ((FloatKind.f64.format.order x 4787326403894837248 == some .lt) || (FloatKind.f64.format.order x 4787326403894837248 == some .eq)) = false := by
          rw [order_at hu t0 (cmp_gt (by omega))]; rfl
        rw [if_neg (fun hc => c1 hc.2.1)]
        clear hT HT o0 c0 c1 z0 t0 hu hq hq0
        go_enter Try.func66, Try.ntmps66
        go_wp2_with fail
        go_ret
        exact ⟨by simp, rfl⟩
    · have b0 : ((FloatKind.f64.format.order 0 x == some .lt) || (FloatKind.f64.format.order 0 x == some .eq)) = false := by
        rw [order_at z0 hu (cmp_gt (by omega))]; rfl
      rw [if_neg (fun hc => c0 hc.1)]
      clear hT HT c0 z0 t0 hu hq hq0
      go_enter Try.func66, Try.ntmps66
      go_wp2_with fail
      go_ret
      exact ⟨by simp, rfl⟩
  · rw [Fl.part_inf hs]
    have r0 : Ieee.double.read 0 = Ieee.Datum.number false 0 (-1074) := by decide
    have rt : Ieee.double.read 4787326403894837248 = Ieee.Datum.number false 4503599627370496 (-12) := by decide
    have o0 : FloatKind.f64.format.order 0 x = some (if s then .gt else .lt) := by
      show (Ieee.double.read 0).order (Ieee.double.read x) = _; rw [hs, r0]; rfl
    have o1 : FloatKind.f64.format.order x 4787326403894837248 = some (if s then .lt else .gt) := by
      show (Ieee.double.read x).order (Ieee.double.read _) = _; rw [hs, rt]; rfl
    cases s
    · have b0 : ((FloatKind.f64.format.order 0 x == some .lt) || (FloatKind.f64.format.order 0 x == some .eq)) = true := by rw [o0]; rfl
      have b1 : ((FloatKind.f64.format.order x 4787326403894837248 == some .lt) || (FloatKind.f64.format.order x 4787326403894837248 == some .eq)) = false := by rw [o1]; rfl
      clear o0 o1 r0 rt hs
      go_enter Try.func66, Try.ntmps66
      go_wp2_with fail
      go_ret
      exact ⟨by simp, rfl⟩
    · have b0 : ((FloatKind.f64.format.order 0 x == some .lt) || (FloatKind.f64.format.order 0 x == some .eq)) = false := by rw [o0]; rfl
      clear o0 o1 r0 rt hs
      go_enter Try.func66, Try.ntmps66
      go_wp2_with fail
      go_ret
      exact ⟨by simp, rfl⟩
  · rw [Fl.part_nan hs]
    have o0 : FloatKind.f64.format.order 0 x = none := by
      show (Ieee.double.read 0).order (Ieee.double.read x) = _; rw [hs]; cases Ieee.double.read 0 <;> rfl
    have b0 : ((FloatKind.f64.format.order 0 x == some .lt) || (FloatKind.f64.format.order 0 x == some .eq)) = false := by rw [o0]; rfl
    clear o0 hs
    go_enter Try.func66, Try.ntmps66
    go_wp2_with fail
    go_ret
    exact ⟨by simp, rfl⟩
/-- isSize: both are parts. -/
theorem size_any (x y : Nat) (w : World) :
    Calls Try.prog 55 #[.complex .f64 x y] w fun e w' => e = .returned (.bool ((Fl.part x).isSome && (Fl.part y).isSome)) ∧ w = w' := by
  have hX := Lib.hid (part_any x)
  have hY := Lib.hid (part_any y)
  rcases hx : (Fl.part x).isSome with _ | _
  · rw [hx] at hX
    clear hx
    go_enter Try.func55, Try.ntmps55
    go_wp2_with fail
    refine (hX.out _).mono ?_
    rintro e w' ⟨rfl, rfl⟩
    go_wp2_with fail
    go_ret
    exact ⟨rfl, rfl⟩
  · rw [hx] at hX
    rcases hy : (Fl.part y).isSome with _ | _ <;> rw [hy] at hY <;> clear hx hy
    all_goals
      go_enter Try.func55, Try.ntmps55
      go_wp2_with fail
      refine (hX.out _).mono ?_
      rintro e w' ⟨rfl, rfl⟩
      go_wp2_with fail
      refine (hY.out _).mono ?_
      rintro e w' ⟨rfl, rfl⟩
      go_wp2_with fail
      go_ret
      exact ⟨rfl, rfl⟩
theorem new_any (w : World) :
    Calls Try.prog 46 #[] w fun e w' => e = .returned (.pointer (some ⟨w.heap.size, 0, none⟩)) ∧ Below w.heap.size w w' ∧ Rw w' w.heap.size none [] := by
  go_enter Try.func46, Try.ntmps46
  go_wp2
  go_ret
  refine ⟨rfl, (Below.refl _ _).alloc (Nat.le_refl _) _, fun p hp => by simp at hp, by simp, by simp, _, _, _, [], Blk.new _ _ _, ⟨rfl, .inl ⟨rfl, rfl, rfl⟩⟩, is_zero, is_zero, fun j p hj => by simp at hj⟩
theorem push_no (x y : Nat) (w : World) (g : Nat) (gb : Option Nat) (L : List P2) (h : Rw w g gb L) (hno : Fl.part x = none ∨ Fl.part y = none ∨ L.length = 4096) :
    Calls Try.prog 47 #[.pointer (some ⟨g, 0, none⟩), .complex .f64 x y] w fun e w' => e = .returned (.int .i64 1) ∧ w = w' := by
  obtain ⟨v, a, b, xs, h1, h2, h3⟩ := h.lies
  obtain ⟨ao, cap, rfl, hc, -⟩ := h2.make
  have c0 := h1.cell (i := 0) rfl
  have hz := size_any x y
  obtain ⟨z, hz'⟩ : ∃ z, ((Fl.part x).isSome && (Fl.part y).isSome) = z := ⟨_, rfl⟩
  have hn : z = true → (L.length : Int) = 4096 := by
    intro hz1
    subst hz1
    rcases hno with h | h | h
    · rw [h] at hz'; simp at hz'
    · rw [h] at hz'; simp at hz'
    · omega
  rw [hz'] at hz
  have HZ := Lib.hid hz
  clear h h1 h2 h3 hz hz' hno
  cases z
  · clear hn
    go_enter Try.func47, Try.ntmps47
    go_wp2_with fail
    refine (HZ.out _).mono ?_
    rintro e w' ⟨rfl, rfl⟩
    go_wp2_with fail
    go_ret
    exact ⟨rfl, rfl⟩
  · have hq := hn rfl
    clear hn
    go_enter Try.func47, Try.ntmps47
    go_wp2_with fail
    refine (HZ.out _).mono ?_
    rintro e w' ⟨rfl, rfl⟩
    go_wp2_with fail
    go_ret
    exact ⟨rfl, rfl⟩
set_option maxHeartbeats 1000000 in
theorem push_ok (x y m n : Nat) (w : World) (g : Nat) (gb : Option Nat) (L : List P2) (h : Rw w g gb L) (hx : Fl.part x = some m) (hy : Fl.part y = some n) (hl : L.length < 4096) :
    Calls Try.prog 47 #[.pointer (some ⟨g, 0, none⟩), .complex .f64 x y] w fun e w' => e = .returned (.int .i64 0) ∧ ∃ gb', Rw w' g gb' (L ++ [((m : Int), (n : Int))]) ∧ Kb2 (some g) gb w w' ∧ (gb' = gb ∨ ∃ k, gb' = some k ∧ w.heap.size ≤ k) := by
  obtain ⟨v, a, b, xs, h1, h2, h3, h4, h5⟩ := h.lies
  obtain ⟨ao, cap, rfl, hc, -⟩ := h2.make
  have c0 := h1.cell (i := 0) rfl
  obtain ⟨ix, bx⟩ := Fl.part_is hx
  obtain ⟨iy, bY⟩ := Fl.part_is hy
  have hz := size_any x y
  rw [hx, hy] at hz
  have HZ := Lib.hid hz
  have hb := tot_bound L h.ok
  obtain ⟨r, hr, ir⟩ := Fl.add_is h3 ix (by omega)
  obtain ⟨s, hs, is⟩ := Fl.add_is h4 iy (by omega)
  have hadd : ∀ w, (binOp .add 84 (.complex .f64 a b) (.complex .f64 x y)).run Try.prog w = .ok (.complex .f64 r s) w := fun w => run_complex_sum w .add (.inl rfl) _ _ _ _ _ _ _ _ (by unfold cSumBits; simp only [floatBits]; rw [show FloatKind.f64.format = Ieee.double from rfl, hr, hs]; rfl)
  have hq : ((L.length : Int) == 4096) = false := by simp; omega
  have HS := Lib.hid h2
  have H1 := Lib.hid h1
  have HW := Lib.hid h
  obtain ⟨i0, hi, hz0, hz1, hz2⟩ := infoC
  clear hz h1 h2 hx hy hb hr hs h
  go_enter Try.func47, Try.ntmps47
  go_wp2_with fail
  refine (HZ.out _).mono ?_
  rintro e w' ⟨rfl, rfl⟩
  go_wp2_with (at_builtin; refine wpList_append_sl _ rfl _ _ 86 rfl 84 i0 (.complex .f64 0 0) 1 16 Try.underlying86 hi hz0 hz1 hz2 rfl _ gb L.length xs rfl (HS.out.same (fun k hk => Below.heap_alloc _ _ _ (HS.out.lt k hk))) ⟨_, 0, none⟩ 1 1 [.complex .f64 x y] rfl rfl (cell_one_new _ _ _) (by simp [Value.oneCell']) (by omega) (by omega) (by omega) ?_)
  intro g1 p1 cap1 w1 gb' hown hgrow hgb hnew
  have hb1 : Blk w1 g #[Value.slice ao L.length cap, Value.complex FloatKind.f64 a b] 88 := (H1.out.alloc _).grown hgrow HW.out.ne
  have b2 := hb1.set (i := 0) (.slice (some ⟨g1, p1, none⟩) (L.length + 1) cap1)
  have hg1 : g ≠ g1 := by
    have hl := H1.out.lt
    rcases hnew with e | e
    · rintro rfl; exact HW.out.ne (by rw [← e, hgb])
    · omega
  have c0' := hb1.cell (i := 0) rfl
  have c1' := b2.cell (i := 1) rfl
  have f0' := hb1.free (i := 0)
  have f1' := hb1.free (i := 1)
  have HB2 := Lib.hid b2
  have HO := Lib.hid hown
  have HG := Lib.hid hgrow
  have HGB := Lib.hid hgb
  have HN := Lib.hid hnew
  have HI := Lib.hid (And.intro ir is)
  have H5 := Lib.hid h5
  clear hb1 b2 hown hgrow hgb hnew ir is h5 c0
  go_wp2_with fail
  go_ret
  have hk : Kb2 (some g) gb w ((w1.setCell ⟨g, 0, none⟩ (.slice (some ⟨g1, p1, none⟩) (L.length + 1) cap1)).setCell ⟨g, 1, none⟩ (.complex .f64 r s)) :=
    (((Kb2.alloc w _).trans (Kb2.of_grown HG.out)).trans (Kb2.setCell _ ⟨g, 0, none⟩ _ (.inl rfl))).trans (Kb2.setCell _ ⟨g, 1, none⟩ _ (.inl rfl))
  refine ⟨rfl, gb', ⟨?_, by simp; omega, by rw [HGB.out]; intro e; cases e; exact hg1 rfl, _, r, s, xs ++ [.complex .f64 x y], HB2.out.set (i := 1) (.complex .f64 r s), ?_, ?_, ?_, all_snoc (by have := HS.out.1; omega) H5.out ⟨x, y, rfl, ix, iy⟩⟩, hk, ?_⟩
  · intro p hp
    rcases List.mem_append.1 hp with hp | hp
    · exact HW.out.ok p hp
    · simp at hp; subst hp; exact ⟨by simp, by simp; omega, by simp, by simp; omega⟩
  · rw [List.length_append]
    have hne : some g ≠ gb' := by rw [HGB.out]; intro e; cases e; exact hg1 rfl
    exact (HO.out.setCell ⟨g, 0, none⟩ _ hne).setCell ⟨g, 1, none⟩ _ hne
  · rw [tot_snoc]; exact HI.out.1
  · rw [tot_snoc]; exact HI.out.2
  · rcases HN.out with e | e
    · exact .inl e
    · exact .inr ⟨g1, HGB.out, by omega⟩
theorem complex_sub {a b x y : Nat} {p q : P2} (ha : Fl.Is a p.1) (hb : Fl.Is b p.2) (hx : Fl.Is x q.1) (hy : Fl.Is y q.2) (h1 : (p.1 - q.1).natAbs < 2 ^ 53) (h2 : (p.2 - q.2).natAbs < 2 ^ 53) :
    ∃ r s, (∀ w, (binOp .sub 84 (.complex .f64 a b) (.complex .f64 x y)).run Try.prog w = .ok (.complex .f64 r s) w) ∧ Fl.Is r (sub2 p q).1 ∧ Fl.Is s (sub2 p q).2 := by
  obtain ⟨r, hr, ir⟩ := Fl.sub_is ha hx h1
  obtain ⟨s, hs, is⟩ := Fl.sub_is hb hy h2
  exact ⟨r, s, fun w => run_complex_sum w .sub (.inr rfl) _ _ _ _ _ _ _ _ (by unfold cSumBits; simp only [floatBits]; rw [show FloatKind.f64.format = Ieee.double from rfl, hr, hs]; rfl), ir, is⟩
set_option maxHeartbeats 1000000 in
theorem over_any (most : Int) (w : World) (g : Nat) (gb : Option Nat) (L : List P2) (h : Rw w g gb L) :
    Calls Try.prog 36 #[.pointer (some ⟨g, 0, none⟩), .int .i64 most] w fun e w' => (∃ n : Nat, e = .returned (.int .i64 n) ∧ OverSays L most n) ∧ w = w' := by
  obtain ⟨v, a, b, xs, h1, h2, h3, h4, h5⟩ := h.lies
  obtain ⟨ao, cap, rfl, hc, hsome⟩ := h2.make
  have c0 := h1.cell (i := 0) rfl
  have c1 := h1.cell (i := 1) rfl
  obtain ⟨N, hN⟩ : ∃ N, L.length = N := ⟨_, rfl⟩
  rw [hN] at c0 h2 hc hsome
  have HH := Lib.hid h
  have HS := Lib.hid h2
  have H5 := Lib.hid h5
  have HN := Lib.hid hN
  have HM := Lib.hid hsome
  have H34 := Lib.hid (And.intro h3 h4)
  have hfew : N ≤ 4096 := by have := h.few; omega
  clear h h1 h2 h3 h4 h5 hsome hN
  go_enter Try.func36, Try.ntmps36
  go_wp2_with fail
  go_loop [5, 19] (fun sv iv => ∃ (k x y : Nat), k ≤ N ∧ iv = .int .i64 k ∧ sv = .complex .f64 x y ∧ Fl.Is x (tot (L.drop k)).1 ∧ Fl.Is y (tot (L.drop k)).2 ∧ ∀ j, j < k → most < (tot (L.drop j)).2) (fun _ iv => N - (intOf iv).toNat)
  case atStart => exact ⟨0, a, b, Nat.zero_le _, rfl, rfl, H34.out.1, H34.out.2, fun j hj => absurd hj (by omega)⟩
  case round =>
    obtain ⟨k, x, y, hk, rfl, rfl, hx, hy, hall⟩ := hrel
    have HA := Lib.hid hall
    clear hall
    by_cases hlt : k < N
    · obtain ⟨B, q, rfl, -⟩ := HM.out (by omega)
      obtain ⟨o, ho⟩ : ∃ o, L[k]? = some o := ⟨_, List.getElem?_eq_getElem (by rw [HN.out]; omega)⟩
      obtain ⟨x0, hx0, x1, y1, rfl, ix1, iy1⟩ := H5.out k o ho
      have cx := HS.out.cell rfl k _ hx0
      have hbt := tot_drop_le L k HH.out.ok HH.out.few
      have hok := HH.out.ok o (List.mem_of_getElem? ho)
      unfold Ok at hok
      obtain ⟨r, s, hsub, ir, is⟩ := complex_sub hx hy ix1 iy1 (by omega) (by omega)
      have hd := tot_drop ho
      have e1 : sub2 (tot (L.drop k)) o = tot (L.drop (k + 1)) := by rw [hd]; simp only [sub2, add2]; ext <;> simp <;> omega
      rw [e1] at ir is
      obtain ⟨z, hz⟩ : ∃ z, (tot (L.drop k)).2 = z := ⟨_, rfl⟩
      rw [hz] at hy hbt
      have hcv : ∀ w, (convert 85 3 (.float .f64 y)).run Try.prog w = .ok (.int .i64 z) w := fun w => run_convert_float_int w _ _ _ _ _ _ (by rw [Try.underlying85]; rfl) Try.underlying3 (Fl.toIntVal_is hy (by omega))
      have HI := Lib.hid (And.intro ir is)
      have HZ := Lib.hid hz
      clear ho hx0 ix1 iy1 hbt hok hx hy ir is hd e1 hz
      by_cases hm : z ≤ most
      · go_wp2_with fail
        go_ret
        refine ⟨⟨k, rfl, fun hL => ?_, fun _ => ⟨by rw [HN.out]; exact hlt, .inl (by rw [HZ.out]; exact hm)⟩, HA.out⟩, rfl⟩
        have := HN.out
        rw [hL] at this
        simp at this
        omega
      · go_wp2_with fail
        go_round
        case rel =>
          refine ⟨k + 1, r, s, by omega, by go_num, rfl, HI.out.1, HI.out.2, fun j hj => ?_⟩
          rcases Nat.lt_or_ge j k with h | h
          · exact HA.out j h
          · obtain rfl : j = k := by omega
            rw [HZ.out]; omega
        case measure => simp [intOf]; omega
    · obtain rfl : k = N := by omega
      clear hx hy
      by_cases h0 : k = 0
      · subst h0
        go_wp2_with fail
        go_ret
        refine ⟨⟨0, rfl, fun _ => rfl, fun hL => absurd (List.length_eq_zero_iff.1 HN.out) hL, fun j hj => absurd hj (by omega)⟩, rfl⟩
      · obtain ⟨m, rfl⟩ : ∃ m, k = m + 1 := ⟨k - 1, by omega⟩
        go_wp2_with fail
        go_ret
        refine ⟨⟨m, rfl, fun hL => ?_, fun _ => ⟨by rw [HN.out]; omega, .inr (by rw [HN.out])⟩, fun j hj => HA.out j (by omega)⟩, rfl⟩
        have := HN.out
        rw [hL] at this
        simp at this
end Go.Proofs.Ytfapigccdbpepaa
