/- THE CONTRACTS OF gauge's New, Parts, Len, Sum, Push. -/
import Derived.Test.YtdkngocinimjdaaRep
import Derived.ScopeJumps
import Derived.BigRegion
import Derived.RegionTactic
import Derived.Carry
namespace Go.Proofs.Ytdkngocinimjdaa
open Go.RowKit
attribute [local go_sem] run_store_complex

/-- isSize: both are parts. -/
theorem size_any (x y : Nat) (w : World) :
    Calls Try.prog 28 #[.complex .f64 x y] w fun e w' => e = .returned (.bool ((Fl.part x).isSome && (Fl.part y).isSome)) ∧ w = w' := by
  have hX := Lib.hid (part_any x)
  have hY := Lib.hid (part_any y)
  rcases hx : (Fl.part x).isSome with _ | _
  · rw [hx] at hX
    clear hx
    go_enter Try.func28, Try.ntmps28
    go_wp2_with fail
    refine (hX.out _).mono ?_
    rintro e w' ⟨rfl, rfl⟩
    go_wp2_with fail
    go_ret
    exact ⟨rfl, rfl⟩
  · rw [hx] at hX
    rcases hy : (Fl.part y).isSome with _ | _ <;> rw [hy] at hY <;> clear hx hy
    all_goals
      go_enter Try.func28, Try.ntmps28
      go_wp2_with fail
      refine (hX.out _).mono ?_
      rintro e w' ⟨rfl, rfl⟩
      go_wp2_with fail
      refine (hY.out _).mono ?_
      rintro e w' ⟨rfl, rfl⟩
      go_wp2_with fail
      go_ret
      exact ⟨rfl, rfl⟩

theorem parts_ok (x y : Nat) (m n : Nat) (hx : Fl.part x = some m) (hy : Fl.part y = some n) (w : World) :
    Calls Try.prog 21 #[.complex .f64 x y] w fun e w' => e = .returned (.tuple #[.int .i64 m, .int .i64 n]) ∧ w = w' := by
  obtain ⟨ix, bx⟩ := Fl.part_is hx
  obtain ⟨iy, bY⟩ := Fl.part_is hy
  have hz := size_any x y
  rw [hx, hy] at hz
  have HZ := Lib.hid hz
  have e1 : ∀ w, (convert 30 3 (.float .f64 x)).run Try.prog w = .ok (.int .i64 m) w := fun w => run_convert_float_int w _ _ _ _ _ _ (by rw [Try.underlying30]; rfl) Try.underlying3 (Fl.toIntVal_is ix (by omega))
  have e2 : ∀ w, (convert 30 3 (.float .f64 y)).run Try.prog w = .ok (.int .i64 n) w := fun w => run_convert_float_int w _ _ _ _ _ _ (by rw [Try.underlying30]; rfl) Try.underlying3 (Fl.toIntVal_is iy (by omega))
  clear hz hx hy ix iy bx bY
  go_enter Try.func21, Try.ntmps21
  go_wp2_with fail
  refine (HZ.out _).mono ?_
  rintro e w' ⟨rfl, rfl⟩
  go_wp2_with fail
  go_ret2
  exact ⟨rfl, rfl⟩
theorem parts_no (x y : Nat) (h : Fl.part x = none ∨ Fl.part y = none) (w : World) :
    Calls Try.prog 21 #[.complex .f64 x y] w fun e w' => e = .returned (.tuple #[.int .i64 0, .int .i64 0]) ∧ w = w' := by
  have hz := size_any x y
  have e : ((Fl.part x).isSome && (Fl.part y).isSome) = false := by
    rcases h with h | h <;> rw [h] <;> simp
  rw [e] at hz
  have HZ := Lib.hid hz
  clear hz e h
  go_enter Try.func21, Try.ntmps21
  go_wp2_with fail
  refine (HZ.out _).mono ?_
  rintro e w' ⟨rfl, rfl⟩
  go_wp2_with fail
  go_ret2
  exact ⟨rfl, rfl⟩

theorem new_any (w : World) :
    Calls Try.prog 10 #[] w fun e w' => e = .returned (.pointer (some ⟨w.heap.size, 0, none⟩)) ∧ Below w.heap.size w w' ∧ Rw w' w.heap.size none [] := by
  go_enter Try.func10, Try.ntmps10
  go_wp2
  go_ret
  refine ⟨rfl, (Below.refl _ _).alloc (Nat.le_refl _) _, fun p hp => by simp at hp, by simp, by simp, _, _, _, [], Blk.new _ _ _, ⟨rfl, .inl ⟨rfl, rfl, rfl⟩⟩, is_zero, is_zero, fun j p hj => by simp at hj⟩

theorem len_any (w : World) (g : Nat) (gb : Option Nat) (L : List P2) (h : Rw w g gb L) :
    Calls Try.prog 22 #[.pointer (some ⟨g, 0, none⟩)] w fun e w' => e = .returned (.int .i64 L.length) ∧ w = w' := by
  obtain ⟨v, a, b, xs, h1, h2, h3⟩ := h.lies
  obtain ⟨ao, cap, rfl, hc, -⟩ := h2.make
  have c0 := h1.cell (i := 0) rfl
  clear h h1 h2 h3
  go_enter Try.func22, Try.ntmps22
  go_wp2
  go_ret
  exact ⟨rfl, rfl⟩
theorem len_nil (w : World) :
    Calls Try.prog 22 #[.pointer none] w fun e w' => e = .returned (.int .i64 0) ∧ w = w' := by
  go_enter Try.func22, Try.ntmps22
  go_wp2
  go_ret
  exact ⟨rfl, rfl⟩

theorem sum_any (w : World) (g : Nat) (gb : Option Nat) (L : List P2) (h : Rw w g gb L) :
    Calls Try.prog 23 #[.pointer (some ⟨g, 0, none⟩)] w fun e w' => (∃ v, e = .returned v ∧ CV v (tot L)) ∧ w = w' := by
  obtain ⟨v, a, b, xs, h1, h2, h3, h4, h5⟩ := h.lies
  have c1 := h1.cell (i := 1) rfl
  have H3 := Lib.hid h3
  have H4 := Lib.hid h4
  clear h h1 h2 h3 h4 h5
  go_enter Try.func23, Try.ntmps23
  go_wp2
  go_ret
  exact ⟨⟨_, rfl, a, b, rfl, H3.out, H4.out⟩, rfl⟩
theorem sum_nil (w : World) :
    Calls Try.prog 23 #[.pointer none] w fun e w' => e = .returned (.complex .f64 0 0) ∧ w = w' := by
  go_enter Try.func23, Try.ntmps23
  go_wp2
  go_ret
  exact ⟨rfl, rfl⟩

theorem push_nil (x y : Nat) (w : World) :
    Calls Try.prog 11 #[.pointer none, .complex .f64 x y] w fun e w' => e = .returned (.int .i64 2) ∧ w = w' := by
  go_enter Try.func11, Try.ntmps11
  go_wp2
  go_ret
  exact ⟨rfl, rfl⟩

theorem push_no (x y : Nat) (w : World) (g : Nat) (gb : Option Nat) (L : List P2) (h : Rw w g gb L) (hno : Fl.part x = none ∨ Fl.part y = none ∨ L.length = 4096) :
    Calls Try.prog 11 #[.pointer (some ⟨g, 0, none⟩), .complex .f64 x y] w fun e w' => e = .returned (.int .i64 1) ∧ w = w' := by
  obtain ⟨v, a, b, xs, h1, h2, h3⟩ := h.lies
  obtain ⟨ao, cap, rfl, hc, -⟩ := h2.make
  have c0 := h1.cell (i := 0) rfl
  have hz := size_any x y
  obtain ⟨z, hz'⟩ : ∃ z, ((Fl.part x).isSome && (Fl.part y).isSome) = z := ⟨_, rfl⟩
  have hn : z = true → (L.length : Int) = 4096 := by
    intro hz1
    subst hz1
    rcases hno with h | h | h
    · rw [h] at hz'; simp at hz'
    · rw [h] at hz'; simp at hz'
    · omega
  rw [hz'] at hz
  have HZ := Lib.hid hz
  clear h h1 h2 h3 hz hz' hno
  cases z
  · clear hn
    go_enter Try.func11, Try.ntmps11
    go_wp2_with fail
    refine (HZ.out _).mono ?_
    rintro e w' ⟨rfl, rfl⟩
    go_wp2_with fail
    go_ret
    exact ⟨rfl, rfl⟩
  · have hq := hn rfl
    clear hn
    go_enter Try.func11, Try.ntmps11
    go_wp2_with fail
    refine (HZ.out _).mono ?_
    rintro e w' ⟨rfl, rfl⟩
    go_wp2_with fail
    go_ret
    exact ⟨rfl, rfl⟩

set_option maxHeartbeats 1000000 in
theorem push_ok (x y m n : Nat) (w : World) (g : Nat) (gb : Option Nat) (L : List P2) (h : Rw w g gb L) (hx : Fl.part x = some m) (hy : Fl.part y = some n) (hl : L.length < 4096) :
    Calls Try.prog 11 #[.pointer (some ⟨g, 0, none⟩), .complex .f64 x y] w fun e w' => e = .returned (.int .i64 0) ∧ ∃ gb', Rw w' g gb' (L ++ [((m : Int), (n : Int))]) ∧ Kb2 (some g) gb w w' ∧ (gb' = gb ∨ ∃ k, gb' = some k ∧ w.heap.size ≤ k) := by
  obtain ⟨v, a, b, xs, h1, h2, h3, h4, h5⟩ := h.lies
  obtain ⟨ao, cap, rfl, hc, -⟩ := h2.make
  have c0 := h1.cell (i := 0) rfl
  obtain ⟨ix, bx⟩ := Fl.part_is hx
  obtain ⟨iy, bY⟩ := Fl.part_is hy
  have hz := size_any x y
  rw [hx, hy] at hz
  have HZ := Lib.hid hz
  have hb := tot_bound L h.ok
  obtain ⟨r, hr, ir⟩ := Fl.add_is h3 ix (by omega)
  obtain ⟨s, hs, is⟩ := Fl.add_is h4 iy (by omega)
  have hadd : ∀ w, (binOp .add 33 (.complex .f64 a b) (.complex .f64 x y)).run Try.prog w = .ok (.complex .f64 r s) w := fun w => run_complex_sum w .add (.inl rfl) _ _ _ _ _ _ _ _ (by unfold cSumBits; simp only [floatBits]; rw [show FloatKind.f64.format = Ieee.double from rfl, hr, hs]; rfl)
  have hq : ((L.length : Int) == 4096) = false := by simp; omega
  have HS := Lib.hid h2
  have H1 := Lib.hid h1
  have HW := Lib.hid h
  obtain ⟨i0, hi, hz0, hz1, hz2⟩ := infoC
  clear hz h1 h2 hx hy hb hr hs h
  go_enter Try.func11, Try.ntmps11
  go_wp2_with fail
  refine (HZ.out _).mono ?_
  rintro e w' ⟨rfl, rfl⟩
  go_wp2_with (at_builtin; refine wpList_append_sl _ rfl _ _ 62 rfl 33 i0 (.complex .f64 0 0) 1 16 Try.underlying62 hi hz0 hz1 hz2 rfl _ gb L.length xs rfl (HS.out.same (fun k hk => Below.heap_alloc _ _ _ (HS.out.lt k hk))) ⟨_, 0, none⟩ 1 1 [.complex .f64 x y] rfl rfl (cell_one_new _ _ _) (by simp [Value.oneCell']) (by omega) (by omega) (by omega) ?_)
  intro g1 p1 cap1 w1 gb' hown hgrow hgb hnew
  have hb1 : Blk w1 g #[Value.slice ao L.length cap, Value.complex FloatKind.f64 a b] 64 := (H1.out.alloc _).grown hgrow HW.out.ne
  have b2 := hb1.set (i := 0) (.slice (some ⟨g1, p1, none⟩) (L.length + 1) cap1)
  have hg1 : g ≠ g1 := by
    have hl := H1.out.lt
    rcases hnew with e | e
    · rintro rfl; exact HW.out.ne (by rw [← e, hgb])
    · omega
  have c0' := hb1.cell (i := 0) rfl
  have c1' := b2.cell (i := 1) rfl
  have f0' := hb1.free (i := 0)
  have f1' := hb1.free (i := 1)
  have HB2 := Lib.hid b2
  have HO := Lib.hid hown
  have HG := Lib.hid hgrow
  have HGB := Lib.hid hgb
  have HN := Lib.hid hnew
  have HI := Lib.hid (And.intro ir is)
  have H5 := Lib.hid h5
  clear hb1 b2 hown hgrow hgb hnew ir is h5 c0
  go_wp2_with fail
  go_ret
  have hk : Kb2 (some g) gb w ((w1.setCell ⟨g, 0, none⟩ (.slice (some ⟨g1, p1, none⟩) (L.length + 1) cap1)).setCell ⟨g, 1, none⟩ (.complex .f64 r s)) :=
    (((Kb2.alloc w _).trans (Kb2.of_grown HG.out)).trans (Kb2.setCell _ ⟨g, 0, none⟩ _ (.inl rfl))).trans (Kb2.setCell _ ⟨g, 1, none⟩ _ (.inl rfl))
  refine ⟨rfl, gb', ⟨?_, by simp; omega, by rw [HGB.out]; intro e; cases e; exact hg1 rfl, _, r, s, xs ++ [.complex .f64 x y], HB2.out.set (i := 1) (.complex .f64 r s), ?_, ?_, ?_, all_snoc (by have := HS.out.1; omega) H5.out ⟨x, y, rfl, ix, iy⟩⟩, hk, ?_⟩
  · intro p hp
    rcases List.mem_append.1 hp with hp | hp
    · exact HW.out.ok p hp
    · simp at hp; subst hp; exact ⟨by simp, by simp; omega, by simp, by simp; omega⟩
  · rw [List.length_append]
    have hne : some g ≠ gb' := by rw [HGB.out]; intro e; cases e; exact hg1 rfl
    exact (HO.out.setCell ⟨g, 0, none⟩ _ hne).setCell ⟨g, 1, none⟩ _ hne
  · rw [tot_snoc]; exact HI.out.1
  · rw [tot_snoc]; exact HI.out.2
  · rcases HN.out with e | e
    · exact .inl e
    · exact .inr ⟨g1, HGB.out, by omega⟩
end Go.Proofs.Ytdkngocinimjdaa
