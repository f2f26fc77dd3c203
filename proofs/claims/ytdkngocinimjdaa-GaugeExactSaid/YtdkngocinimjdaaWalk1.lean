/- THE CONTRACTS OF math.Trunc, gauge.isPart, gauge.isSize, gauge.Parts, at every number. -/
import Derived.Test.YtdkngocinimjdaaProg
import Derived.Test.YtdkngocinimjdaaFloat
import Derived.WalkKit
import Derived.WalkSpells
import Derived.WalkLawsBesides
import Derived.Handy
import Derived.Outline
import Derived.Lib.Hide
import Derived.Laws.Externs
namespace Go.Proofs.Ytdkngocinimjdaa
open Go.RowKit

theorem arch_trunc (x : Nat) (w : World) (h : ∀ s t, Ieee.double.read x ≠ Ieee.Datum.nan s t) : (callFunc 33 #[.float .f64 x]).run Try.prog w = .ok (.value (.float .f64 (Fl.tr x))) w := by
  rw [run_callFunc_extern Try.func33 (by kernel_rfl) (by kernel_rfl) (by kernel_rfl) (e := Extern.MathFloor.toIntegral "math.archTrunc" .zero) (by kernel_rfl)]
  have : (Extern.MathFloor.toIntegral "math.archTrunc" .zero #[.float .f64 x]).run Try.prog w = .ok (.float .f64 (Fl.tr x)) w := by
    unfold Extern.MathFloor.toIntegral
    show Sem.run _ (match FloatKind.f64.decode x with | .nan s t => _ | d => _) w = _
    have e : FloatKind.f64.decode x = Ieee.double.read x := rfl
    split
    · rename_i s t hs
      exact absurd (e ▸ hs) (h s t)
    · rfl
  rw [this]
  rfl

theorem trunc_any (x : Nat) (w : World) (h : ∀ s t, Ieee.double.read x ≠ Ieee.Datum.nan s t) :
    Calls Try.prog 32 #[.float .f64 x] w fun e w' => e = .returned (.float .f64 (Fl.tr x)) ∧ w = w' := by
  have hd := fun w => arch_trunc x w h
  clear h
  go_enter Try.func32, Try.ntmps32
  go_wp2
  go_ret
  exact ⟨rfl, rfl⟩

theorem is_zero : Fl.Is 0 0 := ⟨false, 0, 0, by decide, by rw [Fl.signed_zero, Int.zero_mul]⟩
theorem is_top : Fl.Is 4787326403894837248 1099511627776 := Fl.ofInt_is (z := 1099511627776) (by decide)

theorem order_at {x y : Nat} {a b : Int} {o : Ordering} (hx : Fl.U x a) (hy : Fl.U y b) (h : compare a b = o) : FloatKind.f64.format.order x y = some o := by
  rw [← h]; exact Fl.order_U hx hy
theorem cmp_lt {a b : Int} (h : a < b) : compare a b = .lt := by simp [compare, compareOfLessAndEq, h]
theorem cmp_gt {a b : Int} (h : b < a) : compare a b = .gt := by
  have h1 : ¬ a < b := by omega
  have h2 : ¬ a = b := by omega
  simp [compare, compareOfLessAndEq, h1, h2]
theorem cmp_eq {a b : Int} (h : a = b) : compare a b = .eq := by subst h; simp [compare, compareOfLessAndEq]

/-- Which words are parts. -/
theorem part_any (x : Nat) (w : World) :
    Calls Try.prog 31 #[.float .f64 x] w fun e w' => e = .returned (.bool (Fl.part x).isSome) ∧ w = w' := by
  rcases Fl.read_kind x with ⟨u, hu⟩ | ⟨s, hs⟩ | ⟨s, t, hs⟩
  · obtain ⟨q, hq⟩ : ∃ q : Int, q = 2 ^ 1074 := ⟨_, rfl⟩
    have hq0 : 0 < q := by rw [hq]; exact Fl.pow_pos_int _
    have z0 : Fl.U 0 0 := by have := is_zero; unfold Fl.Is at this; rwa [Int.zero_mul] at this
    have t0 : Fl.U 4787326403894837248 (1099511627776 * q) := by rw [hq]; exact is_top
    have hT : ∀ w, Calls Try.prog 32 #[.float .f64 x] w fun e w' => e = .returned (.float .f64 (Fl.tr x)) ∧ w = w' := fun w => trunc_any x w (fun s t hs => by obtain ⟨_, _, _, hr, _⟩ := hu; rw [hr] at hs; cases hs)
    have HT := Lib.hid hT
    rw [Fl.part_U hq hu]
    by_cases c0 : 0 ≤ u
    · have o0 : FloatKind.f64.format.order 0 x = some .lt ∨ FloatKind.f64.format.order 0 x = some .eq := by
        by_cases h : u = 0
        · exact .inr (order_at z0 hu (cmp_eq h.symm))
        · exact .inl (order_at z0 hu (cmp_lt (by omega)))
      have b0 : ((FloatKind.f64.format.order 0 x == some .lt) || (FloatKind.f64.format.order 0 x == some .eq)) = true := by
        rcases o0 with h | h <;> rw [h] <;> rfl
      by_cases c1 : u ≤ 1099511627776 * q
      · have o1 : FloatKind.f64.format.order x 4787326403894837248 = some .lt ∨ FloatKind.f64.format.order x 4787326403894837248 = some .eq := by
          by_cases h : u = 1099511627776 * q
          · exact .inr (order_at hu t0 (cmp_eq h))
          · exact .inl (order_at hu t0 (cmp_lt (by omega)))
        have b1 : ((FloatKind.f64.format.order x 4787326403894837248 == some .lt) || (FloatKind.f64.format.order x 4787326403894837248 == some .eq)) = true := by
          rcases o1 with h | h <;> rw [h] <;> rfl
        have hdiv : u / q ≤ 1099511627776 := by
          have := Int.ediv_le_ediv hq0 c1
          rwa [Int.mul_ediv_cancel _ (Int.ne_of_gt hq0)] at this
        have ht := Fl.tr_is hq hu c0 (by omega)
        have ht' : Fl.U (Fl.tr x) (u / q * q) := by rw [hq]; rw [hq] at ht; exact ht
        have e1 : (if 0 ≤ u ∧ u ≤ 2 ^ 40 * q ∧ u % q = 0 then some (u / q).toNat else none).isSome = (FloatKind.f64.format.order x (Fl.tr x) == some .eq) := by
          have hm := Int.mul_ediv_add_emod u q
          rw [Int.mul_comm] at hm
          by_cases h : u % q = 0
          · rw [if_pos ⟨c0, c1, h⟩, order_at hu ht' (cmp_eq (by omega))]; rfl
          · have := Int.emod_nonneg u (Int.ne_of_gt hq0)
            rw [if_neg (fun hc => h hc.2.2), order_at hu ht' (cmp_gt (by omega))]; rfl
        rw [e1]
        clear hT e1 ht ht' hdiv o0 o1 c0 c1 z0 t0 hu hq hq0
        generalize Fl.tr x = y at *
        go_enter Try.func31, Try.ntmps31
        go_wp2_with fail
        refine (HT.out _).mono ?_
        rintro e w' ⟨rfl, rfl⟩
        go_wp2_with fail
        go_ret
        exact ⟨by simp, rfl⟩
      · have b1 : ((FloatKind.f64.format.order x 4787326403894837248 == some .lt) || (FloatKind.f64.format.order x 4787326403894837248 == some .eq)) = false := by
          rw [order_at hu t0 (cmp_gt (by omega))]; rfl
        rw [if_neg (fun hc => c1 hc.2.1)]
        clear hT HT o0 c0 c1 z0 t0 hu hq hq0
        go_enter Try.func31, Try.ntmps31
        go_wp2_with fail
        go_ret
        exact ⟨by simp, rfl⟩
    · have b0 : ((FloatKind.f64.format.order 0 x == some .lt) || (FloatKind.f64.format.order 0 x == some .eq)) = false := by
        rw [order_at z0 hu (cmp_gt (by omega))]; rfl
      rw [if_neg (fun hc => c0 hc.1)]
      clear hT HT c0 z0 t0 hu hq hq0
      go_enter Try.func31, Try.ntmps31
      go_wp2_with fail
      go_ret
      exact ⟨by simp, rfl⟩
  · rw [Fl.part_inf hs]
    have r0 : Ieee.double.read 0 = Ieee.Datum.number false 0 (-1074) := by decide
    have rt : Ieee.double.read 4787326403894837248 = Ieee.Datum.number false 4503599627370496 (-12) := by decide
    have o0 : FloatKind.f64.format.order 0 x = some (if s then .gt else .lt) := by
      show (Ieee.double.read 0).order (Ieee.double.read x) = _; rw [hs, r0]; rfl
    have o1 : FloatKind.f64.format.order x 4787326403894837248 = some (if s then .lt else .gt) := by
      show (Ieee.double.read x).order (Ieee.double.read _) = _; rw [hs, rt]; rfl
    cases s
    · have b0 : ((FloatKind.f64.format.order 0 x == some .lt) || (FloatKind.f64.format.order 0 x == some .eq)) = true := by rw [o0]; rfl
      have b1 : ((FloatKind.f64.format.order x 4787326403894837248 == some .lt) || (FloatKind.f64.format.order x 4787326403894837248 == some .eq)) = false := by rw [o1]; rfl
      clear o0 o1 r0 rt hs
      go_enter Try.func31, Try.ntmps31
      go_wp2_with fail
      go_ret
      exact ⟨by simp, rfl⟩
    · have b0 : ((FloatKind.f64.format.order 0 x == some .lt) || (FloatKind.f64.format.order 0 x == some .eq)) = false := by rw [o0]; rfl
      clear o0 o1 r0 rt hs
      go_enter Try.func31, Try.ntmps31
      go_wp2_with fail
      go_ret
      exact ⟨by simp, rfl⟩
  · rw [Fl.part_nan hs]
    have o0 : FloatKind.f64.format.order 0 x = none := by
      show (Ieee.double.read 0).order (Ieee.double.read x) = _; rw [hs]; cases Ieee.double.read 0 <;> rfl
    have b0 : ((FloatKind.f64.format.order 0 x == some .lt) || (FloatKind.f64.format.order 0 x == some .eq)) = false := by rw [o0]; rfl
    clear o0 hs
    go_enter Try.func31, Try.ntmps31
    go_wp2_with fail
    go_ret
    exact ⟨by simp, rfl⟩
end Go.Proofs.Ytdkngocinimjdaa
