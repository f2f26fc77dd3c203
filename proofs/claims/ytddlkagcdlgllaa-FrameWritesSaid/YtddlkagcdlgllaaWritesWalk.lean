/- The walk of the law FrameWrites. -/
import Derived.Test.YtddlkagcdlgllaaAwake
namespace Go.Proofs.Ytddlkagcdlgllaa
open Go.RowKit

set_option maxHeartbeats 1000000 in
theorem writes_any (s : ByteArray) (w : World) (hs : s.size ≤ 140737488355328) :
    Calls Try.prog 3 #[.string s] w fun e w' => e = .returned (.bool true) ∧ Below w.heap.size w w' := by
  have C1 := fun w => sum_any s w hs
  have C2 := fun w => rsum_any s w hs
  obtain ⟨v, hv⟩ : ∃ v, U (Pl.sum s.data.toList) = v := ⟨_, rfl⟩
  rw [hv] at C1 C2
  have HC1 := Lib.hid C1
  have HC2 := Lib.hid C2
  clear hv C1 C2
  by_cases hl : 16384 < s.size
  · go_enter Try.func3, Try.ntmps3
    go_wp2_with fail
    refine (awake_any _).mono ?_
    rintro e w1 ⟨rfl, b1⟩
    go_wp2_with fail
    refine (put_long s _ hl).mono ?_
    rintro e w' ⟨rfl, rfl⟩
    go_wp2_with fail
    refine (rput_long s _ hl).mono ?_
    rintro e w' ⟨rfl, rfl⟩
    go_wp2_with fail
    refine (HC1.out _).mono ?_
    rintro e w' ⟨rfl, rfl⟩
    go_wp2_with fail
    refine (HC2.out _).mono ?_
    rintro e w' ⟨rfl, rfl⟩
    go_wp2_with fail
    go_ret
    exact ⟨rfl, b1⟩
  · have P1 := fun w => put_fits s w (by omega)
    have P2 := fun w => rput_fits s w (by omega)
    obtain ⟨y, hy⟩ : ∃ y, (⟨(Pl.frame s.data.toList).toArray⟩ : ByteArray) = y := ⟨_, rfl⟩
    rw [hy] at P1 P2
    have HP1 := Lib.hid P1
    have HP2 := Lib.hid P2
    clear P1 P2 hy
    go_enter Try.func3, Try.ntmps3
    go_wp2_with fail
    refine (awake_any _).mono ?_
    rintro e w1 ⟨rfl, b1⟩
    go_wp2_with fail
    refine (HP1.out _).mono ?_
    rintro e w2 ⟨rfl, b2⟩
    have b12 := b1.trans (b2.mono b1.size)
    clear b1 b2
    go_wp2_with fail
    refine (HP2.out _).mono ?_
    rintro e w3 ⟨rfl, b3⟩
    have b13 := b12.trans (b3.mono b12.size)
    clear b12 b3
    go_wp2_with fail
    refine (HC1.out _).mono ?_
    rintro e w' ⟨rfl, rfl⟩
    go_wp2_with fail
    refine (HC2.out _).mono ?_
    rintro e w' ⟨rfl, rfl⟩
    go_wp2_with fail
    go_ret
    exact ⟨rfl, b13⟩
end Go.Proofs.Ytddlkagcdlgllaa
