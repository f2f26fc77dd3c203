/- The walk of the law FrameRest. -/
import Derived.Test.YtddlkagcdlgllaaAwake
namespace Go.Proofs.Ytddlkagcdlgllaa
open Go.RowKit

set_option maxHeartbeats 1000000 in
theorem rest_any (s : ByteArray) (w : World) :
    Calls Try.prog 8 #[.string s] w fun e w' => e = .returned (.bool true) ∧ Below w.heap.size w w' := by
  by_cases hs : 16384 < s.size
  · go_enter Try.func8, Try.ntmps8
    go_wp2_with fail
    refine (awake_any _).mono ?_
    rintro e w1 ⟨rfl, b1⟩
    go_wp2_with fail
    go_ret
    exact ⟨rfl, b1⟩
  · have u0 := U_nonneg (Pl.sum s.data.toList)
    have C1 := fun w => sum_any s w (by omega)
    have C2 : ∀ wx, Calls Try.prog 13 #[.string (s ++ ⟨#[UInt8.ofNat (U (Pl.sum s.data.toList) % 256).toNat, UInt8.ofNat (U (Pl.sum s.data.toList) / 256 % 256).toNat, UInt8.ofNat (U (Pl.sum s.data.toList) / 65536 % 256).toNat, UInt8.ofNat (U (Pl.sum s.data.toList) / 16777216 % 256).toNat]⟩)] wx fun e w' => e = .returned (.int .u32 558161692) ∧ wx = w' := fun wx => by
      rw [le_of_U]
      have h := sum_any (s ++ ⟨(Pl.le (Pl.sum s.data.toList)).toArray⟩) wx (by rw [ByteArray.size_append]; show s.size + (Pl.le _).toArray.size ≤ _; simp [Pl.le]; omega)
      rw [Joins.data_append, Pl.sum_rest] at h
      exact h
    obtain ⟨v, hv⟩ : ∃ v, Pl.sum s.data.toList = v := ⟨_, rfl⟩
    rw [hv] at C1 C2 u0
    have HC1 := Lib.hid C1
    have HC2 := Lib.hid C2
    clear hv C1 C2
    go_enter Try.func8, Try.ntmps8
    go_wp2_with fail
    refine (awake_any _).mono ?_
    rintro e w1 ⟨rfl, b1⟩
    obtain ⟨c0, c1, c2, c3⟩ := cells_four w1 (.int .u8 (U v % 256)) (.int .u8 (U v / 256 % 256)) (.int .u8 (U v / 65536 % 256)) (.int .u8 (U v / 16777216 % 256)) 5
    have hcv := conv4 _ _ _ _ _ _ c0 c1 c2 c3
    have b2 := b1.alloc b1.size (.cells #[.int .u8 (U v % 256), .int .u8 (U v / 256 % 256), .int .u8 (U v / 65536 % 256), .int .u8 (U v / 16777216 % 256)] 5)
    clear c0 c1 c2 c3 b1
    go_wp2_with fail
    refine (HC1.out _).mono ?_
    rintro e w' ⟨rfl, rfl⟩
    go_wp2_with fail
    refine (HC2.out _).mono ?_
    rintro e w' ⟨rfl, rfl⟩
    go_wp2_with fail
    go_ret
    exact ⟨rfl, b2⟩
end Go.Proofs.Ytddlkagcdlgllaa
