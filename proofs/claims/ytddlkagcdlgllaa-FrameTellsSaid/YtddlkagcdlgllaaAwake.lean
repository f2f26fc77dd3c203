/- 'awake' answers true: the document's examples. -/
import Derived.Test.YtddlkagcdlgllaaSame
namespace Go.Proofs.Ytddlkagcdlgllaa
open Go.RowKit

theorem frame_none : Pl.frame [] = [0, 0, 0, 0, 0, 0, 0, 0] := by decide +kernel
theorem frame_ab : Pl.frame [97, 98] = [2, 0, 0, 0, 109, 72, 131, 158, 97, 98] := by decide +kernel
theorem sum_nine : Pl.sum [49, 50, 51, 52, 53, 54, 55, 56, 57] = 0xcbf43926#32 := by decide +kernel
theorem nx_ab : Pl.nx [2, 0, 0, 0, 109, 72, 131, 158, 97, 98] = ([97, 98], 0) := by
  have h := Pl.nx_frame [97, 98] [] (by decide)
  rw [frame_ab] at h
  exact h
theorem scan_ab : Pl.scan [0, 0, 0, 0, 0, 0, 0, 0, 2, 0, 0, 0, 109, 72, 131, 158, 97, 98, 120] = ([[], [97, 98]], 18) := by
  have h1 := Pl.scan_frame [] (Pl.frame [97, 98] ++ [120]) (by decide)
  rw [Pl.scan_frame [97, 98] [120] (by decide), Pl.scan_stop (l := [120]) (by rw [Pl.nx_few (by decide)]; decide), frame_none, frame_ab] at h1
  exact h1

set_option maxHeartbeats 1000000 in
theorem awake_any (w : World) :
    Calls Try.prog 10 #[] w fun e w' => e = .returned (.bool true) ∧ Below w.heap.size w w' := by
  have P0 := fun wx => put_fits ⟨#[]⟩ wx (by decide)
  have P1 := fun wx => put_fits ⟨#[97, 98]⟩ wx (by decide)
  rw [show Pl.frame (⟨#[]⟩ : ByteArray).data.toList = [0, 0, 0, 0, 0, 0, 0, 0] from frame_none] at P0
  rw [show Pl.frame (⟨#[97, 98]⟩ : ByteArray).data.toList = [2, 0, 0, 0, 109, 72, 131, 158, 97, 98] from frame_ab] at P1
  have HP0 := Lib.hid P0
  have HP1 := Lib.hid P1
  have N : ∀ wx, Calls Try.prog 15 #[.string (⟨#[0, 0, 0, 0, 0, 0, 0, 0]⟩ ++ ⟨#[2, 0, 0, 0, 109, 72, 131, 158, 97, 98]⟩), .int .i64 8] wx fun e w' => e = .returned (.tuple #[.string ⟨#[97, 98]⟩, .int .i64 18, .int .i64 0]) ∧ Below wx.heap.size wx w' := fun wx => by
    have h := next_at (⟨#[0, 0, 0, 0, 0, 0, 0, 0]⟩ ++ ⟨#[2, 0, 0, 0, 109, 72, 131, 158, 97, 98]⟩) 8 wx (by decide) (by decide)
    have e : Pl.nx ((⟨#[0, 0, 0, 0, 0, 0, 0, 0]⟩ ++ ⟨#[2, 0, 0, 0, 109, 72, 131, 158, 97, 98]⟩ : ByteArray).data.toList.drop 8) = ([97, 98], 0) := nx_ab
    rw [res_ok (by decide) (by rw [e]), e] at h
    exact h
  have HN := Lib.hid N
  have S := fun wx => scan_any (⟨#[0, 0, 0, 0, 0, 0, 0, 0]⟩ ++ ⟨#[2, 0, 0, 0, 109, 72, 131, 158, 97, 98]⟩ ++ ⟨#[120]⟩) wx (by decide)
  have HS := Lib.hid S
  have C := fun wx => sum_any ⟨#[49, 50, 51, 52, 53, 54, 55, 56, 57]⟩ wx (by decide)
  rw [show U (Pl.sum (⟨#[49, 50, 51, 52, 53, 54, 55, 56, 57]⟩ : ByteArray).data.toList) = 3421780262 from congrArg U sum_nine] at C
  have HC := Lib.hid C
  clear P0 P1 N S C
  go_enter Try.func10, Try.ntmps10
  go_wp2_with fail
  refine (HP0.out _).mono ?_
  rintro e w1 ⟨rfl, b1⟩
  go_wp2_with fail
  refine (HP1.out _).mono ?_
  rintro e w2 ⟨rfl, b2⟩
  have b12 := b1.trans (b2.mono b1.size)
  clear b1 b2
  go_wp2_with fail
  with_reducible refine (HN.out _).mono ?_
  rintro e w3 ⟨rfl, b3⟩
  have b13 := b12.trans (b3.mono b12.size)
  clear b12 b3
  go_wp2_with fail
  with_reducible refine (HS.out _).mono ?_
  rintro e w4 ⟨v, rfl, ho, b4⟩
  have b14 := b13.trans (b4.mono b13.size)
  rw [show Pl.scan (⟨#[0, 0, 0, 0, 0, 0, 0, 0]⟩ ++ ⟨#[2, 0, 0, 0, 109, 72, 131, 158, 97, 98]⟩ ++ ⟨#[120]⟩ : ByteArray).data.toList = ([[], [97, 98]], 18) from scan_ab] at ho ⊢
  obtain ⟨a, cap, rfl, -⟩ := readable_own (ls := [[], [97, 98]]) ho
  clear b13 b4 ho
  go_wp2_with fail
  with_reducible refine (HC.out _).mono ?_
  rintro e w' ⟨rfl, rfl⟩
  go_wp2_with fail
  go_ret
  exact ⟨rfl, b14⟩
end Go.Proofs.Ytddlkagcdlgllaa
