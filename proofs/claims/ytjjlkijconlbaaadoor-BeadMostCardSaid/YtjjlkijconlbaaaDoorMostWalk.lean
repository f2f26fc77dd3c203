/- The walk of the law BeadMost. -/
import Derived.Test.YtjjlkijconlbaaaDoorAwake
namespace Go.Proofs.YtjjlkijconlbaaaDoor
open Go.RowKit

theorem text_fit (t : List UInt8) (most : Int) (h : (t.length : Int) ≤ most) (hb : (t.length : Int) ≤ 9223372036854775807) : St.text most ⟨Pl.wText t, false⟩ = (t, ⟨[], false⟩) := by
  have := Pl.rText_w t most h hb []
  rw [List.append_nil] at this
  simp [St.text, this]
theorem text_long (t : List UInt8) (most : Int) (h : most < (t.length : Int)) (hb : (t.length : Int) ≤ 9223372036854775807) : St.text most ⟨Pl.wText t, false⟩ = ([], ⟨Pl.wText t, true⟩) := by
  have := Pl.rText_long t most h hb []
  rw [List.append_nil] at this
  simp [St.text, this]
theorem wText_len (t : List UInt8) (hb : (t.length : Int) ≤ 9223372036854775807) : (Pl.wText t).length ≤ t.length + 22 := by
  have := Lib.itoa_length_le t.length (by omega) hb
  simp [Pl.wText]
  omega

set_option maxHeartbeats 1000000 in
theorem most_any (s : ByteArray) (most : Int) (w : World) (hl : Lb w) :
    Calls Tryd.prog 10 #[.string s, .int .i64 most] w fun e w' => e = .returned (.bool true) ∧ Below w.heap.size w w' := by
  by_cases hs : 4096 < s.size
  · go_enter Tryd.func10, Tryd.ntmps10
    go_wp2_with fail
    refine (awake_any _ hl).mono ?_
    rintro e w1 ⟨rfl, b1⟩
    go_wp2_with fail
    go_ret
    exact ⟨rfl, b1⟩
  · have hlen : s.data.toList.length = s.size := (Lib.size_eq s).symm
    have hw := wText_len s.data.toList (by omega)
    have HW := Lib.hid (show (Pl.wText s.data.toList).length ≤ 281474976710656 by omega)
    have HF := Lib.hid (fun h => text_fit s.data.toList most h (by omega))
    have HG := Lib.hid (fun h => text_long s.data.toList most h (by omega))
    have HL := Lib.hid hlen
    clear hlen hw
    by_cases hm : (s.size : Int) ≤ most
    · go_enter Tryd.func10, Tryd.ntmps10
      go_wp2_with fail
      refine (awake_any _ hl).mono ?_
      rintro e w1 ⟨rfl, b1⟩
      have hl1 := hl.below hl.size b1
      go_wp2_with fail
      refine (bead_text s (by omega) _ hl1).mono ?_
      rintro e w2 ⟨rfl, b2⟩
      have b12 := b1.trans (b2.mono b1.size)
      have hl2 := hl.below hl.size b12
      clear b1 b2 hl1
      go_wp2_with fail
      refine (rd_new _ _).mono ?_
      rintro e w3 ⟨rfl, r3, b3⟩
      have b13 := b12.trans (b3.mono b12.size)
      have hl3 := hl.below hl.size b13
      have hB := hl2.size
      have hW := b12.size
      clear b12 b3 hl2
      obtain ⟨b, hb⟩ : ∃ b, w2.heap.size = b := ⟨_, rfl⟩
      rw [hb] at r3 hB hW ⊢
      clear hb
      go_wp2_with fail
      have C := rd_text b _ most w3 hl3 r3 HW.out
      rw [HF.out (by rw [HL.out]; exact hm)] at C
      refine C.mono ?_
      clear C
      rintro e w4 ⟨rfl, r4, b4⟩
      have b14 := b13.trans (b4.below hW r3.lt)
      clear b13 b4 hl3 r3
      rw [← ofList_eq s _ rfl]
      go_wp2_with fail
      refine (rd_done _ _ _ r4).mono ?_
      rintro e w' ⟨rfl, rfl⟩
      go_wp2_with fail
      go_ret
      exact ⟨rfl, b14⟩
    · go_enter Tryd.func10, Tryd.ntmps10
      go_wp2_with fail
      refine (awake_any _ hl).mono ?_
      rintro e w1 ⟨rfl, b1⟩
      have hl1 := hl.below hl.size b1
      go_wp2_with fail
      refine (bead_text s (by omega) _ hl1).mono ?_
      rintro e w2 ⟨rfl, b2⟩
      have b12 := b1.trans (b2.mono b1.size)
      have hl2 := hl.below hl.size b12
      clear b1 b2 hl1
      go_wp2_with fail
      refine (rd_new _ _).mono ?_
      rintro e w3 ⟨rfl, r3, b3⟩
      have b13 := b12.trans (b3.mono b12.size)
      have hl3 := hl.below hl.size b13
      have hB := hl2.size
      have hW := b12.size
      clear b12 b3 hl2
      obtain ⟨b, hb⟩ : ∃ b, w2.heap.size = b := ⟨_, rfl⟩
      rw [hb] at r3 hB hW ⊢
      clear hb
      go_wp2_with fail
      have C := rd_text b _ most w3 hl3 r3 HW.out
      rw [HG.out (by rw [HL.out]; omega)] at C
      refine C.mono ?_
      clear C
      rintro e w4 ⟨rfl, r4, b4⟩
      have b14 := b13.trans (b4.below hW r3.lt)
      clear b13 b4 hl3 r3
      go_wp2_with fail
      refine (rd_done _ _ _ r4).mono ?_
      rintro e w' ⟨rfl, rfl⟩
      go_wp2_with fail
      go_ret
      exact ⟨rfl, b14⟩
end Go.Proofs.YtjjlkijconlbaaaDoor
