/- 'awake' answers true. -/
import Derived.Test.YtloallndnmofnaaGreatDoorLs
import Derived.Deep.QuietTactic
import Derived.BigQuiet
namespace Go.Proofs.YtloallndnmofnaaGreatDoor
open Go.RowKit

namespace Ld
def awT : Nat → Tb
  | 0 => []
  | k + 1 => addT (awT k) 1 k (10 * k) 1
theorem aw_add : ∀ k, k < 7 → addE (awT k) 1 k (10 * k) = 0 := by decide +kernel
theorem aw_end : awT 7 = [(1, [⟨2, 20, 21⟩, ⟨3, 30, 31⟩, ⟨4, 40, 41⟩, ⟨5, 50, 51⟩, ⟨6, 60, 61⟩])] := by kernel_rfl
theorem aw_c1 : check (awT 7) 1 6 = (⟨6, 60, 61⟩, 13) := by kernel_rfl
theorem aw_c2 : check (awT 7) 1 1 = (⟨0, 0, 0⟩, 21) := by kernel_rfl
theorem aw_c3 : check (awT 7) 1 7 = (⟨0, 0, 0⟩, 0) := by kernel_rfl
theorem aw_c4 : check (awT 7) 1 8 = (⟨0, 0, 0⟩, 20) := by kernel_rfl
theorem aw_c5 : check (awT 7) 2 1 = (⟨0, 0, 0⟩, 20) := by kernel_rfl
end Ld

set_option maxHeartbeats 4000000 in
set_option maxRecDepth 100000 in
theorem awake_any (w : World) (lb : Lg w) :
    Calls Tryz.prog 4 #[] w fun e w' => e = .returned (.bool true) ∧ RowKit.Below w.heap.size w w' := by
  have h2 := lb.size
  have HN := Lib.hid (s_new w w (Below.refl _ _) lb)
  have H2 := Lib.hid h2
  clear lb h2
  go_enter Tryz.func4, Tryz.ntmps4
  go_wp2_with fail
  refine HN.out.mono ?_
  rintro e w1 ⟨rfl, hls, -⟩
  obtain ⟨rb, hrb⟩ : ∃ rb, w.heap.size = rb := ⟨_, rfl⟩
  have HL := Lib.hid hls
  rw [hrb] at HL ⊢
  clear hls
  go_wp2_with fail
  go_loopw [2] (fun iv wr => ∃ k : Nat, k ≤ 7 ∧ iv = .int .i64 k ∧ ∃ B, LS w wr rb B (Ld.awT k)) (fun iv _ => 7 - (intOf iv).toNat)
  case atStart => exact ⟨0, by omega, rfl, _, HL.out⟩
  case round =>
    obtain ⟨k, hk, rfl, B, hls⟩ := hrel
    have HLS := Lib.hid hls
    clear hls
    by_cases hlt : k < 7
    · go_wp2_with fail
      refine (dbatch _ _ _ _).mono ?_
      rintro e w2 ⟨g, rfl, hr, hb⟩
      have HAD := Lib.hid (s_add (prod := 1) (seq := (k : Int)) (base := 10 * (k : Int)) (HLS.out.below hb) H2.out hr (by decide) (Ld.numB_iff.2 ⟨by omega, by omega⟩) (by omega) (by omega))
      clear hr hb
      go_wp2_with fail
      refine HAD.out.mono ?_
      rintro e w3 ⟨rfl, B', hl, -⟩
      rw [Ld.aw_add k hlt, if_pos rfl] at hl
      have HL3 : Hid (LS w w3 rb B' (Ld.awT (k + 1))) := hl
      rw [Ld.aw_add k hlt]
      clear hl HAD
      go_wp2_with fail
      go_roundw
      case rel => exact ⟨k + 1, by omega, by go_num, B', HL3.out⟩
      case measure => simp [intOf]; omega
    · obtain rfl : k = 7 := by omega
      have HLS1 := HLS
      have HC1 := Lib.hid (s_check HLS1.out 1 6 6 60 61 13 Ld.aw_c1)
      go_wp2_with fail
      refine HC1.out.mono ?_
      rintro e v1 ⟨rfl, hb1⟩
      have hl1 := HLS1.out.below hb1
      have ha1 : RowKit.Below v1.heap.size v1 (v1.alloc (.cells #[.int .i64 6, .int .i64 60, .int .i64 61] 40)) := (Below.refl _ _).alloc (Nat.le_refl _) _
      have HLS2 := Lib.hid (hl1.below ha1)
      have HX1 := Lib.hid (Blk.new v1 #[.int .i64 6, .int .i64 60, .int .i64 61] 40)
      clear hb1 hl1 ha1
      have HC2 := Lib.hid (s_check HLS2.out 1 1 0 0 0 21 Ld.aw_c2)
      go_wp2_with fail
      refine HC2.out.mono ?_
      rintro e v2 ⟨rfl, hb2⟩
      have hl2 := HLS2.out.below hb2
      have ha2 : RowKit.Below v2.heap.size v2 (v2.alloc (.cells #[.int .i64 0, .int .i64 0, .int .i64 0] 40)) := (Below.refl _ _).alloc (Nat.le_refl _) _
      have HLS3 := Lib.hid (hl2.below ha2)
      have HX2 := Lib.hid ((HX1.out.below hb2).below ha2)
      clear hb2 hl2 ha2
      have HC3 := Lib.hid (s_check HLS3.out 1 7 0 0 0 0 Ld.aw_c3)
      go_wp2_with fail
      refine HC3.out.mono ?_
      rintro e v3 ⟨rfl, hb3⟩
      have hl3 := HLS3.out.below hb3
      have ha3 : RowKit.Below v3.heap.size v3 (v3.alloc (.cells #[.int .i64 0, .int .i64 0, .int .i64 0] 40)) := (Below.refl _ _).alloc (Nat.le_refl _) _
      have HLS4 := Lib.hid (hl3.below ha3)
      have HX3 := Lib.hid ((HX2.out.below hb3).below ha3)
      clear hb3 hl3 ha3
      have HC4 := Lib.hid (s_check HLS4.out 1 8 0 0 0 20 Ld.aw_c4)
      go_wp2_with fail
      refine HC4.out.mono ?_
      rintro e v4 ⟨rfl, hb4⟩
      have hl4 := HLS4.out.below hb4
      have ha4 : RowKit.Below v4.heap.size v4 (v4.alloc (.cells #[.int .i64 0, .int .i64 0, .int .i64 0] 40)) := (Below.refl _ _).alloc (Nat.le_refl _) _
      have HLS5 := Lib.hid (hl4.below ha4)
      have HX4 := Lib.hid ((HX3.out.below hb4).below ha4)
      clear hb4 hl4 ha4
      have HC5 := Lib.hid (s_check HLS5.out 2 1 0 0 0 20 Ld.aw_c5)
      go_wp2_with fail
      refine HC5.out.mono ?_
      rintro e v5 ⟨rfl, hb5⟩
      have hl5 := HLS5.out.below hb5
      have ha5 : RowKit.Below v5.heap.size v5 (v5.alloc (.cells #[.int .i64 0, .int .i64 0, .int .i64 0] 40)) := (Below.refl _ _).alloc (Nat.le_refl _) _
      have HLS6 := Lib.hid (hl5.below ha5)
      have HX5 := Lib.hid ((HX4.out.below hb5).below ha5)
      clear hb5 hl5 ha5
      have HT := Lib.hid (s_table HLS6.out)
      go_wp2_with fail
      refine HT.out.mono ?_
      rintro e v6 ⟨tv, tb, E, rfl, hown, hE, -, hb6⟩
      have htab := hown.tab (fun _ => True) (fun _ _ => trivial)
      rw [hE, Ld.aw_end] at htab
      obtain ⟨a, cap, rfl, hc⟩ := htab
      obtain ⟨b, off, sv, rfl, -, c0, c1, a2, cap2, rfl, -⟩ := hc 0 _ rfl
      rw [Nat.zero_mul, Nat.add_zero] at c1
      have x0 := (HX5.out.below hb6).cell (i := 0) rfl
      have x1 := (HX5.out.below hb6).cell (i := 1) rfl
      have x2 := (HX5.out.below hb6).cell (i := 2) rfl
      have HB6 := Lib.hid (HLS6.out.low.trans (hb6.mono HLS6.out.low.size))
      clear hb6 hown hc c0 hE HT HC1 HC2 HC3 HC4 HC5
      go_wp2_with fail
      go_ret
      exact ⟨rfl, HB6.out⟩
end Go.Proofs.YtloallndnmofnaaGreatDoor
