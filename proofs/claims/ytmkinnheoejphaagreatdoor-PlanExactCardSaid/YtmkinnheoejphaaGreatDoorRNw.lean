/- THE DOCUMENT'S New. -/
import Derived.Test.YtmkinnheoejphaaGreatDoorRLw
import Derived.Deep.RegionLaw
namespace Go.Proofs.YtmkinnheoejphaaGreatDoor
open Go.RowKit

theorem rnew_ret {W : World} {rb : Nat} {a0 a1 a2 a3 n : Value} {tmps : Array Value} (hb : Blk W rb #[a0, a1, a2, a3] 25) (h2 : tmps.getD 2 undef = .pointer (some ⟨rb, 0, none⟩)) (h3 : tmps.getD 3 undef = n) :
    (results Tryz.f10 tmps).run Tryz.prog W = .ok (.tuple #[.agg #[a0, a1, a2, a3], n]) W := by
  obtain ⟨d, hd, hs⟩ := undPlan
  rw [results_cell_tmp (p := 2) (u := 3) (ty := 25) rfl, h2, h3]
  have hl := run_loadVar_row (P := Tryz.prog) W rb 25 25 #[a0, a1, a2, a3] (0, 0) d hb hd (by cases d <;> exact hs) sizePlan
  simp [asAddr, hl]
set_option maxHeartbeats 4000000 in
set_option maxRecDepth 100000 in
theorem rnew_any (n cl m c sg kp hz rm : Int) (w : World) : Calls Tryz.prog 10 #[.agg #[.int .i64 n, .int .i64 cl, .int .i64 m, .int .i64 c, .int .i64 sg, .int .i64 kp, .int .i64 hz, .int .i64 rm]] w fun e w' => NewOut w n c m e w' := by
  obtain ⟨W1, hW1⟩ : ∃ W, w.alloc (.cells #[.int .i64 n, .int .i64 cl, .int .i64 m, .int .i64 c, .int .i64 sg, .int .i64 kp, .int .i64 hz, .int .i64 rm] 29) = W := ⟨_, rfl⟩
  obtain ⟨W2, hW2⟩ : ∃ W, W1.alloc (.cells #[.int .i64 0, .int .i64 0, .slice none 0 0, .slice none 0 0] 25) = W := ⟨_, rfl⟩
  have hb1 : Below w.heap.size w W1 := by rw [← hW1]; exact (Below.refl _ _).alloc (Nat.le_refl _) _
  have hb12 : Below W1.heap.size W1 W2 := by rw [← hW2]; exact (Below.refl _ _).alloc (Nat.le_refl _) _
  have k1 : Blk W1 w.heap.size #[.int .i64 n, .int .i64 cl, .int .i64 m, .int .i64 c, .int .i64 sg, .int .i64 kp, .int .i64 hz, .int .i64 rm] 29 := by rw [← hW1]; exact Blk.new _ _ _
  have k2 : Blk W2 W1.heap.size #[.int .i64 0, .int .i64 0, .slice none 0 0, .slice none 0 0] 25 := by rw [← hW2]; exact Blk.new _ _ _
  have k1' := k1.below hb12
  have hb2 := hb1.trans (hb12.mono hb1.size)
  obtain ⟨D, hD⟩ : ∃ D, Pn.layB n c m = D := ⟨_, rfl⟩
  have HLO := Lib.hid (lay_or n c m D hD)
  have HD := Lib.hid hD
  have HNW : Hid (∀ e w', (Below w.heap.size w w' ∧ ∃ pv, e = .returned (.tuple #[pv, .int .i64 (if D = true then 0 else 1)]) ∧ PlO w.heap.size w' pv (if D = true then Pn.new n c m else Pn.zeroP)) → NewOut w n c m e w') := Lib.hid fun e w' h => by
    unfold NewOut
    rw [hD]
    exact h
  have HK1 := Lib.hid k1'
  have HK2 := Lib.hid k2
  have HB2 := Lib.hid hb2
  have HLT : Hid (w.heap.size < W1.heap.size ∧ W1.heap.size < W2.heap.size) := Lib.hid ⟨k1.lt, k2.lt⟩
  have c0 : W2.cell? ⟨w.heap.size, 0, none⟩ = some (.int .i64 n) := k1'.cell rfl
  have c2 : W2.cell? ⟨w.heap.size, 2, none⟩ = some (.int .i64 m) := k1'.cell rfl
  have c3 : W2.cell? ⟨w.heap.size, 3, none⟩ = some (.int .i64 c) := k1'.cell rfl
  obtain ⟨y0, y1, y2, y3⟩ := k2.cells4
  obtain ⟨z0, z1, z2, z3⟩ := k2.free4
  clear hb1 hb12 k1 k2 k1' hb2 hD
  go_enter Tryz.func10, Tryz.ntmps10
  cases D with
  | false =>
    rcases HLO.out.2 rfl with h1 | ⟨h1, h2⟩ | ⟨h1, h2, h3⟩ | ⟨h1, h2, h3, h4⟩ | ⟨h1, h2, h3, h4, h5⟩ | ⟨h1, h2, h3, h4, h5, h6⟩
    · skip
      go_wp2_with fail
      have hk := four_kb W2 W1.heap.size (.int .i64 0) (.int .i64 0) (.slice none 0 0) (.slice none 0 0)
      refine bodyPost_ret (rnew_ret (HK2.out.four _ _ _ _) rfl rfl) rfl (HNW.out _ _ ⟨HB2.out.trans (hk.below (by have := HLT.out; omega) HK2.out.lt), _, rfl, fun _ => .no, _, _, rfl, PsO.nil _ _ _, LvO.nil _ _ _⟩)
    · skip
      go_wp2_with fail
      have hk := four_kb W2 W1.heap.size (.int .i64 0) (.int .i64 0) (.slice none 0 0) (.slice none 0 0)
      refine bodyPost_ret (rnew_ret (HK2.out.four _ _ _ _) rfl rfl) rfl (HNW.out _ _ ⟨HB2.out.trans (hk.below (by have := HLT.out; omega) HK2.out.lt), _, rfl, fun _ => .no, _, _, rfl, PsO.nil _ _ _, LvO.nil _ _ _⟩)
    · skip
      go_wp2_with fail
      have hk := four_kb W2 W1.heap.size (.int .i64 0) (.int .i64 0) (.slice none 0 0) (.slice none 0 0)
      refine bodyPost_ret (rnew_ret (HK2.out.four _ _ _ _) rfl rfl) rfl (HNW.out _ _ ⟨HB2.out.trans (hk.below (by have := HLT.out; omega) HK2.out.lt), _, rfl, fun _ => .no, _, _, rfl, PsO.nil _ _ _, LvO.nil _ _ _⟩)
    · skip
      go_wp2_with fail
      have hk := four_kb W2 W1.heap.size (.int .i64 0) (.int .i64 0) (.slice none 0 0) (.slice none 0 0)
      refine bodyPost_ret (rnew_ret (HK2.out.four _ _ _ _) rfl rfl) rfl (HNW.out _ _ ⟨HB2.out.trans (hk.below (by have := HLT.out; omega) HK2.out.lt), _, rfl, fun _ => .no, _, _, rfl, PsO.nil _ _ _, LvO.nil _ _ _⟩)
    · skip
      go_wp2_with fail
      have hk := four_kb W2 W1.heap.size (.int .i64 0) (.int .i64 0) (.slice none 0 0) (.slice none 0 0)
      refine bodyPost_ret (rnew_ret (HK2.out.four _ _ _ _) rfl rfl) rfl (HNW.out _ _ ⟨HB2.out.trans (hk.below (by have := HLT.out; omega) HK2.out.lt), _, rfl, fun _ => .no, _, _, rfl, PsO.nil _ _ _, LvO.nil _ _ _⟩)
    · skip
      go_wp2_with fail
      have hk := four_kb W2 W1.heap.size (.int .i64 0) (.int .i64 0) (.slice none 0 0) (.slice none 0 0)
      refine bodyPost_ret (rnew_ret (HK2.out.four _ _ _ _) rfl rfl) rfl (HNW.out _ _ ⟨HB2.out.trans (hk.below (by have := HLT.out; omega) HK2.out.lt), _, rfl, fun _ => .no, _, _, rfl, PsO.nil _ _ _, LvO.nil _ _ _⟩)
  | true =>
  have hlay : 1 ≤ n ∧ n ≤ 5 ∧ 1 ≤ c ∧ c ≤ n ∧ 2 ≤ m ∧ m ≤ 4 := by
    have := HD.out
    unfold Pn.layB at this
    simp only [Bool.and_eq_true, decide_eq_true_eq] at this
    omega
  obtain ⟨hn1, hn5, hc1, hcn, hm2, hm4⟩ := hlay
  obtain ⟨q1, q2, q3, q4, q5, q6⟩ := HLO.out.1 rfl
  clear HLO
  obtain ⟨mm, rfl⟩ : ∃ mm : Nat, m = mm := ⟨m.toNat, by omega⟩
  have HNEW : Hid ((Pn.new n c (mm : Int)) = ⟨n, c, Pn.newI n c mm, []⟩) := Lib.hid rfl
  obtain ⟨W3, hW3⟩ : ∃ W, W2.alloc (.cells #[.int .i64 n, .int .i64 c, .slice none 0 0, .slice none 0 0] 25) = W := ⟨_, rfl⟩
  have hb3 : Below W2.heap.size W2 W3 := by rw [← hW3]; exact (Below.refl _ _).alloc (Nat.le_refl _) _
  have k3 : Blk W3 W2.heap.size #[.int .i64 n, .int .i64 c, .slice none 0 0, .slice none 0 0] 25 := by rw [← hW3]; exact Blk.new _ _ _
  have hst : NSt w W1 W2 W3 n c 0 (fun _ => .no) none 0 none [] #[.int .i64 n, .int .i64 cl, .int .i64 (mm : Int), .int .i64 c, .int .i64 sg, .int .i64 kp, .int .i64 hz, .int .i64 rm] W3 := ⟨HB2.out.trans (hb3.mono HB2.out.size), Nat.le_refl _, rfl, ⟨Wz.nil _ _ _ _, (fun b e => by cases e), (fun k e he => by simp at he)⟩, HK1.out.below hb3, HK2.out.below hb3, k3⟩
  have HST := Lib.hid hst
  have HLT3 : Hid (w.heap.size < W1.heap.size ∧ W1.heap.size < W2.heap.size ∧ W2.heap.size < W3.heap.size) := Lib.hid ⟨HLT.out.1, HLT.out.2, k3.lt⟩
  have HW3 := Lib.hid hW3
  have c2' : W3.cell? ⟨w.heap.size, 2, none⟩ = some (.int .i64 (mm : Int)) := hst.k1.cell rfl
  clear hW3 hb3 k3 hst
  go_upto_region 4 with fail
  rw [HW3.out]
  clear HW3 c0 c2 c3 y0 y1 y2 y3 z0 z1 z2 z3
  go_wp2_with fail
  go_loopw [5] (fun s22 wx => ∃ (i : Nat) (lab : Lab) (a : Option Addr) (k : Nat) (gb : Option Nat) (E : List PE), i ≤ mm ∧ s22 = .int .i64 i ∧ NSt w W1 W2 W3 n c i lab a k gb E #[.int .i64 n, .int .i64 cl, .int .i64 (mm : Int), .int .i64 c, .int .i64 sg, .int .i64 kp, .int .i64 hz, .int .i64 rm] wx) (fun s22 _ => mm - (intOf s22).toNat)
  case atStart => exact ⟨0, _, none, 0, none, [], Nat.zero_le _, rfl, HST.out⟩
  case round =>
    obtain ⟨i, lab, a, k, gb, E, hi, rfl, hst⟩ := hrel
    have HS := Lib.hid hst
    by_cases hlt : i < mm
    · have i1 : (i : Int) < (mm : Int) := by omega
      have i0 : (0 : Int) ≤ (i : Int) := by omega
      obtain ⟨d0, d1, d2, d3⟩ := hst.k3.cells4
      have g0 : wr.cell? ⟨w.heap.size, 0, none⟩ = some (.int .i64 n) := hst.k1.cell rfl
      have gm : wr.cell? ⟨w.heap.size, 2, none⟩ = some (.int .i64 (mm : Int)) := hst.k1.cell rfl
      have gc : wr.cell? ⟨w.heap.size, 3, none⟩ = some (.int .i64 c) := hst.k1.cell rfl
      have HFI : Hid (∀ wx, Below wr.heap.size wr wx → Calls Tryz.prog 36 #[.int .i64 (i : Int), .int .i64 n, .int .i64 c] wx fun e w' => FisOut wx (Pn.ch0 n c (i : Int)) e w') := Lib.hid fun wx _ => (place_any' n c (i : Int) wx hn1 hn5 (by omega) (by omega) (by omega) (by omega)).mono fun e w' h => first_spelt h
      obtain ⟨CH, hCH⟩ : ∃ CH, Pn.ch0 n c (i : Int) = CH := ⟨_, rfl⟩
      have HCH := Lib.hid hCH
      obtain ⟨cn, hcn⟩ : ∃ cn, CH.length = cn := ⟨_, rfl⟩
      have HCN := Lib.hid hcn
      have HEL : Hid (E.length = i) := Lib.hid (by have := congrArg List.length hst.xs; rw [List.length_map, Pn.newI_len] at this; exact this)
      have HROW : Hid (∀ wx, Below wr.heap.size wr wx → Sl wx (.slice a i k) gb 49 3 i (E.flatMap PE.cells)) := Lib.hid fun wx hb => by
        have := (hst.row.1.below hb).1
        rw [HEL.out] at this
        exact this
      have HD2 : Hid (∀ wx, Below wr.heap.size wr wx → wx.cell? ⟨W2.heap.size, 2, none⟩ = some (.slice a i k)) := Lib.hid fun wx hb => (hst.k3.below hb).cell rfl
      rw [hCH] at HFI
      have HX0 := Lib.hid (Below.refl wr.heap.size wr)
      obtain ⟨ip, hip, i1p, i2p, i3p, i4p⟩ := infoPart
      clear hst hCH hcn
      go_upto_region 7 with fail
      go_region_law (first
        | (go_simp; go_at_call 36; refine (HFI.out _ (by first | exact HX0.out | exact HX0.out.drew)).mono ?_; rintro e wA ⟨hA, ca, ck, cb, rfl, hc⟩; have HA := Lib.hid (show Below wr.heap.size wr wA from (by first | exact hA | exact HX0.out.drew.trans hA)); have HC := Lib.hid (show NsO wr.heap.size wA _ cb CH from hc); have g2 := HD2.out wA HA.out; have g3 := HD2.out (wA.alloc (.cells #[.int .i64 1, .slice ca CH.length ck, .int .i64 0] 49)) (HA.out.alloc HA.out.size _); have HAB := Lib.hid (show Below wr.heap.size wr (wA.alloc (.cells #[.int .i64 1, .slice ca CH.length ck, .int .i64 0] 49)) from HA.out.alloc HA.out.size _); have HSR := Lib.hid (fun wx (hb : Below (wA.alloc (.cells #[.int .i64 1, .slice ca CH.length ck, .int .i64 0] 49)).heap.size (wA.alloc (.cells #[.int .i64 1, .slice ca CH.length ck, .int .i64 0] 49)) wx) => Rds.below (Rds.lit (w := wA) (n := 1) (size := 3) (cs := [.int .i64 1, .slice ca CH.length ck, .int .i64 0]) 49 rfl) hb); clear hA hc)
        | (refine step_append_rd (by rfl) _ _ _ (by rfl) 49 ip _ 3 40 Tryz.underlying22 hip i1p i2p i3p i4p _ gb i (E.flatMap PE.cells) (by rfl) (HROW.out _ (by first | exact HAB.out | exact HAB.out.drew)) _ 1 [.int .i64 1, .slice ca CH.length ck, .int .i64 0] (by rfl) (HSR.out _ (by first | exact Below.refl _ _ | exact (Below.refl _ _).drew)) (by simp [Value.oneCell']) (by omega) (by omega) ?_; intro v' w' gb' h1 h2 h3; obtain ⟨a', k', lab', E', rfl, ⟨g4, g5⟩, hF⟩ := HS.out.step HLT3.out HA.out (show NsO wr.heap.size wA _ cb (Pn.ch0 n c (i : Int)) by rw [HCH.out]; exact HC.out) (by first | exact (Below.refl _ _).alloc (Nat.le_refl _) (.cells #[.int .i64 1, .slice ca CH.length ck, .int .i64 0] 49) | exact ((Below.refl _ _).alloc (Nat.le_refl _) (.cells #[.int .i64 1, .slice ca CH.length ck, .int .i64 0] 49)).drew) h1 h2 h3; have HF := Lib.hid hF; clear h1 h2 h3 hF)
        | fail)
      all_goals
        go_wp2_with fail
        go_roundw
        case rel => exact ⟨i + 1, lab', a', k', gb', E', by omega, by go_num, HF.out⟩
        case measure => simp [intOf]; omega
    · obtain rfl : i = mm := by omega
      have gm : wr.cell? ⟨w.heap.size, 2, none⟩ = some (.int .i64 (i : Int)) := hst.k1.cell rfl
      obtain ⟨x0, x1, x2, x3⟩ := hst.k3.cells4
      obtain ⟨y0, y1, y2, y3⟩ := hst.k2.cells4
      obtain ⟨z0, z1, z2, z3⟩ := hst.k2.free4
      have HF := Lib.hid (hst.k2.four (.int .i64 n) (.int .i64 c) (.slice a i k) (.slice none 0 0))
      clear hst
      go_wp2_with fail
      have hk := four_kb wr W1.heap.size (.int .i64 n) (.int .i64 c) (.slice a i k) (.slice none 0 0)
      have hlt := HLT3.out
      refine bodyPost_ret (rnew_ret HF.out rfl rfl) rfl (HNW.out _ _ ⟨HS.out.low.trans (hk.below (by omega) HS.out.k2.lt), _, rfl, ?_⟩)
      rw [if_pos trivial, HNEW.out]
      refine ⟨lab, .slice a i k, .slice none 0 0, rfl, ⟨gb, E, HS.out.xs, (HS.out.row.keep fun b hl hb _ => ⟨hk.block b hl (by omega), rfl⟩).mono (by omega)⟩, LvO.nil _ _ _⟩
end Go.Proofs.YtmkinnheoejphaaGreatDoor
