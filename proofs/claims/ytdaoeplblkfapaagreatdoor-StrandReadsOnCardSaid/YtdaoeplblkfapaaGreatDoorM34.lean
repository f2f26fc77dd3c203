import Derived.Test.YtdaoeplblkfapaaGreatDoorM33
import Derived.Deep.RegionHeld3

/- The walk of the law StrandReadsOn. -/
namespace Go.Proofs.YtdaoeplblkfapaaGreatDoor
open Go.RowKit

set_option maxRecDepth 100000 in
set_option maxHeartbeats 8000000 in
theorem readsOn_any (seg : Int) (v : Value) (zs : List Ac) (step : Int) (w : World) (lb : Lb w) (h : Acts w.heap.size w v zs) :
    Calls Tryz.prog 6 #[.int .i64 seg, v, .int .i64 step] w fun e w' => e = .returned (.bool true) ∧ Below w.heap.size w w' := by
  obtain ⟨va, vc, hv⟩ : ∃ a c, v = .slice a zs.length c := let ⟨a, c, e, _⟩ := h.lies; ⟨a, c, e⟩
  subst hv
  obtain ⟨N, hN⟩ : ∃ N, zs.length = N := ⟨_, rfl⟩
  have HA := Lib.hid (awake_any w lb)
  have HLB := Lib.hid lb
  have HAC := Lib.hid h
  have HN := Lib.hid hN
  rw [hN]
  clear lb h hN
  go_enter Tryz.func6, Tryz.ntmps6
  go_wp2_with fail
  refine HA.out.mono ?_
  rintro e w1 ⟨rfl, hb1⟩
  have HAC1 := Lib.hid (HAC.out.below hb1)
  have HB1 := Lib.hid hb1
  have HGR := Lib.hid (great_any _ zs w1 HAC1.out)
  rw [HN.out] at HGR
  clear hb1 HA
  go_wp2_with fail
  refine HGR.out.mono ?_
  rintro e w1b ⟨gr, rfl, hwe, hok⟩
  have hwe' : _ = _ := hwe
  subst hwe'
  clear hwe HGR
  cases gr with
  | true =>
    go_wp2_with fail
    go_ret
    exact ⟨rfl, HB1.out⟩
  | false =>
    have HOK := Lib.hid (hok rfl)
    clear hok
    have HOP := Lib.hid (opened_any seg w1b HLB.out HB1.out)
    go_wp2_with fail
    refine HOP.out.mono ?_
    rintro e w2 ⟨t, s, rfl, ho⟩
    have HO := Lib.hid ho
    clear ho HOP
    obtain ⟨sf0, hp0, -⟩ := HO.out.pwr
    have hp1 := Pwr.below hp0 ((Below.refl _ w2).alloc (Nat.le_refl _) (.cells #[] 75))
    have HP1 := Lib.hid (Pwr.mono hp1 (Q' := fun k => w2.heap.size ≤ k) fun k _ hk => .inr hk)
    have HS1 := Lib.hid (Sl.empty w2 75 4)
    have hle : w.heap.size ≤ w2.heap.size := HO.out.low.size
    clear hp0 hp1
    go_wp2_with fail
    go_loopw [9, 10] (fun wv iv wr => ∃ (i : Nat) (G : List Sg) (sf : Nat) (Q : Nat → Prop) (gb : Option Nat), i ≤ N ∧ i ≤ 60 ∧ iv = .int .i64 i ∧ Pwr w t s (enL seg) (1 + i) 0 G sf Q true wr ∧ (∀ k, gb = some k → Q k ∧ w.heap.size ≤ k) ∧ Sl wr wv gb 75 4 (rcs (fla G)).length ((rcs (fla G)).flatMap cells4)) (fun _ iv _ => 60 - (intOf iv).toNat)
    case atStart => exact ⟨0, [], sf0, _, some w2.heap.size, Nat.zero_le _, by omega, rfl, HP1.out, fun k hk => (by cases hk; exact ⟨Nat.le_refl _, hle⟩), HS1.out⟩
    case round =>
      obtain ⟨i, G, sf, Q, gb, hi, hi60, rfl, hP, hgb, hW⟩ := hrel
      obtain ⟨va', vc', hwv⟩ := hW.form
      subst hwv
      have HOi := Lib.hid hP
      have HGB := Lib.hid hgb
      have HW := Lib.hid hW
      clear hP hgb hW
      obtain ⟨cnd, hcnd⟩ : ∃ cnd, decide (i < N ∧ i < 60) = cnd := ⟨_, rfl⟩
      have HCND := Lib.hid hcnd
      clear hcnd
      go_upto_region 10 with fail
      go_cut [37] (fun s37 wx => s37 = .bool cnd ∧ Eqw wr wx)
      case first =>
        by_cases hlN : i < N
        · have hdl : decide ((i : Int) < (N : Int)) = true := by simp; omega
          by_cases hl60 : i < 60
          · have hd60 : decide ((i : Int) < 60) = true := by simp; omega
            have hd60' : decide (i < 60) = true := by simp; omega
            have hct : cnd = true := by rw [← HCND.out]; simp; omega
            subst hct
            go_wp2_with fail
            go_meet
            case rel => exact ⟨rfl, rfl⟩
          · have hd60 : decide ((i : Int) < 60) = false := by simp; omega
            have hd60' : decide (i < 60) = false := by simp; omega
            have hct : cnd = false := by rw [← HCND.out]; simp; omega
            subst hct
            go_wp2_with fail
            go_meet
            case rel => exact ⟨rfl, rfl⟩
        · have hdl : decide ((i : Int) < (N : Int)) = false := by simp; omega
          have hct : cnd = false := by rw [← HCND.out]; simp; omega
          subst hct
          go_wp2_with fail
          go_meet
          case rel => exact ⟨rfl, rfl⟩
      case rest =>
      obtain ⟨rfl, hwx⟩ := hcut
      have hwx' : wr = wc := (show wc = wr from hwx).symm
      subst hwx'
      clear hwx
      cases cnd with
      | true =>
        have hlt := of_decide_eq_true HCND.out
        obtain ⟨hlN, hl60⟩ := hlt
        obtain ⟨x, hx⟩ : ∃ x, zs[i]? = some x := ⟨_, List.getElem?_eq_getElem (by rw [HN.out]; exact hlN)⟩
        have hox := HOK.out i x hl60 hx
        obtain ⟨b, o, cap, hve, hbl, hcell, hin⟩ := act_box (HAC.out.below HOi.out.low) hx
        have hnext := fun (en : Int) (wx : World) (h : AcIn w.heap.size wx { x with nx := true }) => next_any { x with nx := true } rfl en wx h hox.1
        have hin2 : AcIn w.heap.size wr { x with nx := true } := ⟨hin.recs, hin.less, hin.fates, hin.old⟩
        obtain ⟨ra, rc, hrv⟩ := hin.recs.slice
        obtain ⟨la, lc, hlv, -⟩ := hin.less
        obtain ⟨fa, fc, hfv, -⟩ := hin.fates
        have hrl := hox.1
        obtain ⟨kind, ⟨base, count, prod, seq, time, recs⟩, rv, nx, n, less, lv, fates, fv, name⟩ := x
        simp only at hrv hlv hfv hrl hnext hin2
        subst hrv hlv hfv
        obtain ⟨rl, hrle⟩ : ∃ rl, recs.length = rl := ⟨_, rfl⟩
        obtain ⟨ll, hlle⟩ : ∃ ll, less.length = ll := ⟨_, rfl⟩
        obtain ⟨fl, hfle⟩ : ∃ fl, fates.length = fl := ⟨_, rfl⟩
        have c0 : wr.cell? ⟨b, o + i * 12, none⟩ = some (.int .i64 kind) := hcell 0 _ (by decide) rfl
        have c1 : wr.cell? ⟨b, o + i * 12 + 1, none⟩ = some (.int .i64 base) := hcell 1 _ (by decide) rfl
        have c2 : wr.cell? ⟨b, o + i * 12 + 2, none⟩ = some (.int .i64 count) := hcell 2 _ (by decide) rfl
        have c3 : wr.cell? ⟨b, o + i * 12 + 3, none⟩ = some (.int .i64 prod) := hcell 3 _ (by decide) rfl
        have c4 : wr.cell? ⟨b, o + i * 12 + 4, none⟩ = some (.int .i64 seq) := hcell 4 _ (by decide) rfl
        have c5 : wr.cell? ⟨b, o + i * 12 + 5, none⟩ = some (.int .i64 time) := hcell 5 _ (by decide) rfl
        have c6 : wr.cell? ⟨b, o + i * 12 + 6, none⟩ = some (.slice ra rl rc) := by rw [← hrle]; exact hcell 6 _ (by decide) rfl
        have c7 : wr.cell? ⟨b, o + i * 12 + 7, none⟩ = some (.bool nx) := hcell 7 _ (by decide) rfl
        have c8 : wr.cell? ⟨b, o + i * 12 + 8, none⟩ = some (.int .i64 n) := hcell 8 _ (by decide) rfl
        have c9 : wr.cell? ⟨b, o + i * 12 + 9, none⟩ = some (.slice la ll lc) := by rw [← hlle]; exact hcell 9 _ (by decide) rfl
        have c10 : wr.cell? ⟨b, o + i * 12 + 10, none⟩ = some (.slice fa fl fc) := by rw [← hfle]; exact hcell 10 _ (by decide) rfl
        have c11 : wr.cell? ⟨b, o + i * 12 + 11, none⟩ = some (.string name) := hcell 11 _ (by decide) rfl
        injection hve with hv1 hv2 hv3
        subst hv1
        clear hv2 hv3
        have i0 : (0 : Int) ≤ (i : Int) := by omega
        have i1 : (i : Int) < (N : Int) := by omega
        have HNX := Lib.hid hnext
        have HIN := Lib.hid hin2
        clear hcell hin hox hx hnext hin2
        have HRLE := Lib.hid (And.intro hrle (And.intro hlle hfle))
        obtain ⟨V, hV⟩ : ∃ V, wr.alloc (.cells #[.int .i64 kind, .int .i64 base, .int .i64 count, .int .i64 prod, .int .i64 seq, .int .i64 time, .slice ra rl rc, .bool true, .int .i64 n, .slice la ll lc, .slice fa fl fc, .string name] 37) = V := ⟨_, rfl⟩
        have hbV : Below wr.heap.size wr V := by rw [← hV]; exact (Below.refl _ _).alloc (Nat.le_refl _) _
        have hkV : Blk V wr.heap.size #[.int .i64 kind, .int .i64 base, .int .i64 count, .int .i64 prod, .int .i64 seq, .int .i64 time, .slice ra rl rc, .bool true, .int .i64 n, .slice la ll lc, .slice fa fl fc, .string name] 37 := by rw [← hV]; exact Blk.new _ _ _
        have HV := Lib.hid hV
        have HBV := Lib.hid hbV
        have k0 : V.cell? ⟨wr.heap.size, 0, none⟩ = some (.int .i64 kind) := hkV.cell rfl
        have k1 : V.cell? ⟨wr.heap.size, 1, none⟩ = some (.int .i64 base) := hkV.cell rfl
        have k2 : V.cell? ⟨wr.heap.size, 2, none⟩ = some (.int .i64 count) := hkV.cell rfl
        have k3 : V.cell? ⟨wr.heap.size, 3, none⟩ = some (.int .i64 prod) := hkV.cell rfl
        have k4 : V.cell? ⟨wr.heap.size, 4, none⟩ = some (.int .i64 seq) := hkV.cell rfl
        have k5 : V.cell? ⟨wr.heap.size, 5, none⟩ = some (.int .i64 time) := hkV.cell rfl
        have k6 : V.cell? ⟨wr.heap.size, 6, none⟩ = some (.slice ra rl rc) := hkV.cell rfl
        have k7 : V.cell? ⟨wr.heap.size, 7, none⟩ = some (.bool true) := hkV.cell rfl
        have k8 : V.cell? ⟨wr.heap.size, 8, none⟩ = some (.int .i64 n) := hkV.cell rfl
        have k9 : V.cell? ⟨wr.heap.size, 9, none⟩ = some (.slice la ll lc) := hkV.cell rfl
        have k10 : V.cell? ⟨wr.heap.size, 10, none⟩ = some (.slice fa fl fc) := hkV.cell rfl
        have k11 : V.cell? ⟨wr.heap.size, 11, none⟩ = some (.string name) := hkV.cell rfl
        obtain ⟨en, hen⟩ : ∃ en, gsEnd G = en := ⟨_, rfl⟩
        have HEN := Lib.hid hen
        have HBX : Hid (∀ W, Below V.heap.size V W → Blk W wr.heap.size #[.int .i64 kind, .int .i64 base, .int .i64 count, .int .i64 prod, .int .i64 seq, .int .i64 time, .slice ra rl rc, .bool true, .int .i64 n, .slice la ll lc, .slice fa fl fc, .string name] 37) := Lib.hid fun W hb => hkV.below hb
        have HS12 : Hid (∀ w', Below V.heap.size V w' → (w'.cell? ⟨wr.heap.size, 0, none⟩ = some (.int .i64 kind) ∧ w'.cell? ⟨wr.heap.size, 1, none⟩ = some (.int .i64 base) ∧ w'.cell? ⟨wr.heap.size, 2, none⟩ = some (.int .i64 count) ∧ w'.cell? ⟨wr.heap.size, 3, none⟩ = some (.int .i64 prod) ∧ w'.cell? ⟨wr.heap.size, 4, none⟩ = some (.int .i64 seq) ∧ w'.cell? ⟨wr.heap.size, 5, none⟩ = some (.int .i64 time) ∧ w'.cell? ⟨wr.heap.size, 6, none⟩ = some (.slice ra rl rc) ∧ w'.cell? ⟨wr.heap.size, 7, none⟩ = some (.bool true) ∧ w'.cell? ⟨wr.heap.size, 8, none⟩ = some (.int .i64 n) ∧ w'.cell? ⟨wr.heap.size, 9, none⟩ = some (.slice la ll lc) ∧ w'.cell? ⟨wr.heap.size, 10, none⟩ = some (.slice fa fl fc) ∧ w'.cell? ⟨wr.heap.size, 11, none⟩ = some (.string name))) := Lib.hid fun W hb => ⟨(hkV.below hb).cell rfl, (hkV.below hb).cell rfl, (hkV.below hb).cell rfl, (hkV.below hb).cell rfl, (hkV.below hb).cell rfl, (hkV.below hb).cell rfl, (hkV.below hb).cell rfl, (hkV.below hb).cell rfl, (hkV.below hb).cell rfl, (hkV.below hb).cell rfl, (hkV.below hb).cell rfl, (hkV.below hb).cell rfl⟩
        have HEV : Hid (∀ wx, Below V.heap.size V wx → Calls Tryz.prog 29 #[.pointer (some ⟨s, 0, none⟩)] wx fun e w' => e = .returned (.int .i64 en) ∧ Below V.heap.size V w' ∧ Below wx.heap.size wx w') := Lib.hid fun wx hbx => by
          have h := (HOi.out.below (hbV.trans (hbx.mono hbV.size))).end_
          rw [hen] at h
          exact h.mono fun _ _ ⟨h1, h2⟩ => ⟨h1, hbx.trans (h2.mono hbx.size), h2⟩
        have HNV : Hid (∀ w3, Below V.heap.size V w3 → Calls Tryz.prog 28 #[.agg #[.int .i64 kind, .int .i64 base, .int .i64 count, .int .i64 prod, .int .i64 seq, .int .i64 time, .slice ra rl rc, .bool true, .int .i64 n, .slice la ll lc, .slice fa fl fc, .string name], .int .i64 en] w3 fun e w' => ∃ xa xc, e = .returned (.agg #[.int .i64 en, .int .i64 count, .int .i64 prod, .int .i64 seq, .int .i64 time, .slice xa rl xc]) ∧ RcIn (fun k => w3.heap.size ≤ k) w' (.slice xa rl xc) (nxB ⟨base, count, prod, seq, time, recs⟩ en).recs ∧ Below V.heap.size V w' ∧ Below w3.heap.size w3 w') := Lib.hid fun w3 hb => by
          have := HNX.out en w3 (HIN.out.below (hbV.trans (hb.mono hbV.size)))
          unfold acells at this
          simp only at this
          rw [hrle, hlle, hfle] at this
          refine this.mono ?_
          rintro e' w' ⟨rv, h1, h2, h3⟩
          obtain ⟨xa, xc, hrv⟩ := h2.form
          rw [show (nxB ⟨base, count, prod, seq, time, recs⟩ en).recs.length = rl by rw [← hrle]; exact List.length_map _] at hrv
          subst hrv
          exact ⟨xa, xc, h1, h2, hb.trans (h3.mono hb.size), h3⟩
        have hB : Below V.heap.size V V.drew := (Below.refl _ _).drew
        have hne : wr.heap.size ≠ V.heap.size := Nat.ne_of_lt hkV.lt
        have HLT := Lib.hid hkV.lt
        clear hrle hlle hfle hV hbV hkV hen
        go_upto_region 14 with fail
        rw [HV.out]
        go_cut [12] (fun sy wx => ∃ y rv', sy = .pointer (some ⟨y, 0, none⟩) ∧ Nx V y (nxB ⟨base, count, prod, seq, time, recs⟩ en) rv' wx)
        case first =>
          go_region_held3 (fun w' => w'.cell? ⟨wr.heap.size, 0, none⟩ = some (.int .i64 kind) ∧ w'.cell? ⟨wr.heap.size, 1, none⟩ = some (.int .i64 base) ∧ w'.cell? ⟨wr.heap.size, 2, none⟩ = some (.int .i64 count) ∧ w'.cell? ⟨wr.heap.size, 3, none⟩ = some (.int .i64 prod) ∧ w'.cell? ⟨wr.heap.size, 4, none⟩ = some (.int .i64 seq) ∧ w'.cell? ⟨wr.heap.size, 5, none⟩ = some (.int .i64 time) ∧ w'.cell? ⟨wr.heap.size, 6, none⟩ = some (.slice ra rl rc) ∧ w'.cell? ⟨wr.heap.size, 7, none⟩ = some (.bool true) ∧ w'.cell? ⟨wr.heap.size, 8, none⟩ = some (.int .i64 n) ∧ w'.cell? ⟨wr.heap.size, 9, none⟩ = some (.slice la ll lc) ∧ w'.cell? ⟨wr.heap.size, 10, none⟩ = some (.slice fa fl fc) ∧ w'.cell? ⟨wr.heap.size, 11, none⟩ = some (.string name)) (first | with_reducible exact HS12.out _ hB | with_reducible exact HS12.out _ (hB.alloc hB.size _) | with_reducible exact HS12.out _ (((Below.refl V.heap.size V).alloc (Nat.le_refl _) _).drew) | with_reducible exact HS12.out _ (Below.six hB (Nat.le_refl _) _ _ _ _ _ _) | with_reducible exact HS12.out _ (Below.six hB h3s _ _ _ _ _ _) | fail)
            (first
              | (go_at_call 29; (first | with_reducible refine (HEV.out _ hB).mono ?_ | with_reducible refine (HEV.out _ (((Below.refl V.heap.size V).alloc (Nat.le_refl _) _).drew)).mono ?_); rintro e w3 ⟨rfl, hB, hb3⟩; have h3s := hB.size)
              | (go_at_call 28; (first | with_reducible refine (HNV.out _ hB).mono ?_ | with_reducible refine (HNV.out _ (hB.alloc hB.size _)).mono ?_); rintro e w4 ⟨xa, xc, rfl, hr4, hB, hb4⟩; (first | (have hz := box6 hb4; obtain ⟨y0, y1, y2, y3, y4, y5, g0, g1, g2, g3, g4, g5, hy⟩ := hz) | (have hz := box6 (Below.undrew (hb3.trans (hb4.mono hb3.size))); obtain ⟨y0, y1, y2, y3, y4, y5, g0, g1, g2, g3, g4, g5, hy⟩ := hz) | skip))
              | fail)
          · go_wp2_with fail
            go_meet
            case rel => exact ⟨_, _, rfl, Nx.fresh (b := nxB ⟨base, count, prod, seq, time, recs⟩ en) hB h3s hr4⟩
          · go_wp2_with fail
            go_meet
            case rel => exact ⟨_, _, rfl, Nx.old (b := nxB ⟨base, count, prod, seq, time, recs⟩ en) hB h3s hy (by simp) hr4⟩
          · go_wp2_with fail
            go_meet
            case rel => exact ⟨_, _, rfl, Nx.old (b := nxB ⟨base, count, prod, seq, time, recs⟩ en) hB (Nat.le_refl _) hy (by have := hb3.size; simp at this; omega) hr4⟩
        case rest =>
        obtain ⟨y, rv', rfl, hnx⟩ := hcut
        obtain ⟨hn1, hn2, hn3, hn4⟩ := hnx
        obtain ⟨xa, xc, hrv⟩ := hn4.form
        rw [show (nxB ⟨base, count, prod, seq, time, recs⟩ en).recs.length = rl by rw [← HRLE.out.1]; exact List.length_map _] at hrv
        subst hrv
        have hbw : Below wr.heap.size wr wc := HBV.out.trans (hn2.mono HBV.out.size)
        have hyc := hn3.lt
        have hpw := HOi.out.below hbw
        have hrcI : RcIn (fun k => Q k ∨ wr.heap.size ≤ k) wc (.slice xa rl xc) (nxB ⟨base, count, prod, seq, time, recs⟩ en).recs := Rds.mono hn4 fun k hk => .inr (Nat.le_trans HBV.out.size hk)
        have HFD : Hid (Calls Tryz.prog 30 #[.pointer (some ⟨s, 0, none⟩), .agg #[.int .i64 en, .int .i64 count, .int .i64 prod, .int .i64 seq, .int .i64 time, .slice xa rl xc]] wc (PFed w t s (enL seg) (1 + i) 0 G sf (fun k => Q k ∨ wr.heap.size ≤ k) true (nxB ⟨base, count, prod, seq, time, recs⟩ en) wc)) :=
          Lib.hid (hpw.feed (by show 1 + i < 200; omega) hrcI (by simp [nxB]; omega) HEN.out.symm)
        have k0 : wc.cell? ⟨y, 0, none⟩ = some (.int .i64 en) := hn3.cell rfl
        have k1 : wc.cell? ⟨y, 1, none⟩ = some (.int .i64 count) := hn3.cell rfl
        have k2 : wc.cell? ⟨y, 2, none⟩ = some (.int .i64 prod) := hn3.cell rfl
        have k3 : wc.cell? ⟨y, 3, none⟩ = some (.int .i64 seq) := hn3.cell rfl
        have k4 : wc.cell? ⟨y, 4, none⟩ = some (.int .i64 time) := hn3.cell rfl
        have k5 : wc.cell? ⟨y, 5, none⟩ = some (.slice xa rl xc) := hn3.cell rfl
        have HBW := Lib.hid hbw
        have HN1 := Lib.hid (Nat.le_trans HBV.out.size hn1)
        have HYC := Lib.hid hyc
        have HRC := Lib.hid hrcI
        have hwc : Sl wc (.slice va' (rcs (fla G)).length vc') gb 75 4 (rcs (fla G)).length ((rcs (fla G)).flatMap cells4) := HW.out.same fun k hk => hbw.block k (HW.out.lt k hk)
        have HWC := Lib.hid hwc
        have hlen : (rcs (fla G)).length ≤ 8 * (1 + i) := by have h1 := rcs_len HOi.out.log.good; have h2 := HOi.out.len.1; omega
        have HGQ := Lib.hid (fun k hk => (⟨.inl (HGB.out k hk).1, Nat.lt_of_lt_of_le (HW.out.lt k hk) hbw.size, (HGB.out k hk).2⟩ : (Q k ∨ wr.heap.size ≤ k) ∧ k < wc.heap.size ∧ w.heap.size ≤ k))
        clear hn1 hn2 hn3 hn4 hbw hyc hpw hrcI hwc
        go_wp2_with fail
        refine HFD.out.mono ?_
        rintro e w5 ⟨er, rfl, hkq, hor⟩
        have HKQ := Lib.hid hkq
        have HHO := Lib.hid HOi.out.low.size
        rcases hor with ⟨hg, rfl, hp⟩ | ⟨rfl, hp⟩ | ⟨h, -⟩
        · have HP5 := Lib.hid hp
          have c5 : w5.cell? ⟨y, 5, none⟩ = some (.slice xa rl xc) := qcell HKQ.out ⟨.inr HN1.out, HYC.out⟩ k5
          have HS5 : Hid (Sl w5 (.slice va' (rcs (fla G)).length vc') gb 75 4 (rcs (fla G)).length ((rcs (fla G)).flatMap cells4)) := Lib.hid (HWC.out.same fun k hk => HKQ.out.block k (HGQ.out k hk).2.1 ⟨(HGQ.out k hk).1, (HGQ.out k hk).2.1⟩)
          have HR5 : Hid (Rds (fun _ => True) w5 (.slice xa rl xc) 4 rl ((nxB ⟨base, count, prod, seq, time, recs⟩ en).recs.flatMap cells4)) := by
            have h1 := HRC.out
            unfold RcIn at h1
            rw [show (nxB ⟨base, count, prod, seq, time, recs⟩ en).recs.length = rl by rw [← HRLE.out.1]; exact List.length_map _] at h1
            exact Lib.hid (Rds.keep h1 HKQ.out.size fun k hk hl => ⟨HKQ.out.block k hl ⟨hk, hl⟩, trivial⟩)
          have hrl8 : rl ≤ 20 := by rw [← HRLE.out.1]; exact hrl
          obtain ⟨i0', hi0, hz0, hz1, hz2⟩ := infoRec
          clear hg hp hkq k0 k1 k2 k3 k4 k5
          go_wp2_with (at_builtin; refine wpList_append_rd (by rfl) _ _ 32 (by rfl) 75 i0' (.agg zeroR) 4 48 Tryz.underlying32 hi0 hz0 hz1 hz2 rfl _ gb (rcs (fla G)).length _ (by rfl) HS5.out _ rl ((nxB ⟨base, count, prod, seq, time, recs⟩ en).recs.flatMap cells4) (by rfl) HR5.out (flat4_one _) (by omega) (by omega) ?_)
          intro v9 w9 gb9 hs9 hg9 hn9
          have hp9 := HP5.out.grown hg9 fun k hk => ⟨⟨(HGQ.out k hk).1, (HGQ.out k hk).2.1⟩, (HGQ.out k hk).2.2⟩
          have hs5 := HKQ.out.size
          have hq9 : ∀ k, gb9 = some k → (((Q k ∨ wr.heap.size ≤ k) ∧ k < wc.heap.size) ∨ w5.heap.size ≤ k) ∧ w.heap.size ≤ k := fun k hk => by
            rcases hn9 with h | ⟨g, h, hg⟩
            · rw [h] at hk; exact ⟨.inl ⟨(HGQ.out k hk).1, (HGQ.out k hk).2.1⟩, (HGQ.out k hk).2.2⟩
            · rw [h] at hk
              have e := Option.some.inj hk
              have h1 := HHO.out
              have h2 := HBW.out.size
              exact ⟨.inr (by omega), by omega⟩
          have hpe : rcs (fla (push G (enL seg).sv (nxB ⟨base, count, prod, seq, time, recs⟩ en))) = rcs (fla G) ++ (nxB ⟨base, count, prod, seq, time, recs⟩ en).recs := rcs_push _ _ _
          have HF : Hid (Pwr w t s (enL seg) (1 + (i + 1)) 0 (push G (enL seg).sv (nxB ⟨base, count, prod, seq, time, recs⟩ en)) (pushSf G (enL seg).sv sf) (fun k => ((Q k ∨ wr.heap.size ≤ k) ∧ k < wc.heap.size) ∨ w5.heap.size ≤ k) true w9 ∧ (∀ k, gb9 = some k → (((Q k ∨ wr.heap.size ≤ k) ∧ k < wc.heap.size) ∨ w5.heap.size ≤ k) ∧ w.heap.size ≤ k) ∧ Sl w9 v9 gb9 75 4 (rcs (fla (push G (enL seg).sv (nxB ⟨base, count, prod, seq, time, recs⟩ en)))).length ((rcs (fla (push G (enL seg).sv (nxB ⟨base, count, prod, seq, time, recs⟩ en)))).flatMap cells4)) := Lib.hid ⟨hp9, hq9, by
            rw [hpe, List.length_append, List.flatMap_append, show (nxB ⟨base, count, prod, seq, time, recs⟩ en).recs.length = rl by rw [← HRLE.out.1]; exact List.length_map _]
            exact hs9⟩
          clear hs9 hg9 hn9 hp9 hq9 hpe hs5
          go_wp2_with fail
          go_roundw
          case rel => exact ⟨i + 1, _, _, _, _, by omega, by omega, by go_num, HF.out.1, HF.out.2.1, HF.out.2.2⟩
          case measure => simp [intOf]; omega
        · have HP5 := Lib.hid hp
          have HS5 : Hid (Sl w5 (.slice va' (rcs (fla G)).length vc') gb 75 4 (rcs (fla G)).length ((rcs (fla G)).flatMap cells4)) := Lib.hid (HWC.out.same fun k hk => HKQ.out.block k (HGQ.out k hk).2.1 ⟨(HGQ.out k hk).1, (HGQ.out k hk).2.1⟩)
          clear hp hkq k0 k1 k2 k3 k4 k5
          go_wp2_with fail
          go_roundw
          case rel => exact ⟨i + 1, G, sf, _, gb, by omega, by omega, by go_num, HP5.out, fun k hk => ⟨⟨(HGQ.out k hk).1, (HGQ.out k hk).2.1⟩, (HGQ.out k hk).2.2⟩, HS5.out⟩
          case measure => simp [intOf]; omega
        · cases h
      | false =>
        obtain ⟨st, hst, hst1, hst9⟩ : ∃ st : Nat, wrap64 (1 + wrap64 ((IntKind.u64.wrap step).tmod 9)) = (st : Int) ∧ 1 ≤ st ∧ st ≤ 9 := by
          obtain ⟨K, h1, h2, -⟩ := mod_nat step 9 (by omega) (by omega)
          rw [h1]
          refine ⟨1 + K, ?_, by omega, by omega⟩
          unfold wrap64
          omega
        have HST := Lib.hid hst
        clear hst
        obtain ⟨rs, hrs⟩ : ∃ rs, rcs (fla G) = rs := ⟨_, rfl⟩
        have hrise := HOi.out.log.rise
        have hlen : (rcs (fla G)).length ≤ 488 := by have h1 := rcs_len HOi.out.log.good; have h2 := HOi.out.len.1; omega
        have hw' := HW.out
        rw [hrs] at hw' hrise hlen
        have HWT := Lib.hid hw'
        have HRI := Lib.hid hrise
        have HRS := Lib.hid hrs
        clear HW hw' hrise
        have hsz : (rcs (fla G)).length = rs.length := by rw [hrs]
        obtain ⟨T, hT⟩ : ∃ T, rs.length = T := ⟨_, rfl⟩
        rw [hsz, hT]
        rw [hT] at HWT hlen
        have HT := Lib.hid hT
        clear hrs hsz hT
        obtain ⟨wo, rfl⟩ : ∃ wo : World, wo = wr := ⟨_, rfl⟩
        have HS0 := Lib.hid (Sl.empty wo 75 4)
        have HB0 := Lib.hid ((Below.refl wo.heap.size wo).alloc (Nat.le_refl _) (.cells #[] 75))
        have HF0 : Hid (fromF 0 rs = rs.drop 0) := Lib.hid (fromF_all fun r hr => (HRI.out.2 r hr).1)
        go_upto_region 18 with fail
        rw [HST.out]
        go_wp2_with fail
        go_loopw [13, 14, 15, 16] (fun gv ov jv _ wx => ∃ (j n : Nat) (off : Int) (gb2 : Option Nat), jv = .int .i64 j ∧ ov = .int .i64 off ∧ j ≤ n ∧ n ≤ T ∧ fromF off rs = rs.drop n ∧ Sl wx gv gb2 75 4 n ((rs.take n).flatMap cells4) ∧ (∀ k, gb2 = some k → wo.heap.size ≤ k) ∧ Below wo.heap.size wo wx) (fun _ _ jv _ _ => 600 - (intOf jv).toNat)
        case atStart => exact ⟨0, 0, 0, some wo.heap.size, rfl, rfl, Nat.le_refl _, Nat.zero_le _, HF0.out, HS0.out, fun k hk => (by cases hk; exact Nat.le_refl _), HB0.out⟩
        case round =>
          obtain ⟨j, n, off, gb2, rfl, rfl, hjn, hnT, hfr, hs, hgb2, hb⟩ := hrel
          obtain ⟨ga, gc, hgv⟩ := hs.form
          subst hgv
          have hd6 : decide ((j : Int) < 600) = true := by simp; omega
          have hrd := (HOi.out.below hb).read off st (by omega)
          rw [HRS.out, hfr, show ((st : Int)).toNat = st by omega] at hrd
          obtain ⟨k, hk⟩ : ∃ k, ((rs.drop n).take st).length = k := ⟨_, rfl⟩
          have HRD := Lib.hid hrd
          have HSG := Lib.hid hs
          have HG2 := Lib.hid hgb2
          have HBX := Lib.hid hb
          have HFR := Lib.hid hfr
          have HK := Lib.hid hk
          clear hrd hs hgb2 hb hfr hk HS0 HB0 HF0
          go_wp2_with fail
          refine HRD.out.mono ?_
          rintro e w8 ⟨lv, gb3, rfl, hs3, hgb3, hb8⟩
          rw [HK.out] at hs3
          obtain ⟨la, lc, rfl⟩ := hs3.form
          have HS3 := Lib.hid hs3
          have HG3 := Lib.hid hgb3
          have HB8 := Lib.hid hb8
          clear hs3 hgb3 hb8 HRD
          by_cases h0 : k = 0
          · subst h0
            have hn : n = T := by
              have h1 := HK.out
              have h2 := HT.out
              rw [List.length_take, List.length_drop] at h1
              omega
            subst hn
            have hg8 : RcIn (fun _ => True) w8 (.slice ga n gc) rs := by
              have h1 := HSG.out.same (w' := w8) fun k hk => HB8.out.block k (HSG.out.lt k hk)
              rw [List.take_of_length_le (by rw [HT.out]; exact Nat.le_refl _)] at h1
              unfold RcIn
              rw [HT.out]
              exact Rds.of_sl h1 fun _ _ => trivial
            have hw8 : RcIn (fun _ => True) w8 (.slice va' n vc') rs := by
              have hbb := HBX.out.trans (HB8.out.mono HBX.out.size)
              have h1 := HWT.out.same (w' := w8) fun k hk => hbb.block k (HWT.out.lt k hk)
              unfold RcIn
              rw [HT.out]
              exact Rds.of_sl h1 fun _ _ => trivial
            have HRC := Lib.hid (recs_true _ _ rs w8 hg8 hw8 (by have := HT.out; omega))
            have HF8 : Hid (Below w.heap.size w w8) := Lib.hid (by
              have hbb := HBX.out.trans (HB8.out.mono HBX.out.size)
              exact (HOi.out.below hbb).low)
            clear hg8 hw8
            go_wp2_with fail
            refine HRC.out.mono ?_
            rintro e wa ⟨rfl, hba⟩
            have HBA := Lib.hid hba
            clear hba
            go_wp2_with fail
            refine (appendS_nil _ _ _ _ _ _ _).mono ?_
            rintro e wb ⟨rfl, hbb⟩
            have HBB := Lib.hid hbb
            clear hbb
            go_wp2_with fail
            refine (syncS_nil _).mono ?_
            rintro e _ ⟨rfl, rfl⟩
            go_wp2_with fail
            refine (end_nil _).mono ?_
            rintro e _ ⟨rfl, rfl⟩
            go_wp2_with fail
            refine (bases_nil _).mono ?_
            rintro e _ ⟨rfl, rfl⟩
            go_wp2_with fail
            refine (readS_nil _ _ _).mono ?_
            rintro e wd ⟨rfl, hbd⟩
            have HBD := Lib.hid hbd
            clear hbd
            go_wp2_with fail
            go_ret
            have hba := HF8.out.trans (HBA.out.mono HF8.out.size)
            have hbb := hba.trans (HBB.out.mono hba.size)
            exact ⟨rfl, hbb.trans (HBD.out.mono hbb.size)⟩
          · have hk0 : ((k : Int) == 0) = false := by simp; omega
            obtain ⟨k1, hk1⟩ : ∃ k1, k1 + 1 = k := ⟨k - 1, by omega⟩
            have hkst : k ≤ st := by have h1 := HK.out; rw [List.length_take] at h1; omega
            have hkT : n + k ≤ T := by have h1 := HK.out; have h2 := HT.out; rw [List.length_take, List.length_drop] at h1; omega
            have hd2 : decide ((st : Int) < (k : Int)) = false := by simp; omega
            obtain ⟨r, hr1, hr2, hr3⟩ := read_next HRI.out.1 HFR.out (by have := HT.out; omega) hst1
            rw [HK.out] at hr1 hr3
            have hro := HRI.out.2 r hr2
            have hw1 : IntKind.i64.wrap ((k : Int) - 1) = (k1 : Int) := by rw [IntWalk.i64_in _ (by omega)]; omega
            have hw2 : IntKind.i64.wrap (r.off + 1) = r.off + 1 := IntWalk.i64_in _ (by omega)
            have i0 : (0 : Int) ≤ (k1 : Int) := by omega
            have i1 : (k1 : Int) < (k : Int) := by omega
            have hs8 : Hid (Sl w8 (.slice ga n gc) gb2 75 4 n ((rs.take n).flatMap cells4)) := Lib.hid (HSG.out.same fun k hk => HB8.out.block k (HSG.out.lt k hk))
            have hr8 : Hid (Rds (fun _ => True) w8 (.slice la k lc) 4 k (((rs.drop n).take st).flatMap cells4)) := Lib.hid (Rds.of_sl HS3.out fun _ _ => trivial)
            obtain ⟨i0', hi0, hz0, hz1, hz2⟩ := infoRec
            have HR3 := Lib.hid (And.intro hr1 hr3)
            clear hr1 hr2 hr3
            go_wp2_with (at_builtin; refine wpList_append_rd (by rfl) _ _ 32 (by rfl) 75 i0' (.agg zeroR) 4 48 Tryz.underlying32 hi0 hz0 hz1 hz2 rfl _ gb2 n _ (by rfl) hs8.out _ k (((rs.drop n).take st).flatMap cells4) (by rfl) hr8.out (flat4_one _) (by omega) (by omega) ?_)
            intro v9 w9 gb9 hs9 hg9 hn9
            have hg3 : ∀ k, gb3 = some k → some k ≠ gb2 := fun k hk e => by
              have h1 := HG3.out k hk
              have h2 := HSG.out.lt k e.symm
              omega
            have hl9 : Rds (fun _ => True) w9 (.slice la k lc) 4 k (((rs.drop n).take st).flatMap cells4) := Rds.of_sl (HS3.out.same fun k hk => hg9.block k (HS3.out.lt k hk) (hg3 k hk)) fun _ _ => trivial
            obtain ⟨lb', lo, lcap, e1, -, -, hlc⟩ := hl9.at (by omega)
            obtain rfl : la = some ⟨lb', lo, none⟩ := by injection e1
            have c0 : w9.cell? ⟨lb', lo + k1 * 4, none⟩ = some (.int .i64 r.off) := by
              refine hlc (k1 * 4 + 0) _ ?_
              rw [flat_at cells4 4 (fun _ => rfl) _ k1 r (by have h := HR3.out.1; rw [show k - 1 = k1 by omega] at h; exact h) 0 (by omega)]
              rfl
            have hb9 : Below wo.heap.size wo w9 := by
              have h1 := HBX.out.trans (HB8.out.mono HBX.out.size)
              exact h1.grown hg9 h1.size fun k hk => HG2.out k hk
            have HF : Hid (Sl w9 v9 gb9 75 4 (n + k) ((rs.take (n + k)).flatMap cells4) ∧ (∀ k, gb9 = some k → wo.heap.size ≤ k) ∧ Below wo.heap.size wo w9) := Lib.hid ⟨by rw [take_on HK.out, List.flatMap_append]; exact hs9, fun k hk => by
              rcases hn9 with h | ⟨g, h, hg⟩
              · exact HG2.out k (h ▸ hk)
              · rw [h] at hk
                have e := Option.some.inj hk
                have h1 := HBX.out.size
                have h2 := HB8.out.size
                omega, hb9⟩
            clear hs9 hg9 hn9 hl9 hlc e1 hb9 hg3
            go_wp2_with fail
            go_roundw
            case rel => exact ⟨j + 1, n + k, r.off + 1, gb9, by go_num, rfl, by omega, hkT, HR3.out.2, HF.out.1, HF.out.2.1, HF.out.2.2⟩
            case measure => simp [intOf]; omega
end Go.Proofs.YtdaoeplblkfapaaGreatDoor
