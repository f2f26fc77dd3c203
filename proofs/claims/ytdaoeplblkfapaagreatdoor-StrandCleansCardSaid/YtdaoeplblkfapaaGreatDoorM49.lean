import Derived.Test.YtdaoeplblkfapaaGreatDoorM29
import Derived.Test.YtdaoeplblkfapaaGreatDoorM48
import Derived.Deep.RegionHeld3
import Derived.Test.YtdaoeplblkfapaaGreatDoorM06

/- The walk of the law StrandCleans. -/
namespace Go.Proofs.YtdaoeplblkfapaaGreatDoor
open Go.RowKit

set_option maxRecDepth 100000 in
set_option maxHeartbeats 16000000 in
theorem cleans_any (seg : Int) (v : Value) (zs : List Ac) (atv dv av : Int) (lv fv : Value) (less fates : List Int) (wi : World) (lb : Lb wi) (h : Acts wi.heap.size wi v zs) (hle : Ta.Nums wi lv less) (hfa : Ta.Nums wi fv fates) (hfo : 0 < fates.length → ∀ a c d, fv = .slice (some a) c d → a.block < wi.heap.size) :
    Calls Tryz.prog 5 #[.int .i64 seg, v, .agg #[.int .i64 atv, lv, .int .i64 dv, .int .i64 av, fv]] wi fun e w' => e = .returned (.bool true) ∧ Below wi.heap.size wi w' := by
  obtain ⟨va, vc, hv⟩ : ∃ a c, v = .slice a zs.length c := let ⟨a, c, e, _⟩ := h.lies; ⟨a, c, e⟩
  subst hv
  obtain ⟨la, ll, lc, hlv, hll⟩ : ∃ a n c, lv = .slice a n c ∧ less.length = n := let ⟨a, c, e, _⟩ := hle; ⟨a, _, c, e, rfl⟩
  subst hlv
  obtain ⟨fa, fl, fc, hfv, hfl⟩ : ∃ a n c, fv = .slice a n c ∧ fates.length = n := let ⟨a, c, e, _⟩ := hfa; ⟨a, _, c, e, rfl⟩
  subst hfv
  obtain ⟨N, hN⟩ : ∃ N, zs.length = N := ⟨_, rfl⟩
  obtain ⟨w, hw⟩ : ∃ V, wi.alloc (.cells #[.int .i64 atv, .slice la ll lc, .int .i64 dv, .int .i64 av, .slice fa fl fc] 66) = V := ⟨_, rfl⟩
  have hbi : Below wi.heap.size wi w := by rw [← hw]; exact (Below.refl _ _).alloc (Nat.le_refl _) _
  have hbk : Blk w wi.heap.size #[.int .i64 atv, .slice la ll lc, .int .i64 dv, .int .i64 av, .slice fa fl fc] 66 := by rw [← hw]; exact Blk.new _ _ _
  have HWI := Lib.hid hw
  have HBI := Lib.hid hbi
  have HBK := Lib.hid hbk
  have HLE := Lib.hid (Nums.below hle hbi)
  have HFA := Lib.hid (Nums.below hfa hbi)
  have HFO : Hid (0 < fates.length → ∀ a c d, (Value.slice fa fl fc) = .slice (some a) c d → a.block < w.heap.size) := Lib.hid fun h0 a c d e => Nat.lt_of_lt_of_le (hfo h0 a c d e) hbi.size
  have HLL := Lib.hid hll
  have HFL := Lib.hid hfl
  have HEND : Hid (∀ w', Below w.heap.size w w' → Below wi.heap.size wi w') := Lib.hid fun w' hb => hbi.trans (hb.mono hbi.size)
  have HBX : Hid (∀ w', Below w.heap.size w w' → (w'.cell? ⟨wi.heap.size, 0, none⟩ = some (.int .i64 atv) ∧ w'.cell? ⟨wi.heap.size, 1, none⟩ = some (.slice la ll lc)) ∧ (w'.cell? ⟨wi.heap.size, 2, none⟩ = some (.int .i64 dv) ∧ w'.cell? ⟨wi.heap.size, 3, none⟩ = some (.int .i64 av)) ∧ w'.cell? ⟨wi.heap.size, 4, none⟩ = some (.slice fa fl fc)) := Lib.hid fun w' hb => ⟨⟨(hbk.below hb).cell rfl, (hbk.below hb).cell rfl⟩, ⟨(hbk.below hb).cell rfl, (hbk.below hb).cell rfl⟩, (hbk.below hb).cell rfl⟩
  have hlbw : Lb w := lb.below lb.size hbi
  have HA := Lib.hid (awake_any w hlbw)
  have HLB := Lib.hid hlbw
  have HAC := Lib.hid (h.below hbi)
  have HN := Lib.hid hN
  rw [hN]
  clear lb h hN hw hbi hbk hle hfa hfo hll hfl hlbw
  go_enter Tryz.func5, Tryz.ntmps5
  go_wp2_with fail
  rw [HWI.out]
  try go_wp2_with fail
  refine HA.out.mono ?_
  rintro e w1 ⟨rfl, hb1⟩
  have HAC1 := Lib.hid (HAC.out.below hb1)
  have HB1 := Lib.hid hb1
  have HGR := Lib.hid (great_any _ zs w1 HAC1.out)
  rw [HN.out] at HGR
  clear hb1 HA
  go_wp2_with fail
  refine HGR.out.mono ?_
  rintro e w1b ⟨gr, rfl, hwe, hok⟩
  have hwe' : _ = _ := hwe
  subst hwe'
  clear hwe HGR
  cases gr with
  | true =>
    go_wp2_with fail
    go_ret
    exact ⟨rfl, HEND.out _ HB1.out⟩
  | false =>
    have HOK := Lib.hid (hok rfl)
    clear hok
    have x1 : w1b.cell? ⟨wi.heap.size, 1, none⟩ = some (.slice la ll lc) := (HBX.out _ HB1.out).1.2
    by_cases h50 : 50 < ll
    · have d50 : decide ((50 : Int) < (ll : Int)) = true := by simp; omega
      go_wp2_with fail
      go_ret
      exact ⟨rfl, HEND.out _ HB1.out⟩
    have d50 : decide ((50 : Int) < (ll : Int)) = false := by simp; omega
    have x4 : w1b.cell? ⟨wi.heap.size, 4, none⟩ = some (.slice fa fl fc) := (HBX.out _ HB1.out).2.2
    by_cases h100 : 100 < fl
    · have d100 : decide ((100 : Int) < (fl : Int)) = true := by simp; omega
      go_wp2_with fail
      go_ret
      exact ⟨rfl, HEND.out _ HB1.out⟩
    have d100 : decide ((100 : Int) < (fl : Int)) = false := by simp; omega
    have HOP := Lib.hid (opened_any seg w1b HLB.out HB1.out)
    go_wp2_with fail
    refine HOP.out.mono ?_
    rintro e w2 ⟨t, s, rfl, ho⟩
    have HO := Lib.hid ho
    clear ho HOP
    go_wp2_with fail
    go_loopw [9] (fun iv wr => ∃ (i : Nat) (G : List Sg) (y : Bool), i ≤ N ∧ i ≤ 60 ∧ iv = .int .i64 i ∧ (∀ g ∈ G, g.l ≠ []) ∧ Opd w t s (enL seg) (1 + i) 0 G (fun _ => False) y wr) (fun iv _ => 60 - (intOf iv).toNat)
    case atStart => exact ⟨0, [], true, Nat.zero_le _, by omega, rfl, (fun _ hg => by simp at hg), HO.out⟩
    case round =>
      obtain ⟨i, G, y, hi, hi60, rfl, hGne, hO⟩ := hrel
      have HGN := Lib.hid hGne
      have HOi := Lib.hid hO
      clear hO HO hGne
      obtain ⟨cnd, hcnd⟩ : ∃ cnd, decide (i < N ∧ i < 60) = cnd := ⟨_, rfl⟩
      have HCND := Lib.hid hcnd
      clear hcnd
      go_upto_region 9 with fail
      go_cut [61] from 54 to 74 (fun s61 wx => s61 = .bool cnd ∧ Eqw wr wx)
      case first =>
        by_cases hlN : i < N
        · have hdl : decide ((i : Int) < (N : Int)) = true := by simp; omega
          by_cases hl60 : i < 60
          · have hd60 : decide ((i : Int) < 60) = true := by simp; omega
            have hd60' : decide (i < 60) = true := by simp; omega
            have hct : cnd = true := by rw [← HCND.out]; simp; omega
            subst hct
            go_wp2_with fail
            go_meet
            case rel => exact ⟨rfl, rfl⟩
          · have hd60 : decide ((i : Int) < 60) = false := by simp; omega
            have hd60' : decide (i < 60) = false := by simp; omega
            have hct : cnd = false := by rw [← HCND.out]; simp; omega
            subst hct
            go_wp2_with fail
            go_meet
            case rel => exact ⟨rfl, rfl⟩
        · have hdl : decide ((i : Int) < (N : Int)) = false := by simp; omega
          have hct : cnd = false := by rw [← HCND.out]; simp; omega
          subst hct
          go_wp2_with fail
          go_meet
          case rel => exact ⟨rfl, rfl⟩
      case rest =>
      obtain ⟨rfl, hwx⟩ := hcut
      have hwx' : wr = wc := (show wc = wr from hwx).symm
      subst hwx'
      clear hwx
      cases cnd with
      | true =>
        have hlt := of_decide_eq_true HCND.out
        obtain ⟨hlN, hl60⟩ := hlt
        obtain ⟨x, hx⟩ : ∃ x, zs[i]? = some x := ⟨_, List.getElem?_eq_getElem (by rw [HN.out]; exact hlN)⟩
        have hox := HOK.out i x hl60 hx
        obtain ⟨b, o, cap, hve, hbl, hcell, hin⟩ := act_box (HAC.out.below HOi.out.low) hx
        have hnext := fun (en : Int) (wx : World) (h : AcIn wi.heap.size wx { x with nx := true }) => next_any { x with nx := true } rfl en wx h hox.1
        have hin2 : AcIn wi.heap.size wr { x with nx := true } := ⟨hin.recs, hin.less, hin.fates, hin.old⟩
        obtain ⟨ra, rc, hrv⟩ := hin.recs.slice
        obtain ⟨la, lc, hlv, -⟩ := hin.less
        obtain ⟨fa, fc, hfv, -⟩ := hin.fates
        have hrl := hox.1
        obtain ⟨kind, ⟨base, count, prod, seq, time, recs⟩, rv, nx, n, less, lv, fates, fv, name⟩ := x
        simp only at hrv hlv hfv hrl hnext hin2
        subst hrv hlv hfv
        obtain ⟨rl, hrle⟩ : ∃ rl, recs.length = rl := ⟨_, rfl⟩
        obtain ⟨ll, hlle⟩ : ∃ ll, less.length = ll := ⟨_, rfl⟩
        obtain ⟨fl, hfle⟩ : ∃ fl, fates.length = fl := ⟨_, rfl⟩
        have c0 : wr.cell? ⟨b, o + i * 12, none⟩ = some (.int .i64 kind) := hcell 0 _ (by decide) rfl
        have c1 : wr.cell? ⟨b, o + i * 12 + 1, none⟩ = some (.int .i64 base) := hcell 1 _ (by decide) rfl
        have c2 : wr.cell? ⟨b, o + i * 12 + 2, none⟩ = some (.int .i64 count) := hcell 2 _ (by decide) rfl
        have c3 : wr.cell? ⟨b, o + i * 12 + 3, none⟩ = some (.int .i64 prod) := hcell 3 _ (by decide) rfl
        have c4 : wr.cell? ⟨b, o + i * 12 + 4, none⟩ = some (.int .i64 seq) := hcell 4 _ (by decide) rfl
        have c5 : wr.cell? ⟨b, o + i * 12 + 5, none⟩ = some (.int .i64 time) := hcell 5 _ (by decide) rfl
        have c6 : wr.cell? ⟨b, o + i * 12 + 6, none⟩ = some (.slice ra rl rc) := by rw [← hrle]; exact hcell 6 _ (by decide) rfl
        have c7 : wr.cell? ⟨b, o + i * 12 + 7, none⟩ = some (.bool nx) := hcell 7 _ (by decide) rfl
        have c8 : wr.cell? ⟨b, o + i * 12 + 8, none⟩ = some (.int .i64 n) := hcell 8 _ (by decide) rfl
        have c9 : wr.cell? ⟨b, o + i * 12 + 9, none⟩ = some (.slice la ll lc) := by rw [← hlle]; exact hcell 9 _ (by decide) rfl
        have c10 : wr.cell? ⟨b, o + i * 12 + 10, none⟩ = some (.slice fa fl fc) := by rw [← hfle]; exact hcell 10 _ (by decide) rfl
        have c11 : wr.cell? ⟨b, o + i * 12 + 11, none⟩ = some (.string name) := hcell 11 _ (by decide) rfl
        injection hve with hv1 hv2 hv3
        subst hv1
        clear hv2 hv3
        have i0 : (0 : Int) ≤ (i : Int) := by omega
        have i1 : (i : Int) < (N : Int) := by omega
        have HNX := Lib.hid hnext
        have HIN := Lib.hid hin2
        clear hcell hin hox hx hnext hin2
        have HRLE := Lib.hid (And.intro hrle (And.intro hlle hfle))
        obtain ⟨V, hV⟩ : ∃ V, wr.alloc (.cells #[.int .i64 kind, .int .i64 base, .int .i64 count, .int .i64 prod, .int .i64 seq, .int .i64 time, .slice ra rl rc, .bool true, .int .i64 n, .slice la ll lc, .slice fa fl fc, .string name] 37) = V := ⟨_, rfl⟩
        have hbV : Below wr.heap.size wr V := by rw [← hV]; exact (Below.refl _ _).alloc (Nat.le_refl _) _
        have hkV : Blk V wr.heap.size #[.int .i64 kind, .int .i64 base, .int .i64 count, .int .i64 prod, .int .i64 seq, .int .i64 time, .slice ra rl rc, .bool true, .int .i64 n, .slice la ll lc, .slice fa fl fc, .string name] 37 := by rw [← hV]; exact Blk.new _ _ _
        have HV := Lib.hid hV
        have HBV := Lib.hid hbV
        have k0 : V.cell? ⟨wr.heap.size, 0, none⟩ = some (.int .i64 kind) := hkV.cell rfl
        have k1 : V.cell? ⟨wr.heap.size, 1, none⟩ = some (.int .i64 base) := hkV.cell rfl
        have k2 : V.cell? ⟨wr.heap.size, 2, none⟩ = some (.int .i64 count) := hkV.cell rfl
        have k3 : V.cell? ⟨wr.heap.size, 3, none⟩ = some (.int .i64 prod) := hkV.cell rfl
        have k4 : V.cell? ⟨wr.heap.size, 4, none⟩ = some (.int .i64 seq) := hkV.cell rfl
        have k5 : V.cell? ⟨wr.heap.size, 5, none⟩ = some (.int .i64 time) := hkV.cell rfl
        have k6 : V.cell? ⟨wr.heap.size, 6, none⟩ = some (.slice ra rl rc) := hkV.cell rfl
        have k7 : V.cell? ⟨wr.heap.size, 7, none⟩ = some (.bool true) := hkV.cell rfl
        have k8 : V.cell? ⟨wr.heap.size, 8, none⟩ = some (.int .i64 n) := hkV.cell rfl
        have k9 : V.cell? ⟨wr.heap.size, 9, none⟩ = some (.slice la ll lc) := hkV.cell rfl
        have k10 : V.cell? ⟨wr.heap.size, 10, none⟩ = some (.slice fa fl fc) := hkV.cell rfl
        have k11 : V.cell? ⟨wr.heap.size, 11, none⟩ = some (.string name) := hkV.cell rfl
        obtain ⟨en, hen⟩ : ∃ en, gsEnd G = en := ⟨_, rfl⟩
        have HEN := Lib.hid hen
        have HEV : Hid (∀ wx, Below V.heap.size V wx → Calls Tryz.prog 29 #[.pointer (some ⟨s, 0, none⟩)] wx fun e w' => e = .returned (.int .i64 en) ∧ Below wx.heap.size wx w') := Lib.hid fun wx hbx => by rw [← hen]; exact (HOi.out.below (hbV.trans (hbx.mono hbV.size))).end_
        have HNV : Hid (∀ w3, Below V.heap.size V.drew w3 → Calls Tryz.prog 28 #[.agg #[.int .i64 kind, .int .i64 base, .int .i64 count, .int .i64 prod, .int .i64 seq, .int .i64 time, .slice ra rl rc, .bool true, .int .i64 n, .slice la ll lc, .slice fa fl fc, .string name], .int .i64 en] w3 fun e w' => ∃ rv, e = .returned (bv (nxB ⟨base, count, prod, seq, time, recs⟩ en, rv)) ∧ RcIn (fun k => w3.heap.size ≤ k) w' rv (nxB ⟨base, count, prod, seq, time, recs⟩ en).recs ∧ Below w3.heap.size w3 w') := Lib.hid fun w3 hb => by
          have := HNX.out en w3 (HIN.out.below (hbV.trans (show Below wr.heap.size V w3 from (show Below V.heap.size V w3 from ⟨hb.os, hb.tape, hb.output, hb.size, hb.block⟩).mono hbV.size)))
          unfold acells at this
          simp only at this
          rw [hrle, hlle, hfle] at this
          exact this
        have HFD : Hid (∀ w3 w4 rv, Below V.heap.size V.drew w3 → RcIn (fun k => w3.heap.size ≤ k) w4 rv (nxB ⟨base, count, prod, seq, time, recs⟩ en).recs → Below w3.heap.size w3 w4 → Calls Tryz.prog 30 #[.pointer (some ⟨s, 0, none⟩), bv (nxB ⟨base, count, prod, seq, time, recs⟩ en, rv)] w4 (FedOut w t s (enL seg) (1 + i) 0 G (fun k => False ∨ wr.heap.size ≤ k) y (nxB ⟨base, count, prod, seq, time, recs⟩ en) V)) := Lib.hid fun w3 w4 rv hb hr hb4 => by
          have h3 : Below V.heap.size V w3 := ⟨hb.os, hb.tape, hb.output, hb.size, hb.block⟩
          exact (HOi.out.below hbV).feed (h3.trans (hb4.mono h3.size)) (by show 1 + i < 200; omega) (Rds.mono hr fun k hk => Nat.le_trans h3.size hk) (by simp [nxB]; omega) hen.symm
        have HQB : Hid ((False ∨ wr.heap.size ≤ wr.heap.size) ∧ wr.heap.size < V.heap.size) := Lib.hid ⟨.inr (Nat.le_refl _), hkV.lt⟩
        clear hrle hlle hfle hV hbV hkV hen
        go_wp2_with fail
        rw [HV.out]
        go_region_held3 (fun w' => w'.cell? ⟨wr.heap.size, 0, none⟩ = some (.int .i64 kind) ∧ w'.cell? ⟨wr.heap.size, 1, none⟩ = some (.int .i64 base) ∧ w'.cell? ⟨wr.heap.size, 2, none⟩ = some (.int .i64 count) ∧ w'.cell? ⟨wr.heap.size, 3, none⟩ = some (.int .i64 prod) ∧ w'.cell? ⟨wr.heap.size, 4, none⟩ = some (.int .i64 seq) ∧ w'.cell? ⟨wr.heap.size, 5, none⟩ = some (.int .i64 time) ∧ w'.cell? ⟨wr.heap.size, 6, none⟩ = some (.slice ra rl rc) ∧ w'.cell? ⟨wr.heap.size, 7, none⟩ = some (.bool true) ∧ w'.cell? ⟨wr.heap.size, 8, none⟩ = some (.int .i64 n) ∧ w'.cell? ⟨wr.heap.size, 9, none⟩ = some (.slice la ll lc) ∧ w'.cell? ⟨wr.heap.size, 10, none⟩ = some (.slice fa fl fc) ∧ w'.cell? ⟨wr.heap.size, 11, none⟩ = some (.string name)) (first | go_keep | (go_split_ands; exact ⟨dcell hb3 k0, dcell hb3 k1, dcell hb3 k2, dcell hb3 k3, dcell hb3 k4, dcell hb3 k5, dcell hb3 k6, dcell hb3 k7, dcell hb3 k8, dcell hb3 k9, dcell hb3 k10, dcell hb3 k11⟩) | (go_split_ands; exact ⟨qcell hk5 HQB.out k0, qcell hk5 HQB.out k1, qcell hk5 HQB.out k2, qcell hk5 HQB.out k3, qcell hk5 HQB.out k4, qcell hk5 HQB.out k5, qcell hk5 HQB.out k6, qcell hk5 HQB.out k7, qcell hk5 HQB.out k8, qcell hk5 HQB.out k9, qcell hk5 HQB.out k10, qcell hk5 HQB.out k11⟩) | (go_split_ands; exact ⟨ecell hb4 (dcell hb3 k0), ecell hb4 (dcell hb3 k1), ecell hb4 (dcell hb3 k2), ecell hb4 (dcell hb3 k3), ecell hb4 (dcell hb3 k4), ecell hb4 (dcell hb3 k5), ecell hb4 (dcell hb3 k6), ecell hb4 (dcell hb3 k7), ecell hb4 (dcell hb3 k8), ecell hb4 (dcell hb3 k9), ecell hb4 (dcell hb3 k10), ecell hb4 (dcell hb3 k11)⟩))
          (first
            | (go_at_call 29; (refine (HEV.out _ ((Below.refl _ _).drew)).mono ?_); rintro e w3 ⟨rfl, hb3⟩)
            | (go_at_call 28; (refine (HNV.out _ hb3).mono ?_); rintro e w4 ⟨rv', rfl, hr4, hb4⟩)
            | (go_at_call 30; (refine (HFD.out _ _ rv' hb3 hr4 hb4).mono ?_); rintro e w5 ⟨er, rfl, hor, hk5⟩)
            | fail)
        have hO' : ∃ G' y', (∀ g ∈ G', g.l ≠ []) ∧ Opd w t s (enL seg) (1 + (i + 1)) 0 G' (fun _ => False) y' w5 := by
          rcases hor with ⟨-, -, h⟩ | ⟨-, -, h⟩
          · exact ⟨_, _, push_ne HGN.out, h.mono fun _ _ h => h.elim⟩
          · exact ⟨_, _, HGN.out, h.mono fun _ _ h => h.elim⟩
        have HO' := Lib.hid hO'
        clear hO' hor hk5 hr4 hb4 hb3 HFD HNV HEV k0 k1 k2 k3 k4 k5 k6 k7 k8 k9 k10 k11
        go_wp2_with fail
        go_roundw
        case rel =>
          obtain ⟨G', y', hg, h⟩ := HO'.out
          exact ⟨i + 1, G', y', by omega, by omega, by go_num, hg, h⟩
        case measure => simp [intOf]; omega
      | false =>
        have HSY := Lib.hid (HOi.out.sync (by show 1 + i < 200; omega))
        obtain ⟨n, hn⟩ : ∃ n, G.length = n := ⟨_, rfl⟩
        have hnm := HOi.out.len.2.2
        rw [hn] at hnm
        have HGL := Lib.hid hn
        clear hn
        go_wp2_with fail
        refine HSY.out.mono ?_
        rintro e w2 ⟨rfl, ho2, -⟩
        have HO2 := Lib.hid ho2
        have HAL := Lib.hid ho2.all
        have hgf := ho2.len
        clear ho2 HSY
        go_wp2_with fail
        refine HAL.out.mono ?_
        rintro e w3 ⟨av0, gb0, L0, rfl, hs0, hg0, ha0, hL0, hb3⟩
        obtain ⟨n0, hn0⟩ : ∃ n0, L0.length = n0 := ⟨_, rfl⟩
        have hn0f : (fla G).length = n0 := by rw [← hL0, List.length_map, hn0]
        obtain ⟨wa, wc, hwv⟩ := hs0.form
        subst hwv
        have hwas : BtIn (fun b => w2.heap.size ≤ b) w3 (.slice wa L0.length wc) L0 := ⟨Rds.of_sl hs0 hg0, fun p hp => Rds.mono (ha0 p hp) fun b hb => hb.1⟩
        rw [hn0] at hwas ⊢
        have HWAS := Lib.hid hwas
        have HL0 := Lib.hid hL0
        have HN0 := Lib.hid (And.intro hn0 hn0f)
        have HB3 := Lib.hid hb3
        have hba := (HO2.out.below hb3).bases
        rw [HGL.out] at hba
        have HBA := Lib.hid hba
        clear hs0 hg0 ha0 hL0 hwas hn0 hb3 hba HAL
        go_wp2_with fail
        refine HBA.out.mono ?_
        rintro e w4 ⟨bv, rfl, hrds, hb4⟩
        obtain ⟨ba, bc, hbv⟩ := hrds.form
        subst hbv
        have HRD := Lib.hid hrds
        have HB4 := Lib.hid (HB3.out.trans (hb4.mono HB3.out.size))
        have HB43 := Lib.hid hb4
        have HO4 := Lib.hid ((HO2.out.below (HB3.out.trans (hb4.mono HB3.out.size))).mono (Q' := fun b => w2.heap.size ≤ b) fun b _ hb => .inr hb)
        clear hrds hb4 HBA
        by_cases h2 : n < 2
        · have hd2 : decide ((n : Int) < 2) = true := by simp; omega
          go_wp2_with fail
          go_ret
          exact ⟨rfl, HEND.out _ HO4.out.low⟩
        have hd2 : decide ((n : Int) < 2) = false := by simp; omega
        have HC0 : Hid (Sl (w4.alloc (.cells #[] 3)) (.slice (some ⟨w4.heap.size, 0, none⟩) 0 0) (some w4.heap.size) 3 1 0 []) := Lib.hid (Sl.empty w4 3 1)
        have HCB0 : Hid (Below w4.heap.size w4 (w4.alloc (.cells #[] 3))) := Lib.hid ((Below.refl _ _).alloc (Nat.le_refl _) _)
        obtain ⟨i1, hi1, hz10, hz11, hz12⟩ := infoInt
        have hg200 : (fla G).length ≤ 200 := by omega
        go_wp2_with fail
        go_loopw [13, 14] (fun cv iv wq => ∃ (j : Nat) (gl : Option Nat), j ≤ n ∧ iv = .int .i64 j ∧ Sl wq cv gl 3 1 j ((cntL (G.take j)).map icell) ∧ (∀ b, gl = some b → w4.heap.size ≤ b) ∧ Below w4.heap.size w4 wq) (fun _ iv _ => n - (intOf iv).toNat)
        case atStart => exact ⟨0, some w4.heap.size, Nat.zero_le _, rfl, HC0.out, (fun b hb => by cases hb; exact Nat.le_refl _), HCB0.out⟩
        case round =>
          obtain ⟨j, gl, hj, rfl, hS, hG, hB⟩ := hrel
          obtain ⟨ca, cc, rfl⟩ := hS.form
          by_cases hlt : j < n
          · obtain ⟨g, hg⟩ : ∃ g, G[j]? = some g := ⟨_, List.getElem?_eq_getElem (by rw [HGL.out]; exact hlt)⟩
            have hgl : g.l.length ≤ 200 := by have := seg_few (List.mem_of_getElem? hg); omega
            have HSEG := Lib.hid ((HO4.out.below hB).seg hg)
            have HS := Lib.hid hS
            have HG := Lib.hid hG
            have HB := Lib.hid hB
            have HGG := Lib.hid hg
            have hd1 : decide ((j : Int) < (n : Int)) = true := by simp; omega
            clear hS hG hB hg
            go_wp2_with fail
            refine HSEG.out.mono ?_
            rintro e w5 ⟨v2, gb2, L2, rfl, hL2, hs2, -, -, hb5⟩
            obtain ⟨a2, c2, hv2⟩ := hs2.form
            subst hv2
            have hl2 : L2.length = g.l.length := by rw [← hL2, List.length_map]
            obtain ⟨m2, hm2⟩ : ∃ m2, g.l.length = m2 := ⟨_, rfl⟩
            rw [hl2, hm2]
            have hsc := HS.out.below hb5
            have hbw := HB.out.trans (hb5.mono HB.out.size)
            have HSC := Lib.hid hsc
            have HBW := Lib.hid hbw
            have HM2 := Lib.hid hm2
            clear hL2 hs2 hb5 hl2 hsc hbw hm2 HSEG
            go_wp2_with (at_builtin; refine wpList_append_rd rfl _ _ 35 rfl 3 i1 (.int .i64 0) 1 8 Tryz.underlying35 hi1 hz10 hz11 hz12 rfl (.slice ca j cc) gl j _ rfl (HSC.out.alloc _) _ 1 [.int .i64 m2] rfl (Rds.lit rfl _ _ _ _ rfl) (fun u hu => by obtain rfl := List.mem_singleton.1 hu; rfl) (by omega) (by omega) ?_)
            intro v' w9 gb' hS9 hG9 hgb9
            have hbb := below_appended (HBW.out.alloc HBW.out.size _) hG9 HG.out hgb9 (by have := HBW.out.size; omega)
            have e9 := cntL_snoc HGG.out
            rw [HM2.out] at e9
            rw [← e9] at hS9
            have HB9 := Lib.hid hbb.1
            have HG9 := Lib.hid hbb.2
            have HS9 := Lib.hid hS9
            clear hS9 hG9 hgb9 hbb e9
            go_wp2_with fail
            go_roundw
            case rel => exact ⟨j + 1, gb', hlt, by go_num, HS9.out, HG9.out, HB9.out⟩
            case measure => simp [intOf]; omega
          · obtain rfl : j = n := by omega
            have hd1 : decide ((j : Int) < (j : Int)) = false := by simp
            rw [List.take_of_length_le (by rw [HGL.out]; exact Nat.le_refl _)] at hS
            have HCS := Lib.hid (Rds.of_sl hS hG)
            have HBQ := Lib.hid hB
            have HO5 := Lib.hid (HO4.out.belowA hB)
            clear hS hG hB
            have hd0 : ((j : Int) - 1 == 0) = false := by simp; omega
            have hwn1 : IntKind.i64.wrap ((j : Int) - 1) = (j : Int) - 1 := IntWalk.i64_in _ (by omega)
            obtain ⟨k, hk1, hk2, -⟩ := mod_nat atv ((j : Int) - 1) (by omega) (by omega)
            have hwn : IntKind.u64.wrap ((j : Int) - 1) = (j : Int) - 1 := by rw [IntKind.wrap_u64]; omega
            obtain ⟨nd, hnd1, hnd2, -⟩ := mod_nat dv (j : Int) (by omega) (by omega)
            have hwj : IntKind.u64.wrap (j : Int) = (j : Int) := by rw [IntKind.wrap_u64]; omega
            have hd0j : ((j : Int) == 0) = false := by simp; omega
            obtain ⟨ka, hka1, hka2, -⟩ := mod_nat av 8 (by omega) (by omega)
            have hkn : k + 1 < j := by omega
            have hndn : nd < j := by omega
            have hka8 : ka < 8 := by omega
            have HK1 := Lib.hid hk1
            have HND1 := Lib.hid hnd1
            have HKA1 := Lib.hid hka1
            clear hk1 hk2 hnd1 hnd2 hka1 hka2
            have x0 : wr.cell? ⟨wi.heap.size, 0, none⟩ = some (.int .i64 atv) := (HBX.out _ HO5.out.low).1.1
            obtain ⟨gk, hgk⟩ : ∃ gk, G[k]? = some gk := ⟨_, List.getElem?_eq_getElem (by rw [HGL.out]; omega)⟩
            have hgk200 : gk.l.length ≤ 200 := by have := seg_few (List.mem_of_getElem? hgk); omega
            have hr8 : ∀ b ∈ gk.l, b.recs.length ≤ 8 := fun b hb => by
              have := (Pl.enc_short (HO5.out.log.good b (List.mem_flatMap.2 ⟨gk, List.mem_of_getElem? hgk, hb⟩))).2.2
              omega
            have hlle : less.length ≤ 50 := by rw [HLL.out]; omega
            have HGK := Lib.hid hgk
            have HR8 := Lib.hid hr8
            have HSEG := Lib.hid (HO5.out.seg hgk)
            clear hgk hr8
            go_wp2_with fail
            rw [HK1.out]
            go_wp2_with fail
            refine HSEG.out.mono ?_
            rintro e w6 ⟨ov, ogb, OL, rfl, hOL, hos, hog, hoa, hb6⟩
            have hold : BtIn (fun b => wr.heap.size ≤ b) w6 ov OL := ⟨Rds.of_sl hos hog, fun p hp => Rds.mono (hoa p hp) fun _ h => h.1⟩
            have HOLD := Lib.hid hold
            have HOL := Lib.hid hOL
            have HB6 := Lib.hid hb6
            have hO6 := HO5.out.belowA hb6
            have x1 : w6.cell? ⟨wi.heap.size, 1, none⟩ = some (.slice la ll lc) := (HBX.out _ hO6.low).1.2
            have hwt := without_any (A := fun _ => True) ov OL (.slice la ll lc) less w6 (hold.mono fun _ _ => trivial) (Nums.below HLE.out hO6.low) (by have h1 := congrArg List.length hOL; rw [List.length_map] at h1; omega) (fun p hp => HR8.out p.1 (by rw [← hOL]; exact List.mem_map.2 ⟨p, hp, rfl⟩)) hlle
            rw [hOL] at hwt
            have HWT := Lib.hid hwt
            have HO6 := Lib.hid hO6
            clear hOL hos hog hoa hold hb6 hO6 hwt HSEG
            go_wp2_with fail
            refine HWT.out.mono ?_
            rintro e w7 ⟨nv, ngb, NL, rfl, hns, hng, hna, hNL, hb7⟩
            have hsz2 : w2.heap.size ≤ w4.heap.size ∧ w4.heap.size ≤ wr.heap.size ∧ wr.heap.size ≤ w6.heap.size ∧ w6.heap.size ≤ w7.heap.size := ⟨HB4.out.size, HBQ.out.size, HB6.out.size, hb7.size⟩
            have hsz3 : w2.heap.size ≤ w3.heap.size := HB3.out.size
            obtain ⟨u, hu⟩ : ∃ u, w7.heap.size = u := ⟨_, rfl⟩
            obtain ⟨A, hA⟩ : ∃ A : Nat → Prop, (fun b => w2.heap.size ≤ b ∧ b < u) = A := ⟨_, rfl⟩
            have hAu : ∀ b, A b → b < u := fun b hb => by rw [← hA] at hb; exact hb.2
            have b47 : Below w4.heap.size w4 w7 := (HBQ.out.trans (HB6.out.mono HBQ.out.size)).trans (hb7.mono (by omega))
            have b37 : Below w3.heap.size w3 w7 := HB43.out.trans (b47.mono HB43.out.size)
            have br7 : Below wr.heap.size wr w7 := HB6.out.trans (hb7.mono HB6.out.size)
            have hfin : ∀ (W' : World), W' = w7 → ∀ b, w2.heap.size ≤ b → b < W'.heap.size → w7.heap[b]? = W'.heap[b]? ∧ A b := fun W' e b hb hl => by subst e; exact ⟨rfl, by rw [← hA]; exact ⟨hb, by omega⟩⟩
            have hkl : Kl A (.slice wa n0 wc) (fla G) (.slice ba j bc) (G.map Sg.first) (.slice ca j cc) (cntL G) ov gk.l nv (woL less 0 gk.l) w7 := by
              have hk0 : Kl (fun b => w2.heap.size ≤ b) (.slice wa n0 wc) (fla G) (.slice ba j bc) (G.map Sg.first) (.slice ca j cc) (cntL G) ov gk.l nv (woL less 0 gk.l) w7 := by
                refine ⟨⟨L0, HWAS.out.below b37, HL0.out⟩, ?_, ?_, ⟨OL, (HOLD.out.below hb7).mono fun b hb => by omega, HOL.out⟩, ⟨NL, ⟨Rds.of_sl hns fun b hb => by have := hng b hb; omega, fun p hp => Rds.mono (hna p hp) fun b hb => by have := hb.1; omega⟩, hNL⟩⟩
                · rw [List.length_map, HGL.out]
                  exact (HRD.out.below b47).mono fun b hb => by omega
                · rw [cntL_length, HGL.out]
                  exact (HCS.out.below br7).mono fun b hb => by omega
              exact hk0.keep (Nat.le_refl _) (hfin w7 rfl)
            have hO7 : Opd w t s (enL seg) (1 + i + 1) 0 G A true w7 := ((HO6.out.belowA hb7)).mono fun b _ hb => by rw [← hA] at hb; exact hb.1
            have x3 : w7.cell? ⟨wi.heap.size, 3, none⟩ = some (.int .i64 av) := (HBX.out _ hO7.low).2.1.2
            have HKL := Lib.hid hkl
            have HAU := Lib.hid hAu
            have HU := Lib.hid hu
            have HARM := Lib.hid (hO7.arm (ka : Int) ⟨by omega, by omega⟩)
            clear hns hng hna hNL hb7 hsz2 hsz3 hu hA hAu b47 b37 br7 hfin hkl hO7 x0 x1 HWAS HRD HCS HOLD HOL HWT HO5 HO6 HO4 HO2 HB3 HB4 HB43 HB6 HBQ HL0 HC0 HCB0
            go_wp2_with fail
            rw [HKA1.out]
            go_wp2_with fail
            refine HARM.out.mono ?_
            rintro e w8 ⟨⟨va8, rfl⟩, har8, hq8⟩
            have HKL8 := Lib.hid (HKL.out.kq hq8 fun b h hl => ⟨h, hl⟩)
            have HU8 : Hid (u ≤ w8.heap.size) := Lib.hid (by have := HU.out; have := hq8.size; omega)
            have har8' : Ard w t s (enL seg) (1 + i + 1) 0 G A w8 := let ⟨B, f, tot, n', c, K, sf, h1, h2, h3, h4⟩ := har8; ⟨B, f, tot, n', c, K, sf, h1, h2, fun b hb => h3 b ⟨hb, by have := HAU.out b hb; have := HU.out; omega⟩, h4⟩
            have hput := har8'.put (by show 1 + i + 1 < 200; omega) (by show 2260 * (200 + 1) ≤ 1048576; omega) HGK.out (by rw [HGL.out]; omega) less nv _ HKL8.out.now.choose_spec.1 HKL8.out.now.choose_spec.2
            obtain ⟨G', hG'⟩ : ∃ G', G.set k ⟨gk.first, woL less 0 gk.l⟩ = G' := ⟨_, rfl⟩
            rw [hG'] at hput
            have HPUT := Lib.hid hput
            have HG' := Lib.hid hG'
            have x2 : w8.cell? ⟨wi.heap.size, 2, none⟩ = some (.int .i64 dv) := (HBX.out _ har8'.low).2.1.1
            clear har8 har8' hq8 hput hG' x3 HARM HKL
            go_wp2_with fail
            refine HPUT.out.mono ?_
            rintro e w9 ⟨hq9, hor9⟩
            have hkl9 := HKL8.out.kq hq9 fun b h hl => ⟨h, hl⟩
            have hu9 : u ≤ w9.heap.size := Nat.le_trans HU8.out hq9.size
            have hor : ∃ er : Int, e = .returned (.int .i64 er) ∧ ((er = 0 ∧ Ard w t s (enL seg) (1 + i + 1 + 1) 0 G' A w9) ∨ (er = 10 ∧ ∃ G2, (G2 = G ∨ G2 = G') ∧ Gn w t (enL seg) (1 + i + 1 + 1) 0 G2 A false w9)) := by
              rcases hor9 with ⟨rfl, B, f, tot, n', c, K, sf, h1, h2, h3, h4⟩ | ⟨rfl, G2, hG2, s', B, f, tot, n', c, K, sf, h1, h2, h3, h4, h5, h6, h7, h8, h9, h10, h11, h12, h13, h14, h15, h16, h17, h18⟩
              · exact ⟨0, rfl, .inl ⟨rfl, B, f, tot, n', c, K, sf, h1, h2, fun b hb => h3 b ⟨hb, Nat.lt_of_lt_of_le (HAU.out b hb) HU8.out⟩, h4⟩⟩
              · exact ⟨10, rfl, .inr ⟨rfl, G2, hG2, s', B, f, tot, n', c, K, sf, h1, h2, h3, h4, h5, h6, h7, h8, h9, h10, h11, h12, h13, h14, h15, h16, fun b hb => h17 b ⟨hb, Nat.lt_of_lt_of_le (HAU.out b hb) HU8.out⟩, h18⟩⟩
            obtain ⟨er, rfl, hor⟩ := hor
            have HOR := Lib.hid hor
            have HKL9 := Lib.hid hkl9
            have HU9 := Lib.hid hu9
            have x2' : w9.cell? ⟨wi.heap.size, 2, none⟩ = some (.int .i64 dv) := (HBX.out _ (by rcases hor with ⟨-, h⟩ | ⟨-, _, -, h⟩ <;> exact h.low)).2.1.1
            clear hq9 hor9 hkl9 hu9 hor HPUT x2 HKL8 HU8
            go_upto_region 32 with fail
            rw [HND1.out]
            go_upto_if 135 with fail
            go_cut [20] from 136 to 138 (fun s20 wx => ∃ (fr : Int) (Gs : List Sg) (q : Nat), s20 = .int .i64 fr ∧ Ways er fr G G' Gs q nd ∧ Aft w t (enL seg) (1 + i + 1 + 1 + 1) 0 (Gs.drop q) A wx ∧ Kl A (.slice wa n0 wc) (fla G) (.slice ba j bc) (G.map Sg.first) (.slice ca j cc) (cntL G) ov gk.l nv (woL less 0 gk.l) wx ∧ u ≤ wx.heap.size)
            case first =>
              rcases HOR.out with ⟨rfl, har⟩ | ⟨rfl, G2, hG2, hgn⟩
              · have HDP := Lib.hid (har.drop (by show 1 + i + 1 + 1 < 200; omega) nd (by rw [← HG'.out, List.length_set, HGL.out]; omega))
                clear har
                go_wp2_with fail
                refine HDP.out.mono ?_
                rintro e w10 ⟨hq10, hor10⟩
                have hres : ∃ (fr : Int) (q : Nat), e = .returned (.int .i64 fr) ∧ Ways 0 fr G G' G' q nd ∧ Aft w t (enL seg) (1 + i + 1 + 1 + 1) 0 (G'.drop q) A w10 := by
                  rcases hor10 with ⟨rfl, B, f, tot, n', c, K, sf, h1, h2, h3, h4⟩ | ⟨rfl, q, hq, s', B, f, tot, n', c, K, sf, h1, h2, h3, h4, h5, h6, h7, h8, h9, h10, h11, h12, h13, h14, h15, h16, h17, h18⟩
                  · exact ⟨0, nd, rfl, ⟨Nat.le_refl _, .inl ⟨rfl, rfl, .inl ⟨rfl, rfl⟩⟩⟩, .inl ⟨s, B, f, tot, n', c, K, sf, h1, h2, fun b hb => h3 b ⟨hb, Nat.lt_of_lt_of_le (HAU.out b hb) HU9.out⟩, h4⟩⟩
                  · exact ⟨10, q, rfl, ⟨hq, .inl ⟨rfl, rfl, .inr rfl⟩⟩, .inr ⟨s', B, f, tot, n', c, K, sf, h1, h2, h3, h4, h5, h6, h7, h8, h9, h10, h11, h12, h13, h14, h15, h16, fun b hb => h17 b ⟨hb, Nat.lt_of_lt_of_le (HAU.out b hb) HU9.out⟩, h18⟩⟩
                obtain ⟨fr, q, rfl, hwy, haf⟩ := hres
                have HRR := Lib.hid (And.intro hwy (And.intro haf (And.intro (HKL9.out.kq hq10 fun b h hl => ⟨h, hl⟩) (Nat.le_trans HU9.out hq10.size))))
                clear hq10 hor10 hwy haf
                go_wp2_with fail
                go_meet
                case rel => exact ⟨fr, G', q, rfl, HRR.out.1, HRR.out.2.1, HRR.out.2.2.1, HRR.out.2.2.2⟩
              · have HAF : Hid (Aft w t (enL seg) (1 + i + 1 + 1 + 1) 0 (G2.drop 0) A w9) := Lib.hid (.inr (hgn.more (by show 1 + i + 1 + 1 + 1 ≤ 200; omega)))
                have HG2 := Lib.hid hG2
                clear hgn hG2
                go_wp2_with fail
                go_meet
                case rel => exact ⟨0, G2, 0, rfl, ⟨Nat.zero_le _, .inr ⟨rfl, rfl, rfl, HG2.out⟩⟩, HAF.out, HKL9.out, HU9.out⟩
            case rest =>
            obtain ⟨fr, Gs, q, rfl, hways, haft, hkl, hu10⟩ := hcut
            obtain ⟨w10, hw10⟩ : ∃ W, W = wc := ⟨_, rfl⟩
            subst hw10
            have HWY := Lib.hid hways
            have HAF := Lib.hid haft
            have HKL10 := Lib.hid hkl
            have HU10 := Lib.hid hu10
            clear hways haft hkl hu10 HOR HKL9 HU9 x2'
            go_upto_region 34 with fail
            go_cut [152] from 139 to 151 (fun s152 wx => s152 = .bool false ∧ Eqw w10 wx)
            case first =>
              rcases HWY.out with ⟨-, ⟨rfl, -, ⟨rfl, -⟩ | rfl⟩ | ⟨rfl, rfl, -, -⟩⟩
              · go_wp2_with fail
                go_meet
                case rel => exact ⟨rfl, rfl⟩
              · go_wp2_with fail
                go_meet
                case rel => exact ⟨rfl, rfl⟩
              · go_wp2_with fail
                go_meet
                case rel => exact ⟨rfl, rfl⟩
            case rest =>
            obtain ⟨rfl, hwx⟩ := hcut
            have hwx' : w10 = wc := (show wc = w10 from hwx).symm
            subst hwx'
            clear hwx
            have HOFF := Lib.hid HAF.out.off
            go_wp2_with fail
            refine HOFF.out.mono ?_
            rintro e w11 ⟨⟨vo, rfl⟩, hgn, hq11⟩
            have hlow11 := hgn.low
            have x4 : w11.cell? ⟨wi.heap.size, 4, none⟩ = some (.slice fa fl fc) := (HBX.out _ hlow11).2.2
            have HON := Lib.hid (hgn.on (.slice fa fl fc) fates (Nums.below HFA.out hlow11) HFO.out)
            have HKL11 := Lib.hid (HKL10.out.kq hq11 fun b h hl => ⟨h, hl⟩)
            have HU11 := Lib.hid (Nat.le_trans HU10.out hq11.size)
            clear hgn hq11 hlow11 HOFF HAF
            go_wp2_with fail
            refine HON.out.mono ?_
            rintro e w12 ⟨⟨vo, rfl⟩, hbn, hq12⟩
            obtain ⟨sv, hsv⟩ : ∃ sv, wrap64 (1 + wrap64 ((IntKind.u64.wrap seg).tmod 400)) = sv := ⟨_, rfl⟩
            have hop := hbn.open_ (by show 1 + i + 1 + 1 + 1 < 200; omega)
            rw [show (enL seg).sv = sv from hsv, show (enL seg).P.toArray = #[112, 97, 114, 116] from rfl] at hop
            have HOP := Lib.hid hop
            have HSV := Lib.hid hsv
            have HKL12 := Lib.hid (HKL11.out.kq hq12 fun b h hl => ⟨⟨h, Nat.lt_of_lt_of_le (HAU.out b h) HU10.out⟩, hl⟩)
            have HU12 := Lib.hid (Nat.le_trans HU11.out hq12.size)
            clear hbn hq12 hop hsv HON x4
            go_wp2_with fail
            rw [HSV.out]
            refine HOP.out.mono ?_
            rintro e w13 ⟨p, rfl, ho13, hq13⟩
            have HKL13 := Lib.hid (HKL12.out.kq hq13 fun b h hl => ⟨⟨⟨h, Nat.lt_of_lt_of_le (HAU.out b h) HU10.out⟩, Nat.lt_of_lt_of_le (HAU.out b h) HU11.out⟩, hl⟩)
            have HU13 := Lib.hid (Nat.le_trans HU12.out hq13.size)
            have HO13 := Lib.hid ho13
            obtain ⟨ml, hGs, hml, hmo⟩ : ∃ ml : List Pl.Bt, Gs = G.set k ⟨gk.first, ml⟩ ∧ ml.length = gk.l.length ∧ (ml = woL less 0 gk.l ∨ er = 10 ∧ ml = gk.l) := by
              have h := HWY.out
              rw [← HG'.out] at h
              exact h.seg HGK.out (woL_length _ _ _)
            have hqnd := HWY.out.1
            have hGsl : Gs.length = j := by rw [hGs, List.length_set, HGL.out]
            have hGat : ∀ r, r ≠ k → Gs[r]? = G[r]? := fun r hr => by rw [hGs, List.getElem?_set_ne (fun e => hr e.symm)]
            have hGk : Gs[k]? = some ⟨gk.first, ml⟩ := by rw [hGs, List.getElem?_set_self (by rw [HGL.out]; omega)]
            have hGfl : (fla Gs).length = n0 := by rw [hGs, fla_put_length HGK.out hml, HN0.out.2]
            obtain ⟨n2, hn2⟩ : ∃ n2, (Gs.drop q).length = n2 := ⟨_, rfl⟩
            have hn2j : n2 + q = j := by rw [List.length_drop, hGsl] at hn2; omega
            have hba := ho13.bases
            rw [hn2] at hba
            have HBA := Lib.hid hba
            have HGS := Lib.hid (And.intro hGs (And.intro hml hmo))
            have HGSL := Lib.hid hGsl
            have HGAT := Lib.hid hGat
            have HGKK := Lib.hid hGk
            have HGFL := Lib.hid hGfl
            have HN2 := Lib.hid hn2
            clear ho13 hq13 hba HOP hGs hml hmo hGsl hGat hGk hGfl hn2
            go_wp2_with fail
            refine HBA.out.mono ?_
            rintro e w14 ⟨lv, rfl, hlr, hb14⟩
            obtain ⟨lfa, lfc, hlv⟩ := hlr.form
            subst hlv
            have HLR := Lib.hid hlr
            have HKL14 := Lib.hid (HKL13.out.below hb14)
            have HO14 := Lib.hid (HO13.out.below hb14)
            have HU14 := Lib.hid (Nat.le_trans HU13.out hb14.size)
            have hgo : IntKind.i64.wrap ((j : Int) - (n2 : Int)) = (q : Int) := by rw [IntWalk.i64_in _ (by omega)]; omega
            clear hlr hb14 HBA
            go_upto_region 43 with fail
            go_cut [205] from 178 to 204 (fun s205 wx => s205 = .bool false ∧ Eqw w14 wx)
            case first =>
              have g0 : decide ((q : Int) < 0) = false := by simp
              have g1 : decide ((nd : Int) < (q : Int)) = false := by simp; omega
              have g3 : decide (nd < q) = false := by simp; omega
              rcases HWY.out with ⟨-, ⟨rfl, -, ⟨rfl, hqn⟩ | rfl⟩ | ⟨rfl, rfl, hq0, -⟩⟩
              · have g2 : ((q : Int) != (nd : Int)) = false := by simp [hqn]
                clear hqn
                go_wp2_with fail
                go_meet
                case rel => exact ⟨rfl, rfl⟩
              · go_wp2_with fail
                go_meet
                case rel => exact ⟨rfl, rfl⟩
              · have g2 : ((q : Int) != 0) = false := by simp [hq0]
                clear hq0
                go_wp2_with fail
                go_meet
                case rel => exact ⟨rfl, rfl⟩
            case rest =>
            obtain ⟨rfl, hwx⟩ := hcut
            have hwx' : w14 = wc := (show wc = w14 from hwx).symm
            subst hwx'
            clear hwx
            obtain ⟨LW, hLWb, hLWm⟩ := HKL14.out.was
            have hLWn : LW.length = n0 := by have h1 := congrArg List.length hLWm; rw [List.length_map, HN0.out.2] at h1; exact h1
            obtain ⟨i0, hi0, hy0, hy1, hy2⟩ := infoBt
            have HSE : Hid (Sl (w14.alloc (.cells #[] 34)) (.slice (some ⟨w14.heap.size, 0, none⟩) 0 0) (some w14.heap.size) 34 6 0 []) := Lib.hid (Sl.empty w14 34 6)
            have hal : Below w14.heap.size w14 (w14.alloc (.cells #[] 34)) := (Below.refl _ _).alloc (Nat.le_refl _) _
            have hrd := hLWb.1.below hal
            rw [hLWn] at hrd
            have HRDW := Lib.hid hrd
            have HONE := Lib.hid (bc6_one hLWb.2)
            have HLWR := Lib.hid (And.intro hLWb.2 (And.intro hLWm hLWn))
            have HALB := Lib.hid hal
            have hn0b : n0 ≤ 200 := by rw [← HN0.out.2]; exact hg200
            clear hLWb hLWm hLWn hal hrd
            go_wp2_with (at_builtin; refine wpList_append_rd (by rfl) _ _ 29 (by rfl) 34 i0 (.agg zeroB) 6 64 Tryz.underlying29 hi0 hy0 hy1 hy2 rfl _ (some w14.heap.size) 0 _ (by rfl) HSE.out _ n0 (LW.flatMap bc6) (by rfl) HRDW.out HONE.out (by omega) (by omega) ?_)
            intro wv w15 wgb hs15 hg15 hn15
            have hbb := below_appended HALB.out hg15 (fun b hb => by cases hb; exact Nat.le_refl _) (by simpa using hn15) (by simp)
            have hwt0 : Wt w14 wv wgb (fla G) w15 := by
              refine ⟨LW, ?_, HLWR.out.2.1, hbb.2, fun p hp => ?_, hbb.1⟩
              · rw [HLWR.out.2.2]
                simpa using hs15
              · refine Rds.keep (HLWR.out.1 p hp) hbb.1.size fun b hb hl => ⟨hbb.1.block b hl, fun e => ?_⟩
                have := hbb.2 b e
                omega
            obtain ⟨wxa, wxc, hwv⟩ := hwt0.form
            rw [HN0.out.2] at hwv
            subst hwv
            have HWT0 := Lib.hid hwt0
            clear hs15 hg15 hn15 hbb hwt0
            go_wp2_with fail
            go_loopw [26, 27] (fun kv iv wq => ∃ r : Nat, r ≤ j ∧ iv = .int .i64 r ∧ kv = .int .i64 ((fla (G.take r)).length : Nat) ∧ Wt w14 (.slice wxa n0 wxc) wgb (mixL k q r (fla Gs) (fla G)) wq) (fun _ iv _ => j - (intOf iv).toNat)
            case atStart => exact ⟨0, Nat.zero_le _, rfl, rfl, by rw [mixL_no (by omega)]; exact HWT0.out⟩
            case round =>
              obtain ⟨r, hrj, rfl, rfl, hWt⟩ := hrel
              by_cases hlt : r < j
              · have hd1 : decide ((r : Int) < (j : Int)) = true := by simp; omega
                obtain ⟨g, hg⟩ : ∃ g, G[r]? = some g := ⟨_, List.getElem?_eq_getElem (by rw [HGL.out]; exact hlt)⟩
                obtain ⟨kk, hkk⟩ : ∃ kk, (fla (G.take r)).length = kk := ⟨_, rfl⟩
                have hstep : (fla (G.take (r + 1))).length = kk + g.l.length := by rw [take_nxt hg, fla_append, fla_one, List.length_append, hkk]
                have hle : kk + g.l.length ≤ n0 := by
                  have h1 := fla_part G 0 (r + 1)
                  rw [List.drop_zero, hstep, HN0.out.2] at h1
                  exact h1
                have HWT := Lib.hid hWt
                have HGG := Lib.hid hg
                have HKK := Lib.hid hkk
                have HST := Lib.hid hstep
                rw [hkk]
                clear hWt hg hkk hstep
                obtain ⟨cnd, hcnd⟩ : ∃ cnd, decide (r = k ∧ q ≤ k) = cnd := ⟨_, rfl⟩
                have HCN := Lib.hid hcnd
                clear hcnd
                obtain ⟨wr5, hwr5⟩ : ∃ W, W = wr := ⟨_, rfl⟩
                subst hwr5
                go_upto_region 50 with fail
                go_cut [222] from 209 to 279 (fun s222 wx => s222 = .bool cnd ∧ Eqw wr5 wx)
                case first =>
                  by_cases hrk : r = k
                  · have e1 : ((r : Int) == (k : Int)) = true := by simp; omega
                    by_cases hqk : q ≤ k
                    · have e2 : decide ((q : Int) ≤ (k : Int)) = true := by simp; omega
                      have hct : cnd = true := by rw [← HCN.out]; simp; omega
                      subst hct
                      go_wp2_with fail
                      go_meet
                      case rel => exact ⟨rfl, rfl⟩
                    · have e2 : decide ((q : Int) ≤ (k : Int)) = false := by simp; omega
                      have hct : cnd = false := by rw [← HCN.out]; simp; omega
                      subst hct
                      go_wp2_with fail
                      go_meet
                      case rel => exact ⟨rfl, rfl⟩
                  · have e1 : ((r : Int) == (k : Int)) = false := by simp; omega
                    have hct : cnd = false := by rw [← HCN.out]; simp; omega
                    subst hct
                    go_wp2_with fail
                    go_meet
                    case rel => exact ⟨rfl, rfl⟩
                case rest =>
                obtain ⟨rfl, hwx⟩ := hcut
                have hwx' : wr5 = wc := (show wc = wr5 from hwx).symm
                subst hwx'
                clear hwx
                go_upto_if 222 with fail
                go_cut [28, 29] from 209 to 279 (fun _ _ wx => Wt w14 (.slice wxa n0 wxc) wgb (mixL k q (r + 1) (fla Gs) (fla G)) wx)
                case first =>
                  cases cnd with
                  | false =>
                    have hno := of_decide_eq_false HCN.out
                    have HFW : Hid (Wt w14 (.slice wxa n0 wxc) wgb (mixL k q (r + 1) (fla Gs) (fla G)) wr5) := Lib.hid (by
                      rw [mixL_next hno]
                      exact HWT.out)
                    go_wp2_with fail
                    go_meet
                    case rel => exact HFW.out
                  | true =>
                    obtain ⟨hrk, hqk⟩ := of_decide_eq_true HCN.out
                    subst hrk
                    have hwt := HWT.out
                    rw [mixL_no (by omega)] at hwt
                    obtain rfl : g = gk := Option.some.inj (HGG.out.symm.trans HGK.out)
                    have hkq : IntKind.i64.wrap ((r : Int) - (q : Int)) = ((r - q : Nat) : Int) := by rw [IntWalk.i64_in _ (by omega)]; omega
                    obtain ⟨rq, hrq⟩ : ∃ rq, r - q = rq := ⟨_, rfl⟩
                    rw [hrq] at hkq
                    have hgd : (Gs.drop q)[rq]? = some ⟨g.first, ml⟩ := by rw [List.getElem?_drop, show q + rq = r by omega]; exact HGKK.out
                    have HSEG := Lib.hid ((HO14.out.below hwt.low).seg hgd)
                    have HWTA := Lib.hid hwt
                    have HRQ : Hid (q + rq = r) := Lib.hid (by omega)
                    clear hwt hgd hrq
                    go_wp2_with fail
                    refine HSEG.out.mono ?_
                    rintro e w16 ⟨mv, mgb, ML, rfl, hML, hms, hmg, hma, hb16⟩
                    obtain ⟨ma, mc, hmv⟩ := hms.form
                    subst hmv
                    obtain ⟨mm, hmm⟩ : ∃ mm, ML.length = mm := ⟨_, rfl⟩
                    have hmml : ml.length = mm := by rw [← hML, List.length_map, hmm]
                    have hmid : BtIn (fun b => wgb ≠ some b) w16 (.slice ma ML.length mc) ML := by
                      have key : ∀ b, wr5.heap.size ≤ b → wgb ≠ some b := fun b hb e => by
                        obtain ⟨L9, h9, -⟩ := HWTA.out
                        have := h9.lt b e
                        omega
                      exact ⟨Rds.of_sl hms fun b hb => key b (hmg b hb), fun p hp => Rds.mono (hma p hp) fun b hb => key b hb.1⟩
                    rw [hmm] at hmid ⊢
                    have hwt16 := HWTA.out.below hb16
                    have hb14 := hwt16.low
                    have hr8m : ∀ p ∈ ML, p.1.recs.length ≤ 1099511627776 := fun p hp => by
                      have hgo := (HO14.out.below hb14).log.good p.1 (List.mem_flatMap.2 ⟨⟨g.first, ml⟩, List.mem_of_getElem? (i := rq) (by rw [List.getElem?_drop, HRQ.out]; exact HGKK.out), by rw [← hML]; exact List.mem_map.2 ⟨p, hp, rfl⟩⟩)
                      have := (Pl.enc_short hgo).2.2
                      omega
                    obtain ⟨OL, hO1, hO2⟩ := HKL14.out.old
                    obtain ⟨NL, hN1, hN2⟩ := HKL14.out.now
                    have hgl200 := hgk200
                    have hml2 : mm = g.l.length := by rw [← hmml]; exact HGS.out.2.1
                    have hOl : OL.length = mm := by have h1 := congrArg List.length hO2; rw [List.length_map] at h1; omega
                    have hNl : NL.length = mm := by have h1 := congrArg List.length hN2; rw [List.length_map, woL_length] at h1; omega
                    have hro : ∀ p ∈ OL, p.1.recs.length ≤ 1099511627776 := fun p hp => by have := HR8.out p.1 (by rw [← hO2]; exact List.mem_map.2 ⟨p, hp, rfl⟩); omega
                    have hrn : ∀ p ∈ NL, p.1.recs.length ≤ 1099511627776 := fun p hp => by
                      have hp' : p.1 ∈ woL less 0 g.l := by rw [← hN2]; exact List.mem_map.2 ⟨p, hp, rfl⟩
                      obtain ⟨b, hb1, hb2⟩ := woL_mem hp'
                      have := HR8.out b hb1
                      omega
                    have HBN : Hid (Calls Tryz.prog 36 #[.slice ma mm mc, nv] w16 (BooOut ml (woL less 0 g.l) w16)) := Lib.hid (by
                      have h := batches_bool (.slice ma mm mc) nv ML NL w16 hmid (hN1.below hb14) (by omega) (by omega) hr8m hrn
                      rw [hML, hN2] at h
                      exact h)
                    have HBO : Hid (∀ wx, Below w16.heap.size w16 wx → Calls Tryz.prog 36 #[.slice ma mm mc, ov] wx (BooOut ml g.l wx)) := Lib.hid fun wx hb => by
                      have h := batches_bool (.slice ma mm mc) ov ML OL wx (hmid.below hb) ((hO1.below hb14).below hb) (by omega) (by omega) hr8m hro
                      rw [hML, hO2] at h
                      exact h
                    have HMID := Lib.hid hmid
                    have HML := Lib.hid (And.intro hML (And.intro hmm hmml))
                    have HW16 := Lib.hid hwt16
                    have HML2 := Lib.hid hml2
                    clear hmml hml2 hgl200 hML hms hmg hma hb16 hmm hmid hwt16 hb14 hr8m hO1 hO2 hN1 hN2 hOl hNl hro hrn HSEG
                    go_upto_region 52 with fail
                    go_cut [241] from 209 to 279 (fun s241 wx => s241 = .bool false ∧ Below w16.heap.size w16 wx)
                    case first =>
                      go_wp2_with fail
                      refine HBN.out.mono ?_
                      rintro e w17 ⟨q1, rfl, hq1, hb17⟩
                      have HB17 := Lib.hid hb17
                      have HQ1 := Lib.hid hq1
                      clear hb17 hq1
                      cases q1 with
                      | true =>
                        go_wp2_with fail
                        go_meet
                        case rel => exact ⟨rfl, HB17.out⟩
                      | false =>
                        have hne : ¬ ml = woL less 0 g.l := fun e => by have := HQ1.out e; cases this
                        obtain ⟨he10, hmg2⟩ : er = 10 ∧ ml = g.l := HGS.out.2.2.resolve_left hne
                        subst he10
                        have HBO2 := Lib.hid (HBO.out w17 HB17.out)
                        have HMG := Lib.hid hmg2
                        clear hne hmg2
                        go_wp2_with fail
                        refine HBO2.out.mono ?_
                        rintro e w18 ⟨q2, rfl, hq2, hb18⟩
                        obtain rfl : q2 = true := hq2 HMG.out
                        have HB18 := Lib.hid (HB17.out.trans (hb18.mono HB17.out.size))
                        clear hb18 hq2
                        go_wp2_with fail
                        go_meet
                        case rel => exact ⟨rfl, HB18.out⟩
                    case rest =>
                    obtain ⟨rfl, hb17⟩ := hcut
                    have HMID17 := Lib.hid (HMID.out.below hb17)
                    have HW17 := Lib.hid (HW16.out.below hb17)
                    clear hb17 HMID HW16 HBN HBO
                    go_wp2_with fail
                    go_loopw [29] (fun jv wx => ∃ c : Nat, c ≤ mm ∧ jv = .int .i64 c ∧ Wt w14 (.slice wxa n0 wxc) wgb (curL G r ml g.l c) wx ∧ BtIn (fun b => wgb ≠ some b) wx (.slice ma mm mc) ML) (fun jv _ => mm - (intOf jv).toNat)
                    case atStart => exact ⟨0, Nat.zero_le _, rfl, by rw [curL_zero HGK.out]; exact HW17.out, HMID17.out⟩
                    case round =>
                      obtain ⟨c, hcm, rfl, hwt, hmd⟩ := hrel
                      by_cases hlc : c < mm
                      · have hd3 : decide ((c : Int) < (mm : Int)) = true := by simp; omega
                        obtain ⟨⟨⟨base, count, prod, seq, time, recs⟩, rv⟩, hx⟩ : ∃ x, ML[c]? = some x := ⟨_, List.getElem?_eq_getElem (by rw [HML.out.2.1]; exact hlc)⟩
                        obtain ⟨mb, mo, mcap, e1, hmA, hmlt, c0, c1, c2, c3, c4, c5, hrc⟩ := hmd.get hx
                        rw [HML.out.2.1] at e1
                        obtain rfl : ma = some ⟨mb, mo, none⟩ := by injection e1
                        obtain ⟨ra, rn, rc, hrv⟩ : ∃ a n c, rv = .slice a n c := let ⟨a, c, h⟩ := Rds.form hrc; ⟨a, _, c, h⟩
                        subst hrv
                        obtain ⟨d, hd⟩ : ∃ d, kk + c = d := ⟨_, rfl⟩
                        have hdn : d < n0 := by have := HML2.out; omega
                        have hcl : (curL G r ml g.l c).length = n0 := by rw [curL_length HGK.out HGS.out.2.1, HN0.out.2]
                        obtain ⟨wg, wp, wcap, e2, e3, hcells, hfz⟩ := hwt.at (c := d) (by rw [hcl]; exact hdn)
                        rw [hcl] at e2
                        obtain rfl : wxa = some ⟨wg, wp, none⟩ := by injection e2
                        subst e3
                        obtain ⟨v0, f0⟩ := hcells 0 (by decide)
                        obtain ⟨v1, f1⟩ := hcells 1 (by decide)
                        obtain ⟨v2, f2⟩ := hcells 2 (by decide)
                        obtain ⟨v3, f3⟩ := hcells 3 (by decide)
                        obtain ⟨v4, f4⟩ := hcells 4 (by decide)
                        obtain ⟨v5, f5⟩ := hcells 5 (by decide)
                        rw [Nat.add_zero] at f0
                        have hwd : IntKind.i64.wrap ((kk : Int) + (c : Int)) = (d : Int) := by rw [IntWalk.i64_in _ (by omega)]; omega
                        have j0 : (0 : Int) ≤ (d : Int) := by omega
                        have j1 : (d : Int) < (n0 : Int) := by omega
                        have j2 : (0 : Int) ≤ (c : Int) := by omega
                        have j3 : (c : Int) < (mm : Int) := by omega
                        have hgw : ∀ b, (some wg : Option Nat) ≠ some b → wg ≠ b := fun b h e => h (by rw [e])
                        have hmx : ml[c]? = some ⟨base, count, prod, seq, time, recs⟩ := by rw [← HML.out.1, List.getElem?_map, hx]; rfl
                        have hnx := hwt.put (c := d) (b := ⟨base, count, prod, seq, time, recs⟩) (rv := .slice ra rn rc) (by rw [hcl]; exact hdn) (Rds.mono hrc hgw)
                        have hcur : (curL G r ml g.l c).set d ⟨base, count, prod, seq, time, recs⟩ = curL G r ml g.l (c + 1) := by
                          rw [← hd, ← HKK.out]
                          exact curL_next HGS.out.2.1 hmx
                        rw [hcur] at hnx
                        have HNX := Lib.hid hnx
                        have hmdn : ∀ (W' : World), W'.heap.size = wr.heap.size → (∀ b, b ≠ wg → W'.heap[b]? = wr.heap[b]?) → BtIn (fun b => (some wg : Option Nat) ≠ some b) W' (.slice (some ⟨mb, mo, none⟩) mm mc) ML := fun W' hs hb => by
                          have key : ∀ b, (some wg : Option Nat) ≠ some b → b < wr.heap.size → W'.heap[b]? = wr.heap[b]? ∧ (some wg : Option Nat) ≠ some b := fun b h _ => ⟨hb b fun e => h (by rw [e]), h⟩
                          exact ⟨Rds.keep hmd.1 (Nat.le_of_eq hs.symm) key, fun p hp => Rds.keep (hmd.2 p hp) (Nat.le_of_eq hs.symm) key⟩
                        have HMDN := Lib.hid hmdn
                        clear hwt hmd hx hrc hcells hcl hmx hnx hcur hmdn hmA hmlt e1 e2 hgw
                        go_wp2_with fail
                        go_roundw
                        case rel =>
                          refine ⟨c + 1, by omega, by go_num, HNX.out, HMDN.out _ (by simp [World.setCell]) fun b hb => ?_⟩
                          exact (Below.heap_setCell _ _ _ _ hb).trans ((Below.heap_setCell _ _ _ _ hb).trans ((Below.heap_setCell _ _ _ _ hb).trans ((Below.heap_setCell _ _ _ _ hb).trans ((Below.heap_setCell _ _ _ _ hb).trans (Below.heap_setCell _ _ _ _ hb)))))
                        case measure => simp [intOf]; omega
                      · obtain rfl : c = mm := by omega
                        have hd3 : decide ((c : Int) < (c : Int)) = false := by simp
                        have HFW : Hid (Wt w14 (.slice wxa n0 wxc) wgb (mixL r q (r + 1) (fla Gs) (fla G)) wr) := Lib.hid (by
                          rw [mixL_yes (by omega) hqk, HGS.out.1, ← curL_all HGK.out HGS.out.2.1, HML.out.2.2]
                          exact hwt)
                        clear hwt hmd
                        go_wp2_with fail
                        go_meet
                        case rel => exact HFW.out
                case rest =>
                have hWt := hcut
                clear hcut
                obtain ⟨wq2, hwq2⟩ : ∃ W, W = wc := ⟨_, rfl⟩
                subst hwq2
                have HW2 := Lib.hid hWt
                have hb2 := hWt.low
                have hkl2 := HKL14.out.below hb2
                have hlr2 := HLR.out.below hb2
                obtain ⟨cb, co, ccap, e1, -, -, hcc⟩ := hkl2.counts.at (by rw [cntL_length, HGL.out]; omega)
                obtain rfl : ca = some ⟨cb, co, none⟩ := by injection e1
                obtain ⟨bb, bo, bcap, e2, -, -, hbc⟩ := hkl2.bases.at (by rw [List.length_map, HGL.out]; omega)
                obtain rfl : ba = some ⟨bb, bo, none⟩ := by injection e2
                obtain ⟨gl, hgl⟩ : ∃ gl, g.l.length = gl := ⟨_, rfl⟩
                have c0 : wq2.cell? ⟨cb, co + r, none⟩ = some (.int .i64 gl) := hcc r _ (by rw [List.getElem?_map, cntL_at HGG.out, ← hgl]; rfl)
                have hws : IntKind.i64.wrap ((kk : Int) + (gl : Int)) = ((kk + gl : Nat) : Int) := by rw [IntWalk.i64_in _ (by omega)]; omega
                have j0 : (0 : Int) ≤ (r : Int) := by omega
                have j1 : (r : Int) < (j : Int) := by omega
                have HST2 : Hid ((fla (G.take (r + 1))).length = kk + gl) := Lib.hid (by rw [← hgl]; exact HST.out)
                obtain ⟨kg, hkg⟩ : ∃ kg, kk + gl = kg := ⟨_, rfl⟩
                rw [hkg] at hws HST2
                by_cases hr2 : r < n2
                · have hd4 : decide ((r : Int) < (n2 : Int)) = true := by simp; omega
                  obtain ⟨lb, lo, lcap, e3, -, -, hlc⟩ := hlr2.at (by omega)
                  obtain rfl : lfa = some ⟨lb, lo, none⟩ := by injection e3
                  obtain ⟨gr, hgr⟩ : ∃ gr, G[q + r]? = some gr := ⟨_, List.getElem?_eq_getElem (by rw [HGL.out]; omega)⟩
                  obtain ⟨fi, hfi⟩ : ∃ fi, gr.first = fi := ⟨_, rfl⟩
                  have hfs : ((Gs.drop q).map Sg.first)[r]? = some fi := by
                    rw [List.getElem?_map, List.getElem?_drop]
                    by_cases hk : q + r = k
                    · rw [hk, HGKK.out]
                      rw [hk, HGK.out] at hgr
                      rw [← hfi, ← Option.some.inj hgr]
                      rfl
                    · rw [HGAT.out _ hk, hgr, ← hfi]
                      rfl
                  obtain ⟨rq, hrq⟩ : ∃ rq, q + r = rq := ⟨_, rfl⟩
                  have d0 : wq2.cell? ⟨lb, lo + r, none⟩ = some (.int .i64 fi) := hlc r _ (by rw [List.getElem?_map, hfs]; rfl)
                  have d1 : wq2.cell? ⟨bb, bo + rq, none⟩ = some (.int .i64 fi) := hbc rq _ (by rw [List.getElem?_map, List.getElem?_map, ← hrq, hgr, ← hfi]; rfl)
                  have hwr2 : IntKind.i64.wrap ((r : Int) + (q : Int)) = (rq : Int) := by rw [IntWalk.i64_in _ (by omega)]; omega
                  have j2 : (r : Int) < (n2 : Int) := by omega
                  have j3 : (0 : Int) ≤ (rq : Int) := by omega
                  have j4 : (rq : Int) < (j : Int) := by omega
                  have hff : (fi != fi) = false := by simp
                  clear hWt hb2 hkl2 hlr2 hcc hbc hlc e1 e2 e3 hgr hfs
                  go_wp2_with fail
                  go_quiet (fail)
                  go_wp2_with fail
                  go_roundw
                  case rel => exact ⟨r + 1, by omega, by go_num, by rw [HST2.out], HW2.out.below (below_drewN _ _)⟩
                  case measure => simp [intOf]; omega
                · have hd4 : decide ((r : Int) < (n2 : Int)) = false := by simp; omega
                  clear hWt hb2 hkl2 hlr2 hcc hbc e1 e2
                  go_wp2_with fail
                  go_quiet (fail)
                  go_wp2_with fail
                  go_roundw
                  case rel => exact ⟨r + 1, by omega, by go_num, by rw [HST2.out], HW2.out.below (below_drewN _ _)⟩
                  case measure => simp [intOf]; omega
              · obtain rfl : r = j := by omega
                have hd1 : decide ((r : Int) < (r : Int)) = false := by simp
                have hkr : k < r := by omega
                obtain ⟨T, hT⟩ : ∃ T, (mixL k q r (fla Gs) (fla G)) = T := ⟨_, rfl⟩
                rw [hT] at hWt
                have hTl : T.length = n0 := by rw [← hT]; unfold mixL; split; exact HGFL.out; exact HN0.out.2
                have hTd : T.drop ((fla (Gs.take q)).length) = fla (Gs.drop q) := by
                  have hsp : fla Gs = fla (Gs.take q) ++ fla (Gs.drop q) := by rw [← fla_append, List.take_append_drop]
                  rw [← hT]
                  by_cases hqk : q ≤ k
                  · rw [mixL_yes hkr hqk, hsp, List.drop_left]
                  · rw [mixL_no (by omega)]
                    have e1 : Gs.drop q = G.drop q := by rw [HGS.out.1, List.drop_set_of_lt (by omega)]
                    have e2 : (fla (Gs.take q)).length = (fla (G.take q)).length := by
                      have h1 := congrArg List.length hsp
                      have h2 := congrArg List.length (show fla G = fla (G.take q) ++ fla (G.drop q) by rw [← fla_append, List.take_append_drop])
                      rw [List.length_append, HGFL.out, e1] at h1
                      rw [List.length_append, HN0.out.2] at h2
                      omega
                    rw [e2, e1, show fla G = fla (G.take q) ++ fla (G.drop q) by rw [← fla_append, List.take_append_drop], List.drop_left]
                obtain ⟨pl, hpl⟩ : ∃ pl, (fla (Gs.take q)).length = pl := ⟨_, rfl⟩
                obtain ⟨nl, hnl⟩ : ∃ nl, (fla (Gs.drop q)).length = nl := ⟨_, rfl⟩
                have hpn : pl + nl = n0 := by
                  have h1 := congrArg List.length hTd
                  rw [List.length_drop, hTl, hpl, hnl] at h1
                  have h2 : pl ≤ n0 := by
                    have h3 := congrArg List.length (show fla Gs = fla (Gs.take q) ++ fla (Gs.drop q) by rw [← fla_append, List.take_append_drop])
                    rw [List.length_append, HGFL.out] at h3
                    omega
                  omega
                rw [hpl] at hTd
                have HAL := Lib.hid ((HO14.out.below hWt.low).all)
                have HWF := Lib.hid hWt
                have HTD := Lib.hid (And.intro hTd (And.intro hTl hnl))
                clear hWt hT hTl hTd hpl hnl
                go_wp2_with fail
                refine HAL.out.mono ?_
                rintro e w20 ⟨av2, agb, LA, rfl, has, -, haa, hLA, hb20⟩
                obtain ⟨aa, ac, hav⟩ := has.form
                subst hav
                have hlan : LA.length = nl := by rw [← HTD.out.2.2, ← hLA, List.length_map]
                have hwt20 := HWF.out.below hb20
                have hla : BtIn (fun _ => True) w20 (.slice aa LA.length ac) LA := ⟨Rds.of_sl has fun _ _ => trivial, fun p hp => Rds.mono (haa p hp) fun _ _ => trivial⟩
                rw [hlan] at hla ⊢
                have hlow20 := (HO14.out.below hwt20.low).low
                obtain ⟨LT, hts, htm, -, hta, -⟩ := hwt20
                have hltn : LT.length = n0 := by have h1 := congrArg List.length htm; rw [List.length_map, HTD.out.2.1] at h1; exact h1
                have hnnl : nl ≤ n0 := by omega
                have hd5 : decide ((nl : Int) ≤ (n0 : Int)) = true := by simp; omega
                have hws : IntKind.i64.wrap ((n0 : Int) - (nl : Int)) = (pl : Int) := by rw [IntWalk.i64_in _ (by omega)]; omega
                have hcap : n0 ≤ wxc := by
                  rcases hts.2 with ⟨-, e, h⟩ | ⟨_, _, _, _, -, e, -, hc, -⟩
                  · rw [hltn] at h
                    omega
                  · injection e with _ e1 e2
                    omega
                have hrt : Rds (fun _ => True) w20 (.slice wxa n0 wxc) 6 n0 (LT.flatMap bc6) := by have h := Rds.of_sl (A := fun _ => True) hts fun _ _ => trivial; rwa [hltn] at h
                have hdl : (LT.drop pl).length = nl := by rw [List.length_drop, hltn]; omega
                have hfd := flat_drop bc6 6 bc6_length LT pl
                have HBT : Hid (∀ xa c', BtIn (fun _ => True) w20 (.slice xa nl c') (LT.drop pl) → Calls Tryz.prog 36 #[.slice aa nl ac, .slice xa nl c'] w20 fun e w' => e = .returned (.bool true) ∧ Below w20.heap.size w20 w') := Lib.hid fun xa c' hsub => by
                  refine batches_true (.slice aa nl ac) _ LA (LT.drop pl) w20 hla hsub ?_ (by omega) fun p hp => ?_
                  · rw [hLA, List.map_drop, htm, HTD.out.1]
                  · have := (Pl.enc_short ((HO14.out.log.good p.1 (by rw [← hLA]; exact List.mem_map.2 ⟨p, hp, rfl⟩)))).2.2
                    omega
                have hall : All (fun _ => True) w20 (LT.drop pl) := fun p hp => Rds.mono (hta p (List.mem_of_mem_drop hp)) fun _ _ => trivial
                have HLOW := Lib.hid hlow20
                have p0 : (0 : Int) ≤ (pl : Int) := by omega
                have p1 : (pl : Int) ≤ (n0 : Int) := by omega
                have p2 : pl ≤ n0 := by omega
                have p3 : pl ≤ wxc := by omega
                have hpw : n0 - pl = nl := by omega
                have hwsz : IntKind.i64.wrap ((n0 : Int) - (pl : Int)) = (nl : Int) := by rw [IntWalk.i64_in _ (by omega)]; omega
                by_cases hcz : wxc = pl
                · have hnl0 : nl = 0 := by omega
                  have hp0 : pl = n0 := by omega
                  have hsub : BtIn (fun _ => True) w20 (.slice wxa nl 0) (LT.drop pl) := by
                    refine ⟨?_, hall⟩
                    rw [hdl, List.eq_nil_of_length_eq_zero (hdl.trans hnl0), hnl0]
                    cases wxa with
                    | none => exact Rds.nil _ _ _
                    | some a => exact Rds.empty _ _ _ _ _
                  have HBB := Lib.hid (HBT.out _ _ hsub)
                  clear has haa hLA hb20 hla hlow20 hts htm hta hrt HAL hsub hall hfd HBT hdl
                  subst hcz
                  subst hp0
                  subst hnl0
                  go_wp2_with fail
                  refine HBB.out.mono ?_
                  rintro e w21 ⟨rfl, hb21⟩
                  have HF := Lib.hid (HEND.out _ (HLOW.out.trans (hb21.mono HLOW.out.size)))
                  clear hb21
                  go_wp2_with fail
                  go_ret
                  exact ⟨rfl, HF.out⟩
                · have hpc : pl < wxc := by omega
                  have hpc2 : ¬ wxc - pl = 0 := by omega
                  have hpc3 : ((wxc - pl) == 0) = false := by simp; omega
                  obtain ⟨xb, xo, rfl⟩ : ∃ b o, wxa = some ⟨b, o, none⟩ := by
                    rcases hts.2 with ⟨e, -, -⟩ | ⟨g, p, _, _, -, e, -⟩
                    · injection e with _ _ e3
                      omega
                    · injection e with e1
                      exact ⟨g, p, e1⟩
                  have hsub : BtIn (fun _ => True) w20 (.slice (some ⟨xb, xo + pl * 6, none⟩) nl (wxc - pl)) (LT.drop pl) := by
                    refine ⟨?_, hall⟩
                    have h := hrt.suffix (j := pl) p2 ⟨xb, xo + pl * 6, none⟩ (wxc - pl) fun _ => rfl
                    rw [hpw, hfd] at h
                    rw [hdl]
                    exact h
                  have HBB := Lib.hid (HBT.out _ _ hsub)
                  clear has haa hLA hb20 hla hlow20 hts htm hta hrt HAL hsub hall hfd HBT hdl
                  go_wp2_with fail
                  refine HBB.out.mono ?_
                  rintro e w21 ⟨rfl, hb21⟩
                  have HF := Lib.hid (HEND.out _ (HLOW.out.trans (hb21.mono HLOW.out.size)))
                  clear hb21
                  go_wp2_with fail
                  go_ret
                  exact ⟨rfl, HF.out⟩
end Go.Proofs.YtdaoeplblkfapaaGreatDoor
