import Derived.Test.YtdaoeplblkfapaaGreatDoorM29
import Derived.Test.YtdaoeplblkfapaaGreatDoorM39
import Derived.Test.YtdaoeplblkfapaaGreatDoorM41
import Derived.Deep.RegionHeld3
import Derived.Test.YtdaoeplblkfapaaGreatDoorM06

/- The walk of the law StrandPuts. -/
namespace Go.Proofs.YtdaoeplblkfapaaGreatDoor
open Go.RowKit

set_option maxRecDepth 100000 in
set_option maxHeartbeats 16000000 in
theorem puts_any (seg : Int) (v : Value) (zs : List Ac) (atv dv av : Int) (lv fv : Value) (less fates : List Int) (wi : World) (lb : Lb wi) (h : Acts wi.heap.size wi v zs) (hle : Ta.Nums wi lv less) (hfa : Ta.Nums wi fv fates) (hfo : 0 < fates.length → ∀ a c d, fv = .slice (some a) c d → a.block < wi.heap.size) :
    Calls Tryz.prog 10 #[.int .i64 seg, v, .agg #[.int .i64 atv, lv, .int .i64 dv, .int .i64 av, fv]] wi fun e w' => e = .returned (.bool true) ∧ Below wi.heap.size wi w' := by
  obtain ⟨va, vc, hv⟩ : ∃ a c, v = .slice a zs.length c := let ⟨a, c, e, _⟩ := h.lies; ⟨a, c, e⟩
  subst hv
  obtain ⟨la, ll, lc, hlv, hll⟩ : ∃ a n c, lv = .slice a n c ∧ less.length = n := let ⟨a, c, e, _⟩ := hle; ⟨a, _, c, e, rfl⟩
  subst hlv
  obtain ⟨fa, fl, fc, hfv, hfl⟩ : ∃ a n c, fv = .slice a n c ∧ fates.length = n := let ⟨a, c, e, _⟩ := hfa; ⟨a, _, c, e, rfl⟩
  subst hfv
  obtain ⟨N, hN⟩ : ∃ N, zs.length = N := ⟨_, rfl⟩
  obtain ⟨w, hw⟩ : ∃ V, wi.alloc (.cells #[.int .i64 atv, .slice la ll lc, .int .i64 dv, .int .i64 av, .slice fa fl fc] 66) = V := ⟨_, rfl⟩
  have hbi : Below wi.heap.size wi w := by rw [← hw]; exact (Below.refl _ _).alloc (Nat.le_refl _) _
  have hbk : Blk w wi.heap.size #[.int .i64 atv, .slice la ll lc, .int .i64 dv, .int .i64 av, .slice fa fl fc] 66 := by rw [← hw]; exact Blk.new _ _ _
  have HWI := Lib.hid hw
  have HBI := Lib.hid hbi
  have HBK := Lib.hid hbk
  have HLE := Lib.hid (Nums.below hle hbi)
  have HFA := Lib.hid (Nums.below hfa hbi)
  have HFO : Hid (0 < fates.length → ∀ a c d, (Value.slice fa fl fc) = .slice (some a) c d → a.block < w.heap.size) := Lib.hid fun h0 a c d e => Nat.lt_of_lt_of_le (hfo h0 a c d e) hbi.size
  have HLL := Lib.hid hll
  have HFL := Lib.hid hfl
  have HEND : Hid (∀ w', Below w.heap.size w w' → Below wi.heap.size wi w') := Lib.hid fun w' hb => hbi.trans (hb.mono hbi.size)
  have HBX : Hid (∀ w', Below w.heap.size w w' → (w'.cell? ⟨wi.heap.size, 0, none⟩ = some (.int .i64 atv) ∧ w'.cell? ⟨wi.heap.size, 1, none⟩ = some (.slice la ll lc)) ∧ (w'.cell? ⟨wi.heap.size, 2, none⟩ = some (.int .i64 dv) ∧ w'.cell? ⟨wi.heap.size, 3, none⟩ = some (.int .i64 av)) ∧ w'.cell? ⟨wi.heap.size, 4, none⟩ = some (.slice fa fl fc)) := Lib.hid fun w' hb => ⟨⟨(hbk.below hb).cell rfl, (hbk.below hb).cell rfl⟩, ⟨(hbk.below hb).cell rfl, (hbk.below hb).cell rfl⟩, (hbk.below hb).cell rfl⟩
  have hlbw : Lb w := lb.below lb.size hbi
  have HA := Lib.hid (awake_any w hlbw)
  have HLB := Lib.hid hlbw
  have HAC := Lib.hid (h.below hbi)
  have HN := Lib.hid hN
  rw [hN]
  clear lb h hN hw hbi hbk hle hfa hfo hll hfl hlbw
  go_enter Tryz.func10, Tryz.ntmps10
  go_wp2_with fail
  rw [HWI.out]
  try go_wp2_with fail
  refine HA.out.mono ?_
  rintro e w1 ⟨rfl, hb1⟩
  have HAC1 := Lib.hid (HAC.out.below hb1)
  have HB1 := Lib.hid hb1
  have HGR := Lib.hid (great_any _ zs w1 HAC1.out)
  rw [HN.out] at HGR
  clear hb1 HA
  go_wp2_with fail
  refine HGR.out.mono ?_
  rintro e w1b ⟨gr, rfl, hwe, hok⟩
  have hwe' : _ = _ := hwe
  subst hwe'
  clear hwe HGR
  cases gr with
  | true =>
    go_wp2_with fail
    go_ret
    exact ⟨rfl, HEND.out _ HB1.out⟩
  | false =>
    have HOK := Lib.hid (hok rfl)
    clear hok
    have x1 : w1b.cell? ⟨wi.heap.size, 1, none⟩ = some (.slice la ll lc) := (HBX.out _ HB1.out).1.2
    by_cases h50 : 50 < ll
    · have d50 : decide ((50 : Int) < (ll : Int)) = true := by simp; omega
      go_wp2_with fail
      go_ret
      exact ⟨rfl, HEND.out _ HB1.out⟩
    have d50 : decide ((50 : Int) < (ll : Int)) = false := by simp; omega
    have HOP := Lib.hid (opened_any seg w1b HLB.out HB1.out)
    go_wp2_with fail
    refine HOP.out.mono ?_
    rintro e w2 ⟨t, s, rfl, ho⟩
    have HO := Lib.hid ho
    clear ho HOP
    go_wp2_with fail
    go_loopw [9] (fun iv wr => ∃ (i : Nat) (G : List Sg) (y : Bool), i ≤ N ∧ i ≤ 60 ∧ iv = .int .i64 i ∧ (∀ g ∈ G, g.l ≠ []) ∧ Opd w t s (enL seg) (1 + i) 0 G (fun _ => False) y wr) (fun iv _ => 60 - (intOf iv).toNat)
    case atStart => exact ⟨0, [], true, Nat.zero_le _, by omega, rfl, (fun _ hg => by simp at hg), HO.out⟩
    case round =>
      obtain ⟨i, G, y, hi, hi60, rfl, hGne, hO⟩ := hrel
      have HGN := Lib.hid hGne
      have HOi := Lib.hid hO
      clear hO HO hGne
      obtain ⟨cnd, hcnd⟩ : ∃ cnd, decide (i < N ∧ i < 60) = cnd := ⟨_, rfl⟩
      have HCND := Lib.hid hcnd
      clear hcnd
      go_upto_region 9 with fail
      go_cut [42] (fun s42 wx => s42 = .bool cnd ∧ Eqw wr wx)
      case first =>
        by_cases hlN : i < N
        · have hdl : decide ((i : Int) < (N : Int)) = true := by simp; omega
          by_cases hl60 : i < 60
          · have hd60 : decide ((i : Int) < 60) = true := by simp; omega
            have hd60' : decide (i < 60) = true := by simp; omega
            have hct : cnd = true := by rw [← HCND.out]; simp; omega
            subst hct
            go_wp2_with fail
            go_meet
            case rel => exact ⟨rfl, rfl⟩
          · have hd60 : decide ((i : Int) < 60) = false := by simp; omega
            have hd60' : decide (i < 60) = false := by simp; omega
            have hct : cnd = false := by rw [← HCND.out]; simp; omega
            subst hct
            go_wp2_with fail
            go_meet
            case rel => exact ⟨rfl, rfl⟩
        · have hdl : decide ((i : Int) < (N : Int)) = false := by simp; omega
          have hct : cnd = false := by rw [← HCND.out]; simp; omega
          subst hct
          go_wp2_with fail
          go_meet
          case rel => exact ⟨rfl, rfl⟩
      case rest =>
      obtain ⟨rfl, hwx⟩ := hcut
      have hwx' : wr = wc := (show wc = wr from hwx).symm
      subst hwx'
      clear hwx
      cases cnd with
      | true =>
        have hlt := of_decide_eq_true HCND.out
        obtain ⟨hlN, hl60⟩ := hlt
        obtain ⟨x, hx⟩ : ∃ x, zs[i]? = some x := ⟨_, List.getElem?_eq_getElem (by rw [HN.out]; exact hlN)⟩
        have hox := HOK.out i x hl60 hx
        obtain ⟨b, o, cap, hve, hbl, hcell, hin⟩ := act_box (HAC.out.below HOi.out.low) hx
        have hnext := fun (en : Int) (wx : World) (h : AcIn wi.heap.size wx { x with nx := true }) => next_any { x with nx := true } rfl en wx h hox.1
        have hin2 : AcIn wi.heap.size wr { x with nx := true } := ⟨hin.recs, hin.less, hin.fates, hin.old⟩
        obtain ⟨ra, rc, hrv⟩ := hin.recs.slice
        obtain ⟨la, lc, hlv, -⟩ := hin.less
        obtain ⟨fa, fc, hfv, -⟩ := hin.fates
        have hrl := hox.1
        obtain ⟨kind, ⟨base, count, prod, seq, time, recs⟩, rv, nx, n, less, lv, fates, fv, name⟩ := x
        simp only at hrv hlv hfv hrl hnext hin2
        subst hrv hlv hfv
        obtain ⟨rl, hrle⟩ : ∃ rl, recs.length = rl := ⟨_, rfl⟩
        obtain ⟨ll, hlle⟩ : ∃ ll, less.length = ll := ⟨_, rfl⟩
        obtain ⟨fl, hfle⟩ : ∃ fl, fates.length = fl := ⟨_, rfl⟩
        have c0 : wr.cell? ⟨b, o + i * 12, none⟩ = some (.int .i64 kind) := hcell 0 _ (by decide) rfl
        have c1 : wr.cell? ⟨b, o + i * 12 + 1, none⟩ = some (.int .i64 base) := hcell 1 _ (by decide) rfl
        have c2 : wr.cell? ⟨b, o + i * 12 + 2, none⟩ = some (.int .i64 count) := hcell 2 _ (by decide) rfl
        have c3 : wr.cell? ⟨b, o + i * 12 + 3, none⟩ = some (.int .i64 prod) := hcell 3 _ (by decide) rfl
        have c4 : wr.cell? ⟨b, o + i * 12 + 4, none⟩ = some (.int .i64 seq) := hcell 4 _ (by decide) rfl
        have c5 : wr.cell? ⟨b, o + i * 12 + 5, none⟩ = some (.int .i64 time) := hcell 5 _ (by decide) rfl
        have c6 : wr.cell? ⟨b, o + i * 12 + 6, none⟩ = some (.slice ra rl rc) := by rw [← hrle]; exact hcell 6 _ (by decide) rfl
        have c7 : wr.cell? ⟨b, o + i * 12 + 7, none⟩ = some (.bool nx) := hcell 7 _ (by decide) rfl
        have c8 : wr.cell? ⟨b, o + i * 12 + 8, none⟩ = some (.int .i64 n) := hcell 8 _ (by decide) rfl
        have c9 : wr.cell? ⟨b, o + i * 12 + 9, none⟩ = some (.slice la ll lc) := by rw [← hlle]; exact hcell 9 _ (by decide) rfl
        have c10 : wr.cell? ⟨b, o + i * 12 + 10, none⟩ = some (.slice fa fl fc) := by rw [← hfle]; exact hcell 10 _ (by decide) rfl
        have c11 : wr.cell? ⟨b, o + i * 12 + 11, none⟩ = some (.string name) := hcell 11 _ (by decide) rfl
        injection hve with hv1 hv2 hv3
        subst hv1
        clear hv2 hv3
        have i0 : (0 : Int) ≤ (i : Int) := by omega
        have i1 : (i : Int) < (N : Int) := by omega
        have HNX := Lib.hid hnext
        have HIN := Lib.hid hin2
        clear hcell hin hox hx hnext hin2
        have HRLE := Lib.hid (And.intro hrle (And.intro hlle hfle))
        obtain ⟨V, hV⟩ : ∃ V, wr.alloc (.cells #[.int .i64 kind, .int .i64 base, .int .i64 count, .int .i64 prod, .int .i64 seq, .int .i64 time, .slice ra rl rc, .bool true, .int .i64 n, .slice la ll lc, .slice fa fl fc, .string name] 37) = V := ⟨_, rfl⟩
        have hbV : Below wr.heap.size wr V := by rw [← hV]; exact (Below.refl _ _).alloc (Nat.le_refl _) _
        have hkV : Blk V wr.heap.size #[.int .i64 kind, .int .i64 base, .int .i64 count, .int .i64 prod, .int .i64 seq, .int .i64 time, .slice ra rl rc, .bool true, .int .i64 n, .slice la ll lc, .slice fa fl fc, .string name] 37 := by rw [← hV]; exact Blk.new _ _ _
        have HV := Lib.hid hV
        have HBV := Lib.hid hbV
        have k0 : V.cell? ⟨wr.heap.size, 0, none⟩ = some (.int .i64 kind) := hkV.cell rfl
        have k1 : V.cell? ⟨wr.heap.size, 1, none⟩ = some (.int .i64 base) := hkV.cell rfl
        have k2 : V.cell? ⟨wr.heap.size, 2, none⟩ = some (.int .i64 count) := hkV.cell rfl
        have k3 : V.cell? ⟨wr.heap.size, 3, none⟩ = some (.int .i64 prod) := hkV.cell rfl
        have k4 : V.cell? ⟨wr.heap.size, 4, none⟩ = some (.int .i64 seq) := hkV.cell rfl
        have k5 : V.cell? ⟨wr.heap.size, 5, none⟩ = some (.int .i64 time) := hkV.cell rfl
        have k6 : V.cell? ⟨wr.heap.size, 6, none⟩ = some (.slice ra rl rc) := hkV.cell rfl
        have k7 : V.cell? ⟨wr.heap.size, 7, none⟩ = some (.bool true) := hkV.cell rfl
        have k8 : V.cell? ⟨wr.heap.size, 8, none⟩ = some (.int .i64 n) := hkV.cell rfl
        have k9 : V.cell? ⟨wr.heap.size, 9, none⟩ = some (.slice la ll lc) := hkV.cell rfl
        have k10 : V.cell? ⟨wr.heap.size, 10, none⟩ = some (.slice fa fl fc) := hkV.cell rfl
        have k11 : V.cell? ⟨wr.heap.size, 11, none⟩ = some (.string name) := hkV.cell rfl
        obtain ⟨en, hen⟩ : ∃ en, gsEnd G = en := ⟨_, rfl⟩
        have HEN := Lib.hid hen
        have HEV : Hid (∀ wx, Below V.heap.size V wx → Calls Tryz.prog 29 #[.pointer (some ⟨s, 0, none⟩)] wx fun e w' => e = .returned (.int .i64 en) ∧ Below wx.heap.size wx w') := Lib.hid fun wx hbx => by rw [← hen]; exact (HOi.out.below (hbV.trans (hbx.mono hbV.size))).end_
        have HNV : Hid (∀ w3, Below V.heap.size V.drew w3 → Calls Tryz.prog 28 #[.agg #[.int .i64 kind, .int .i64 base, .int .i64 count, .int .i64 prod, .int .i64 seq, .int .i64 time, .slice ra rl rc, .bool true, .int .i64 n, .slice la ll lc, .slice fa fl fc, .string name], .int .i64 en] w3 fun e w' => ∃ rv, e = .returned (bv (nxB ⟨base, count, prod, seq, time, recs⟩ en, rv)) ∧ RcIn (fun k => w3.heap.size ≤ k) w' rv (nxB ⟨base, count, prod, seq, time, recs⟩ en).recs ∧ Below w3.heap.size w3 w') := Lib.hid fun w3 hb => by
          have := HNX.out en w3 (HIN.out.below (hbV.trans (show Below wr.heap.size V w3 from (show Below V.heap.size V w3 from ⟨hb.os, hb.tape, hb.output, hb.size, hb.block⟩).mono hbV.size)))
          unfold acells at this
          simp only at this
          rw [hrle, hlle, hfle] at this
          exact this
        have HFD : Hid (∀ w3 w4 rv, Below V.heap.size V.drew w3 → RcIn (fun k => w3.heap.size ≤ k) w4 rv (nxB ⟨base, count, prod, seq, time, recs⟩ en).recs → Below w3.heap.size w3 w4 → Calls Tryz.prog 30 #[.pointer (some ⟨s, 0, none⟩), bv (nxB ⟨base, count, prod, seq, time, recs⟩ en, rv)] w4 (FedOut w t s (enL seg) (1 + i) 0 G (fun k => False ∨ wr.heap.size ≤ k) y (nxB ⟨base, count, prod, seq, time, recs⟩ en) V)) := Lib.hid fun w3 w4 rv hb hr hb4 => by
          have h3 : Below V.heap.size V w3 := ⟨hb.os, hb.tape, hb.output, hb.size, hb.block⟩
          exact (HOi.out.below hbV).feed (h3.trans (hb4.mono h3.size)) (by show 1 + i < 200; omega) (Rds.mono hr fun k hk => Nat.le_trans h3.size hk) (by simp [nxB]; omega) hen.symm
        have HQB : Hid ((False ∨ wr.heap.size ≤ wr.heap.size) ∧ wr.heap.size < V.heap.size) := Lib.hid ⟨.inr (Nat.le_refl _), hkV.lt⟩
        clear hrle hlle hfle hV hbV hkV hen
        go_wp2_with fail
        rw [HV.out]
        go_region_held3 (fun w' => w'.cell? ⟨wr.heap.size, 0, none⟩ = some (.int .i64 kind) ∧ w'.cell? ⟨wr.heap.size, 1, none⟩ = some (.int .i64 base) ∧ w'.cell? ⟨wr.heap.size, 2, none⟩ = some (.int .i64 count) ∧ w'.cell? ⟨wr.heap.size, 3, none⟩ = some (.int .i64 prod) ∧ w'.cell? ⟨wr.heap.size, 4, none⟩ = some (.int .i64 seq) ∧ w'.cell? ⟨wr.heap.size, 5, none⟩ = some (.int .i64 time) ∧ w'.cell? ⟨wr.heap.size, 6, none⟩ = some (.slice ra rl rc) ∧ w'.cell? ⟨wr.heap.size, 7, none⟩ = some (.bool true) ∧ w'.cell? ⟨wr.heap.size, 8, none⟩ = some (.int .i64 n) ∧ w'.cell? ⟨wr.heap.size, 9, none⟩ = some (.slice la ll lc) ∧ w'.cell? ⟨wr.heap.size, 10, none⟩ = some (.slice fa fl fc) ∧ w'.cell? ⟨wr.heap.size, 11, none⟩ = some (.string name)) (first | go_keep | (go_split_ands; exact ⟨dcell hb3 k0, dcell hb3 k1, dcell hb3 k2, dcell hb3 k3, dcell hb3 k4, dcell hb3 k5, dcell hb3 k6, dcell hb3 k7, dcell hb3 k8, dcell hb3 k9, dcell hb3 k10, dcell hb3 k11⟩) | (go_split_ands; exact ⟨qcell hk5 HQB.out k0, qcell hk5 HQB.out k1, qcell hk5 HQB.out k2, qcell hk5 HQB.out k3, qcell hk5 HQB.out k4, qcell hk5 HQB.out k5, qcell hk5 HQB.out k6, qcell hk5 HQB.out k7, qcell hk5 HQB.out k8, qcell hk5 HQB.out k9, qcell hk5 HQB.out k10, qcell hk5 HQB.out k11⟩) | (go_split_ands; exact ⟨ecell hb4 (dcell hb3 k0), ecell hb4 (dcell hb3 k1), ecell hb4 (dcell hb3 k2), ecell hb4 (dcell hb3 k3), ecell hb4 (dcell hb3 k4), ecell hb4 (dcell hb3 k5), ecell hb4 (dcell hb3 k6), ecell hb4 (dcell hb3 k7), ecell hb4 (dcell hb3 k8), ecell hb4 (dcell hb3 k9), ecell hb4 (dcell hb3 k10), ecell hb4 (dcell hb3 k11)⟩))
          (first
            | (go_at_call 29; (refine (HEV.out _ ((Below.refl _ _).drew)).mono ?_); rintro e w3 ⟨rfl, hb3⟩)
            | (go_at_call 28; (refine (HNV.out _ hb3).mono ?_); rintro e w4 ⟨rv', rfl, hr4, hb4⟩)
            | (go_at_call 30; (refine (HFD.out _ _ rv' hb3 hr4 hb4).mono ?_); rintro e w5 ⟨er, rfl, hor, hk5⟩)
            | fail)
        have hO' : ∃ G' y', (∀ g ∈ G', g.l ≠ []) ∧ Opd w t s (enL seg) (1 + (i + 1)) 0 G' (fun _ => False) y' w5 := by
          rcases hor with ⟨-, -, h⟩ | ⟨-, -, h⟩
          · exact ⟨_, _, push_ne HGN.out, h.mono fun _ _ h => h.elim⟩
          · exact ⟨_, _, HGN.out, h.mono fun _ _ h => h.elim⟩
        have HO' := Lib.hid hO'
        clear hO' hor hk5 hr4 hb4 hb3 HFD HNV HEV k0 k1 k2 k3 k4 k5 k6 k7 k8 k9 k10 k11
        go_wp2_with fail
        go_roundw
        case rel =>
          obtain ⟨G', y', hg, h⟩ := HO'.out
          exact ⟨i + 1, G', y', by omega, by omega, by go_num, hg, h⟩
        case measure => simp [intOf]; omega
      | false =>
        have HBA := Lib.hid HOi.out.bases
        obtain ⟨n, hn⟩ : ∃ n, G.length = n := ⟨_, rfl⟩
        have hnm := HOi.out.len.2.2
        rw [hn] at hnm HBA
        have HGL := Lib.hid hn
        clear hn
        go_wp2_with fail
        refine HBA.out.mono ?_
        rintro e w2 ⟨bv, rfl, hrds, hb2⟩
        obtain ⟨ba, bc, rfl⟩ := hrds.form
        have HSY := Lib.hid ((HOi.out.below hb2).sync (by show 1 + i < 200; omega))
        have hwn1 : IntKind.i64.wrap ((n : Int) - 1) = (n : Int) - 1 := IntWalk.i64_in _ (by omega)
        clear hrds hb2 HBA
        go_wp2_with fail
        refine HSY.out.mono ?_
        rintro e w3 ⟨rfl, ho3, -⟩
        have HO3 := Lib.hid ho3
        have HSG := Lib.hid (ho3.seg_any ((n : Int) - 1))
        clear ho3 HSY
        go_wp2_with fail
        refine HSG.out.mono ?_
        rintro e w4 ⟨v4, rfl, hb4⟩
        have hO4 := HO3.out.below hb4
        have HPB := Lib.hid (hO4.put_bad ((n : Int) - 1) (by rw [HGL.out]; omega) v4)
        have HO4 := Lib.hid hO4
        clear hb4 hO4 HSG
        go_wp2_with fail
        refine HPB.out.mono ?_
        rintro e w5 ⟨rfl, hb5⟩
        have HO5 := Lib.hid (HO4.out.below hb5)
        clear hb5 HPB
        by_cases h2 : n < 2
        · have hd2 : decide ((n : Int) < 2) = true := by simp; omega
          go_wp2_with fail
          go_ret
          exact ⟨rfl, HEND.out _ HO5.out.low⟩
        have hd2 : decide ((n : Int) < 2) = false := by simp; omega
        have hd0 : ((n : Int) - 1 == 0) = false := by simp; omega
        obtain ⟨k, hk1, hk2, hk3⟩ := mod_nat atv ((n : Int) - 1) (by omega) (by omega)
        have hwn : IntKind.u64.wrap ((n : Int) - 1) = (n : Int) - 1 := by rw [IntKind.wrap_u64]; omega
        have hkn : k + 1 < n := by omega
        have HK1 := Lib.hid hk1
        have HK3 := Lib.hid hk3
        clear hk1 hk2 hk3
        have x0 : w5.cell? ⟨wi.heap.size, 0, none⟩ = some (.int .i64 atv) := (HBX.out _ HO5.out.low).1.1
        obtain ⟨gk, hgk⟩ : ∃ gk, G[k]? = some gk := ⟨_, List.getElem?_eq_getElem (by rw [HGL.out]; omega)⟩
        obtain ⟨G', hG'⟩ : ∃ G', G.set k ⟨gk.first, woL less 0 gk.l⟩ = G' := ⟨_, rfl⟩
        have hfl' : (fla G').length = (fla G).length := by rw [← hG']; exact fla_put_length hgk (woL_length _ _ _)
        have hlen' : G'.length = n := by rw [← hG', List.length_set, HGL.out]
        have hat : ∀ j, j ≠ k → G'[j]? = G[j]? := fun j hj => by rw [← hG', List.getElem?_set_ne (fun e => hj e.symm)]
        have hatk : G'[k]? = some ⟨gk.first, woL less 0 gk.l⟩ := by rw [← hG', List.getElem?_set_self (by rw [HGL.out]; omega)]
        have hgf : (fla G').length ≤ 200 := by have := HO5.out.len; omega
        have hlog' : Log G' := by rw [← hG']; exact HO5.out.log.put hgk (As.wo less 0 _ _)
        have hr8 : ∀ b ∈ gk.l, b.recs.length ≤ 8 := fun b hb => by
          have := (Pl.enc_short (HO5.out.log.good b (List.mem_flatMap.2 ⟨gk, List.mem_of_getElem? hgk, hb⟩))).2.2
          omega
        have HGK := Lib.hid hgk
        have HG' := Lib.hid hG'
        have HLN' := Lib.hid hlen'
        have HAT := Lib.hid hat
        have HATK := Lib.hid hatk
        have HGF := Lib.hid hgf
        have HLG' := Lib.hid hlog'
        have HR8 := Lib.hid hr8
        have hlle : less.length ≤ 50 := by rw [HLL.out]; omega
        have HW0 : Hid (Wn w5.heap.size (.slice (some ⟨w5.heap.size, 0, none⟩) 0 0) [] (w5.alloc (.cells #[] 34))) := Lib.hid (Wn.empty w5 (Nat.le_refl _))
        have HWB0 : Hid (Below w5.heap.size w5 (w5.alloc (.cells #[] 34))) := Lib.hid ((Below.refl _ _).alloc (Nat.le_refl _) _)
        obtain ⟨i0, hi0, hy0, hy1, hy2⟩ := infoBt
        clear hgk hG' hlen' hat hatk hfl' hgf hlog' hr8 HO3 HO4
        go_wp2_with fail
        rw [HK1.out]
        go_loopw [13, 14] (fun wv iv wq => ∃ j : Nat, j ≤ n ∧ iv = .int .i64 j ∧ Wn w5.heap.size wv (fla (G'.take j)) wq ∧ Below w5.heap.size w5 wq) (fun _ iv _ => n - (intOf iv).toNat)
        case atStart => exact ⟨0, by omega, rfl, HW0.out, HWB0.out⟩
        case round =>
          obtain ⟨j, hjn, rfl, hW, hbq⟩ := hrel
          by_cases hlt : j < n
          · obtain ⟨g, hg⟩ : ∃ g, G[j]? = some g := ⟨_, List.getElem?_eq_getElem (by rw [HGL.out]; exact hlt)⟩
            obtain ⟨g', hg'⟩ : ∃ g', G'[j]? = some g' := ⟨_, List.getElem?_eq_getElem (by rw [HLN'.out]; exact hlt)⟩
            obtain ⟨gb, L, hsl, hgb, hall, hL⟩ := hW
            obtain ⟨wa, wc, rfl⟩ := hsl.form
            obtain ⟨m1, hm1⟩ : ∃ m1, L.length = m1 := ⟨_, rfl⟩
            have hfst : fla (G'.take (j + 1)) = fla (G'.take j) ++ g'.l := by rw [take_nxt hg', fla_append, fla_one]
            have hpart : ∀ q, (fla (G'.take q)).length ≤ (fla G').length := fun q => by have := fla_part G' 0 q; rwa [List.drop_zero] at this
            have hm1b : m1 ≤ 200 := by have h1 := hpart j; have h2 := HGF.out; rw [← hL, List.length_map] at h1; omega
            have hgl : g'.l.length ≤ 200 := by have h1 := hpart (j + 1); have h2 := HGF.out; rw [hfst, List.length_append] at h1; omega
            have HSEG := Lib.hid ((HO5.out.below hbq).seg hg)
            have HM1 := Lib.hid hm1
            have HSL := Lib.hid hsl
            have HGB := Lib.hid hgb
            have HALL := Lib.hid hall
            have HL := Lib.hid hL
            have HBQ := Lib.hid hbq
            have HFST := Lib.hid hfst
            have HGG := Lib.hid (And.intro hg hg')
            have hgne := HGN.out g (List.mem_of_getElem? hg)
            rw [hm1]
            clear hsl hgb hall hL hm1 hbq hfst hg hg' hpart
            have hd1 : decide ((j : Int) < (n : Int)) = true := by simp; omega
            go_wp2_with fail
            refine HSEG.out.mono ?_
            rintro e w6 ⟨v2, gb2, L2, rfl, hL2, hs2, hg2, hall2, hb3⟩
            by_cases hjk : j = k
            · have hdk : ((j : Int) == (k : Int)) = true := by simp; omega
              have x1 : w6.cell? ⟨wi.heap.size, 1, none⟩ = some (.slice la ll lc) := (HBX.out _ ((HO5.out.below (HBQ.out.trans (hb3.mono HBQ.out.size))).low)).1.2
              obtain ⟨rfl, rfl⟩ : gk = g ∧ g' = ⟨gk.first, woL less 0 gk.l⟩ := by
                have h1 := HGG.out
                rw [hjk, HGK.out, HATK.out] at h1
                exact ⟨Option.some.inj h1.1, (Option.some.inj h1.2).symm⟩
              have HWT := Lib.hid (without_any (A := fun _ => True) v2 L2 (.slice la ll lc) less w6 ⟨Rds.of_sl hs2 fun _ _ => trivial, fun p hp => Rds.mono (hall2 p hp) fun _ _ => trivial⟩ (Nums.below HLE.out (HO5.out.below (HBQ.out.trans (hb3.mono HBQ.out.size))).low) (by have h1 := congrArg List.length hL2; rw [List.length_map] at h1; rw [h1]; rw [woL_length] at hgl; exact hgl) (fun p hp => HR8.out p.1 (by rw [← hL2]; exact List.mem_map.2 ⟨p, hp, rfl⟩)) hlle)
              rw [hL2] at HWT
              have HB6 := Lib.hid hb3
              clear hs2 hg2 hall2 hL2 hb3
              go_wp2_with fail
              refine HWT.out.mono ?_
              rintro e w7 ⟨v2, gb2, L2, rfl, hs2, hg2, hall2', hL2, hb7⟩
              have hall2 : All (fun b => wr.heap.size ≤ b ∧ gb2 ≠ some b) w7 L2 := fun p hp => Rds.mono (hall2' p hp) fun b hb => ⟨Nat.le_trans HB6.out.size hb.1, hb.2⟩
              have hb3 : Below wr.heap.size wr w7 := HB6.out.trans (hb7.mono HB6.out.size)
              have hgn : woL less 0 gk.l ≠ [] := fun e => hgne (List.eq_nil_of_length_eq_zero (by rw [← woL_length less gk.l 0, e]; rfl))
              try simp only at hgl
              clear hall2' hb7 HWT x1 hg2
              obtain ⟨m2, hm2⟩ : ∃ m2, L2.length = m2 := ⟨_, rfl⟩
              have hm2g : m2 = (woL less 0 gk.l).length := by rw [← hm2, ← hL2, List.length_map]
              have hm2p : 0 < m2 := by rw [hm2g]; exact List.length_pos_iff.2 hgn
              obtain ⟨g2, p2, c2, hv2⟩ : ∃ g2 p2 c2, v2 = .slice (some ⟨g2, p2, none⟩) m2 c2 := by
                rcases hs2.2 with ⟨-, -, h⟩ | ⟨g2, p2, c2, -, -, h, -⟩
                · omega
                · exact ⟨g2, p2, c2, by rw [← hm2]; exact h⟩
              subst hv2
              have hnw : ∀ q u, (L2.flatMap bc6)[q]? = some u → w7.cell? ((⟨g2, p2, none⟩ : Addr).add q) = some u := fun q u hq => by
                have h1 := hs2.cell rfl q u hq
                unfold Addr.add
                split
                · next h => rw [h, Nat.add_zero] at h1; exact h1
                · exact h1
              have hln : (L2.flatMap bc6).length = m2 * 6 := by rw [← hm2]; exact hs2.1
              have hone := bc6_one hall2
              have hslw := HSL.out.same fun b hb => hb3.block b (HSL.out.lt b hb)
              rw [HM1.out] at hslw
              have HSLW := Lib.hid hslw
              have HS2 := Lib.hid hs2
              have HL2 := Lib.hid hL2
              have HALL2 := Lib.hid hall2
              have HB3 := Lib.hid hb3
              have HM2 := Lib.hid hm2
              have HNW := Lib.hid hnw
              have HLN := Lib.hid hln
              have HONE := Lib.hid hone
              have HBY : Hid ((m1 + m2) * 64 ≤ 140737488355328) := Lib.hid (by omega)
              have H63 : Hid (m1 + m2 ≤ 9223372036854775807) := Lib.hid (by omega)
              clear hL2 hs2 hall2 hb3 hm2 hm2g hnw hln hone hslw HSEG
              go_wp2_with (at_builtin; refine wpList_append_sl _ (by rfl) _ _ _ (by rfl) 34 i0 (.agg zeroB) 6 64 Tryz.underlying29 hi0 hy0 hy1 hy2 rfl (.slice wa m1 wc) gb m1 (L.flatMap bc6) (by rfl) HSLW.out ⟨g2, p2, none⟩ m2 c2 (L2.flatMap bc6) (by rfl) HLN.out HNW.out HONE.out hm2p HBY.out H63.out ?_; intro g9 q9 cap9 w9 gb9 hs9 hg9 hgb9 hn9; have HS9 := Lib.hid hs9; have HG9 := Lib.hid hg9; have HGB9 := Lib.hid hgb9; have HN9 := Lib.hid hn9; clear hs9 hg9 hgb9 hn9)
              go_roundw
              case rel =>
                have hsl := HSL.out
                refine ⟨j + 1, by omega, by go_num, ?_, ?_⟩
                · rw [HFST.out, ← HL.out, ← HL2.out]
                  exact Wn.more (w := wr) HBQ.out.size HB3.out (fun b hb => ⟨HGB.out b hb, hsl.lt b hb⟩) HALL.out HS2.out HALL2.out (by rw [HM1.out, HM2.out]; exact HS9.out) HG9.out HGB9.out HN9.out
                · have hb := HBQ.out.trans (HB3.out.mono HBQ.out.size)
                  exact hb.grown HG9.out hb.size fun b hb => HGB.out b hb
              case measure => simp [intOf]; omega
            · have hdk : ((j : Int) == (k : Int)) = false := by simp; omega
              obtain rfl : g' = g := by
                have h1 := HGG.out
                rw [HAT.out j hjk, h1.1] at h1
                exact (Option.some.inj h1.2).symm
              have hgn : g'.l ≠ [] := hgne
              clear hg2
              obtain ⟨m2, hm2⟩ : ∃ m2, L2.length = m2 := ⟨_, rfl⟩
              have hm2g : m2 = (g'.l).length := by rw [← hm2, ← hL2, List.length_map]
              have hm2p : 0 < m2 := by rw [hm2g]; exact List.length_pos_iff.2 hgn
              obtain ⟨g2, p2, c2, hv2⟩ : ∃ g2 p2 c2, v2 = .slice (some ⟨g2, p2, none⟩) m2 c2 := by
                rcases hs2.2 with ⟨-, -, h⟩ | ⟨g2, p2, c2, -, -, h, -⟩
                · omega
                · exact ⟨g2, p2, c2, by rw [← hm2]; exact h⟩
              subst hv2
              have hnw : ∀ q u, (L2.flatMap bc6)[q]? = some u → w6.cell? ((⟨g2, p2, none⟩ : Addr).add q) = some u := fun q u hq => by
                have h1 := hs2.cell rfl q u hq
                unfold Addr.add
                split
                · next h => rw [h, Nat.add_zero] at h1; exact h1
                · exact h1
              have hln : (L2.flatMap bc6).length = m2 * 6 := by rw [← hm2]; exact hs2.1
              have hone := bc6_one hall2
              have hslw := HSL.out.same fun b hb => hb3.block b (HSL.out.lt b hb)
              rw [HM1.out] at hslw
              have HSLW := Lib.hid hslw
              have HS2 := Lib.hid hs2
              have HL2 := Lib.hid hL2
              have HALL2 := Lib.hid hall2
              have HB3 := Lib.hid hb3
              have HM2 := Lib.hid hm2
              have HNW := Lib.hid hnw
              have HLN := Lib.hid hln
              have HONE := Lib.hid hone
              have HBY : Hid ((m1 + m2) * 64 ≤ 140737488355328) := Lib.hid (by omega)
              have H63 : Hid (m1 + m2 ≤ 9223372036854775807) := Lib.hid (by omega)
              clear hL2 hs2 hall2 hb3 hm2 hm2g hnw hln hone hslw HSEG
              go_wp2_with (at_builtin; refine wpList_append_sl _ (by rfl) _ _ _ (by rfl) 34 i0 (.agg zeroB) 6 64 Tryz.underlying29 hi0 hy0 hy1 hy2 rfl (.slice wa m1 wc) gb m1 (L.flatMap bc6) (by rfl) HSLW.out ⟨g2, p2, none⟩ m2 c2 (L2.flatMap bc6) (by rfl) HLN.out HNW.out HONE.out hm2p HBY.out H63.out ?_; intro g9 q9 cap9 w9 gb9 hs9 hg9 hgb9 hn9; have HS9 := Lib.hid hs9; have HG9 := Lib.hid hg9; have HGB9 := Lib.hid hgb9; have HN9 := Lib.hid hn9; clear hs9 hg9 hgb9 hn9)
              go_roundw
              case rel =>
                have hsl := HSL.out
                refine ⟨j + 1, by omega, by go_num, ?_, ?_⟩
                · rw [HFST.out, ← HL.out, ← HL2.out]
                  exact Wn.more (w := wr) HBQ.out.size HB3.out (fun b hb => ⟨HGB.out b hb, hsl.lt b hb⟩) HALL.out HS2.out HALL2.out (by rw [HM1.out, HM2.out]; exact HS9.out) HG9.out HGB9.out HN9.out
                · have hb := HBQ.out.trans (HB3.out.mono HBQ.out.size)
                  exact hb.grown HG9.out hb.size fun b hb => HGB.out b hb
              case measure => simp [intOf]; omega
          · obtain rfl : j = n := by omega
            rw [List.take_of_length_le (by rw [HLN'.out]; exact Nat.le_refl _)] at hW
            have hO6 : Opd w t s (enL seg) (1 + i + 1) 0 G (fun b => w5.heap.size ≤ b) true wr := (HO5.out.below hbq).mono fun b _ hb => .inr hb
            obtain ⟨L, hwb, hwl⟩ := hW.bts
            obtain ⟨wa, wc, rfl⟩ := hwb.1.form
            obtain ⟨m1, hm1⟩ : ∃ m1, L.length = m1 := ⟨_, rfl⟩
            rw [hm1] at hwb ⊢
            have hKD : Kd (fun b => w5.heap.size ≤ b) (.slice wa m1 wc) (fla G') (.slice none 0 0) [] wr := ⟨⟨L, hwb, hwl⟩, Rds.nil _ _ _⟩
            have hHK := hKD.upto
            obtain ⟨u, hu⟩ : ∃ u, wr.heap.size = u := ⟨_, rfl⟩
            obtain ⟨A, hA⟩ : ∃ A : Nat → Prop, (fun b => w5.heap.size ≤ b ∧ b < u) = A := ⟨_, rfl⟩
            have hAu : ∀ b, A b → b < u := fun b hb => by rw [← hA] at hb; exact hb.2
            have hO6' : Opd w t s (enL seg) (1 + i + 1) 0 G A true wr := hO6.mono fun b _ hb => by rw [← hA] at hb; exact hb.1
            rw [hu, hA] at hHK
            have HO6 := Lib.hid hO6'
            have HKD := Lib.hid hHK
            have HAU := Lib.hid hAu
            have HU := Lib.hid hu
            have HCL := Lib.hid (show (fla G').length ≤ 200 from HGF.out)
            have HGD := Lib.hid HLG'.out.good
            have hgl : gk.l.length ≤ 200 := by
              have h1 := seg_few (List.mem_of_getElem? HATK.out)
              have h2 := HGF.out
              simp only [woL_length] at h1
              omega
            clear hO6 hO6' hKD hHK hA hAu hu hW hbq hwb hwl hm1 HO5 HW0 HWB0 HGF
            have hd1 : decide ((j : Int) < (j : Int)) = false := by simp
            have x1 : wr.cell? ⟨wi.heap.size, 1, none⟩ = some (.slice la ll lc) := (HBX.out _ HO6.out.low).1.2
            have HSK : Hid (∀ wx, Below wr.heap.size wr wx → Calls Tryz.prog 38 #[.pointer (some ⟨s, 0, none⟩), .int .i64 k] wx (Clones wx gk.l)) := Lib.hid fun wx hb => (HO6.out.below hb).seg HGK.out
            have HWT : Hid (∀ w7 v2 gb2 L2, Below wr.heap.size wr.drew w7 → Sl w7 v2 gb2 34 6 L2.length (L2.flatMap bc6) → All (fun b => wr.drew.heap.size ≤ b ∧ gb2 ≠ some b) w7 L2 → L2.map (·.1) = gk.l → Calls Tryz.prog 39 #[v2, .slice la ll lc] w7 (AllOut w7 (woL less 0 gk.l))) := Lib.hid fun w7 v2 gb2 L2 hb hs ha hL => by
              have hb' : Below wr.heap.size wr w7 := ⟨hb.os, hb.tape, hb.output, hb.size, hb.block⟩
              have := without_any (A := fun _ => True) v2 L2 (.slice la ll lc) less w7 ⟨Rds.of_sl hs fun _ _ => trivial, fun p hp => Rds.mono (ha p hp) fun _ _ => trivial⟩ (Nums.below HLE.out (HO6.out.below hb').low) (by have h1 := congrArg List.length hL; rw [List.length_map] at h1; omega) (fun p hp => HR8.out p.1 (by rw [← hL]; exact List.mem_map.2 ⟨p, hp, rfl⟩)) hlle
              rwa [hL] at this
            have HPT : Hid (∀ w7 w8 v3 gb3 L3, Below wr.heap.size wr.drew w7 → Below w7.heap.size w7 w8 → Sl w8 v3 gb3 34 6 L3.length (L3.flatMap bc6) → (∀ b, gb3 = some b → w7.heap.size ≤ b) → All (fun b => w7.heap.size ≤ b ∧ gb3 ≠ some b) w8 L3 → L3.map (·.1) = woL less 0 gk.l → Calls Tryz.prog 40 #[.pointer (some ⟨s, 0, none⟩), .int .i64 k, v3] w8 fun e w' => e = .returned (.int .i64 0) ∧ Opd w t s (enL seg) (1 + i + 1 + 1) 0 G' A true w' ∧ Kq A wr w' ∧ u ≤ w'.heap.size) := Lib.hid fun w7 w8 v3 gb3 L3 hb7 hb8 hs hn ha hL => by
              have hb' : Below wr.heap.size wr w7 := ⟨hb7.os, hb7.tape, hb7.output, hb7.size, hb7.block⟩
              have hb9 : Below wr.heap.size wr w8 := hb'.trans (hb8.mono hb'.size)
              have hsz : u ≤ w8.heap.size := by have := HU.out; have := hb9.size; omega
              refine ((HO6.out.below hb9).put (by show 1 + i + 1 < 200; omega) (by show 2260 * (200 + 1) ≤ 1048576; omega) HGK.out (by rw [HGL.out]; omega) less v3 L3 ⟨Rds.of_sl hs fun b hb => .inr (Nat.le_trans hb'.size (hn b hb)), fun p hp => Rds.mono (ha p hp) fun b hb => .inr (Nat.le_trans hb'.size hb.1)⟩ hL).mono ?_
              rintro e w' ⟨rfl, h1, h2⟩
              rw [HG'.out] at h1
              exact ⟨rfl, h1.mono fun b _ hb => ⟨.inl hb, Nat.lt_of_lt_of_le (HAU.out b hb) hsz⟩, (Kq.below hb9).trans (h2.mono fun b _ hb => ⟨.inl hb, Nat.lt_of_lt_of_le (HAU.out b hb) hsz⟩), Nat.le_trans hsz h2.size⟩
            have HXC : Hid (∀ W', Opd w t s (enL seg) (1 + i + 1 + 1) 0 G' A true W' → W'.cell? ⟨wi.heap.size, 1, none⟩ = some (.slice la ll lc)) := Lib.hid fun W' h => (HBX.out _ h.low).1.2
            have HALL : Hid (∀ wx, Opd w t s (enL seg) (1 + i + 1 + 1) 0 G' A true wx → Calls Tryz.prog 34 #[.pointer (some ⟨s, 0, none⟩)] wx fun e w' => ∃ av M, e = .returned av ∧ BtIn (fun _ => True) w' av M ∧ M.map (·.1) = fla G' ∧ Below wx.heap.size wx w') := Lib.hid fun wx h => h.all.mono fun _ _ h => h.bts
            have HBS : Hid (∀ w9 wx av M, Kq A wr w9 → Below w9.heap.size w9 wx → BtIn (fun _ => True) wx av M → M.map (·.1) = fla G' → Calls Tryz.prog 36 #[av, .slice wa m1 wc] wx fun e w' => e = .returned (.bool true) ∧ Below wx.heap.size wx w') := Lib.hid fun w9 wx av M hq hb hm hM => ((HKD.out.kq hq fun _ h => h).below hb).same hm hM HCL.out HGD.out
            go_wp2_with fail
            go_region_held3 (fun w' => w'.cell? ⟨wi.heap.size, 1, none⟩ = some (.slice la ll lc)) (first | go_keep | with_reducible exact dcell hb7 x1 | with_reducible exact ecell hb8 (dcell hb7 x1) | with_reducible exact HXC.out _ ho9 | with_reducible exact ecell hb10 (HXC.out _ ho9) | with_reducible exact ecell hb11 (ecell hb10 (HXC.out _ ho9)))
              (first
                | (go_at_call 38; (refine (HSK.out _ ((Below.refl _ _).drew)).mono ?_); rintro e w7 ⟨v2, gb2, L2, rfl, hL2, hs2, hg2, hall2, hb7⟩)
                | (go_at_call 39; (refine (HWT.out _ v2 gb2 L2 hb7 hs2 hall2 hL2).mono ?_); rintro e w8 ⟨v3, gb3, L3, rfl, hs3, hn3, ha3, hL3, hb8⟩)
                | (go_at_call 40; (refine (HPT.out _ _ v3 gb3 L3 hb7 hb8 hs3 hn3 ha3 hL3).mono ?_); rintro e w9 ⟨rfl, ho9, hq9, hu9⟩)
                | (go_at_call 34; (refine (HALL.out _ ho9).mono ?_); rintro e w10 ⟨av2, M2, rfl, hm10, hl10, hb10⟩)
                | (go_at_call 36; (refine (HBS.out _ _ av2 M2 hq9 hb10 hm10 hl10).mono ?_); rintro e w11 ⟨rfl, hb11⟩)
                | fail)
            have HK11 := Lib.hid (((HKD.out.kq hq9 fun _ h => h).below hb10).below hb11)
            have HU11 := Lib.hid (Nat.le_trans hu9 (Nat.le_trans hb10.size hb11.size))
            have HO11 := Lib.hid ((ho9.belowA hb10).belowA hb11).off
            clear ho9 hq9 hu9 hb10 hb11 hm10 hl10 hb7 hb8 hs2 hs3 hg2 hn3 ha3 hall2 hL2 hL3 HSK HWT HPT HXC HALL HBS x1
            go_wp2_with fail
            refine HO11.out.mono ?_
            rintro e w12 ⟨⟨vo, rfl⟩, ho12, hq12⟩
            have hlow12 := ho12.low
            have x4 : w12.cell? ⟨wi.heap.size, 4, none⟩ = some (.slice fa fl fc) := (HBX.out _ hlow12).2.2
            have HON := Lib.hid (ho12.on (.slice fa fl fc) fates (Nums.below HFA.out hlow12) HFO.out)
            have HK12 := Lib.hid (HK11.out.kq hq12 fun b h => ⟨h, Nat.lt_of_lt_of_le (HAU.out b h) HU11.out⟩)
            have HU12 := Lib.hid (Nat.le_trans HU11.out hq12.size)
            clear ho12 hq12 hlow12 HO11
            go_wp2_with fail
            refine HON.out.mono ?_
            rintro e w13 ⟨⟨vo, rfl⟩, ho13, hq13⟩
            obtain ⟨sv, hsv⟩ : ∃ sv, wrap64 (1 + wrap64 ((IntKind.u64.wrap seg).tmod 400)) = sv := ⟨_, rfl⟩
            have hop := ho13.open_ (by show 1 + i + 1 + 1 < 200; omega)
            rw [show (enL seg).sv = sv from hsv, show (enL seg).P.toArray = #[112, 97, 114, 116] from rfl] at hop
            have HOP := Lib.hid hop
            have HSV := Lib.hid hsv
            have HK13 := Lib.hid (HK12.out.kq hq13 fun b h => ⟨⟨h, Nat.lt_of_lt_of_le (HAU.out b h) HU11.out⟩, Nat.lt_of_lt_of_le (HAU.out b h) HU12.out⟩)
            have HU13 := Lib.hid (Nat.le_trans HU12.out hq13.size)
            clear ho13 hq13 hop hsv HON x4
            go_wp2_with fail
            rw [HSV.out]
            refine HOP.out.mono ?_
            rintro e w14 ⟨p, rfl, ho14, hq14, -⟩
            have HK14 := Lib.hid (HK13.out.kq hq14 fun b h => ⟨⟨⟨h, Nat.lt_of_lt_of_le (HAU.out b h) HU11.out⟩, Nat.lt_of_lt_of_le (HAU.out b h) HU12.out⟩, Nat.lt_of_lt_of_le (HAU.out b h) HU13.out⟩)
            have HAL := Lib.hid (ho14.all.mono fun _ _ h => h.bts)
            have HO14 := Lib.hid ho14
            clear ho14 hq14 HOP
            go_wp2_with fail
            refine HAL.out.mono ?_
            rintro e w15 ⟨av3, M3, rfl, hm15, hl15, hb15⟩
            have HBL := Lib.hid ((HK14.out.below hb15).same hm15 hl15 HCL.out HGD.out)
            have HO15 := Lib.hid (HO14.out.below hb15)
            clear hm15 hl15 hb15 HAL
            go_wp2_with fail
            refine HBL.out.mono ?_
            rintro e w16 ⟨rfl, hb16⟩
            have HF := Lib.hid (HEND.out _ (HO15.out.below hb16).low)
            clear hb16
            go_wp2_with fail
            go_ret
            exact ⟨rfl, HF.out⟩
end Go.Proofs.YtdaoeplblkfapaaGreatDoor
