import Derived.Test.YtdaoeplblkfapaaGreatDoorM29
import Derived.Deep.RegionHeld3
import Derived.Test.YtdaoeplblkfapaaGreatDoorM06

/- The walk of the law StrandDrops. -/
namespace Go.Proofs.YtdaoeplblkfapaaGreatDoor
open Go.RowKit

set_option maxRecDepth 100000 in
set_option maxHeartbeats 8000000 in
theorem drops_any (seg : Int) (v : Value) (zs : List Ac) (nn : Int) (w : World) (lb : Lb w) (h : Acts w.heap.size w v zs) :
    Calls Tryz.prog 8 #[.int .i64 seg, v, .int .i64 nn] w fun e w' => e = .returned (.bool true) ∧ Below w.heap.size w w' := by
  obtain ⟨va, vc, hv⟩ : ∃ a c, v = .slice a zs.length c := let ⟨a, c, e, _⟩ := h.lies; ⟨a, c, e⟩
  subst hv
  obtain ⟨N, hN⟩ : ∃ N, zs.length = N := ⟨_, rfl⟩
  have HA := Lib.hid (awake_any w lb)
  have HLB := Lib.hid lb
  have HAC := Lib.hid h
  have HN := Lib.hid hN
  rw [hN]
  clear lb h hN
  go_enter Tryz.func8, Tryz.ntmps8
  go_wp2_with fail
  refine HA.out.mono ?_
  rintro e w1 ⟨rfl, hb1⟩
  have HAC1 := Lib.hid (HAC.out.below hb1)
  have HB1 := Lib.hid hb1
  have HGR := Lib.hid (great_any _ zs w1 HAC1.out)
  rw [HN.out] at HGR
  clear hb1 HA
  go_wp2_with fail
  refine HGR.out.mono ?_
  rintro e w1b ⟨gr, rfl, hwe, hok⟩
  have hwe' : _ = _ := hwe
  subst hwe'
  clear hwe HGR
  cases gr with
  | true =>
    go_wp2_with fail
    go_ret
    exact ⟨rfl, HB1.out⟩
  | false =>
    have HOK := Lib.hid (hok rfl)
    clear hok
    have HOP := Lib.hid (opened_any seg w1b HLB.out HB1.out)
    go_wp2_with fail
    refine HOP.out.mono ?_
    rintro e w2 ⟨t, s, rfl, ho⟩
    have HO := Lib.hid ho
    clear ho HOP
    go_wp2_with fail
    go_loopw [9] (fun iv wr => ∃ (i : Nat) (G : List Sg) (y : Bool), i ≤ N ∧ i ≤ 60 ∧ iv = .int .i64 i ∧ (∀ g ∈ G, g.l ≠ []) ∧ Opd w t s (enL seg) (1 + i) 0 G (fun _ => False) y wr) (fun iv _ => 60 - (intOf iv).toNat)
    case atStart => exact ⟨0, [], true, Nat.zero_le _, by omega, rfl, (fun _ hg => by simp at hg), HO.out⟩
    case round =>
      obtain ⟨i, G, y, hi, hi60, rfl, hGne, hO⟩ := hrel
      have HGN := Lib.hid hGne
      have HOi := Lib.hid hO
      clear hO HO hGne
      obtain ⟨cnd, hcnd⟩ : ∃ cnd, decide (i < N ∧ i < 60) = cnd := ⟨_, rfl⟩
      have HCND := Lib.hid hcnd
      clear hcnd
      go_upto_region 9 with fail
      go_cut [36] (fun s36 wx => s36 = .bool cnd ∧ Eqw wr wx)
      case first =>
        by_cases hlN : i < N
        · have hdl : decide ((i : Int) < (N : Int)) = true := by simp; omega
          by_cases hl60 : i < 60
          · have hd60 : decide ((i : Int) < 60) = true := by simp; omega
            have hd60' : decide (i < 60) = true := by simp; omega
            have hct : cnd = true := by rw [← HCND.out]; simp; omega
            subst hct
            go_wp2_with fail
            go_meet
            case rel => exact ⟨rfl, rfl⟩
          · have hd60 : decide ((i : Int) < 60) = false := by simp; omega
            have hd60' : decide (i < 60) = false := by simp; omega
            have hct : cnd = false := by rw [← HCND.out]; simp; omega
            subst hct
            go_wp2_with fail
            go_meet
            case rel => exact ⟨rfl, rfl⟩
        · have hdl : decide ((i : Int) < (N : Int)) = false := by simp; omega
          have hct : cnd = false := by rw [← HCND.out]; simp; omega
          subst hct
          go_wp2_with fail
          go_meet
          case rel => exact ⟨rfl, rfl⟩
      case rest =>
      obtain ⟨rfl, hwx⟩ := hcut
      have hwx' : wr = wc := (show wc = wr from hwx).symm
      subst hwx'
      clear hwx
      cases cnd with
      | true =>
        have hlt := of_decide_eq_true HCND.out
        obtain ⟨hlN, hl60⟩ := hlt
        obtain ⟨x, hx⟩ : ∃ x, zs[i]? = some x := ⟨_, List.getElem?_eq_getElem (by rw [HN.out]; exact hlN)⟩
        have hox := HOK.out i x hl60 hx
        obtain ⟨b, o, cap, hve, hbl, hcell, hin⟩ := act_box (HAC.out.below HOi.out.low) hx
        have hnext := fun (en : Int) (wx : World) (h : AcIn w.heap.size wx { x with nx := true }) => next_any { x with nx := true } rfl en wx h hox.1
        have hin2 : AcIn w.heap.size wr { x with nx := true } := ⟨hin.recs, hin.less, hin.fates, hin.old⟩
        obtain ⟨ra, rc, hrv⟩ := hin.recs.slice
        obtain ⟨la, lc, hlv, -⟩ := hin.less
        obtain ⟨fa, fc, hfv, -⟩ := hin.fates
        have hrl := hox.1
        obtain ⟨kind, ⟨base, count, prod, seq, time, recs⟩, rv, nx, n, less, lv, fates, fv, name⟩ := x
        simp only at hrv hlv hfv hrl hnext hin2
        subst hrv hlv hfv
        obtain ⟨rl, hrle⟩ : ∃ rl, recs.length = rl := ⟨_, rfl⟩
        obtain ⟨ll, hlle⟩ : ∃ ll, less.length = ll := ⟨_, rfl⟩
        obtain ⟨fl, hfle⟩ : ∃ fl, fates.length = fl := ⟨_, rfl⟩
        have c0 : wr.cell? ⟨b, o + i * 12, none⟩ = some (.int .i64 kind) := hcell 0 _ (by decide) rfl
        have c1 : wr.cell? ⟨b, o + i * 12 + 1, none⟩ = some (.int .i64 base) := hcell 1 _ (by decide) rfl
        have c2 : wr.cell? ⟨b, o + i * 12 + 2, none⟩ = some (.int .i64 count) := hcell 2 _ (by decide) rfl
        have c3 : wr.cell? ⟨b, o + i * 12 + 3, none⟩ = some (.int .i64 prod) := hcell 3 _ (by decide) rfl
        have c4 : wr.cell? ⟨b, o + i * 12 + 4, none⟩ = some (.int .i64 seq) := hcell 4 _ (by decide) rfl
        have c5 : wr.cell? ⟨b, o + i * 12 + 5, none⟩ = some (.int .i64 time) := hcell 5 _ (by decide) rfl
        have c6 : wr.cell? ⟨b, o + i * 12 + 6, none⟩ = some (.slice ra rl rc) := by rw [← hrle]; exact hcell 6 _ (by decide) rfl
        have c7 : wr.cell? ⟨b, o + i * 12 + 7, none⟩ = some (.bool nx) := hcell 7 _ (by decide) rfl
        have c8 : wr.cell? ⟨b, o + i * 12 + 8, none⟩ = some (.int .i64 n) := hcell 8 _ (by decide) rfl
        have c9 : wr.cell? ⟨b, o + i * 12 + 9, none⟩ = some (.slice la ll lc) := by rw [← hlle]; exact hcell 9 _ (by decide) rfl
        have c10 : wr.cell? ⟨b, o + i * 12 + 10, none⟩ = some (.slice fa fl fc) := by rw [← hfle]; exact hcell 10 _ (by decide) rfl
        have c11 : wr.cell? ⟨b, o + i * 12 + 11, none⟩ = some (.string name) := hcell 11 _ (by decide) rfl
        injection hve with hv1 hv2 hv3
        subst hv1
        clear hv2 hv3
        have i0 : (0 : Int) ≤ (i : Int) := by omega
        have i1 : (i : Int) < (N : Int) := by omega
        have HNX := Lib.hid hnext
        have HIN := Lib.hid hin2
        clear hcell hin hox hx hnext hin2
        have HRLE := Lib.hid (And.intro hrle (And.intro hlle hfle))
        obtain ⟨V, hV⟩ : ∃ V, wr.alloc (.cells #[.int .i64 kind, .int .i64 base, .int .i64 count, .int .i64 prod, .int .i64 seq, .int .i64 time, .slice ra rl rc, .bool true, .int .i64 n, .slice la ll lc, .slice fa fl fc, .string name] 37) = V := ⟨_, rfl⟩
        have hbV : Below wr.heap.size wr V := by rw [← hV]; exact (Below.refl _ _).alloc (Nat.le_refl _) _
        have hkV : Blk V wr.heap.size #[.int .i64 kind, .int .i64 base, .int .i64 count, .int .i64 prod, .int .i64 seq, .int .i64 time, .slice ra rl rc, .bool true, .int .i64 n, .slice la ll lc, .slice fa fl fc, .string name] 37 := by rw [← hV]; exact Blk.new _ _ _
        have HV := Lib.hid hV
        have HBV := Lib.hid hbV
        have k0 : V.cell? ⟨wr.heap.size, 0, none⟩ = some (.int .i64 kind) := hkV.cell rfl
        have k1 : V.cell? ⟨wr.heap.size, 1, none⟩ = some (.int .i64 base) := hkV.cell rfl
        have k2 : V.cell? ⟨wr.heap.size, 2, none⟩ = some (.int .i64 count) := hkV.cell rfl
        have k3 : V.cell? ⟨wr.heap.size, 3, none⟩ = some (.int .i64 prod) := hkV.cell rfl
        have k4 : V.cell? ⟨wr.heap.size, 4, none⟩ = some (.int .i64 seq) := hkV.cell rfl
        have k5 : V.cell? ⟨wr.heap.size, 5, none⟩ = some (.int .i64 time) := hkV.cell rfl
        have k6 : V.cell? ⟨wr.heap.size, 6, none⟩ = some (.slice ra rl rc) := hkV.cell rfl
        have k7 : V.cell? ⟨wr.heap.size, 7, none⟩ = some (.bool true) := hkV.cell rfl
        have k8 : V.cell? ⟨wr.heap.size, 8, none⟩ = some (.int .i64 n) := hkV.cell rfl
        have k9 : V.cell? ⟨wr.heap.size, 9, none⟩ = some (.slice la ll lc) := hkV.cell rfl
        have k10 : V.cell? ⟨wr.heap.size, 10, none⟩ = some (.slice fa fl fc) := hkV.cell rfl
        have k11 : V.cell? ⟨wr.heap.size, 11, none⟩ = some (.string name) := hkV.cell rfl
        obtain ⟨en, hen⟩ : ∃ en, gsEnd G = en := ⟨_, rfl⟩
        have HEN := Lib.hid hen
        have HEV : Hid (∀ wx, Below V.heap.size V wx → Calls Tryz.prog 29 #[.pointer (some ⟨s, 0, none⟩)] wx fun e w' => e = .returned (.int .i64 en) ∧ Below wx.heap.size wx w') := Lib.hid fun wx hbx => by rw [← hen]; exact (HOi.out.below (hbV.trans (hbx.mono hbV.size))).end_
        have HNV : Hid (∀ w3, Below V.heap.size V.drew w3 → Calls Tryz.prog 28 #[.agg #[.int .i64 kind, .int .i64 base, .int .i64 count, .int .i64 prod, .int .i64 seq, .int .i64 time, .slice ra rl rc, .bool true, .int .i64 n, .slice la ll lc, .slice fa fl fc, .string name], .int .i64 en] w3 fun e w' => ∃ rv, e = .returned (bv (nxB ⟨base, count, prod, seq, time, recs⟩ en, rv)) ∧ RcIn (fun k => w3.heap.size ≤ k) w' rv (nxB ⟨base, count, prod, seq, time, recs⟩ en).recs ∧ Below w3.heap.size w3 w') := Lib.hid fun w3 hb => by
          have := HNX.out en w3 (HIN.out.below (hbV.trans (show Below wr.heap.size V w3 from (show Below V.heap.size V w3 from ⟨hb.os, hb.tape, hb.output, hb.size, hb.block⟩).mono hbV.size)))
          unfold acells at this
          simp only at this
          rw [hrle, hlle, hfle] at this
          exact this
        have HFD : Hid (∀ w3 w4 rv, Below V.heap.size V.drew w3 → RcIn (fun k => w3.heap.size ≤ k) w4 rv (nxB ⟨base, count, prod, seq, time, recs⟩ en).recs → Below w3.heap.size w3 w4 → Calls Tryz.prog 30 #[.pointer (some ⟨s, 0, none⟩), bv (nxB ⟨base, count, prod, seq, time, recs⟩ en, rv)] w4 (FedOut w t s (enL seg) (1 + i) 0 G (fun k => False ∨ wr.heap.size ≤ k) y (nxB ⟨base, count, prod, seq, time, recs⟩ en) V)) := Lib.hid fun w3 w4 rv hb hr hb4 => by
          have h3 : Below V.heap.size V w3 := ⟨hb.os, hb.tape, hb.output, hb.size, hb.block⟩
          exact (HOi.out.below hbV).feed (h3.trans (hb4.mono h3.size)) (by show 1 + i < 200; omega) (Rds.mono hr fun k hk => Nat.le_trans h3.size hk) (by simp [nxB]; omega) hen.symm
        have HQB : Hid ((False ∨ wr.heap.size ≤ wr.heap.size) ∧ wr.heap.size < V.heap.size) := Lib.hid ⟨.inr (Nat.le_refl _), hkV.lt⟩
        clear hrle hlle hfle hV hbV hkV hen
        go_wp2_with fail
        rw [HV.out]
        go_region_held3 (fun w' => w'.cell? ⟨wr.heap.size, 0, none⟩ = some (.int .i64 kind) ∧ w'.cell? ⟨wr.heap.size, 1, none⟩ = some (.int .i64 base) ∧ w'.cell? ⟨wr.heap.size, 2, none⟩ = some (.int .i64 count) ∧ w'.cell? ⟨wr.heap.size, 3, none⟩ = some (.int .i64 prod) ∧ w'.cell? ⟨wr.heap.size, 4, none⟩ = some (.int .i64 seq) ∧ w'.cell? ⟨wr.heap.size, 5, none⟩ = some (.int .i64 time) ∧ w'.cell? ⟨wr.heap.size, 6, none⟩ = some (.slice ra rl rc) ∧ w'.cell? ⟨wr.heap.size, 7, none⟩ = some (.bool true) ∧ w'.cell? ⟨wr.heap.size, 8, none⟩ = some (.int .i64 n) ∧ w'.cell? ⟨wr.heap.size, 9, none⟩ = some (.slice la ll lc) ∧ w'.cell? ⟨wr.heap.size, 10, none⟩ = some (.slice fa fl fc) ∧ w'.cell? ⟨wr.heap.size, 11, none⟩ = some (.string name)) (first | go_keep | (go_split_ands; exact ⟨dcell hb3 k0, dcell hb3 k1, dcell hb3 k2, dcell hb3 k3, dcell hb3 k4, dcell hb3 k5, dcell hb3 k6, dcell hb3 k7, dcell hb3 k8, dcell hb3 k9, dcell hb3 k10, dcell hb3 k11⟩) | (go_split_ands; exact ⟨qcell hk5 HQB.out k0, qcell hk5 HQB.out k1, qcell hk5 HQB.out k2, qcell hk5 HQB.out k3, qcell hk5 HQB.out k4, qcell hk5 HQB.out k5, qcell hk5 HQB.out k6, qcell hk5 HQB.out k7, qcell hk5 HQB.out k8, qcell hk5 HQB.out k9, qcell hk5 HQB.out k10, qcell hk5 HQB.out k11⟩) | (go_split_ands; exact ⟨ecell hb4 (dcell hb3 k0), ecell hb4 (dcell hb3 k1), ecell hb4 (dcell hb3 k2), ecell hb4 (dcell hb3 k3), ecell hb4 (dcell hb3 k4), ecell hb4 (dcell hb3 k5), ecell hb4 (dcell hb3 k6), ecell hb4 (dcell hb3 k7), ecell hb4 (dcell hb3 k8), ecell hb4 (dcell hb3 k9), ecell hb4 (dcell hb3 k10), ecell hb4 (dcell hb3 k11)⟩))
          (first
            | (go_at_call 29; (refine (HEV.out _ ((Below.refl _ _).drew)).mono ?_); rintro e w3 ⟨rfl, hb3⟩)
            | (go_at_call 28; (refine (HNV.out _ hb3).mono ?_); rintro e w4 ⟨rv', rfl, hr4, hb4⟩)
            | (go_at_call 30; (refine (HFD.out _ _ rv' hb3 hr4 hb4).mono ?_); rintro e w5 ⟨er, rfl, hor, hk5⟩)
            | fail)
        have hO' : ∃ G' y', (∀ g ∈ G', g.l ≠ []) ∧ Opd w t s (enL seg) (1 + (i + 1)) 0 G' (fun _ => False) y' w5 := by
          rcases hor with ⟨-, -, h⟩ | ⟨-, -, h⟩
          · exact ⟨_, _, push_ne HGN.out, h.mono fun _ _ h => h.elim⟩
          · exact ⟨_, _, HGN.out, h.mono fun _ _ h => h.elim⟩
        have HO' := Lib.hid hO'
        clear hO' hor hk5 hr4 hb4 hb3 HFD HNV HEV k0 k1 k2 k3 k4 k5 k6 k7 k8 k9 k10 k11
        go_wp2_with fail
        go_roundw
        case rel =>
          obtain ⟨G', y', hg, h⟩ := HO'.out
          exact ⟨i + 1, G', y', by omega, by omega, by go_num, hg, h⟩
        case measure => simp [intOf]; omega
      | false =>
        have HBA := Lib.hid HOi.out.bases
        obtain ⟨n, hn⟩ : ∃ n, G.length = n := ⟨_, rfl⟩
        have hnm := HOi.out.len.2.2
        rw [hn] at hnm HBA
        have HGL := Lib.hid hn
        clear hn
        go_wp2_with fail
        refine HBA.out.mono ?_
        rintro e w2 ⟨bv, rfl, hrds, hb2⟩
        obtain ⟨ba, bc, rfl⟩ := hrds.form
        have HRD := Lib.hid hrds
        have HB2 := Lib.hid hb2
        clear hrds hb2 HBA
        by_cases h0 : n = 0
        · subst h0
          have HO2 := HOi.out.below HB2.out
          have HD0 := Lib.hid (HO2.drop (by show 1 + i < 200; omega) 0 (Nat.zero_le _))
          go_wp2_with fail
          refine HD0.out.mono ?_
          rintro e w3 ⟨rfl, ho, -⟩
          have HD1 := Lib.hid (ho.drop_bad 1 (by rw [List.length_drop, HGL.out]; omega))
          have HO3 := Lib.hid ho
          clear ho HD0
          go_wp2_with fail
          refine HD1.out.mono ?_
          rintro e w4 ⟨rfl, hb4⟩
          have HF := Lib.hid (HO3.out.below hb4).low
          clear hb4
          go_wp2_with fail
          go_ret
          exact ⟨rfl, HF.out⟩
        · have hd0 : ((n : Int) == 0) = false := by simp; omega
          obtain ⟨k, hk1, hk2, hk3⟩ := mod_nat nn (n : Int) (by omega) (by omega)
          have hwn : IntKind.u64.wrap (n : Int) = n := by rw [IntKind.wrap_u64]; omega
          have hkn : k < n := by omega
          have HK1 := Lib.hid hk1
          have HK3 := Lib.hid hk3
          clear hk1 hk2 hk3
          obtain ⟨z, hz⟩ : ∃ z, wr.heap.size = z := ⟨_, rfl⟩
          have hHO2 : Opd w t s (enL seg) (1 + i) 0 G (fun b => z ≤ b) y w2 := (HOi.out.below HB2.out).mono fun b _ hb => .inr (by rw [hz]; exact hb)
          have hzw : z ≤ w2.heap.size := by rw [← hz]; exact HB2.out.size
          have hRD2 : Rds (fun b => z ≤ b) w2 (.slice ba n bc) 1 n ((G.map Sg.first).map icell) := by have := HRD.out; rw [hz] at this; exact this
          have hwn0 : Wn w2.heap.size (.slice (some ⟨w2.heap.size, 0, none⟩) 0 0) [] (w2.alloc (.cells #[] 34)) := Wn.empty w2 (Nat.le_refl _)
          have hwb0 : Below w2.heap.size w2 (w2.alloc (.cells #[] 34)) := (Below.refl _ _).alloc (Nat.le_refl _) _
          obtain ⟨i0, hi0, hy0, hy1, hy2⟩ := infoBt
          have HO2 := Lib.hid hHO2
          have HZW := Lib.hid hzw
          have HR2 := Lib.hid hRD2
          have HW0 := Lib.hid hwn0
          have HWB0 := Lib.hid hwb0
          have HGF := Lib.hid (show (fla G).length ≤ 200 by have := HOi.out.len; omega)
          clear hHO2 hRD2 hwn0 hwb0 hz hzw HOi HB2 HRD
          go_wp2_with fail
          rw [HK1.out]
          go_loopw [13, 14] (fun wv iv wq => ∃ j : Nat, k ≤ j ∧ j ≤ n ∧ iv = .int .i64 j ∧ Wn w2.heap.size wv (fla ((G.drop k).take (j - k))) wq ∧ Below w2.heap.size w2 wq) (fun _ iv _ => n - (intOf iv).toNat)
          case atStart => exact ⟨k, Nat.le_refl _, by omega, rfl, by rw [Nat.sub_self]; exact HW0.out, HWB0.out⟩
          case round =>
            obtain ⟨j, hkj, hjn, rfl, hW, hbq⟩ := hrel
            by_cases hlt : j < n
            · obtain ⟨g, hg⟩ : ∃ g, G[j]? = some g := ⟨_, List.getElem?_eq_getElem (by rw [HGL.out]; exact hlt)⟩
              obtain ⟨gb, L, hsl, hgb, hall, hL⟩ := hW
              obtain ⟨wa, wc, rfl⟩ := hsl.form
              obtain ⟨m1, hm1⟩ : ∃ m1, L.length = m1 := ⟨_, rfl⟩
              have hfst := fla_step hkj hg
              have hm1b : m1 ≤ 200 := by have h1 := fla_part G k (j - k); have h2 := HGF.out; rw [← hL, List.length_map] at h1; omega
              have hgl : g.l.length ≤ 200 := by have h1 := fla_part G k (j + 1 - k); have h2 := HGF.out; rw [hfst, List.length_append] at h1; omega
              have hgn := HGN.out g (List.mem_of_getElem? hg)
              have HSEG := Lib.hid ((HO2.out.below hbq).seg hg)
              have HM1 := Lib.hid hm1
              have HSL := Lib.hid hsl
              have HGB := Lib.hid hgb
              have HALL := Lib.hid hall
              have HL := Lib.hid hL
              have HBQ := Lib.hid hbq
              have HFST := Lib.hid hfst
              rw [hm1]
              clear hsl hgb hall hL hm1 hbq hfst hg
              have hd1 : decide ((j : Int) < (n : Int)) = true := by simp; omega
              go_wp2_with fail
              refine HSEG.out.mono ?_
              rintro e w3 ⟨v2, gb2, L2, rfl, hL2, hs2, hg2, hall2, hb3⟩
              obtain ⟨m2, hm2⟩ : ∃ m2, L2.length = m2 := ⟨_, rfl⟩
              have hm2g : m2 = g.l.length := by rw [← hm2, ← hL2, List.length_map]
              have hm2p : 0 < m2 := by rw [hm2g]; exact List.length_pos_iff.2 hgn
              obtain ⟨g2, p2, c2, hv2⟩ : ∃ g2 p2 c2, v2 = .slice (some ⟨g2, p2, none⟩) m2 c2 := by
                rcases hs2.2 with ⟨-, -, h⟩ | ⟨g2, p2, c2, -, -, h, -⟩
                · omega
                · exact ⟨g2, p2, c2, by rw [← hm2]; exact h⟩
              subst hv2
              have hnw : ∀ q u, (L2.flatMap bc6)[q]? = some u → w3.cell? ((⟨g2, p2, none⟩ : Addr).add q) = some u := fun q u hq => by
                have h1 := hs2.cell rfl q u hq
                unfold Addr.add
                split
                · next h => rw [h, Nat.add_zero] at h1; exact h1
                · exact h1
              have hln : (L2.flatMap bc6).length = m2 * 6 := by rw [← hm2]; exact hs2.1
              have hone := bc6_one hall2
              have hslw := HSL.out.same fun b hb => hb3.block b (HSL.out.lt b hb)
              rw [HM1.out] at hslw
              have HSLW := Lib.hid hslw
              have HS2 := Lib.hid hs2
              have HL2 := Lib.hid hL2
              have HALL2 := Lib.hid hall2
              have HB3 := Lib.hid hb3
              have HM2 := Lib.hid hm2
              have HNW := Lib.hid hnw
              have HLN := Lib.hid hln
              have HONE := Lib.hid hone
              have HBY : Hid ((m1 + m2) * 64 ≤ 140737488355328) := Lib.hid (by omega)
              have H63 : Hid (m1 + m2 ≤ 9223372036854775807) := Lib.hid (by omega)
              clear hL2 hs2 hg2 hall2 hb3 hm2 hm2g hnw hln hone hslw HSEG
              go_wp2_with (at_builtin; refine wpList_append_sl _ (by rfl) _ _ _ (by rfl) 34 i0 (.agg zeroB) 6 64 Tryz.underlying29 hi0 hy0 hy1 hy2 rfl (.slice wa m1 wc) gb m1 (L.flatMap bc6) (by rfl) HSLW.out ⟨g2, p2, none⟩ m2 c2 (L2.flatMap bc6) (by rfl) HLN.out HNW.out HONE.out hm2p HBY.out H63.out ?_; intro g9 q9 cap9 w9 gb9 hs9 hg9 hgb9 hn9; have HS9 := Lib.hid hs9; have HG9 := Lib.hid hg9; have HGB9 := Lib.hid hgb9; have HN9 := Lib.hid hn9; clear hs9 hg9 hgb9 hn9)
              go_roundw
              case rel =>
                have hsl := HSL.out
                refine ⟨j + 1, by omega, by omega, by go_num, ?_, ?_⟩
                · rw [HFST.out, ← HL.out, ← HL2.out]
                  exact Wn.more (w := wr) HBQ.out.size HB3.out (fun b hb => ⟨HGB.out b hb, hsl.lt b hb⟩) HALL.out HS2.out HALL2.out (by rw [HM1.out, HM2.out]; exact HS9.out) HG9.out HGB9.out HN9.out
                · have hb := HBQ.out.trans (HB3.out.mono HBQ.out.size)
                  exact hb.grown HG9.out hb.size fun b hb => HGB.out b hb
              case measure => simp [intOf]; omega
            · obtain rfl : j = n := by omega
              rw [List.take_of_length_le (by rw [List.length_drop, HGL.out]; exact Nat.le_refl _)] at hW
              obtain ⟨gk, hgk⟩ : ∃ gk, G[k]? = some gk := ⟨_, List.getElem?_eq_getElem (by rw [HGL.out]; exact hkn)⟩
              obtain ⟨sk, hsk⟩ : ∃ sk, gk.first = sk := ⟨_, rfl⟩
              obtain ⟨en, hen⟩ : ∃ en, gsEnd G = en := ⟨_, rfl⟩
              obtain ⟨sv, hsv⟩ : ∃ sv, wrap64 (1 + wrap64 ((IntKind.u64.wrap seg).tmod 400)) = sv := ⟨_, rfl⟩
              have hO3 : Opd w t s (enL seg) (1 + i) 0 G (fun b => z ≤ b) y wr := (HO2.out.below hbq).mono fun b _ hb => .inl hb
              have hE := hO3.end_
              rw [hen] at hE
              obtain ⟨L, hwb, hwl⟩ := hW.bts
              obtain ⟨wa, wc, rfl⟩ := hwb.1.form
              obtain ⟨m1, hm1⟩ : ∃ m1, L.length = m1 := ⟨_, rfl⟩
              rw [hm1] at hwb ⊢
              have hKD : Kd (fun b => z ≤ b) (.slice wa m1 wc) (fla (G.drop k)) (.slice ba j bc) ((G.map Sg.first).map icell) wr := ⟨⟨L, hwb.mono fun b hb => Nat.le_trans HZW.out hb, hwl⟩, by rw [List.length_map, List.length_map, HGL.out]; exact HR2.out.below hbq⟩
              have hsg : gsStart (G.drop k) = sk := (drop_start hgk).trans hsk
              have heg : gsEnd (G.drop k) = en := (drop_end (by rw [HGL.out]; exact hkn)).trans hen
              have hcl : (fla (G.drop k)).length ≤ 200 := by
                have h1 := fla_part G k (G.drop k).length
                rw [List.take_length] at h1
                have := HGF.out
                omega
              have hgd : ∀ b ∈ fla (G.drop k), Pl.goodB b = true := Log.good (Log.right (G := G.take k) (by rw [List.take_append_drop]; exact hO3.log))
              have hicell : ((G.map Sg.first).map icell)[k]? = some (.int .i64 sk) := by rw [List.getElem?_map, List.getElem?_map, hgk, ← hsk]; rfl
              have HO3 := Lib.hid hO3
              have HE := Lib.hid hE
              have HKD := Lib.hid hKD
              have HSG := Lib.hid hsg
              have HEG := Lib.hid heg
              have HCL := Lib.hid hcl
              have HGD := Lib.hid hgd
              have HIC := Lib.hid hicell
              have HSV := Lib.hid hsv
              clear hO3 hE hKD hsg heg hcl hgd hicell hsv hW hbq hwb hwl hgk hsk hen hm1 HO2 HR2 HW0 HWB0
              have hd1 : decide ((j : Int) < (j : Int)) = false := by simp
              go_wp2_with fail
              refine HE.out.mono ?_
              rintro e w4 ⟨rfl, hb4⟩
              have hHO4 : Opd w t s (enL seg) (1 + i) 0 G (fun b => z ≤ b) y w4 := HO3.out.belowA hb4
              have hHK4 := (HKD.out.below hb4).upto
              obtain ⟨u, hu⟩ : ∃ u, w4.heap.size = u := ⟨_, rfl⟩
              obtain ⟨A, hA⟩ : ∃ A : Nat → Prop, (fun b => z ≤ b ∧ b < u) = A := ⟨_, rfl⟩
              have hAu : ∀ b, A b → b < u := fun b hb => by rw [← hA] at hb; exact hb.2
              have hHO4' : Opd w t s (enL seg) (1 + i) 0 G A y w4 := hHO4.mono fun b _ hb => by rw [← hA] at hb; exact hb.1
              rw [hu, hA] at hHK4
              have HO4 := Lib.hid hHO4'
              have HKD4 := Lib.hid hHK4
              have HAU := Lib.hid hAu
              have HU := Lib.hid hu
              clear hb4 HKD HO3 HE hHO4 hHO4' hHK4 hA hAu hu
              obtain ⟨bb, bo, bcap, e1, hzb, hbl, hbc⟩ := Rds.at HKD4.out.2 (by rw [List.length_map, List.length_map, HGL.out]; omega)
              obtain rfl : ba = some ⟨bb, bo, none⟩ := by injection e1
              have c0 : w4.cell? ⟨bb, bo + k, none⟩ = some (.int .i64 sk) := hbc k _ HIC.out
              clear e1 hbc hbl
              have i0 : (0 : Int) ≤ (k : Int) := by omega
              have i1 : (k : Int) < (j : Int) := by omega
              have hss : (sk == sk) = true := by simp
              have hee : (en == en) = true := by simp
              have HDB : Hid (∀ wx, Below w4.heap.size w4 wx → Calls Tryz.prog 41 #[.pointer (some ⟨s, 0, none⟩), .int .i64 j] wx fun e w' => e = .returned (.int .i64 1) ∧ Below wx.heap.size wx w') := Lib.hid fun wx hb => (HO4.out.below hb).drop_bad j (by rw [HGL.out]; omega)
              have HDK : Hid (∀ wx wy, Below w4.heap.size w4 wx → Below wx.heap.size wx wy → Calls Tryz.prog 41 #[.pointer (some ⟨s, 0, none⟩), .int .i64 k] wy fun e w' => e = .returned (.int .i64 0) ∧ Opd w t s (enL seg) (1 + i + 1) 0 (G.drop k) A false w' ∧ Kq A wy w') := Lib.hid fun wx wy hb hb2 => (HO4.out.belowA (hb.trans (hb2.mono hb.size))).dropA (fun b h => by have := HAU.out b h; have := HU.out; have := hb.size; have := hb2.size; omega) (by show 1 + i < 200; omega) k (by rw [HGL.out]; omega)
              have HST : Hid (∀ wx, Opd w t s (enL seg) (1 + i + 1) 0 (G.drop k) A false wx → Calls Tryz.prog 46 #[.pointer (some ⟨s, 0, none⟩)] wx fun e w' => e = .returned (.int .i64 sk) ∧ wx = w') := Lib.hid fun wx h => by have := h.start_; rwa [HSG.out] at this
              have HEN : Hid (∀ wx, Opd w t s (enL seg) (1 + i + 1) 0 (G.drop k) A false wx → Calls Tryz.prog 29 #[.pointer (some ⟨s, 0, none⟩)] wx fun e w' => e = .returned (.int .i64 en) ∧ Below wx.heap.size wx w') := Lib.hid fun wx h => by have := h.end_; rwa [HEG.out] at this
              have HALL : Hid (∀ wx wy, Opd w t s (enL seg) (1 + i + 1) 0 (G.drop k) A false wx → Below wx.heap.size wx wy → Calls Tryz.prog 34 #[.pointer (some ⟨s, 0, none⟩)] wy fun e w' => ∃ av M, e = .returned av ∧ BtIn (fun _ => True) w' av M ∧ M.map (·.1) = fla (G.drop k) ∧ Below wy.heap.size wy w') := Lib.hid fun wx wy h hb => (h.belowA hb).all.mono fun _ _ h => h.bts
              have HKC : Hid (∀ w5 w6 w7 w8, Below w4.drew.heap.size w4.drew w5 → Kq A w5 w6 → Below w6.heap.size w6 w7 → Below w7.heap.size w7 w8 → Kd A (.slice wa m1 wc) (fla (G.drop k)) (.slice (some ⟨bb, bo, none⟩) j bc) ((G.map Sg.first).map icell) w8) := Lib.hid fun w5 w6 w7 w8 h5 h6 h7 h8 => ((((HKD4.out.below ((Below.refl _ _).drew)).below h5).kq h6 fun _ h => h).below h7).below h8
              have HBS : Hid (∀ w8 av M, Kd A (.slice wa m1 wc) (fla (G.drop k)) (.slice (some ⟨bb, bo, none⟩) j bc) ((G.map Sg.first).map icell) w8 → BtIn (fun _ => True) w8 av M → M.map (·.1) = fla (G.drop k) → Calls Tryz.prog 36 #[av, .slice wa m1 wc] w8 fun e w' => e = .returned (.bool true) ∧ Below w8.heap.size w8 w') := Lib.hid fun w8 av M hk hb hm => hk.same hb hm HCL.out HGD.out
              have HSY : Hid (∀ w5 w6 w7 w8 w9, Below w4.drew.heap.size w4.drew w5 → Kq A w5 w6 → Opd w t s (enL seg) (1 + i + 1) 0 (G.drop k) A false w6 → Below w6.heap.size w6 w7 → Below w7.heap.size w7 w8 → Below w8.heap.size w8 w9 → Calls Tryz.prog 31 #[.pointer (some ⟨s, 0, none⟩)] w9 fun e w' => e = .returned (.int .i64 0) ∧ Opd w t s (enL seg) (1 + i + 1 + 1) 0 (G.drop k) A true w' ∧ Kq A w9 w' ∧ u ≤ w9.heap.size) := Lib.hid fun w5 w6 w7 w8 w9 h5 h6 ho h7 h8 h9 => by
                have hs : u ≤ w9.heap.size := by
                  have := HU.out
                  have h1 := h5.size
                  have h2 := h6.size
                  have h3 := h7.size
                  have h4 := h8.size
                  have h10 := h9.size
                  simp only [World.size_drew] at h1
                  omega
                exact ((((ho.belowA h7).belowA h8).belowA h9).syncA (fun b hb => Nat.lt_of_lt_of_le (HAU.out b hb) hs) (by show 1 + i + 1 < 200; omega)).mono fun _ _ ⟨a, b, c⟩ => ⟨a, b, c, hs⟩
              go_wp2_with fail
              go_region_held3 (fun w' => w'.cell? ⟨bb, bo + k, none⟩ = some (.int .i64 sk)) (first | go_keep | with_reducible exact dcell hb5 c0 | with_reducible exact qcell hq6 hzb (dcell hb5 c0) | with_reducible exact ecell hb7 (qcell hq6 hzb (dcell hb5 c0)) | with_reducible exact ecell hb8 (ecell hb7 (qcell hq6 hzb (dcell hb5 c0))) | with_reducible exact ecell hb9 (ecell hb8 (ecell hb7 (qcell hq6 hzb (dcell hb5 c0)))) | with_reducible exact qcell hq10 hzb (ecell hb9 (ecell hb8 (ecell hb7 (qcell hq6 hzb (dcell hb5 c0))))))
                (first
                  | (go_at_call 41; (refine (HDK.out _ _ ((Below.refl _ _).drew) hb5).mono ?_); rintro e w6 ⟨rfl, ho6, hq6⟩)
                  | (go_at_call 41; (refine (HDB.out _ ((Below.refl _ _).drew)).mono ?_); rintro e w5 ⟨rfl, hb5⟩)
                  | (go_at_call 46; (refine (HST.out _ ho6).mono ?_); rintro e _ ⟨rfl, rfl⟩)
                  | (go_at_call 29; (refine (HEN.out _ ho6).mono ?_); rintro e w7 ⟨rfl, hb7⟩)
                  | (go_at_call 34; (refine (HALL.out _ _ ho6 hb7).mono ?_); rintro e w8 ⟨av, M, rfl, hm8, hl8, hb8⟩)
                  | (go_at_call 36; (refine (HBS.out _ av M (HKC.out _ _ _ _ hb5 hq6 hb7 hb8) hm8 hl8).mono ?_); rintro e w9 ⟨rfl, hb9⟩)
                  | (go_at_call 31; (refine (HSY.out _ _ _ _ _ hb5 hq6 ho6 hb7 hb8 hb9).mono ?_); rintro e w10 ⟨rfl, ho10, hq10, hu10⟩)
                  | fail)
              have hKD10 : Kd A (.slice wa m1 wc) (fla (G.drop k)) (.slice (some ⟨bb, bo, none⟩) j bc) ((G.map Sg.first).map icell) w10 := ((HKC.out _ _ _ _ hb5 hq6 hb7 hb8).below hb9).kq hq10 fun _ h => h
              have HK10 := Lib.hid hKD10
              have HS10 := Lib.hid (Nat.le_trans hu10 hq10.size)
              have HO10 := Lib.hid ho10.off
              clear hKD10 ho10 hq10 hu10 hb9 hb8 hb7 hq6 hb5 ho6 hm8 hl8 HDB HDK HST HEN HALL HKC HBS HSY c0 HO4 HKD4
              go_wp2_with fail
              refine HO10.out.mono ?_
              rintro e w11 ⟨⟨vo, rfl⟩, ho11, hq11⟩
              have HO11 := Lib.hid (ho11.on (.slice none 0 0) [] ⟨none, 0, rfl, fun j z h => by simp at h⟩ (fun h => absurd h (by decide)))
              have HK11 := Lib.hid (HK10.out.kq hq11 fun b h => ⟨h, Nat.lt_of_lt_of_le (HAU.out b h) HS10.out⟩)
              have HS11 := Lib.hid (Nat.le_trans HS10.out hq11.size)
              clear ho11 hq11 HO10
              go_wp2_with fail
              refine HO11.out.mono ?_
              rintro e w12 ⟨⟨vo, rfl⟩, ho12, hq12⟩
              have hop := ho12.open_ (by show 1 + i + 1 + 1 < 200; omega)
              rw [show (enL seg).sv = sv from HSV.out, show (enL seg).P.toArray = #[112, 97, 114, 116] from rfl] at hop
              have HO12 := Lib.hid hop
              have HK12 := Lib.hid (HK11.out.kq hq12 fun b h => ⟨⟨h, Nat.lt_of_lt_of_le (HAU.out b h) HS10.out⟩, Nat.lt_of_lt_of_le (HAU.out b h) HS11.out⟩)
              have HS12 := Lib.hid (Nat.le_trans HS11.out hq12.size)
              clear ho12 hq12 hop HO11
              go_wp2_with fail
              rw [HSV.out]
              refine HO12.out.mono ?_
              rintro e w13 ⟨p, rfl, ho13, hq13, -⟩
              have HK13 := Lib.hid (HK12.out.kq hq13 fun b h => ⟨⟨⟨h, Nat.lt_of_lt_of_le (HAU.out b h) HS10.out⟩, Nat.lt_of_lt_of_le (HAU.out b h) HS11.out⟩, Nat.lt_of_lt_of_le (HAU.out b h) HS12.out⟩)
              have HO13 := Lib.hid ho13
              clear ho13 hq13 HO12
              obtain ⟨bb', bo', bcap', e1, -, -, hbc⟩ := Rds.at HK13.out.2 (by rw [List.length_map, List.length_map, HGL.out]; omega)
              have e2 : (some ⟨bb, bo, none⟩ : Option Addr) = some ⟨bb', bo', none⟩ := by injection e1
              have e3 : (⟨bb, bo, none⟩ : Addr) = ⟨bb', bo', none⟩ := Option.some.inj e2
              have e4 : bb = bb' := congrArg Addr.block e3
              have e5 : bo = bo' := congrArg Addr.off e3
              subst e4 e5
              have c0 : w13.cell? ⟨bb, bo + k, none⟩ = some (.int .i64 sk) := hbc k _ HIC.out
              clear e1 e2 e3 hbc
              have hST : ∀ wx, Below w13.heap.size w13 wx → Calls Tryz.prog 46 #[.pointer (some ⟨p, 0, none⟩)] wx fun e w' => e = .returned (.int .i64 sk) ∧ wx = w' := fun wx h => by have := (HO13.out.below h).start_; rwa [HSG.out] at this
              have hALL : ∀ wx, Below w13.heap.size w13 wx → Calls Tryz.prog 34 #[.pointer (some ⟨p, 0, none⟩)] wx fun e w' => ∃ av M, e = .returned av ∧ BtIn (fun _ => True) w' av M ∧ M.map (·.1) = fla (G.drop k) ∧ Below wx.heap.size wx w' := fun wx h => (HO13.out.below h).all.mono fun _ _ h => h.bts
              have hBS : ∀ wx wy av M, Below w13.heap.size w13 wx → Below wx.heap.size wx wy → BtIn (fun _ => True) wy av M → M.map (·.1) = fla (G.drop k) → Calls Tryz.prog 36 #[av, .slice wa m1 wc] wy fun e w' => e = .returned (.bool true) ∧ Below wy.heap.size wy w' := fun wx wy av M h1 h2 hb hm => ((HK13.out.below h1).below h2).same hb hm HCL.out HGD.out
              have hFIN : ∀ wx wy, Below w13.heap.size w13.drew wx → Below wx.heap.size wx wy → Below w.heap.size w wy := fun wx wy h1 h2 => (((HO13.out.below ((Below.refl _ _).drew)).below h1).below h2).low
              have HST := Lib.hid hST
              have HALL := Lib.hid hALL
              have HBS := Lib.hid hBS
              have HFIN := Lib.hid hFIN
              clear hST hALL hBS hFIN HO13 HK13
              go_wp2_with fail
              go_region_held3 (fun w' => w'.cell? ⟨bb, bo + k, none⟩ = some (.int .i64 sk)) (first | go_keep | with_reducible exact dcell hb14 c0 | with_reducible exact ecell hb15 (dcell hb14 c0))
                (first
                  | (go_at_call 46; (refine (HST.out _ ((Below.refl _ _).drew)).mono ?_); rintro e _ ⟨rfl, rfl⟩)
                  | (go_at_call 34; (refine (HALL.out _ ((Below.refl _ _).drew)).mono ?_); rintro e w14 ⟨av2, M2, rfl, hm14, hl14, hb14⟩)
                  | (go_at_call 36; (refine (HBS.out _ _ av2 M2 ((Below.refl _ _).drew) hb14 hm14 hl14).mono ?_); rintro e w15 ⟨rfl, hb15⟩)
                  | fail)
              have HF := Lib.hid (HFIN.out _ _ hb14 hb15)
              clear hb14 hb15 hm14 hl14
              go_wp2_with fail
              go_ret
              exact ⟨rfl, HF.out⟩
end Go.Proofs.YtdaoeplblkfapaaGreatDoor
