import Derived.Test.YtdaoeplblkfapaaGreatDoorM24
import Derived.Test.YtdaoeplblkfapaaGreatDoorM06

/- The walk of the law StrandResets. -/
namespace Go.Proofs.YtdaoeplblkfapaaGreatDoor
open Go.RowKit

set_option maxRecDepth 100000 in
set_option maxHeartbeats 8000000 in
theorem resets_any (seg : Int) (v : Value) (zs : List Ac) (off : Int) (w : World) (lb : Lb w) (h : Acts w.heap.size w v zs) :
    Calls Tryz.prog 9 #[.int .i64 seg, v, .int .i64 off] w fun e w' => e = .returned (.bool true) ∧ Below w.heap.size w w' := by
  obtain ⟨va, vc, hv⟩ : ∃ a c, v = .slice a zs.length c := let ⟨a, c, e, _⟩ := h.lies; ⟨a, c, e⟩
  subst hv
  obtain ⟨N, hN⟩ : ∃ N, zs.length = N := ⟨_, rfl⟩
  have HA := Lib.hid (awake_any w lb)
  have HLB := Lib.hid lb
  have HAC := Lib.hid h
  have HN := Lib.hid hN
  rw [hN]
  clear lb h hN
  go_enter Tryz.func9, Tryz.ntmps9
  go_wp2_with fail
  refine HA.out.mono ?_
  rintro e w1 ⟨rfl, hb1⟩
  have HAC1 := Lib.hid (HAC.out.below hb1)
  have HB1 := Lib.hid hb1
  have HGR := Lib.hid (great_any _ zs w1 HAC1.out)
  rw [HN.out] at HGR
  clear hb1 HA
  go_wp2_with fail
  refine HGR.out.mono ?_
  rintro e w1b ⟨gr, rfl, hwe, hok⟩
  have hwe' : _ = _ := hwe
  subst hwe'
  clear hwe HGR
  cases gr with
  | true =>
    go_wp2_with fail
    go_ret
    exact ⟨rfl, HB1.out⟩
  | false =>
    have HOK := Lib.hid (hok rfl)
    clear hok
    have HOP := Lib.hid (opened_any seg w1b HLB.out HB1.out)
    go_wp2_with fail
    refine HOP.out.mono ?_
    rintro e w2 ⟨t, s, rfl, ho⟩
    have HO := Lib.hid ho
    clear ho HOP
    go_wp2_with fail
    go_loopw [9] (fun iv wr => ∃ (i : Nat) (G : List Sg) (y : Bool), i ≤ N ∧ i ≤ 60 ∧ iv = .int .i64 i ∧ Opd w t s (enL seg) (1 + i) 0 G (fun _ => False) y wr) (fun iv _ => 60 - (intOf iv).toNat)
    case atStart => exact ⟨0, [], true, Nat.zero_le _, by omega, rfl, HO.out⟩
    case round =>
      obtain ⟨i, G, y, hi, hi60, rfl, hO⟩ := hrel
      have HOi := Lib.hid hO
      clear hO HO
      obtain ⟨cnd, hcnd⟩ : ∃ cnd, decide (i < N ∧ i < 60) = cnd := ⟨_, rfl⟩
      have HCND := Lib.hid hcnd
      clear hcnd
      go_upto_region 9 with fail
      go_cut [33] (fun s33 wx => s33 = .bool cnd ∧ Eqw wr wx)
      case first =>
        by_cases hlN : i < N
        · have hdl : decide ((i : Int) < (N : Int)) = true := by simp; omega
          by_cases hl60 : i < 60
          · have hd60 : decide ((i : Int) < 60) = true := by simp; omega
            have hd60' : decide (i < 60) = true := by simp; omega
            have hct : cnd = true := by rw [← HCND.out]; simp; omega
            subst hct
            go_wp2_with fail
            go_meet
            case rel => exact ⟨rfl, rfl⟩
          · have hd60 : decide ((i : Int) < 60) = false := by simp; omega
            have hd60' : decide (i < 60) = false := by simp; omega
            have hct : cnd = false := by rw [← HCND.out]; simp; omega
            subst hct
            go_wp2_with fail
            go_meet
            case rel => exact ⟨rfl, rfl⟩
        · have hdl : decide ((i : Int) < (N : Int)) = false := by simp; omega
          have hct : cnd = false := by rw [← HCND.out]; simp; omega
          subst hct
          go_wp2_with fail
          go_meet
          case rel => exact ⟨rfl, rfl⟩
      case rest =>
      obtain ⟨rfl, hwx⟩ := hcut
      have hwx' : wr = wc := (show wc = wr from hwx).symm
      subst hwx'
      clear hwx
      cases cnd with
      | true =>
        have hlt := of_decide_eq_true HCND.out
        obtain ⟨hlN, hl60⟩ := hlt
        obtain ⟨x, hx⟩ : ∃ x, zs[i]? = some x := ⟨_, List.getElem?_eq_getElem (by rw [HN.out]; exact hlN)⟩
        have hox := HOK.out i x hl60 hx
        obtain ⟨b, o, cap, hve, hbl, hcell, hin⟩ := act_box (HAC.out.below HOi.out.low) hx
        have hnext := fun (en : Int) (wx : World) (h : AcIn w.heap.size wx { x with nx := true }) => next_any { x with nx := true } rfl en wx h hox.1
        have hin2 : AcIn w.heap.size wr { x with nx := true } := ⟨hin.recs, hin.less, hin.fates, hin.old⟩
        obtain ⟨ra, rc, hrv⟩ := hin.recs.slice
        obtain ⟨la, lc, hlv, -⟩ := hin.less
        obtain ⟨fa, fc, hfv, -⟩ := hin.fates
        have hrl := hox.1
        obtain ⟨kind, ⟨base, count, prod, seq, time, recs⟩, rv, nx, n, less, lv, fates, fv, name⟩ := x
        simp only at hrv hlv hfv hrl hnext hin2
        subst hrv hlv hfv
        obtain ⟨rl, hrle⟩ : ∃ rl, recs.length = rl := ⟨_, rfl⟩
        obtain ⟨ll, hlle⟩ : ∃ ll, less.length = ll := ⟨_, rfl⟩
        obtain ⟨fl, hfle⟩ : ∃ fl, fates.length = fl := ⟨_, rfl⟩
        have c0 : wr.cell? ⟨b, o + i * 12, none⟩ = some (.int .i64 kind) := hcell 0 _ (by decide) rfl
        have c1 : wr.cell? ⟨b, o + i * 12 + 1, none⟩ = some (.int .i64 base) := hcell 1 _ (by decide) rfl
        have c2 : wr.cell? ⟨b, o + i * 12 + 2, none⟩ = some (.int .i64 count) := hcell 2 _ (by decide) rfl
        have c3 : wr.cell? ⟨b, o + i * 12 + 3, none⟩ = some (.int .i64 prod) := hcell 3 _ (by decide) rfl
        have c4 : wr.cell? ⟨b, o + i * 12 + 4, none⟩ = some (.int .i64 seq) := hcell 4 _ (by decide) rfl
        have c5 : wr.cell? ⟨b, o + i * 12 + 5, none⟩ = some (.int .i64 time) := hcell 5 _ (by decide) rfl
        have c6 : wr.cell? ⟨b, o + i * 12 + 6, none⟩ = some (.slice ra rl rc) := by rw [← hrle]; exact hcell 6 _ (by decide) rfl
        have c7 : wr.cell? ⟨b, o + i * 12 + 7, none⟩ = some (.bool nx) := hcell 7 _ (by decide) rfl
        have c8 : wr.cell? ⟨b, o + i * 12 + 8, none⟩ = some (.int .i64 n) := hcell 8 _ (by decide) rfl
        have c9 : wr.cell? ⟨b, o + i * 12 + 9, none⟩ = some (.slice la ll lc) := by rw [← hlle]; exact hcell 9 _ (by decide) rfl
        have c10 : wr.cell? ⟨b, o + i * 12 + 10, none⟩ = some (.slice fa fl fc) := by rw [← hfle]; exact hcell 10 _ (by decide) rfl
        have c11 : wr.cell? ⟨b, o + i * 12 + 11, none⟩ = some (.string name) := hcell 11 _ (by decide) rfl
        injection hve with hv1 hv2 hv3
        subst hv1
        clear hv2 hv3
        have i0 : (0 : Int) ≤ (i : Int) := by omega
        have i1 : (i : Int) < (N : Int) := by omega
        have HNX := Lib.hid hnext
        have HIN := Lib.hid hin2
        clear hcell hin hox hx hnext hin2
        have HRLE := Lib.hid (And.intro hrle (And.intro hlle hfle))
        obtain ⟨V, hV⟩ : ∃ V, wr.alloc (.cells #[.int .i64 kind, .int .i64 base, .int .i64 count, .int .i64 prod, .int .i64 seq, .int .i64 time, .slice ra rl rc, .bool true, .int .i64 n, .slice la ll lc, .slice fa fl fc, .string name] 37) = V := ⟨_, rfl⟩
        have hbV : Below wr.heap.size wr V := by rw [← hV]; exact (Below.refl _ _).alloc (Nat.le_refl _) _
        have hkV : Blk V wr.heap.size #[.int .i64 kind, .int .i64 base, .int .i64 count, .int .i64 prod, .int .i64 seq, .int .i64 time, .slice ra rl rc, .bool true, .int .i64 n, .slice la ll lc, .slice fa fl fc, .string name] 37 := by rw [← hV]; exact Blk.new _ _ _
        have HV := Lib.hid hV
        have HBV := Lib.hid hbV
        have k0 : V.cell? ⟨wr.heap.size, 0, none⟩ = some (.int .i64 kind) := hkV.cell rfl
        have k1 : V.cell? ⟨wr.heap.size, 1, none⟩ = some (.int .i64 base) := hkV.cell rfl
        have k2 : V.cell? ⟨wr.heap.size, 2, none⟩ = some (.int .i64 count) := hkV.cell rfl
        have k3 : V.cell? ⟨wr.heap.size, 3, none⟩ = some (.int .i64 prod) := hkV.cell rfl
        have k4 : V.cell? ⟨wr.heap.size, 4, none⟩ = some (.int .i64 seq) := hkV.cell rfl
        have k5 : V.cell? ⟨wr.heap.size, 5, none⟩ = some (.int .i64 time) := hkV.cell rfl
        have k6 : V.cell? ⟨wr.heap.size, 6, none⟩ = some (.slice ra rl rc) := hkV.cell rfl
        have k7 : V.cell? ⟨wr.heap.size, 7, none⟩ = some (.bool true) := hkV.cell rfl
        have k8 : V.cell? ⟨wr.heap.size, 8, none⟩ = some (.int .i64 n) := hkV.cell rfl
        have k9 : V.cell? ⟨wr.heap.size, 9, none⟩ = some (.slice la ll lc) := hkV.cell rfl
        have k10 : V.cell? ⟨wr.heap.size, 10, none⟩ = some (.slice fa fl fc) := hkV.cell rfl
        have k11 : V.cell? ⟨wr.heap.size, 11, none⟩ = some (.string name) := hkV.cell rfl
        obtain ⟨en, hen⟩ : ∃ en, gsEnd G = en := ⟨_, rfl⟩
        have HEN := Lib.hid hen
        have HEV : Hid (∀ wx, Below V.heap.size V wx → Calls Tryz.prog 29 #[.pointer (some ⟨s, 0, none⟩)] wx fun e w' => e = .returned (.int .i64 en) ∧ Below wx.heap.size wx w') := Lib.hid fun wx hbx => by rw [← hen]; exact (HOi.out.below (hbV.trans (hbx.mono hbV.size))).end_
        have HNV : Hid (∀ w3, Below V.heap.size V.drew w3 → Calls Tryz.prog 28 #[.agg #[.int .i64 kind, .int .i64 base, .int .i64 count, .int .i64 prod, .int .i64 seq, .int .i64 time, .slice ra rl rc, .bool true, .int .i64 n, .slice la ll lc, .slice fa fl fc, .string name], .int .i64 en] w3 fun e w' => ∃ rv, e = .returned (bv (nxB ⟨base, count, prod, seq, time, recs⟩ en, rv)) ∧ RcIn (fun k => w3.heap.size ≤ k) w' rv (nxB ⟨base, count, prod, seq, time, recs⟩ en).recs ∧ Below w3.heap.size w3 w') := Lib.hid fun w3 hb => by
          have := HNX.out en w3 (HIN.out.below (hbV.trans (show Below wr.heap.size V w3 from (show Below V.heap.size V w3 from ⟨hb.os, hb.tape, hb.output, hb.size, hb.block⟩).mono hbV.size)))
          unfold acells at this
          simp only at this
          rw [hrle, hlle, hfle] at this
          exact this
        have HFD : Hid (∀ w3 w4 rv, Below V.heap.size V.drew w3 → RcIn (fun k => w3.heap.size ≤ k) w4 rv (nxB ⟨base, count, prod, seq, time, recs⟩ en).recs → Below w3.heap.size w3 w4 → Calls Tryz.prog 30 #[.pointer (some ⟨s, 0, none⟩), bv (nxB ⟨base, count, prod, seq, time, recs⟩ en, rv)] w4 (FedOut w t s (enL seg) (1 + i) 0 G (fun k => False ∨ wr.heap.size ≤ k) y (nxB ⟨base, count, prod, seq, time, recs⟩ en) V)) := Lib.hid fun w3 w4 rv hb hr hb4 => by
          have h3 : Below V.heap.size V w3 := ⟨hb.os, hb.tape, hb.output, hb.size, hb.block⟩
          exact (HOi.out.below hbV).feed (h3.trans (hb4.mono h3.size)) (by show 1 + i < 200; omega) (Rds.mono hr fun k hk => Nat.le_trans h3.size hk) (by simp [nxB]; omega) hen.symm
        have HQB : Hid ((False ∨ wr.heap.size ≤ wr.heap.size) ∧ wr.heap.size < V.heap.size) := Lib.hid ⟨.inr (Nat.le_refl _), hkV.lt⟩
        clear hrle hlle hfle hV hbV hkV hen
        go_wp2_with fail
        rw [HV.out]
        go_region_held3 (fun w' => w'.cell? ⟨wr.heap.size, 0, none⟩ = some (.int .i64 kind) ∧ w'.cell? ⟨wr.heap.size, 1, none⟩ = some (.int .i64 base) ∧ w'.cell? ⟨wr.heap.size, 2, none⟩ = some (.int .i64 count) ∧ w'.cell? ⟨wr.heap.size, 3, none⟩ = some (.int .i64 prod) ∧ w'.cell? ⟨wr.heap.size, 4, none⟩ = some (.int .i64 seq) ∧ w'.cell? ⟨wr.heap.size, 5, none⟩ = some (.int .i64 time) ∧ w'.cell? ⟨wr.heap.size, 6, none⟩ = some (.slice ra rl rc) ∧ w'.cell? ⟨wr.heap.size, 7, none⟩ = some (.bool true) ∧ w'.cell? ⟨wr.heap.size, 8, none⟩ = some (.int .i64 n) ∧ w'.cell? ⟨wr.heap.size, 9, none⟩ = some (.slice la ll lc) ∧ w'.cell? ⟨wr.heap.size, 10, none⟩ = some (.slice fa fl fc) ∧ w'.cell? ⟨wr.heap.size, 11, none⟩ = some (.string name)) (first | go_keep | (go_split_ands; exact ⟨dcell hb3 k0, dcell hb3 k1, dcell hb3 k2, dcell hb3 k3, dcell hb3 k4, dcell hb3 k5, dcell hb3 k6, dcell hb3 k7, dcell hb3 k8, dcell hb3 k9, dcell hb3 k10, dcell hb3 k11⟩) | (go_split_ands; exact ⟨qcell hk5 HQB.out k0, qcell hk5 HQB.out k1, qcell hk5 HQB.out k2, qcell hk5 HQB.out k3, qcell hk5 HQB.out k4, qcell hk5 HQB.out k5, qcell hk5 HQB.out k6, qcell hk5 HQB.out k7, qcell hk5 HQB.out k8, qcell hk5 HQB.out k9, qcell hk5 HQB.out k10, qcell hk5 HQB.out k11⟩) | (go_split_ands; exact ⟨ecell hb4 (dcell hb3 k0), ecell hb4 (dcell hb3 k1), ecell hb4 (dcell hb3 k2), ecell hb4 (dcell hb3 k3), ecell hb4 (dcell hb3 k4), ecell hb4 (dcell hb3 k5), ecell hb4 (dcell hb3 k6), ecell hb4 (dcell hb3 k7), ecell hb4 (dcell hb3 k8), ecell hb4 (dcell hb3 k9), ecell hb4 (dcell hb3 k10), ecell hb4 (dcell hb3 k11)⟩))
          (first
            | (go_at_call 29; (refine (HEV.out _ ((Below.refl _ _).drew)).mono ?_); rintro e w3 ⟨rfl, hb3⟩)
            | (go_at_call 28; (refine (HNV.out _ hb3).mono ?_); rintro e w4 ⟨rv', rfl, hr4, hb4⟩)
            | (go_at_call 30; (refine (HFD.out _ _ rv' hb3 hr4 hb4).mono ?_); rintro e w5 ⟨er, rfl, hor, hk5⟩)
            | fail)
        have hO' : ∃ G' y', Opd w t s (enL seg) (1 + (i + 1)) 0 G' (fun _ => False) y' w5 := by
          rcases hor with ⟨-, -, h⟩ | ⟨-, -, h⟩
          · exact ⟨_, _, h.mono fun _ _ h => h.elim⟩
          · exact ⟨_, _, h.mono fun _ _ h => h.elim⟩
        have HO' := Lib.hid hO'
        clear hO' hor hk5 hr4 hb4 hb3 HFD HNV HEV k0 k1 k2 k3 k4 k5 k6 k7 k8 k9 k10 k11
        go_wp2_with fail
        go_roundw
        case rel =>
          obtain ⟨G', y', h⟩ := HO'.out
          exact ⟨i + 1, G', y', by omega, by omega, by go_num, h⟩
        case measure => simp [intOf]; omega
      | false =>
        obtain ⟨en, hen⟩ : ∃ en, gsEnd G = en := ⟨_, rfl⟩
        have HE := Lib.hid HOi.out.end_
        rw [hen] at HE
        have HEN := Lib.hid hen
        obtain ⟨sv, hsv⟩ : ∃ sv, wrap64 (1 + wrap64 ((IntKind.u64.wrap seg).tmod 400)) = sv := ⟨_, rfl⟩
        have HSV := Lib.hid hsv
        clear hen hsv
        go_wp2_with fail
        refine HE.out.mono ?_
        rintro e w3 ⟨rfl, hb3⟩
        have HO3 := Lib.hid (HOi.out.below hb3)
        clear hb3 HE HOi
        by_cases hbad : off < 0 ∨ 1099511627776 < off
        · have HRB := Lib.hid (HO3.out.reset_bad off hbad)
          go_wp2_with fail
          refine HRB.out.mono ?_
          rintro e w4 ⟨rfl, hb4⟩
          have HO4 := Lib.hid (HO3.out.below hb4)
          have HE4 := Lib.hid HO4.out.end_
          rw [HEN.out] at HE4
          clear hb4 HRB HO3
          by_cases h0 : off < 0
          · have hd0 : decide (off < 0) = true := by simp; omega
            go_wp2_with fail
            refine HE4.out.mono ?_
            rintro e w5 ⟨rfl, hb5⟩
            have HF := Lib.hid (HO4.out.below hb5).low
            clear hb5
            go_wp2_with fail
            go_ret
            exact ⟨rfl, HF.out⟩
          · have hd0 : decide (off < 0) = false := by simp; omega
            have hd1 : decide ((1099511627776 : Int) < off) = true := by simp; omega
            go_wp2_with fail
            refine HE4.out.mono ?_
            rintro e w5 ⟨rfl, hb5⟩
            have HF := Lib.hid (HO4.out.below hb5).low
            clear hb5
            go_wp2_with fail
            go_ret
            exact ⟨rfl, HF.out⟩
        · have hoff : 0 ≤ off ∧ off ≤ 1099511627776 := by omega
          have hd0 : decide (off < 0) = false := by simp; omega
          have hd1 : decide ((1099511627776 : Int) < off) = false := by simp; omega
          have HRS := Lib.hid (HO3.out.reset (by show 1 + i < 200; omega) off hoff)
          go_wp2_with fail
          refine HRS.out.mono ?_
          rintro e w4 ⟨rfl, ho, -⟩
          have HO4 := Lib.hid ho.off
          clear ho HRS HO3
          go_wp2_with fail
          refine HO4.out.mono ?_
          rintro e w5 ⟨⟨vo, rfl⟩, ho, -⟩
          have HO5 := Lib.hid (ho.on (.slice none 0 0) [] ⟨none, 0, rfl, fun j z h => by simp at h⟩ (fun h => absurd h (by decide)))
          clear ho HO4
          go_wp2_with fail
          refine HO5.out.mono ?_
          rintro e w6 ⟨⟨vo, rfl⟩, ho, -⟩
          have hop := ho.reopen (by show 1 + i + 1 < 200; omega)
          rw [show (enL seg).sv = sv from HSV.out, show (enL seg).P.toArray = #[112, 97, 114, 116] from rfl] at hop
          have HO6 := Lib.hid hop
          clear ho HO5 hop
          go_wp2_with fail
          rw [HSV.out]
          refine HO6.out.mono ?_
          rintro e w7 ⟨p, rfl, ho, -, hold⟩
          have HO7 := Lib.hid ho
          have HS7 := Lib.hid hold.start_
          have HE7 := Lib.hid hold.end_
          have HOLD := Lib.hid hold
          rw [show gsStart [(⟨off, []⟩ : Sg)] = off from rfl] at HS7
          rw [show gsEnd [(⟨off, []⟩ : Sg)] = off from rfl] at HE7
          clear ho hold HO6
          have hoo : (off == off) = true := by simp
          go_wp2_with fail
          refine HS7.out.mono ?_
          rintro e _ ⟨rfl, rfl⟩
          go_wp2_with fail
          refine HE7.out.mono ?_
          rintro e w8 ⟨rfl, hb8⟩
          have HO8 := Lib.hid (HO7.out.below hb8)
          have HA8 := Lib.hid (HOLD.out.below hb8).all
          rw [show fla [(⟨off, []⟩ : Sg)] = [] from rfl] at HA8
          clear hb8 HS7 HE7 HO7
          go_wp2_with fail
          refine HA8.out.mono ?_
          rintro e w9 ⟨av, agb, AL, rfl, hs9, -, -, hL9, hb9⟩
          obtain rfl : AL = [] := List.map_eq_nil_iff.1 hL9
          obtain ⟨aa, ac, rfl⟩ := hs9.form
          have HO9 := Lib.hid (HO8.out.below hb9)
          have HS9 := Lib.hid HO9.out.start_
          have HE9 := Lib.hid HO9.out.end_
          rw [show gsStart [(⟨off, []⟩ : Sg)] = off from rfl] at HS9
          rw [show gsEnd [(⟨off, []⟩ : Sg)] = off from rfl] at HE9
          simp only [List.length_nil] 
          clear hs9 hL9 hb9 HO8 HA8 HOLD
          go_wp2_with fail
          refine HS9.out.mono ?_
          rintro e _ ⟨rfl, rfl⟩
          go_wp2_with fail
          refine HE9.out.mono ?_
          rintro e w10 ⟨rfl, hb10⟩
          have HO10 := Lib.hid (HO9.out.below hb10)
          have HN10 := Lib.hid HO10.out.names
          clear hb10 HS9 HE9 HO9
          go_wp2_with fail
          refine HN10.out.mono ?_
          rintro e w11 ⟨nv, ss, rfl, hn, h1, -, -, -, hb11⟩
          rw [h1] at hn
          obtain ⟨na, nc, rfl⟩ := hn.form
          have HF := Lib.hid (HO10.out.below hb11).low
          simp only [List.length_cons, List.length_nil, Nat.zero_add]
          clear hn h1 hb11 HN10 HO10
          go_wp2_with fail
          go_ret
          exact ⟨rfl, HF.out⟩
end Go.Proofs.YtdaoeplblkfapaaGreatDoor
