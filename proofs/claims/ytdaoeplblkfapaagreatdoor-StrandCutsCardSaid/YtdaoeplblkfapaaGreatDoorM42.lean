import Derived.Test.YtdaoeplblkfapaaGreatDoorM29
import Derived.Test.YtdaoeplblkfapaaGreatDoorM37
import Derived.Test.YtdaoeplblkfapaaGreatDoorM22
import Derived.Test.YtdaoeplblkfapaaGreatDoorM35
import Derived.Test.YtdaoeplblkfapaaGreatDoorM38
import Derived.Deep.RegionHeld3
import Derived.Test.YtdaoeplblkfapaaGreatDoorM06

/- The walk of the law StrandCuts. -/
namespace Go.Proofs.YtdaoeplblkfapaaGreatDoor
open Go.RowKit

set_option maxRecDepth 100000 in
set_option maxHeartbeats 8000000 in
theorem cuts_any (seg : Int) (v : Value) (zs : List Ac) (nn : Int) (w : World) (lb : Lb w) (h : Acts w.heap.size w v zs) :
    Calls Tryz.prog 7 #[.int .i64 seg, v, .int .i64 nn] w fun e w' => e = .returned (.bool true) ∧ Below w.heap.size w w' := by
  obtain ⟨va, vc, hv⟩ : ∃ a c, v = .slice a zs.length c := let ⟨a, c, e, _⟩ := h.lies; ⟨a, c, e⟩
  subst hv
  obtain ⟨N, hN⟩ : ∃ N, zs.length = N := ⟨_, rfl⟩
  have HA := Lib.hid (awake_any w lb)
  have HLB := Lib.hid lb
  have HAC := Lib.hid h
  have HN := Lib.hid hN
  rw [hN]
  clear lb h hN
  go_enter Tryz.func7, Tryz.ntmps7
  go_wp2_with fail
  refine HA.out.mono ?_
  rintro e w1 ⟨rfl, hb1⟩
  have HAC1 := Lib.hid (HAC.out.below hb1)
  have HB1 := Lib.hid hb1
  have HGR := Lib.hid (great_any _ zs w1 HAC1.out)
  rw [HN.out] at HGR
  clear hb1 HA
  go_wp2_with fail
  refine HGR.out.mono ?_
  rintro e w1b ⟨gr, rfl, hwe, hok⟩
  have hwe' : _ = _ := hwe
  subst hwe'
  clear hwe HGR
  cases gr with
  | true =>
    go_wp2_with fail
    go_ret
    exact ⟨rfl, HB1.out⟩
  | false =>
    have HOK := Lib.hid (hok rfl)
    clear hok
    have HOP := Lib.hid (opened_any seg w1b HLB.out HB1.out)
    go_wp2_with fail
    refine HOP.out.mono ?_
    rintro e w2 ⟨t, s, rfl, ho⟩
    have HO := Lib.hid ho
    clear ho HOP
    go_wp2_with fail
    go_loopw [9] (fun iv wr => ∃ (i : Nat) (G : List Sg) (y : Bool), i ≤ N ∧ i ≤ 60 ∧ iv = .int .i64 i ∧ (∀ g ∈ G, g.l ≠ []) ∧ Opd w t s (enL seg) (1 + i) 0 G (fun _ => False) y wr) (fun iv _ => 60 - (intOf iv).toNat)
    case atStart => exact ⟨0, [], true, Nat.zero_le _, by omega, rfl, (fun _ hg => by simp at hg), HO.out⟩
    case round =>
      obtain ⟨i, G, y, hi, hi60, rfl, hGne, hO⟩ := hrel
      have HGN := Lib.hid hGne
      have HOi := Lib.hid hO
      clear hO HO hGne
      obtain ⟨cnd, hcnd⟩ : ∃ cnd, decide (i < N ∧ i < 60) = cnd := ⟨_, rfl⟩
      have HCND := Lib.hid hcnd
      clear hcnd
      go_upto_region 9 with fail
      go_cut [35] (fun s35 wx => s35 = .bool cnd ∧ Eqw wr wx)
      case first =>
        by_cases hlN : i < N
        · have hdl : decide ((i : Int) < (N : Int)) = true := by simp; omega
          by_cases hl60 : i < 60
          · have hd60 : decide ((i : Int) < 60) = true := by simp; omega
            have hd60' : decide (i < 60) = true := by simp; omega
            have hct : cnd = true := by rw [← HCND.out]; simp; omega
            subst hct
            go_wp2_with fail
            go_meet
            case rel => exact ⟨rfl, rfl⟩
          · have hd60 : decide ((i : Int) < 60) = false := by simp; omega
            have hd60' : decide (i < 60) = false := by simp; omega
            have hct : cnd = false := by rw [← HCND.out]; simp; omega
            subst hct
            go_wp2_with fail
            go_meet
            case rel => exact ⟨rfl, rfl⟩
        · have hdl : decide ((i : Int) < (N : Int)) = false := by simp; omega
          have hct : cnd = false := by rw [← HCND.out]; simp; omega
          subst hct
          go_wp2_with fail
          go_meet
          case rel => exact ⟨rfl, rfl⟩
      case rest =>
      obtain ⟨rfl, hwx⟩ := hcut
      have hwx' : wr = wc := (show wc = wr from hwx).symm
      subst hwx'
      clear hwx
      cases cnd with
      | true =>
        have hlt := of_decide_eq_true HCND.out
        obtain ⟨hlN, hl60⟩ := hlt
        obtain ⟨x, hx⟩ : ∃ x, zs[i]? = some x := ⟨_, List.getElem?_eq_getElem (by rw [HN.out]; exact hlN)⟩
        have hox := HOK.out i x hl60 hx
        obtain ⟨b, o, cap, hve, hbl, hcell, hin⟩ := act_box (HAC.out.below HOi.out.low) hx
        have hnext := fun (en : Int) (wx : World) (h : AcIn w.heap.size wx { x with nx := true }) => next_any { x with nx := true } rfl en wx h hox.1
        have hin2 : AcIn w.heap.size wr { x with nx := true } := ⟨hin.recs, hin.less, hin.fates, hin.old⟩
        obtain ⟨ra, rc, hrv⟩ := hin.recs.slice
        obtain ⟨la, lc, hlv, -⟩ := hin.less
        obtain ⟨fa, fc, hfv, -⟩ := hin.fates
        have hrl := hox.1
        obtain ⟨kind, ⟨base, count, prod, seq, time, recs⟩, rv, nx, n, less, lv, fates, fv, name⟩ := x
        simp only at hrv hlv hfv hrl hnext hin2
        subst hrv hlv hfv
        obtain ⟨rl, hrle⟩ : ∃ rl, recs.length = rl := ⟨_, rfl⟩
        obtain ⟨ll, hlle⟩ : ∃ ll, less.length = ll := ⟨_, rfl⟩
        obtain ⟨fl, hfle⟩ : ∃ fl, fates.length = fl := ⟨_, rfl⟩
        have c0 : wr.cell? ⟨b, o + i * 12, none⟩ = some (.int .i64 kind) := hcell 0 _ (by decide) rfl
        have c1 : wr.cell? ⟨b, o + i * 12 + 1, none⟩ = some (.int .i64 base) := hcell 1 _ (by decide) rfl
        have c2 : wr.cell? ⟨b, o + i * 12 + 2, none⟩ = some (.int .i64 count) := hcell 2 _ (by decide) rfl
        have c3 : wr.cell? ⟨b, o + i * 12 + 3, none⟩ = some (.int .i64 prod) := hcell 3 _ (by decide) rfl
        have c4 : wr.cell? ⟨b, o + i * 12 + 4, none⟩ = some (.int .i64 seq) := hcell 4 _ (by decide) rfl
        have c5 : wr.cell? ⟨b, o + i * 12 + 5, none⟩ = some (.int .i64 time) := hcell 5 _ (by decide) rfl
        have c6 : wr.cell? ⟨b, o + i * 12 + 6, none⟩ = some (.slice ra rl rc) := by rw [← hrle]; exact hcell 6 _ (by decide) rfl
        have c7 : wr.cell? ⟨b, o + i * 12 + 7, none⟩ = some (.bool nx) := hcell 7 _ (by decide) rfl
        have c8 : wr.cell? ⟨b, o + i * 12 + 8, none⟩ = some (.int .i64 n) := hcell 8 _ (by decide) rfl
        have c9 : wr.cell? ⟨b, o + i * 12 + 9, none⟩ = some (.slice la ll lc) := by rw [← hlle]; exact hcell 9 _ (by decide) rfl
        have c10 : wr.cell? ⟨b, o + i * 12 + 10, none⟩ = some (.slice fa fl fc) := by rw [← hfle]; exact hcell 10 _ (by decide) rfl
        have c11 : wr.cell? ⟨b, o + i * 12 + 11, none⟩ = some (.string name) := hcell 11 _ (by decide) rfl
        injection hve with hv1 hv2 hv3
        subst hv1
        clear hv2 hv3
        have i0 : (0 : Int) ≤ (i : Int) := by omega
        have i1 : (i : Int) < (N : Int) := by omega
        have HNX := Lib.hid hnext
        have HIN := Lib.hid hin2
        clear hcell hin hox hx hnext hin2
        have HRLE := Lib.hid (And.intro hrle (And.intro hlle hfle))
        obtain ⟨V, hV⟩ : ∃ V, wr.alloc (.cells #[.int .i64 kind, .int .i64 base, .int .i64 count, .int .i64 prod, .int .i64 seq, .int .i64 time, .slice ra rl rc, .bool true, .int .i64 n, .slice la ll lc, .slice fa fl fc, .string name] 37) = V := ⟨_, rfl⟩
        have hbV : Below wr.heap.size wr V := by rw [← hV]; exact (Below.refl _ _).alloc (Nat.le_refl _) _
        have hkV : Blk V wr.heap.size #[.int .i64 kind, .int .i64 base, .int .i64 count, .int .i64 prod, .int .i64 seq, .int .i64 time, .slice ra rl rc, .bool true, .int .i64 n, .slice la ll lc, .slice fa fl fc, .string name] 37 := by rw [← hV]; exact Blk.new _ _ _
        have HV := Lib.hid hV
        have HBV := Lib.hid hbV
        have k0 : V.cell? ⟨wr.heap.size, 0, none⟩ = some (.int .i64 kind) := hkV.cell rfl
        have k1 : V.cell? ⟨wr.heap.size, 1, none⟩ = some (.int .i64 base) := hkV.cell rfl
        have k2 : V.cell? ⟨wr.heap.size, 2, none⟩ = some (.int .i64 count) := hkV.cell rfl
        have k3 : V.cell? ⟨wr.heap.size, 3, none⟩ = some (.int .i64 prod) := hkV.cell rfl
        have k4 : V.cell? ⟨wr.heap.size, 4, none⟩ = some (.int .i64 seq) := hkV.cell rfl
        have k5 : V.cell? ⟨wr.heap.size, 5, none⟩ = some (.int .i64 time) := hkV.cell rfl
        have k6 : V.cell? ⟨wr.heap.size, 6, none⟩ = some (.slice ra rl rc) := hkV.cell rfl
        have k7 : V.cell? ⟨wr.heap.size, 7, none⟩ = some (.bool true) := hkV.cell rfl
        have k8 : V.cell? ⟨wr.heap.size, 8, none⟩ = some (.int .i64 n) := hkV.cell rfl
        have k9 : V.cell? ⟨wr.heap.size, 9, none⟩ = some (.slice la ll lc) := hkV.cell rfl
        have k10 : V.cell? ⟨wr.heap.size, 10, none⟩ = some (.slice fa fl fc) := hkV.cell rfl
        have k11 : V.cell? ⟨wr.heap.size, 11, none⟩ = some (.string name) := hkV.cell rfl
        obtain ⟨en, hen⟩ : ∃ en, gsEnd G = en := ⟨_, rfl⟩
        have HEN := Lib.hid hen
        have HEV : Hid (∀ wx, Below V.heap.size V wx → Calls Tryz.prog 29 #[.pointer (some ⟨s, 0, none⟩)] wx fun e w' => e = .returned (.int .i64 en) ∧ Below wx.heap.size wx w') := Lib.hid fun wx hbx => by rw [← hen]; exact (HOi.out.below (hbV.trans (hbx.mono hbV.size))).end_
        have HNV : Hid (∀ w3, Below V.heap.size V.drew w3 → Calls Tryz.prog 28 #[.agg #[.int .i64 kind, .int .i64 base, .int .i64 count, .int .i64 prod, .int .i64 seq, .int .i64 time, .slice ra rl rc, .bool true, .int .i64 n, .slice la ll lc, .slice fa fl fc, .string name], .int .i64 en] w3 fun e w' => ∃ rv, e = .returned (bv (nxB ⟨base, count, prod, seq, time, recs⟩ en, rv)) ∧ RcIn (fun k => w3.heap.size ≤ k) w' rv (nxB ⟨base, count, prod, seq, time, recs⟩ en).recs ∧ Below w3.heap.size w3 w') := Lib.hid fun w3 hb => by
          have := HNX.out en w3 (HIN.out.below (hbV.trans (show Below wr.heap.size V w3 from (show Below V.heap.size V w3 from ⟨hb.os, hb.tape, hb.output, hb.size, hb.block⟩).mono hbV.size)))
          unfold acells at this
          simp only at this
          rw [hrle, hlle, hfle] at this
          exact this
        have HFD : Hid (∀ w3 w4 rv, Below V.heap.size V.drew w3 → RcIn (fun k => w3.heap.size ≤ k) w4 rv (nxB ⟨base, count, prod, seq, time, recs⟩ en).recs → Below w3.heap.size w3 w4 → Calls Tryz.prog 30 #[.pointer (some ⟨s, 0, none⟩), bv (nxB ⟨base, count, prod, seq, time, recs⟩ en, rv)] w4 (FedOut w t s (enL seg) (1 + i) 0 G (fun k => False ∨ wr.heap.size ≤ k) y (nxB ⟨base, count, prod, seq, time, recs⟩ en) V)) := Lib.hid fun w3 w4 rv hb hr hb4 => by
          have h3 : Below V.heap.size V w3 := ⟨hb.os, hb.tape, hb.output, hb.size, hb.block⟩
          exact (HOi.out.below hbV).feed (h3.trans (hb4.mono h3.size)) (by show 1 + i < 200; omega) (Rds.mono hr fun k hk => Nat.le_trans h3.size hk) (by simp [nxB]; omega) hen.symm
        have HQB : Hid ((False ∨ wr.heap.size ≤ wr.heap.size) ∧ wr.heap.size < V.heap.size) := Lib.hid ⟨.inr (Nat.le_refl _), hkV.lt⟩
        clear hrle hlle hfle hV hbV hkV hen
        go_wp2_with fail
        rw [HV.out]
        go_region_held3 (fun w' => w'.cell? ⟨wr.heap.size, 0, none⟩ = some (.int .i64 kind) ∧ w'.cell? ⟨wr.heap.size, 1, none⟩ = some (.int .i64 base) ∧ w'.cell? ⟨wr.heap.size, 2, none⟩ = some (.int .i64 count) ∧ w'.cell? ⟨wr.heap.size, 3, none⟩ = some (.int .i64 prod) ∧ w'.cell? ⟨wr.heap.size, 4, none⟩ = some (.int .i64 seq) ∧ w'.cell? ⟨wr.heap.size, 5, none⟩ = some (.int .i64 time) ∧ w'.cell? ⟨wr.heap.size, 6, none⟩ = some (.slice ra rl rc) ∧ w'.cell? ⟨wr.heap.size, 7, none⟩ = some (.bool true) ∧ w'.cell? ⟨wr.heap.size, 8, none⟩ = some (.int .i64 n) ∧ w'.cell? ⟨wr.heap.size, 9, none⟩ = some (.slice la ll lc) ∧ w'.cell? ⟨wr.heap.size, 10, none⟩ = some (.slice fa fl fc) ∧ w'.cell? ⟨wr.heap.size, 11, none⟩ = some (.string name)) (first | go_keep | (go_split_ands; exact ⟨dcell hb3 k0, dcell hb3 k1, dcell hb3 k2, dcell hb3 k3, dcell hb3 k4, dcell hb3 k5, dcell hb3 k6, dcell hb3 k7, dcell hb3 k8, dcell hb3 k9, dcell hb3 k10, dcell hb3 k11⟩) | (go_split_ands; exact ⟨qcell hk5 HQB.out k0, qcell hk5 HQB.out k1, qcell hk5 HQB.out k2, qcell hk5 HQB.out k3, qcell hk5 HQB.out k4, qcell hk5 HQB.out k5, qcell hk5 HQB.out k6, qcell hk5 HQB.out k7, qcell hk5 HQB.out k8, qcell hk5 HQB.out k9, qcell hk5 HQB.out k10, qcell hk5 HQB.out k11⟩) | (go_split_ands; exact ⟨ecell hb4 (dcell hb3 k0), ecell hb4 (dcell hb3 k1), ecell hb4 (dcell hb3 k2), ecell hb4 (dcell hb3 k3), ecell hb4 (dcell hb3 k4), ecell hb4 (dcell hb3 k5), ecell hb4 (dcell hb3 k6), ecell hb4 (dcell hb3 k7), ecell hb4 (dcell hb3 k8), ecell hb4 (dcell hb3 k9), ecell hb4 (dcell hb3 k10), ecell hb4 (dcell hb3 k11)⟩))
          (first
            | (go_at_call 29; (refine (HEV.out _ ((Below.refl _ _).drew)).mono ?_); rintro e w3 ⟨rfl, hb3⟩)
            | (go_at_call 28; (refine (HNV.out _ hb3).mono ?_); rintro e w4 ⟨rv', rfl, hr4, hb4⟩)
            | (go_at_call 30; (refine (HFD.out _ _ rv' hb3 hr4 hb4).mono ?_); rintro e w5 ⟨er, rfl, hor, hk5⟩)
            | fail)
        have hO' : ∃ G' y', (∀ g ∈ G', g.l ≠ []) ∧ Opd w t s (enL seg) (1 + (i + 1)) 0 G' (fun _ => False) y' w5 := by
          rcases hor with ⟨-, -, h⟩ | ⟨-, -, h⟩
          · exact ⟨_, _, push_ne HGN.out, h.mono fun _ _ h => h.elim⟩
          · exact ⟨_, _, HGN.out, h.mono fun _ _ h => h.elim⟩
        have HO' := Lib.hid hO'
        clear hO' hor hk5 hr4 hb4 hb3 HFD HNV HEV k0 k1 k2 k3 k4 k5 k6 k7 k8 k9 k10 k11
        go_wp2_with fail
        go_roundw
        case rel =>
          obtain ⟨G', y', hg, h⟩ := HO'.out
          exact ⟨i + 1, G', y', by omega, by omega, by go_num, hg, h⟩
        case measure => simp [intOf]; omega
      | false =>
        have HAL := Lib.hid HOi.out.all
        have hGf := HOi.out.len
        obtain ⟨n, hn⟩ : ∃ n, (fla G).length = n := ⟨_, rfl⟩
        have HFN := Lib.hid hn
        have hn2 : n ≤ 200 := by omega
        clear hn hGf
        go_wp2_with fail
        refine HAL.out.mono ?_
        rintro e w2 ⟨av, gb, L, rfl, hsl, hgb, hall, hL, hb2⟩
        have hLn : L.length = n := by rw [← HFN.out, ← hL, List.length_map]
        rw [hLn] at hsl
        obtain ⟨aa, ac, rfl⟩ := hsl.form
        have HSL := Lib.hid hsl
        have HGB := Lib.hid hgb
        have HALLS := Lib.hid hall
        have HLL := Lib.hid hL
        have HLN := Lib.hid hLn
        have HB2 := Lib.hid hb2
        clear hsl hgb hall hL hLn hb2 HAL
        by_cases h0 : n = 0
        · subst h0
          have hG0 : G = [] := by
            have h1 := HFN.out
            have h2 := HGN.out
            cases hG : G with
            | nil => rfl
            | cons g G' =>
              exfalso
              rw [hG] at h1 h2
              have h3 := List.length_pos_iff.2 (h2 g List.mem_cons_self)
              rw [show fla (g :: G') = g.l ++ fla G' from rfl, List.length_append] at h1
              omega
          subst hG0
          have HC0 := Lib.hid ((HOi.out.below HB2.out).cut_none 0 (.inl rfl))
          go_wp2_with fail
          refine HC0.out.mono ?_
          rintro e w3 ⟨rfl, hb3⟩
          have HC1 := Lib.hid (((HOi.out.below HB2.out).below hb3).cut_none 1 (.inr rfl))
          have HO3 := Lib.hid ((HOi.out.below HB2.out).below hb3)
          clear hb3 HC0
          go_wp2_with fail
          refine HC1.out.mono ?_
          rintro e w4 ⟨rfl, hb4⟩
          have HF := Lib.hid (HO3.out.below hb4).low
          clear hb4
          go_wp2_with fail
          go_ret
          exact ⟨rfl, HF.out⟩
        · have hd0 : ((n : Int) == 0) = false := by simp; omega
          obtain ⟨k, hk1, hk2, hk3⟩ := mod_nat nn (n : Int) (by omega) (by omega)
          have hwn : IntKind.u64.wrap (n : Int) = n := by rw [IntKind.wrap_u64]; omega
          have hkn : k < n := by omega
          have HK1 := Lib.hid hk1
          have HK3 := Lib.hid hk3
          clear hk1 hk2 hk3
          obtain ⟨⟨⟨base, count, prod, seq, time, recs⟩, rv⟩, hLk⟩ : ∃ p, L[k]? = some p := ⟨_, List.getElem?_eq_getElem (by rw [HLN.out]; exact hkn)⟩
          obtain ⟨ab, ao, acap, e1, -, habl, hcell, -⟩ := (show BtIn (fun _ => True) w2 (.slice aa n ac) L from ⟨by rw [HLN.out]; exact Rds.of_sl HSL.out fun _ _ => trivial, fun p hp => Rds.mono (HALLS.out p hp) fun _ _ => trivial⟩).at hLk
          obtain rfl : aa = some ⟨ab, ao, none⟩ := by injection e1
          have c0 : w2.cell? ⟨ab, ao + k * 6, none⟩ = some (.int .i64 base) := hcell 0 _ (by decide) rfl
          have c1 : w2.cell? ⟨ab, ao + k * 6 + 1, none⟩ = some (.int .i64 count) := hcell 1 _ (by decide) rfl
          have HLK := Lib.hid hLk
          clear e1 hcell hLk
          have i0 : (0 : Int) ≤ (k : Int) := by omega
          have i1 : (k : Int) < (n : Int) := by omega
          obtain ⟨z, hz⟩ : ∃ z, wr.heap.size = z := ⟨_, rfl⟩
          obtain ⟨u, hu⟩ : ∃ u, w2.heap.size = u := ⟨_, rfl⟩
          obtain ⟨A, hA⟩ : ∃ A : Nat → Prop, (fun b => z ≤ b ∧ b < u) = A := ⟨_, rfl⟩
          have hAu : ∀ b, A b → b < u := fun b hb => by rw [← hA] at hb; exact hb.2
          have hO2 : Opd w t s (enL seg) (1 + i) 0 G A y w2 := (HOi.out.below HB2.out).mono fun b _ hb => by rw [← hA] at hb; exact .inr (by rw [hz]; exact hb.1)
          have hbt : BtIn A w2 (.slice (some ⟨ab, ao, none⟩) n ac) L := by
            have h1 : Rds A w2 (.slice (some ⟨ab, ao, none⟩) n ac) 6 n (L.flatMap bc6) := Rds.of_sl HSL.out fun b hb => by
              rw [← hA]
              exact ⟨by rw [← hz]; exact HGB.out b hb, by rw [← hu]; exact HSL.out.lt b hb⟩
            refine ⟨by rw [HLN.out]; exact h1, fun p hp => Rds.keep (HALLS.out p hp) (Nat.le_refl _) fun b hb hl => ⟨rfl, ?_⟩⟩
            rw [← hA]
            exact ⟨by rw [← hz]; exact hb.1, by rw [← hu]; exact hl⟩
          have hfk : (fla G)[k]? = some ⟨base, count, prod, seq, time, recs⟩ := by rw [← HLL.out, List.getElem?_map, HLK.out]; rfl
          obtain ⟨hr1, hr2, hr3, hr4, hr5, hr6⟩ := cut_here HOi.out.log hfk
          have hr7 := cut_end HOi.out.log hfk
          simp only at hr1 hr2 hr3 hr4 hr5 hr7
          have hGne : G ≠ [] := by rintro rfl; simp [fla] at hfk
          have hbb := good_bend hr6
          unfold bend at hbb hr5
          simp only at hbb hr5
          have hw1 : IntKind.i64.wrap (base + 1) = base + 1 := IntWalk.i64_in _ (by omega)
          have HCB : Hid (1 < count → ∀ wx, Below w2.heap.size w2 wx → Calls Tryz.prog 44 #[.pointer (some ⟨s, 0, none⟩), .int .i64 (base + 1)] wx fun e w' => e = .returned (.int .i64 1) ∧ Below wx.heap.size wx w') := Lib.hid fun hc wx hb => (hO2.belowA hb).cut_bad hGne (base + 1) (hr2 (by omega)) (List.mem_of_getElem? hfk) (by show base < base + 1; omega) (by show base + 1 < base + count; omega)
          have HCC : Hid (∀ wx wy, Below w2.heap.size w2 wx → Below wx.heap.size wx wy → Calls Tryz.prog 44 #[.pointer (some ⟨s, 0, none⟩), .int .i64 base] wy fun e w' => e = .returned (.int .i64 0) ∧ Opd w t s (enL seg) (1 + i + 1) 0 (cutG G base) A false w' ∧ Kq A wy w' ∧ u ≤ w'.heap.size) := Lib.hid fun wx wy hb hb2 => by
            have hs : u ≤ wy.heap.size := by have := hb.size; have := hb2.size; omega
            exact ((hO2.belowA (hb.trans (hb2.mono hb.size))).cut (by show 1 + i < 200; omega) hGne HGN.out base hr1 hr3).mono fun _ _ ⟨h1, h2, h3⟩ => ⟨h1, h2.mono fun b _ hb => ⟨hb, Nat.lt_of_lt_of_le (hAu b hb) hs⟩, h3.mono fun b _ hb => ⟨hb, Nat.lt_of_lt_of_le (hAu b hb) hs⟩, Nat.le_trans hs h3.size⟩
          have HEN : Hid (∀ wx, Opd w t s (enL seg) (1 + i + 1) 0 (cutG G base) A false wx → Calls Tryz.prog 29 #[.pointer (some ⟨s, 0, none⟩)] wx fun e w' => e = .returned (.int .i64 base) ∧ Below wx.heap.size wx w') := Lib.hid fun wx h => by have := h.end_; rwa [hr7] at this
          have HALL : Hid (∀ wx wy, Opd w t s (enL seg) (1 + i + 1) 0 (cutG G base) A false wx → Below wx.heap.size wx wy → Calls Tryz.prog 34 #[.pointer (some ⟨s, 0, none⟩)] wy fun e w' => ∃ av M, e = .returned av ∧ BtIn (fun _ => True) w' av M ∧ M.map (·.1) = (fla G).take k ∧ Below wy.heap.size wy w') := Lib.hid fun wx wy h hb => by rw [← hr4]; exact (h.belowA hb).all.mono fun _ _ h => h.bts
          have hpk : ∀ wx, BtIn A wx (.slice (some ⟨ab, ao, none⟩) n ac) L → BtIn A wx (.slice (some ⟨ab, ao, none⟩) k ac) (L.take k) := fun wx h => by
            have h1 := h.1
            rw [HLN.out] at h1
            have h2 := h1.prefix (j := k) (by omega) ac
            rw [flat_take bc6 6 bc6_length] at h2
            exact ⟨by rw [List.length_take, HLN.out, Nat.min_eq_left (by omega)]; exact h2, fun p hp => h.2 p (List.mem_of_mem_take hp)⟩
          have hgoodG := HOi.out.log.good
          have HBS : Hid (∀ w8 av M, BtIn A w8 (.slice (some ⟨ab, ao, none⟩) n ac) L → BtIn (fun _ => True) w8 av M → M.map (·.1) = (fla G).take k → Calls Tryz.prog 36 #[av, .slice (some ⟨ab, ao, none⟩) k ac] w8 fun e w' => e = .returned (.bool true) ∧ Below w8.heap.size w8 w') := Lib.hid fun w8 av M hk hb hm => by
            have hMl : M.length ≤ 200 := by have := congrArg List.length hm; rw [List.length_map, List.length_take, HFN.out] at this; omega
            refine batches_true av _ M (L.take k) w8 hb (hpk _ hk) (by rw [hm, List.map_take, HLL.out]) (by omega) fun p hp => ?_
            have hpm : p.1 ∈ (fla G).take k := by rw [← hm]; exact List.mem_map.2 ⟨p, hp, rfl⟩
            have := (Pl.enc_short (hgoodG p.1 (List.mem_of_mem_take hpm))).2.2
            omega
          have hnac : n ≤ ac := by
            rcases HSL.out.2 with ⟨-, -, h⟩ | ⟨_, _, _, _, -, e, -, hc, -⟩
            · omega
            · injection e with _ e1 e2
              omega
          have hkac : k ≤ ac := by omega
          have HBT := Lib.hid hbt
          have HO2 := Lib.hid hO2
          have HAU := Lib.hid hAu
          have HUU := Lib.hid hu
          have HR := Lib.hid (And.intro hr4 (And.intro hr6 hr7))
          have HGOOD := Lib.hid hgoodG
          clear hz hA hAu hO2 hbt hfk hr1 hr2 hr3 hr4 hr5 hr6 hr7 hGne hpk hgoodG hu HOi HB2 HSL HGB HALLS
          go_upto_region 18 with fail
          rw [HK1.out]
          go_wp2_with fail
          have HKC : Hid (∀ w5 w6 w7 w8, Below w2.drew.heap.size w2.drew w5 → Kq A w5 w6 → Below w6.heap.size w6 w7 → Below w7.heap.size w7 w8 → BtIn A w8 (.slice (some ⟨ab, ao, none⟩) n ac) L) := Lib.hid fun w5 w6 w7 w8 h5 h6 h7 h8 => ((h6.bts ((HBT.out.below ((Below.refl _ _).drew)).below h5)).below h7).below h8
          have hbe : (base == base) = true := by simp
          have hzb : A ab := by
            obtain ⟨_, _, _, e, h1, -⟩ := Rds.at HBT.out.1 (by rw [HLN.out]; omega)
            have e2 := congrArg (fun v => match v with | .slice (some a) _ _ => a.block | _ => 0) e
            simp only at e2
            rw [e2]
            exact h1
          go_upto_region 19 with fail
          go_cut [107] (fun s107 wx => s107 = .bool false ∧ Opd w t s (enL seg) (1 + i + 1) 0 (cutG G base) A false wx ∧ BtIn A wx (.slice (some ⟨ab, ao, none⟩) n ac) L ∧ u ≤ wx.heap.size)
          case first =>
            refine wp_region_order [0, 1, 2, 3, 4, 5, 6, 7, 8, 9, 10, 11, 12, 13, 14, 15, 16, 17, 18, 19, 20, 22, 21, 23, 24, 25, 26, 28, 29, 30, 27, 31, 32, 33] (by kernel_rfl) (by kernel_rfl) ?_
            simp only [List.filterMap_cons, List.filterMap_nil, List.getElem?_toArray, List.getElem?_cons_succ, List.getElem?_cons_zero]
            by_cases hc : 1 < count
            · have hd1 : decide ((1 : Int) < count) = true := by simpa using hc
              go_wp2_with fail
              refine (HCB.out hc _ ((Below.refl _ _).drew)).mono ?_
              rintro e w5 ⟨rfl, hb5⟩
              go_wp2_with fail
              refine (HCC.out _ _ ((Below.refl _ _).drew) hb5).mono ?_
              rintro e w6 ⟨rfl, ho6, hq6, hu6⟩
              go_wp2_with fail
              refine (HEN.out _ ho6).mono ?_
              rintro e w7 ⟨rfl, hb7⟩
              go_wp2_with fail
              refine (HALL.out _ _ ho6 hb7).mono ?_
              rintro e w8 ⟨av, M, rfl, hm8, hl8, hb8⟩
              go_wp2_with fail
              refine (HBS.out _ av M (HKC.out _ _ _ _ hb5 hq6 hb7 hb8) hm8 hl8).mono ?_
              rintro e w9 ⟨rfl, hb9⟩
              go_wp2_with fail
              unfold Calm
              go_wp2_with fail
              go_meet
              case rel => exact ⟨rfl, ((ho6.belowA hb7).belowA hb8).belowA hb9, (HKC.out _ _ _ _ hb5 hq6 hb7 hb8).below hb9, Nat.le_trans hu6 (Nat.le_trans hb7.size (Nat.le_trans hb8.size hb9.size))⟩
            · have hd1 : decide ((1 : Int) < count) = false := by simpa using hc
              clear hc
              go_wp2_with fail
              refine (HCC.out _ _ ((Below.refl _ _).drew) (Below.refl _ _)).mono ?_
              rintro e w6 ⟨rfl, ho6, hq6, hu6⟩
              go_wp2_with fail
              refine (HEN.out _ ho6).mono ?_
              rintro e w7 ⟨rfl, hb7⟩
              go_wp2_with fail
              refine (HALL.out _ _ ho6 hb7).mono ?_
              rintro e w8 ⟨av, M, rfl, hm8, hl8, hb8⟩
              go_wp2_with fail
              refine (HBS.out _ av M (HKC.out _ _ _ _ (Below.refl _ _) hq6 hb7 hb8) hm8 hl8).mono ?_
              rintro e w9 ⟨rfl, hb9⟩
              go_wp2_with fail
              unfold Calm
              go_wp2_with fail
              go_meet
              case rel => exact ⟨rfl, ((ho6.belowA hb7).belowA hb8).belowA hb9, (HKC.out _ _ _ _ (Below.refl _ _) hq6 hb7 hb8).below hb9, Nat.le_trans hu6 (Nat.le_trans hb7.size (Nat.le_trans hb8.size hb9.size))⟩
          case rest =>
          obtain ⟨rfl, ho9, hbt9, hu9⟩ := hcut
          have HO9 := Lib.hid ho9
          have HBT9 := Lib.hid hbt9
          have HU9 := Lib.hid hu9
          have HGE := Lib.hid (show base = gsEnd (cutG G base) from HR.out.2.2.symm)
          have HG1 : Hid (Pl.goodB (btB base 1) = true) := Lib.hid (good_one (by omega) (by omega))
          have HBA : Hid (∀ wx, Calls Tryz.prog 45 #[.int .i64 base, .int .i64 1] wx fun e w' => ∃ rv, e = .returned (bv (btB base 1, rv)) ∧ RcIn (fun k => wx.heap.size ≤ k) w' rv (btB base 1).recs ∧ Below wx.heap.size wx w') := Lib.hid fun wx => batch_any base 1 wx ⟨by omega, by omega⟩ (by omega)
          have HAP : Hid (∀ w10 rv1, Below wc.heap.size wc w10 → RcIn (fun k => wc.heap.size ≤ k) w10 rv1 (btB base 1).recs → Calls Tryz.prog 30 #[.pointer (some ⟨s, 0, none⟩), bv (btB base 1, rv1)] w10 fun e w' => e = .returned (.int .i64 0) ∧ Opd w t s (enL seg) (1 + i + 1 + 1) 0 (push (cutG G base) (enL seg).sv (btB base 1)) A false w' ∧ Kq A wc w' ∧ u ≤ w'.heap.size) := Lib.hid fun w10 rv1 hb hr => by
            refine (HO9.out.feed hb (by show 1 + i + 1 < 200; omega) hr (by show 1 ≤ 1048576; omega) HGE.out).mono ?_
            rintro e w' ⟨er, rfl, hor, hq⟩
            have hs := hq.size
            rcases hor with ⟨-, rfl, h⟩ | ⟨h, -⟩
            · exact ⟨rfl, h.mono fun b _ hb => ⟨hb, Nat.lt_of_lt_of_le (HAU.out b hb) HU9.out⟩, hq.mono fun b _ hb => ⟨hb, Nat.lt_of_lt_of_le (HAU.out b hb) HU9.out⟩, Nat.le_trans HU9.out hs⟩
            · rw [HG1.out] at h; cases h
          have HSY : Hid (∀ wx, Opd w t s (enL seg) (1 + i + 1 + 1) 0 (push (cutG G base) (enL seg).sv (btB base 1)) A false wx → u ≤ wx.heap.size → Calls Tryz.prog 31 #[.pointer (some ⟨s, 0, none⟩)] wx fun e w' => e = .returned (.int .i64 0) ∧ Opd w t s (enL seg) (1 + i + 1 + 1 + 1) 0 (push (cutG G base) (enL seg).sv (btB base 1)) A true w' ∧ Kq A wx w') := Lib.hid fun wx h hu => h.syncA (fun b hb => Nat.lt_of_lt_of_le (HAU.out b hb) hu) (by show 1 + i + 1 + 1 < 200; omega)
          clear ho9 hbt9 hu9
          go_wp2_with fail
          refine (HBA.out _).mono ?_
          rintro e w10 ⟨rv1, rfl, hr10, hb10⟩
          go_wp2_with fail
          refine (HAP.out _ rv1 hb10 hr10).mono ?_
          rintro e w11 ⟨rfl, ho11, hq11, hu11⟩
          go_wp2_with fail
          refine (HSY.out _ ho11 hu11).mono ?_
          rintro e w12 ⟨rfl, ho12, hq12⟩
          have HB12 := Lib.hid (hq12.bts (hq11.bts HBT9.out))
          have HU12 := Lib.hid (Nat.le_trans hu11 hq12.size)
          have HOF := Lib.hid ho12.off
          clear hr10 hb10 ho11 hq11 hu11 ho12 hq12 HAP HSY
          go_wp2_with fail
          refine HOF.out.mono ?_
          rintro e w13 ⟨⟨vo, rfl⟩, ho13, hq13⟩
          have HON := Lib.hid (ho13.on (.slice none 0 0) [] ⟨none, 0, rfl, fun j z h => by simp at h⟩ (fun h => absurd h (by decide)))
          have HB13 := Lib.hid (hq13.bts (HB12.out.mono fun b hb => ⟨hb, Nat.lt_of_lt_of_le (HAU.out b hb) HU12.out⟩))
          have HU13 := Lib.hid (Nat.le_trans HU12.out hq13.size)
          clear ho13 hq13 HOF
          go_wp2_with fail
          refine HON.out.mono ?_
          rintro e w14 ⟨⟨vo, rfl⟩, ho14, hq14⟩
          obtain ⟨sv, hsv⟩ : ∃ sv, wrap64 (1 + wrap64 ((IntKind.u64.wrap seg).tmod 400)) = sv := ⟨_, rfl⟩
          have hop := ho14.open_ (by show 1 + i + 1 + 1 + 1 < 200; omega)
          rw [show (enL seg).sv = sv from hsv, show (enL seg).P.toArray = #[112, 97, 114, 116] from rfl] at hop
          have HOP := Lib.hid hop
          have HSV := Lib.hid hsv
          have HB14 := Lib.hid (hq14.bts (HB13.out.mono fun b hb => ⟨hb, Nat.lt_of_lt_of_le (HAU.out b hb.1) HU13.out⟩))
          have HU14 := Lib.hid (Nat.le_trans HU13.out hq14.size)
          clear ho14 hq14 hop hsv HON
          go_wp2_with fail
          rw [HSV.out]
          refine HOP.out.mono ?_
          rintro e w15 ⟨p, rfl, ho15, hq15, -⟩
          have HB15 := Lib.hid (hq15.bts (HB14.out.mono fun b hb => ⟨hb, Nat.lt_of_lt_of_le (HAU.out b hb.1.1) HU14.out⟩))
          have HAL := Lib.hid ho15.all
          have HO15 := Lib.hid ho15
          clear ho15 hq15 HOP
          go_wp2_with fail
          refine HAL.out.mono ?_
          rintro e w16 ⟨av, ab', LA, rfl, hsa, hga, hall, hla, hb16⟩
          obtain ⟨i0', hi0, hz0, hz1, hz2⟩ := infoBt
          have HBX := Lib.hid hb16
          have hrd := (HB15.out.1.below hb16).below ((Below.refl w16.heap.size w16).alloc (Nat.le_refl _) (.cells #[] 34))
          rw [HLN.out] at hrd
          have hrd2 := hrd.prefix (j := k) (by omega) ac
          rw [flat_take bc6 6 bc6_length] at hrd2
          have HRD := Lib.hid hrd2
          have HAL16 := Lib.hid (HB15.out.2.below hb16)
          have HONE : Hid (∀ x ∈ (L.take k).flatMap bc6, x.oneCell' = true) := Lib.hid (bc6_one fun p hp => HB15.out.2 p (List.mem_of_mem_take hp))
          have HLA : Hid (BtIn (fun _ => True) w16 av LA) := Lib.hid ⟨Rds.of_sl hsa fun _ _ => trivial, fun p hp => Rds.mono (hall p hp) fun _ _ => trivial⟩
          have HLL2 : Hid (LA.map (·.1) = (fla G).take k ++ [btB base 1]) := Lib.hid (by rw [hla, push_flat, HR.out.1])
          have HR17 : Hid (Rg w16 (w16.alloc (.cells #[] 34)) (btB base 1) (some (.slice (some ⟨w16.heap.size, 0, none⟩) 0 0, some w16.heap.size, 0, [])) none none) := Lib.hid (Rg.empty ⟨Below.refl _ _, (by intro _ _ _ _ h; cases h), (by intro _ h; cases h), (by intro _ _ h; cases h)⟩)
          have hkn1 : k + 1 ≤ 200 := by omega
          clear hsa hga hall hla hb16 hrd hrd2
          go_wp2_with (at_builtin; refine wpList_append_rdw (by rfl) _ _ 29 (by rfl) 34 i0' (.agg zeroB) 6 64 Tryz.underlying29 hi0 hz0 hz1 hz2 rfl _ (some w16.heap.size) 0 _ (by rfl) HR17.out.sl _ k ((L.take k).flatMap bc6) (by rfl) HRD.out HONE.out (by omega) (by omega) ?_)
          intro v17 w17 gb17 hs17 hg17 hn17
          have HR18 := Lib.hid (HR17.out.grow hs17 hg17 (by simpa using hn17))
          have HBA2 : Hid (∀ wx, Calls Tryz.prog 45 #[.int .i64 base, .int .i64 1] wx fun e w' => ∃ xa xc, e = .returned (.agg #[.int .i64 base, .int .i64 1, .int .i64 0, .int .i64 0, .int .i64 0, .slice xa 1 xc]) ∧ RcIn (fun k => wx.heap.size ≤ k) w' (.slice xa 1 xc) (btB base 1).recs ∧ Below wx.heap.size wx w') := Lib.hid fun wx => (HBA.out wx).mono fun _ _ ⟨rv, h1, h2, h3⟩ => by
            obtain ⟨xa, xc, rfl⟩ := Rds.form h2
            exact ⟨xa, xc, h1, h2, h3⟩
          clear hs17 hg17 hn17
          go_wp2_with fail
          refine (HBA2.out _).mono ?_
          rintro e w18 ⟨xa, xc, rfl, hr18, hb18⟩
          have hr19 := HR18.out.made hr18 hb18
          have HR19 : Hid (Rg w16 (w18.alloc (.cells #[.int .i64 base, .int .i64 1, .int .i64 0, .int .i64 0, .int .i64 0, .slice xa 1 xc] 34)) (btB base 1) _ (some (.slice xa 1 xc)) (some (.slice (some ⟨w18.heap.size, 0, none⟩) 1 1))) := Lib.hid (hr19.box _ rfl)
          have HSL19 : Hid (Sl (w18.alloc (.cells #[.int .i64 base, .int .i64 1, .int .i64 0, .int .i64 0, .int .i64 0, .slice xa 1 xc] 34)) v17 gb17 34 6 k ((L.take k).flatMap bc6)) := Lib.hid HR19.out.sl
          have HRD19 : Hid (Rds (fun _ => True) (w18.alloc (.cells #[.int .i64 base, .int .i64 1, .int .i64 0, .int .i64 0, .int .i64 0, .slice xa 1 xc] 34)) (.slice (some ⟨w18.heap.size, 0, none⟩) 1 1) 6 1 [.int .i64 base, .int .i64 1, .int .i64 0, .int .i64 0, .int .i64 0, .slice xa 1 xc]) := Lib.hid ((HR19.out.one _ _ rfl rfl).mono fun _ _ => trivial)
          have HON19 : Hid (∀ u ∈ [Value.int .i64 base, .int .i64 1, .int .i64 0, .int .i64 0, .int .i64 0, .slice xa 1 xc], u.oneCell' = true) := Lib.hid fun u hu => by simp only [List.mem_cons, List.not_mem_nil, or_false] at hu; rcases hu with rfl | rfl | rfl | rfl | rfl | rfl <;> rfl
          have HBY19 : Hid ((k + 1) * 64 ≤ 140737488355328 ∧ k + 1 ≤ 9223372036854775807) := Lib.hid (by omega)
          clear hr18 hb18 hr19
          go_wp2_with (at_builtin; refine wpList_append_rdw (by rfl) _ _ 29 (by rfl) 34 i0' (.agg zeroB) 6 64 Tryz.underlying29 hi0 hz0 hz1 hz2 rfl v17 gb17 k _ (by rfl) HSL19.out (.slice (some ⟨w18.heap.size, 0, none⟩) 1 1) 1 _ (by rfl) HRD19.out HON19.out HBY19.out.1 HBY19.out.2 ?_)
          intro v19 w19 gb19 hs19 hg19 hn19
          have hr20 := HR19.out.grow hs19 hg19 (by simpa using hn19)
          have hbt := Rg.out (M := L.take k) hr20 (by rw [List.length_take, HLN.out]; omega) fun p hp => HAL16.out p (List.mem_of_mem_take hp)
          have hB : Hid (Calls Tryz.prog 36 #[av, v19] w19 fun e w' => e = .returned (.bool true) ∧ Below w19.heap.size w19 w') := Lib.hid (batches_true av v19 LA (L.take k ++ [(btB base 1, (.slice xa 1 xc))]) w19 (HLA.out.below hr20.bel) hbt (by rw [HLL2.out, List.map_append, List.map_take, HLL.out]; rfl) (by have h1 := congrArg List.length HLL2.out; simp only [List.length_map, List.length_append, List.length_take, List.length_cons, List.length_nil] at h1; omega) fun p hp => by
            have hpm : p.1 ∈ (fla G).take k ++ [btB base 1] := by rw [← HLL2.out]; exact List.mem_map.2 ⟨p, hp, rfl⟩
            rcases List.mem_append.1 hpm with h | h
            · have := (Pl.enc_short (HGOOD.out p.1 (List.mem_of_mem_take h))).2.2
              omega
            · rw [List.mem_singleton.1 h]
              show (1 : Nat) ≤ _
              omega)
          have HBEL := Lib.hid (HBX.out.trans (hr20.bel.mono HBX.out.size))
          clear hs19 hg19 hn19 hr20 hbt
          go_wp2_with fail
          refine hB.out.mono ?_
          rintro e w20 ⟨rfl, hb20⟩
          have HF := Lib.hid ((HO15.out.below (HBEL.out.trans (hb20.mono HBEL.out.size))).low)
          clear hb20
          go_wp2_with fail
          go_ret
          exact ⟨rfl, HF.out⟩
end Go.Proofs.YtdaoeplblkfapaaGreatDoor
