import Derived.Test.YtdaoeplblkfapaaGreatDoorM35
import Derived.Deep.RegionHeld3
import Derived.Deep.CutBlock

/- The walk of the law StrandPower. -/
namespace Go.Proofs.YtdaoeplblkfapaaGreatDoor
open Go.RowKit

set_option maxRecDepth 100000 in
set_option maxHeartbeats 8000000 in
theorem power_any (seg : Int) (v : Value) (zs : List Ac) (pv : Value) (ps : List Int) (w : World) (lb : Lb w) (h : Acts w.heap.size w v zs) (hp : Ta.Nums w pv ps) :
    Calls Tryz.prog 4 #[.int .i64 seg, v, pv] w fun e w' => e = .returned (.bool true) ∧ Below w.heap.size w w' := by
  obtain ⟨pa, pc, rfl, hpl⟩ := hp
  obtain ⟨PN, hPN⟩ : ∃ M, ps.length = M := ⟨_, rfl⟩
  have HPL := Lib.hid hpl
  have HPN := Lib.hid hPN
  rw [hPN]
  clear hpl hPN
  have HPW : Hid (∀ (j : Nat) (W : World), j < PN → Below w.heap.size w W → ∃ b off z, pa = some ⟨b, off, none⟩ ∧ W.cell? ⟨b, off + j, none⟩ = some (.int .i64 z)) := Lib.hid fun j W hj hb => by
    obtain ⟨b, off, e, hc⟩ := HPL.out j _ (List.getElem?_eq_getElem (by rw [HPN.out]; exact hj))
    exact ⟨b, off, _, e, (Below.cell (p := ⟨b, off + j, none⟩) hb (block_lt_of_cell hc)).trans hc⟩
  have HM40 : Hid (∀ z : Int, 0 ≤ wrap64 ((IntKind.u64.wrap z).tmod 40) ∧ wrap64 ((IntKind.u64.wrap z).tmod 40) ≤ 1000) := Lib.hid fun z => by
    obtain ⟨K, h1, h2, -⟩ := mod_nat z 40 (by omega) (by omega)
    omega
  obtain ⟨va, vc, hv⟩ : ∃ a c, v = .slice a zs.length c := let ⟨a, c, e, _⟩ := h.lies; ⟨a, c, e⟩
  subst hv
  obtain ⟨N, hN⟩ : ∃ N, zs.length = N := ⟨_, rfl⟩
  have HA := Lib.hid (awake_any w lb)
  have HLB := Lib.hid lb
  have HAC := Lib.hid h
  have HN := Lib.hid hN
  rw [hN]
  clear lb h hN
  go_enter Tryz.func4, Tryz.ntmps4
  go_wp2_with fail
  refine HA.out.mono ?_
  rintro e w1 ⟨rfl, hb1⟩
  have HAC1 := Lib.hid (HAC.out.below hb1)
  have HB1 := Lib.hid hb1
  have HGR := Lib.hid (great_any _ zs w1 HAC1.out)
  rw [HN.out] at HGR
  clear hb1 HA
  go_wp2_with fail
  refine HGR.out.mono ?_
  rintro e w1b ⟨gr, rfl, hwe, hok⟩
  have hwe' : _ = _ := hwe
  subst hwe'
  clear hwe HGR
  cases gr with
  | true =>
    go_wp2_with fail
    go_ret
    exact ⟨rfl, HB1.out⟩
  | false =>
    have HOK := Lib.hid (hok rfl)
    clear hok
    have HOP := Lib.hid (opened_any seg w1b HLB.out HB1.out)
    go_wp2_with fail
    refine HOP.out.mono ?_
    rintro e w2 ⟨t, s, rfl, ho⟩
    have HO := Lib.hid ho
    clear ho HOP
    obtain ⟨sf0, hp0, -⟩ := HO.out.pwr
    have hu0 : Up w t s (enL seg) 1 [] sf0 0 (fun _ => False) w2 := by
      obtain ⟨B, f, tot, n, c, K, j1, j2, j3, j4, j5⟩ := hp0
      exact ⟨1, 0, Nat.le_refl _, ⟨B, f, tot, n, c, K, j1, j2, fun h => (by cases h), j4, j5⟩, Nat.zero_le _, fun G0 g e => by simp at e⟩
    have hle : w.heap.size ≤ w2.heap.size := HO.out.low.size
    have hb1 : Below w2.heap.size w2 ((w2.alloc (.cells #[] 34)).alloc (.cells #[] 34)) := ((Below.refl _ w2).alloc (Nat.le_refl _) _).alloc (by simp) _
    have HU0 := Lib.hid (hu0.below hb1)
    have HC0 : Hid (Ct w (fun b => False ∨ w2.heap.size ≤ b) (some (w2.heap.size + 1)) (.slice (some ⟨w2.heap.size, 0, none⟩) 0 0) (.slice (some ⟨w2.heap.size + 1, 0, none⟩) 0 0) [] [] ((w2.alloc (.cells #[] 34)).alloc (.cells #[] 34))) := Lib.hid ⟨fun b hb => hb.elim False.elim fun hb => Nat.le_trans hle hb,
      ⟨[], ⟨Rds.of_sl ((Sl.empty w2 34 6).alloc _) fun b hb => by cases hb; exact ⟨.inr (Nat.le_refl _), fun e => by have := Option.some.inj e; omega⟩, fun p hp => by cases hp⟩, rfl⟩,
      ⟨[], by have := Sl.empty (w2.alloc (.cells #[] 34)) 34 6; simpa using this, fun b hb => by cases hb; exact .inr (by omega), fun p hp => (by cases hp), rfl⟩⟩
    clear hp0 hu0 hb1
    go_upto_if 34 with fail
    go_cut [11] (fun sl wx => sl = .int .i64 0 ∧ ∃ G sf k Q gb, Up w t s (enL seg) 1 G sf k Q wx ∧ Ct w Q gb (.slice (some ⟨w2.heap.size, 0, none⟩) 0 0) (.slice (some ⟨w2.heap.size + 1, 0, none⟩) 0 0) ((fla G).take k) (fla G) wx)
    case first =>
      by_cases h0 : 0 < PN
      · have hd0 : decide ((0 : Int) < (PN : Int)) = true := by simp; omega
        obtain ⟨b, off, z, rfl, hc⟩ := HPW.out 0 _ h0 HU0.out.low
        have c0 : ((w2.alloc (.cells #[] 34)).alloc (.cells #[] 34)).cell? ⟨b, off, none⟩ = some (.int .i64 z) := by simpa using hc
        have i1 : (0 : Int) < (PN : Int) := by omega
        have HAR := Lib.hid (HU0.out.arm _ (HM40.out z))
        clear hc
        go_wp2_with fail
        refine HAR.out.mono ?_
        rintro e w3 ⟨⟨vo, rfl⟩, hu, hq⟩
        have HF := Lib.hid (And.intro hu (HC0.out.kq hq))
        clear hu hq HAR
        go_wp2_with fail
        go_meet
        case rel => exact ⟨rfl, [], _, _, _, _, HF.out.1, HF.out.2⟩
      · have hd0 : decide ((0 : Int) < (PN : Int)) = false := by simp; omega
        go_wp2_with fail
        go_meet
        case rel => exact ⟨rfl, [], _, _, _, _, HU0.out, HC0.out⟩
    case rest =>
    obtain ⟨rfl, hU0⟩ := hcut
    have HUC := Lib.hid hU0
    clear hU0 HU0 HC0
    go_wp2_with fail
    go_loopw [8, 9, 10, 11, 12] (fun sv uv gv lv iv wr => ∃ (i lo s : Nat) (G : List Sg) (sf k : Nat) (Q : Nat → Prop) (gb : Option Nat), i ≤ N ∧ i ≤ 60 ∧ iv = .int .i64 i ∧ lo ≤ i ∧ lv = .int .i64 lo ∧ sv = .pointer (some ⟨s, 0, none⟩) ∧ Up w t s (enL seg) (1 + 2 * i) G sf k Q wr ∧ Ct w Q gb uv gv ((fla G).take k) (fla G) wr) (fun _ _ _ _ iv _ => 60 - (intOf iv).toNat)
    case atStart =>
      obtain ⟨G, sf, k, Q, gb, h1, h2⟩ := HUC.out
      exact ⟨0, 0, s, G, sf, k, Q, gb, Nat.zero_le _, by omega, rfl, Nat.le_refl _, rfl, rfl, h1, h2⟩
    case round =>
      obtain ⟨i, lo, s, G, sf, k, Q, gb, hi, hi60, rfl, hlo, rfl, rfl, hU, hC⟩ := hrel
      have HOi := Lib.hid hU
      have HC := Lib.hid hC
      obtain ⟨-, ⟨L0, hl0, -⟩, L1, hl1, -, -, hm1⟩ := hC
      have hgn2 : L1.length ≤ 200 := by have h1 := hU.len.1; rw [← hm1, List.length_map] at h1; exact h1
      obtain ⟨ua, uc, rfl⟩ := hl0.1.form
      obtain ⟨ga, gc, rfl⟩ := hl1.form
      obtain ⟨un, hun⟩ : ∃ un, L0.length = un := ⟨_, rfl⟩
      obtain ⟨gn, hgn⟩ : ∃ gn, L1.length = gn := ⟨_, rfl⟩
      rw [hgn] at hgn2
      rw [hun, hgn] at HC
      rw [hun, hgn]
      clear hU hl0 hl1 hm1 hun hgn HUC
      obtain ⟨cnd, hcnd⟩ : ∃ cnd, decide (i < N ∧ i < 60) = cnd := ⟨_, rfl⟩
      have HCND := Lib.hid hcnd
      clear hcnd
      go_upto_region 14 with fail
      go_cut [50] (fun s50 wx => s50 = .bool cnd ∧ Eqw wr wx)
      case first =>
        by_cases hlN : i < N
        · have hdl : decide ((i : Int) < (N : Int)) = true := by simp; omega
          by_cases hl60 : i < 60
          · have hd60 : decide ((i : Int) < 60) = true := by simp; omega
            have hd60' : decide (i < 60) = true := by simp; omega
            have hct : cnd = true := by rw [← HCND.out]; simp; omega
            subst hct
            go_wp2_with fail
            go_meet
            case rel => exact ⟨rfl, rfl⟩
          · have hd60 : decide ((i : Int) < 60) = false := by simp; omega
            have hd60' : decide (i < 60) = false := by simp; omega
            have hct : cnd = false := by rw [← HCND.out]; simp; omega
            subst hct
            go_wp2_with fail
            go_meet
            case rel => exact ⟨rfl, rfl⟩
        · have hdl : decide ((i : Int) < (N : Int)) = false := by simp; omega
          have hct : cnd = false := by rw [← HCND.out]; simp; omega
          subst hct
          go_wp2_with fail
          go_meet
          case rel => exact ⟨rfl, rfl⟩
      case rest =>
      obtain ⟨rfl, hwx⟩ := hcut
      have hwx' : wr = wc := (show wc = wr from hwx).symm
      subst hwx'
      clear hwx
      cases cnd with
      | true =>
        have hlt := of_decide_eq_true HCND.out
        obtain ⟨hlN, hl60⟩ := hlt
        obtain ⟨x, hx⟩ : ∃ x, zs[i]? = some x := ⟨_, List.getElem?_eq_getElem (by rw [HN.out]; exact hlN)⟩
        have hox := HOK.out i x hl60 hx
        obtain ⟨b, o, cap, hve, hbl, hcell, hin⟩ := act_box (HAC.out.below HOi.out.low) hx
        have hnext := fun (en : Int) (wx : World) (h : AcIn w.heap.size wx { x with nx := true }) => next_any { x with nx := true } rfl en wx h hox.1
        have hin2 : AcIn w.heap.size wr { x with nx := true } := ⟨hin.recs, hin.less, hin.fates, hin.old⟩
        obtain ⟨ra, rc, hrv⟩ := hin.recs.slice
        obtain ⟨la, lc, hlv, -⟩ := hin.less
        obtain ⟨fa, fc, hfv, -⟩ := hin.fates
        have hrl := hox.1
        obtain ⟨kind, ⟨base, count, prod, seq, time, recs⟩, rv, nx, n, less, lv, fates, fv, name⟩ := x
        simp only at hrv hlv hfv hrl hnext hin2
        subst hrv hlv hfv
        obtain ⟨rl, hrle⟩ : ∃ rl, recs.length = rl := ⟨_, rfl⟩
        obtain ⟨ll, hlle⟩ : ∃ ll, less.length = ll := ⟨_, rfl⟩
        obtain ⟨fl, hfle⟩ : ∃ fl, fates.length = fl := ⟨_, rfl⟩
        have c0 : wr.cell? ⟨b, o + i * 12, none⟩ = some (.int .i64 kind) := hcell 0 _ (by decide) rfl
        have c1 : wr.cell? ⟨b, o + i * 12 + 1, none⟩ = some (.int .i64 base) := hcell 1 _ (by decide) rfl
        have c2 : wr.cell? ⟨b, o + i * 12 + 2, none⟩ = some (.int .i64 count) := hcell 2 _ (by decide) rfl
        have c3 : wr.cell? ⟨b, o + i * 12 + 3, none⟩ = some (.int .i64 prod) := hcell 3 _ (by decide) rfl
        have c4 : wr.cell? ⟨b, o + i * 12 + 4, none⟩ = some (.int .i64 seq) := hcell 4 _ (by decide) rfl
        have c5 : wr.cell? ⟨b, o + i * 12 + 5, none⟩ = some (.int .i64 time) := hcell 5 _ (by decide) rfl
        have c6 : wr.cell? ⟨b, o + i * 12 + 6, none⟩ = some (.slice ra rl rc) := by rw [← hrle]; exact hcell 6 _ (by decide) rfl
        have c7 : wr.cell? ⟨b, o + i * 12 + 7, none⟩ = some (.bool nx) := hcell 7 _ (by decide) rfl
        have c8 : wr.cell? ⟨b, o + i * 12 + 8, none⟩ = some (.int .i64 n) := hcell 8 _ (by decide) rfl
        have c9 : wr.cell? ⟨b, o + i * 12 + 9, none⟩ = some (.slice la ll lc) := by rw [← hlle]; exact hcell 9 _ (by decide) rfl
        have c10 : wr.cell? ⟨b, o + i * 12 + 10, none⟩ = some (.slice fa fl fc) := by rw [← hfle]; exact hcell 10 _ (by decide) rfl
        have c11 : wr.cell? ⟨b, o + i * 12 + 11, none⟩ = some (.string name) := hcell 11 _ (by decide) rfl
        injection hve with hv1 hv2 hv3
        subst hv1
        clear hv2 hv3
        have i0 : (0 : Int) ≤ (i : Int) := by omega
        have i1 : (i : Int) < (N : Int) := by omega
        have HNX := Lib.hid hnext
        have HIN := Lib.hid hin2
        have HX := Lib.hid hx
        clear hcell hin hox hx hnext hin2
        have HRLE := Lib.hid (And.intro hrle (And.intro hlle hfle))
        obtain ⟨V, hV⟩ : ∃ V, wr.alloc (.cells #[.int .i64 kind, .int .i64 base, .int .i64 count, .int .i64 prod, .int .i64 seq, .int .i64 time, .slice ra rl rc, .bool true, .int .i64 n, .slice la ll lc, .slice fa fl fc, .string name] 37) = V := ⟨_, rfl⟩
        have hbV : Below wr.heap.size wr V := by rw [← hV]; exact (Below.refl _ _).alloc (Nat.le_refl _) _
        have hkV : Blk V wr.heap.size #[.int .i64 kind, .int .i64 base, .int .i64 count, .int .i64 prod, .int .i64 seq, .int .i64 time, .slice ra rl rc, .bool true, .int .i64 n, .slice la ll lc, .slice fa fl fc, .string name] 37 := by rw [← hV]; exact Blk.new _ _ _
        have HV := Lib.hid hV
        have HBV := Lib.hid hbV
        have k0 : V.cell? ⟨wr.heap.size, 0, none⟩ = some (.int .i64 kind) := hkV.cell rfl
        have k1 : V.cell? ⟨wr.heap.size, 1, none⟩ = some (.int .i64 base) := hkV.cell rfl
        have k2 : V.cell? ⟨wr.heap.size, 2, none⟩ = some (.int .i64 count) := hkV.cell rfl
        have k3 : V.cell? ⟨wr.heap.size, 3, none⟩ = some (.int .i64 prod) := hkV.cell rfl
        have k4 : V.cell? ⟨wr.heap.size, 4, none⟩ = some (.int .i64 seq) := hkV.cell rfl
        have k5 : V.cell? ⟨wr.heap.size, 5, none⟩ = some (.int .i64 time) := hkV.cell rfl
        have k6 : V.cell? ⟨wr.heap.size, 6, none⟩ = some (.slice ra rl rc) := hkV.cell rfl
        have k7 : V.cell? ⟨wr.heap.size, 7, none⟩ = some (.bool true) := hkV.cell rfl
        have k8 : V.cell? ⟨wr.heap.size, 8, none⟩ = some (.int .i64 n) := hkV.cell rfl
        have k9 : V.cell? ⟨wr.heap.size, 9, none⟩ = some (.slice la ll lc) := hkV.cell rfl
        have k10 : V.cell? ⟨wr.heap.size, 10, none⟩ = some (.slice fa fl fc) := hkV.cell rfl
        have k11 : V.cell? ⟨wr.heap.size, 11, none⟩ = some (.string name) := hkV.cell rfl
        obtain ⟨en, hen⟩ : ∃ en, gsEnd G = en := ⟨_, rfl⟩
        have HEN := Lib.hid hen
        have HBX : Hid (∀ W, Below V.heap.size V W → Blk W wr.heap.size #[.int .i64 kind, .int .i64 base, .int .i64 count, .int .i64 prod, .int .i64 seq, .int .i64 time, .slice ra rl rc, .bool true, .int .i64 n, .slice la ll lc, .slice fa fl fc, .string name] 37) := Lib.hid fun W hb => hkV.below hb
        have HS12 : Hid (∀ w', Below V.heap.size V w' → (w'.cell? ⟨wr.heap.size, 0, none⟩ = some (.int .i64 kind) ∧ w'.cell? ⟨wr.heap.size, 1, none⟩ = some (.int .i64 base) ∧ w'.cell? ⟨wr.heap.size, 2, none⟩ = some (.int .i64 count) ∧ w'.cell? ⟨wr.heap.size, 3, none⟩ = some (.int .i64 prod) ∧ w'.cell? ⟨wr.heap.size, 4, none⟩ = some (.int .i64 seq) ∧ w'.cell? ⟨wr.heap.size, 5, none⟩ = some (.int .i64 time) ∧ w'.cell? ⟨wr.heap.size, 6, none⟩ = some (.slice ra rl rc) ∧ w'.cell? ⟨wr.heap.size, 7, none⟩ = some (.bool true) ∧ w'.cell? ⟨wr.heap.size, 8, none⟩ = some (.int .i64 n) ∧ w'.cell? ⟨wr.heap.size, 9, none⟩ = some (.slice la ll lc) ∧ w'.cell? ⟨wr.heap.size, 10, none⟩ = some (.slice fa fl fc) ∧ w'.cell? ⟨wr.heap.size, 11, none⟩ = some (.string name))) := Lib.hid fun W hb => ⟨(hkV.below hb).cell rfl, (hkV.below hb).cell rfl, (hkV.below hb).cell rfl, (hkV.below hb).cell rfl, (hkV.below hb).cell rfl, (hkV.below hb).cell rfl, (hkV.below hb).cell rfl, (hkV.below hb).cell rfl, (hkV.below hb).cell rfl, (hkV.below hb).cell rfl, (hkV.below hb).cell rfl, (hkV.below hb).cell rfl⟩
        have HEV : Hid (∀ wx, Below V.heap.size V wx → Calls Tryz.prog 29 #[.pointer (some ⟨s, 0, none⟩)] wx fun e w' => e = .returned (.int .i64 en) ∧ Below V.heap.size V w' ∧ Below wx.heap.size wx w') := Lib.hid fun wx hbx => by
          have h := (HOi.out.below (hbV.trans (hbx.mono hbV.size))).end_
          rw [hen] at h
          exact h.mono fun _ _ ⟨h1, h2⟩ => ⟨h1, hbx.trans (h2.mono hbx.size), h2⟩
        have HNV : Hid (∀ w3, Below V.heap.size V w3 → Calls Tryz.prog 28 #[.agg #[.int .i64 kind, .int .i64 base, .int .i64 count, .int .i64 prod, .int .i64 seq, .int .i64 time, .slice ra rl rc, .bool true, .int .i64 n, .slice la ll lc, .slice fa fl fc, .string name], .int .i64 en] w3 fun e w' => ∃ xa xc, e = .returned (.agg #[.int .i64 en, .int .i64 count, .int .i64 prod, .int .i64 seq, .int .i64 time, .slice xa rl xc]) ∧ RcIn (fun k => w3.heap.size ≤ k) w' (.slice xa rl xc) (nxB ⟨base, count, prod, seq, time, recs⟩ en).recs ∧ Below V.heap.size V w' ∧ Below w3.heap.size w3 w') := Lib.hid fun w3 hb => by
          have := HNX.out en w3 (HIN.out.below (hbV.trans (hb.mono hbV.size)))
          unfold acells at this
          simp only at this
          rw [hrle, hlle, hfle] at this
          refine this.mono ?_
          rintro e' w' ⟨rv, h1, h2, h3⟩
          obtain ⟨xa, xc, hrv⟩ := h2.form
          rw [show (nxB ⟨base, count, prod, seq, time, recs⟩ en).recs.length = rl by rw [← hrle]; exact List.length_map _] at hrv
          subst hrv
          exact ⟨xa, xc, h1, h2, hb.trans (h3.mono hb.size), h3⟩
        have hB : Below V.heap.size V V.drew := (Below.refl _ _).drew
        have hne : wr.heap.size ≠ V.heap.size := Nat.ne_of_lt hkV.lt
        have HLT := Lib.hid hkV.lt
        clear hrle hlle hfle hV hbV hkV hen
        go_upto_region 19 with fail
        rw [HV.out]
        go_cut [15] (fun sy wx => ∃ y rv', sy = .pointer (some ⟨y, 0, none⟩) ∧ Nx V y (nxB ⟨base, count, prod, seq, time, recs⟩ en) rv' wx)
        case first =>
          go_region_held3 (fun w' => w'.cell? ⟨wr.heap.size, 0, none⟩ = some (.int .i64 kind) ∧ w'.cell? ⟨wr.heap.size, 1, none⟩ = some (.int .i64 base) ∧ w'.cell? ⟨wr.heap.size, 2, none⟩ = some (.int .i64 count) ∧ w'.cell? ⟨wr.heap.size, 3, none⟩ = some (.int .i64 prod) ∧ w'.cell? ⟨wr.heap.size, 4, none⟩ = some (.int .i64 seq) ∧ w'.cell? ⟨wr.heap.size, 5, none⟩ = some (.int .i64 time) ∧ w'.cell? ⟨wr.heap.size, 6, none⟩ = some (.slice ra rl rc) ∧ w'.cell? ⟨wr.heap.size, 7, none⟩ = some (.bool true) ∧ w'.cell? ⟨wr.heap.size, 8, none⟩ = some (.int .i64 n) ∧ w'.cell? ⟨wr.heap.size, 9, none⟩ = some (.slice la ll lc) ∧ w'.cell? ⟨wr.heap.size, 10, none⟩ = some (.slice fa fl fc) ∧ w'.cell? ⟨wr.heap.size, 11, none⟩ = some (.string name)) (first | with_reducible exact HS12.out _ hB | with_reducible exact HS12.out _ (hB.alloc hB.size _) | with_reducible exact HS12.out _ (((Below.refl V.heap.size V).alloc (Nat.le_refl _) _).drew) | with_reducible exact HS12.out _ (Below.six hB (Nat.le_refl _) _ _ _ _ _ _) | with_reducible exact HS12.out _ (Below.six hB h3s _ _ _ _ _ _) | fail)
            (first
              | (go_at_call 29; (first | with_reducible refine (HEV.out _ hB).mono ?_ | with_reducible refine (HEV.out _ (((Below.refl V.heap.size V).alloc (Nat.le_refl _) _).drew)).mono ?_); rintro e w3 ⟨rfl, hB, hb3⟩; have h3s := hB.size)
              | (go_at_call 28; (first | with_reducible refine (HNV.out _ hB).mono ?_ | with_reducible refine (HNV.out _ (hB.alloc hB.size _)).mono ?_); rintro e w4 ⟨xa, xc, rfl, hr4, hB, hb4⟩; (first | (have hz := box6 hb4; obtain ⟨y0, y1, y2, y3, y4, y5, g0, g1, g2, g3, g4, g5, hy⟩ := hz) | (have hz := box6 (Below.undrew (hb3.trans (hb4.mono hb3.size))); obtain ⟨y0, y1, y2, y3, y4, y5, g0, g1, g2, g3, g4, g5, hy⟩ := hz) | skip))
              | fail)
          · go_wp2_with fail
            go_meet
            case rel => exact ⟨_, _, rfl, Nx.fresh (b := nxB ⟨base, count, prod, seq, time, recs⟩ en) hB h3s hr4⟩
          · go_wp2_with fail
            go_meet
            case rel => exact ⟨_, _, rfl, Nx.old (b := nxB ⟨base, count, prod, seq, time, recs⟩ en) hB h3s hy (by simp) hr4⟩
          · go_wp2_with fail
            go_meet
            case rel => exact ⟨_, _, rfl, Nx.old (b := nxB ⟨base, count, prod, seq, time, recs⟩ en) hB (Nat.le_refl _) hy (by have := hb3.size; simp at this; omega) hr4⟩
        case rest =>
        obtain ⟨y, rv', rfl, hnx⟩ := hcut
        obtain ⟨hn1, hn2, hn3, hn4⟩ := hnx
        obtain ⟨xa, xc, hrv⟩ := hn4.form
        rw [show (nxB ⟨base, count, prod, seq, time, recs⟩ en).recs.length = rl by rw [← HRLE.out.1]; exact List.length_map _] at hrv
        subst hrv
        have hbw : Below wr.heap.size wr wc := HBV.out.trans (hn2.mono HBV.out.size)
        have HUc := Lib.hid (HOi.out.below hbw)
        have HCc := Lib.hid (HC.out.below HOi.out.low.size hbw)
        have HBXc := Lib.hid (HBX.out wc hn2)
        have HYC := Lib.hid hn3
        have HN1 := Lib.hid (Nat.le_trans HBV.out.size hn1)
        have HZ0 : Hid (wr.heap.size < wc.heap.size) := Lib.hid (Nat.lt_of_lt_of_le HLT.out hn2.size)
        have HRC : Hid (RcIn (fun k => (Q k ∨ wr.heap.size ≤ k) ∧ gb ≠ some k) wc (.slice xa rl xc) (nxB ⟨base, count, prod, seq, time, recs⟩ en).recs) := Lib.hid (Rds.mono hn4 fun k hk => ⟨.inr (Nat.le_trans HBV.out.size hk), fun e => by
          obtain ⟨-, -, L, hl, -⟩ := HC.out
          have h1 := hl.lt k e
          have h2 := HBV.out.size
          omega⟩)
        clear hn1 hn2 hn3 hn4 hbw
        have kk : wc.cell? ⟨wr.heap.size, 0, none⟩ = some (.int .i64 kind) := HBXc.out.cell rfl
        go_upto_block 2 with fail
        go_cut [9, 10, 14] from 43 to 147 (fun u9 u10 ev wx => ∃ (G' : List Sg) (sf' k' : Nat) (Q' : Nat → Prop) (gb' : Option Nat) (uv gv : Value), u9 = uv ∧ u10 = gv ∧ Q' wr.heap.size ∧ Blk wx wr.heap.size #[.int .i64 kind, .int .i64 base, .int .i64 count, .int .i64 prod, .int .i64 seq, .int .i64 time, .slice ra rl rc, .bool true, .int .i64 n, .slice la ll lc, .slice fa fl fc, .string name] 37 ∧ (((ev = .int .i64 0 ∨ ev = .int .i64 1) ∧ Up w t s (enL seg) (1 + 2 * i + 1) G' sf' k' Q' wx ∧ Ct w Q' gb' uv gv ((fla G').take k') (fla G') wx) ∨ (ev = .int .i64 10 ∧ ∃ D n z, Dn w t (enL seg) (1 + 2 * i + 1) G' sf' k' Q' z wx ∧ Ct w Q' gb' uv gv ((fla G').take k') D wx ∧ fla G' = D.take n ∧ D.length ≤ 201)))
        case first =>
          by_cases hk1 : kind = 1
          · subst hk1
            have y0 : wc.cell? ⟨y, 0, none⟩ = some (.int .i64 en) := HYC.out.cell rfl
            have y1 : wc.cell? ⟨y, 1, none⟩ = some (.int .i64 count) := HYC.out.cell rfl
            have y2 : wc.cell? ⟨y, 2, none⟩ = some (.int .i64 prod) := HYC.out.cell rfl
            have y3 : wc.cell? ⟨y, 3, none⟩ = some (.int .i64 seq) := HYC.out.cell rfl
            have y4 : wc.cell? ⟨y, 4, none⟩ = some (.int .i64 time) := HYC.out.cell rfl
            have y5 : wc.cell? ⟨y, 5, none⟩ = some (.slice xa rl xc) := HYC.out.cell rfl
            have HFD : Hid (Calls Tryz.prog 30 #[.pointer (some ⟨s, 0, none⟩), .agg #[.int .i64 en, .int .i64 count, .int .i64 prod, .int .i64 seq, .int .i64 time, .slice xa rl xc]] wc (UFed w t s (enL seg) (1 + 2 * i) G sf k (fun b => Q b ∨ wr.heap.size ≤ b) (nxB ⟨base, count, prod, seq, time, recs⟩ en) wc)) :=
              Lib.hid (HUc.out.feed (by show 1 + 2 * i < 200; omega) (Rds.mono HRC.out fun _ h => h.1) (by simp [nxB]; omega) HEN.out.symm)
            go_wp2_with fail
            refine HFD.out.mono ?_
            rintro e w5 ⟨hq, ⟨rfl, G', sf', hG', hu⟩ | ⟨rfl, hu⟩ | ⟨rfl, G', sf', nn, hG', hkl, hu⟩⟩
            · have hc5 := HCc.out.kq hq
              have hx5 := HBXc.out.same (hq.block _ HZ0.out ⟨.inr (Nat.le_refl _), HZ0.out⟩)
              have hy5 := HYC.out.same (hq.block _ HYC.out.lt ⟨.inr HN1.out, HYC.out.lt⟩)
              have hr5 : RcIn (fun b => ((Q b ∨ wr.heap.size ≤ b) ∧ b < wc.heap.size) ∧ gb ≠ some b) w5 (.slice xa rl xc) (nxB ⟨base, count, prod, seq, time, recs⟩ en).recs := Rds.keep HRC.out hq.size fun b hb hl => ⟨hq.block b hl ⟨hb.1, hl⟩, ⟨hb.1, hl⟩, hb.2⟩
              obtain ⟨L, hLn, hl6, hfed⟩ := hc5.fed (o := .cells #[.int .i64 en, .int .i64 count, .int .i64 prod, .int .i64 seq, .int .i64 time, .slice xa rl xc] 34) hu.low.size hr5
              have HU6 := Lib.hid (hu.below ((Below.refl w5.heap.size w5).alloc (Nat.le_refl _) (.cells #[.int .i64 en, .int .i64 count, .int .i64 prod, .int .i64 seq, .int .i64 time, .slice xa rl xc] 34)))
              have HX6 := Lib.hid (hx5.alloc (.cells #[.int .i64 en, .int .i64 count, .int .i64 prod, .int .i64 seq, .int .i64 time, .slice xa rl xc] 34))
              have HOW := Lib.hid hc5.own
              have HL6 := Lib.hid hl6
              have HFE := Lib.hid hfed
              have HS6 := Lib.hid (Rds.of_sl (A := fun _ => True) (Sl.boxed w5 34 (.int .i64 en) (.int .i64 count) (.int .i64 prod) (.int .i64 seq) (.int .i64 time) (.slice xa rl xc)) fun _ _ => trivial)
              have HSG : Hid (some wr.heap.size ≠ gb) := Lib.hid fun e => by
                obtain ⟨-, -, L', hl', -⟩ := HC.out
                have := hl'.lt _ e.symm
                omega
              have HGF := Lib.hid hG'
              have q0 : w5.cell? ⟨y, 0, none⟩ = some (.int .i64 en) := hy5.cell rfl
              have q1 : w5.cell? ⟨y, 1, none⟩ = some (.int .i64 count) := hy5.cell rfl
              have q2 : w5.cell? ⟨y, 2, none⟩ = some (.int .i64 prod) := hy5.cell rfl
              have q3 : w5.cell? ⟨y, 3, none⟩ = some (.int .i64 seq) := hy5.cell rfl
              have q4 : w5.cell? ⟨y, 4, none⟩ = some (.int .i64 time) := hy5.cell rfl
              have q5 : w5.cell? ⟨y, 5, none⟩ = some (.slice xa rl xc) := hy5.cell rfl
              obtain ⟨i0', hi0, hz0, hz1, hz2⟩ := infoBt
              clear hc5 hx5 hy5 hr5 hl6 hfed hLn hG' hq hu y0 y1 y2 y3 y4 y5
              go_wp2_with (at_builtin; refine wpList_append_rd (by rfl) _ _ 29 (by rfl) 34 i0' (.agg zeroB) 6 64 Tryz.underlying29 hi0 hz0 hz1 hz2 rfl _ gb gn _ (by rfl) HL6.out _ 1 [.int .i64 en, .int .i64 count, .int .i64 prod, .int .i64 seq, .int .i64 time, .slice xa rl xc] (by rfl) HS6.out (fun u hu => by simp only [List.mem_cons, List.not_mem_nil, or_false] at hu; rcases hu with rfl | rfl | rfl | rfl | rfl | rfl <;> rfl) (by omega) (by omega) ?_)
              intro v9 w9 gb9 hs9 hg9 hn9
              have HF := Lib.hid (And.intro (HU6.out.grown hg9 fun k hk => ⟨.inl (HOW.out k hk).1, (HOW.out k hk).2.1⟩) (And.intro (HFE.out v9 w9 gb9 hs9 hg9 (by simpa using hn9)) (HX6.out.grown hg9 HSG.out)))
              clear hs9 hg9 hn9
              go_wp2_with fail
              go_meet
              case rel =>
                have hct := HF.out.2.1
                rw [show (fla G).take k = (fla G').take k by rw [HGF.out, List.take_append_of_le_length HOi.out.len.2], ← HGF.out] at hct
                exact ⟨_, _, k, _, _, _, _, rfl, rfl, .inl (.inl ⟨.inr (Nat.le_refl _), HZ0.out⟩), HF.out.2.2, .inl ⟨.inl rfl, HF.out.1, hct⟩⟩
            · have hc5 := HCc.out.kq hq
              have hx5 := HBXc.out.same (hq.block _ HZ0.out ⟨.inr (Nat.le_refl _), HZ0.out⟩)
              have HF := Lib.hid (And.intro hu (And.intro hc5 hx5))
              clear hc5 hx5 hq hu y0 y1 y2 y3 y4 y5
              go_wp2_with fail
              go_meet
              case rel => exact ⟨_, _, k, _, _, _, _, rfl, rfl, ⟨.inr (Nat.le_refl _), HZ0.out⟩, HF.out.2.2, .inl ⟨.inr rfl, HF.out.1, HF.out.2.1⟩⟩
            · have hc5 := HCc.out.kq hq
              have hx5 := HBXc.out.same (hq.block _ HZ0.out ⟨.inr (Nat.le_refl _), HZ0.out⟩)
              have hy5 := HYC.out.same (hq.block _ HYC.out.lt ⟨.inr HN1.out, HYC.out.lt⟩)
              have hr5 : RcIn (fun b => ((Q b ∨ wr.heap.size ≤ b) ∧ b < wc.heap.size) ∧ gb ≠ some b) w5 (.slice xa rl xc) (nxB ⟨base, count, prod, seq, time, recs⟩ en).recs := Rds.keep HRC.out hq.size fun b hb hl => ⟨hq.block b hl ⟨hb.1, hl⟩, ⟨hb.1, hl⟩, hb.2⟩
              obtain ⟨L, hLn, hl6, hfed⟩ := hc5.fed (o := .cells #[.int .i64 en, .int .i64 count, .int .i64 prod, .int .i64 seq, .int .i64 time, .slice xa rl xc] 34) hu.low.size hr5
              have HU6 := Lib.hid (hu.below ((Below.refl w5.heap.size w5).alloc (Nat.le_refl _) (.cells #[.int .i64 en, .int .i64 count, .int .i64 prod, .int .i64 seq, .int .i64 time, .slice xa rl xc] 34)))
              have HX6 := Lib.hid (hx5.alloc (.cells #[.int .i64 en, .int .i64 count, .int .i64 prod, .int .i64 seq, .int .i64 time, .slice xa rl xc] 34))
              have HOW := Lib.hid hc5.own
              have HL6 := Lib.hid hl6
              have HFE := Lib.hid hfed
              have HS6 := Lib.hid (Rds.of_sl (A := fun _ => True) (Sl.boxed w5 34 (.int .i64 en) (.int .i64 count) (.int .i64 prod) (.int .i64 seq) (.int .i64 time) (.slice xa rl xc)) fun _ _ => trivial)
              have HSG : Hid (some wr.heap.size ≠ gb) := Lib.hid fun e => by
                obtain ⟨-, -, L', hl', -⟩ := HC.out
                have := hl'.lt _ e.symm
                omega
              have HGF := Lib.hid hG'
              have HKT : Hid ((fla G).take k = (fla G ++ [nxB ⟨base, count, prod, seq, time, recs⟩ en]).take (min k nn)) := Lib.hid (by
                have h1 := HOi.out.len.2
                have h2 := hkl
                rw [hG', List.length_take] at h2
                rw [Nat.min_eq_left (by omega), List.take_append_of_le_length h1])
              clear hkl
              have q0 : w5.cell? ⟨y, 0, none⟩ = some (.int .i64 en) := hy5.cell rfl
              have q1 : w5.cell? ⟨y, 1, none⟩ = some (.int .i64 count) := hy5.cell rfl
              have q2 : w5.cell? ⟨y, 2, none⟩ = some (.int .i64 prod) := hy5.cell rfl
              have q3 : w5.cell? ⟨y, 3, none⟩ = some (.int .i64 seq) := hy5.cell rfl
              have q4 : w5.cell? ⟨y, 4, none⟩ = some (.int .i64 time) := hy5.cell rfl
              have q5 : w5.cell? ⟨y, 5, none⟩ = some (.slice xa rl xc) := hy5.cell rfl
              obtain ⟨i0', hi0, hz0, hz1, hz2⟩ := infoBt
              clear hc5 hx5 hy5 hr5 hl6 hfed hLn hG' hq hu y0 y1 y2 y3 y4 y5
              go_wp2_with (at_builtin; refine wpList_append_rd (by rfl) _ _ 29 (by rfl) 34 i0' (.agg zeroB) 6 64 Tryz.underlying29 hi0 hz0 hz1 hz2 rfl _ gb gn _ (by rfl) HL6.out _ 1 [.int .i64 en, .int .i64 count, .int .i64 prod, .int .i64 seq, .int .i64 time, .slice xa rl xc] (by rfl) HS6.out (fun u hu => by simp only [List.mem_cons, List.not_mem_nil, or_false] at hu; rcases hu with rfl | rfl | rfl | rfl | rfl | rfl <;> rfl) (by omega) (by omega) ?_)
              intro v9 w9 gb9 hs9 hg9 hn9
              have HF := Lib.hid (And.intro (HU6.out.grown hg9 fun k hk => ⟨.inl (HOW.out k hk).1, (HOW.out k hk).2.1⟩) (And.intro (HFE.out v9 w9 gb9 hs9 hg9 (by simpa using hn9)) (HX6.out.grown hg9 HSG.out)))
              clear hs9 hg9 hn9
              go_wp2_with fail
              go_meet
              case rel =>
                have hct := HF.out.2.1
                rw [show (fla G).take k = (fla G').take k by rw [HGF.out, List.take_take]; exact HKT.out] at hct
                exact ⟨_, _, k, _, _, _, _, rfl, rfl, .inl (.inl ⟨.inr (Nat.le_refl _), HZ0.out⟩), HF.out.2.2, .inr ⟨rfl, _, nn, _, HF.out.1, hct, HGF.out, by have := HOi.out.len.1; simp; omega⟩⟩
          · have hkf1 : (kind == 1) = false := by simpa using hk1
            by_cases hk2 : kind = 2
            · subst hk2
              have HSY := Lib.hid (HUc.out.sync (by show 1 + 2 * i < 200; omega))
              go_wp2_with fail
              refine HSY.out.mono ?_
              rintro e w5 ⟨hq, ⟨rfl, sf', hu⟩ | ⟨rfl, hu⟩⟩
              · have hc5 := HCc.out.kq hq
                have hx5 := HBXc.out.same (hq.block _ HZ0.out ⟨.inr (Nat.le_refl _), HZ0.out⟩)
                obtain ⟨L, hLn, hl6, ho6, hfed⟩ := hc5.copied hu.low.size
                have HU6 := Lib.hid (hu.below ((Below.refl w5.heap.size w5).alloc (Nat.le_refl _) (.cells #[] 34)))
                have HX6 := Lib.hid (hx5.alloc (.cells #[] 34))
                have HL6 := Lib.hid hl6
                have HFE := Lib.hid hfed
                have HSE := Lib.hid (Sl.empty w5 34 6)
                have HX5 := Lib.hid hx5.lt
                have HLE := Lib.hid hu.low.size
                have HQS := Lib.hid hq.size
                obtain ⟨i0', hi0, hz0, hz1, hz2⟩ := infoBt
                clear hc5 hx5 hl6 hfed hLn hq hu
                go_wp2_with (at_builtin; refine wpList_append_rd (by rfl) _ _ 29 (by rfl) 34 i0' (.agg zeroB) 6 64 Tryz.underlying29 hi0 hz0 hz1 hz2 rfl _ (some w5.heap.size) 0 _ (by rfl) HSE.out _ gn (L.flatMap bc6) (by rfl) HL6.out ho6 (by omega) (by omega) ?_)
                intro v9 w9 gb9 hs9 hg9 hn9
                have HF := Lib.hid (And.intro (HU6.out.grown hg9 fun k hk => (by cases hk; exact ⟨.inr (Nat.le_refl _), HLE.out⟩)) (And.intro (HFE.out v9 w9 gb9 (by simpa using hs9) hg9 (by simpa using hn9)) (HX6.out.grown hg9 fun e => by have h1 := Option.some.inj e; have h2 := HX5.out; omega)))
                clear hs9 hg9 hn9
                go_wp2_with fail
                go_meet
                case rel =>
                  have hct := HF.out.2.1
                  exact ⟨G, _, (fla G).length, _, _, _, _, rfl, rfl, .inl (.inl ⟨.inr (Nat.le_refl _), HZ0.out⟩), HF.out.2.2, .inl ⟨.inl rfl, HF.out.1, by rw [List.take_length]; exact hct⟩⟩
              · have hc5 := HCc.out.kq hq
                have hx5 := HBXc.out.same (hq.block _ HZ0.out ⟨.inr (Nat.le_refl _), HZ0.out⟩)
                have HF := Lib.hid (And.intro hu (And.intro hc5 hx5))
                clear hc5 hx5 hq hu
                go_wp2_with fail
                go_meet
                case rel => exact ⟨G, _, k, _, _, _, _, rfl, rfl, ⟨.inr (Nat.le_refl _), HZ0.out⟩, HF.out.2.2, .inr ⟨rfl, _, (fla G).length, _, HF.out.1, HF.out.2.1, by rw [List.take_length], by have := HOi.out.len.1; omega⟩⟩
            · have hkf2 : (kind == 2) = false := by simpa using hk2
              by_cases hk7 : kind = 7
              · subst hk7
                have HOF := Lib.hid HUc.out.off
                go_wp2_with fail
                refine HOF.out.mono ?_
                rintro e w5 ⟨⟨vo, rfl⟩, hu, hq⟩
                have hc5 := HCc.out.kq hq
                have hx5 := HBXc.out.same (hq.block _ HZ0.out ⟨.inr (Nat.le_refl _), HZ0.out⟩)
                have HF := Lib.hid (And.intro hu (And.intro hc5 hx5))
                clear hc5 hx5 hq hu
                go_wp2_with fail
                go_meet
                case rel => exact ⟨G, _, k, _, _, _, _, rfl, rfl, ⟨.inr (Nat.le_refl _), HZ0.out⟩, HF.out.2.2, .inr ⟨rfl, _, (fla G).length, _, (by
                  obtain ⟨s', m', l', j1, j2, j3⟩ := HF.out.1
                  exact ⟨s', m', l', Nat.le_succ_of_le j1, j2, j3⟩), HF.out.2.1, by rw [List.take_length], by have := HOi.out.len.1; omega⟩⟩
              · have hkf7 : (kind == 7) = false := by simpa using hk7
                go_wp2_with fail
                go_meet
                case rel => exact ⟨G, sf, k, _, gb, _, _, rfl, rfl, .inr (Nat.le_refl _), HBXc.out, .inl ⟨.inl rfl, HUc.out.mono (Nat.le_succ _), HCc.out⟩⟩
        case rest =>
        obtain ⟨G', sf', k', Q', gb', uv, gv, rfl, rfl, hz0, hbx, hst⟩ := hcut
        have HBX3 := Lib.hid hbx
        have HZ3 := Lib.hid hz0
        have HST := Lib.hid hst
        clear hz0 hbx hst
        rcases HST.out with ⟨her, hu, hc⟩ | ⟨rfl, D, nn, zz, hd, hc, hD, hDl⟩
        · have HF := Lib.hid (And.intro hu hc)
          clear hu hc HST
          have HREL := Lib.hid (And.intro (HF.out.1.mono (show 1 + 2 * i + 1 ≤ 1 + 2 * (i + 1) by omega)) HF.out.2)
          clear HF
          rcases her with rfl | rfl
          · go_wp2_with fail
            go_roundw
            case rel => exact ⟨i + 1, lo, s, _, _, _, _, _, by omega, by omega, by go_num, by omega, rfl, rfl, HREL.out.1, HREL.out.2⟩
            case measure => simp [intOf]; omega
          · go_wp2_with fail
            go_roundw
            case rel => exact ⟨i + 1, lo, s, _, _, _, _, _, by omega, by omega, by go_num, by omega, rfl, rfl, HREL.out.1, HREL.out.2⟩
            case measure => simp [intOf]; omega
        · obtain ⟨hQ0, ⟨L0, hl0, hm0⟩, L1, hl1, h21, h31, hm1⟩ := hc
          have hcap0 := hl1.cap
          obtain ⟨ua', uc', rfl⟩ := hl0.1.form
          obtain ⟨ga', gc', rfl⟩ := hl1.form
          have hgv : BtIn Q' wc (.slice ga' L1.length gc') L1 := ⟨Rds.of_sl hl1 h21, fun p hp => Rds.mono (h31 p hp) fun _ h => h.1⟩
          have hsv : BtIn Q' wc (.slice ua' L0.length uc') L0 := ⟨Rds.mono hl0.1 fun _ h => h.1, fun p hp => Rds.mono (hl0.2 p hp) fun _ h => h.1⟩
          obtain ⟨un', hun'⟩ : ∃ un, L0.length = un := ⟨_, rfl⟩
          obtain ⟨gn', hgn'⟩ : ∃ gn, L1.length = gn := ⟨_, rfl⟩
          have HGV := Lib.hid hgv
          have HSV := Lib.hid hsv
          have HLS := Lib.hid (And.intro hm0 (And.intro hm1 (And.intro hD (And.intro hun' hgn'))))
          have HCAP := Lib.hid (hcap0 _ _ rfl)
          have HOFF := Lib.hid hd.off
          rw [hun', hgn']
          clear hQ0 hl0 hm0 hl1 h21 h31 hm1 hcap0 hgv hsv hun' hgn' hd hD HST
          go_wp2_with fail
          refine HOFF.out.mono ?_
          rintro e w6 ⟨⟨vo, rfl⟩, hd6, hq6⟩
          have HD6 := Lib.hid hd6
          have HQ6 := Lib.hid hq6
          have hx6 : Blk w6 wr.heap.size #[.int .i64 kind, .int .i64 base, .int .i64 count, .int .i64 prod, .int .i64 seq, .int .i64 time, .slice ra rl rc, .bool true, .int .i64 n, .slice la ll lc, .slice fa fl fc, .string name] 37 := HBX3.out.same (hq6.block _ HBX3.out.lt ⟨HZ3.out, HBX3.out.lt⟩)
          have z10 : w6.cell? ⟨wr.heap.size, 10, none⟩ = some (.slice fa fl fc) := hx6.cell rfl
          have hac : Ta.Nums w6 (.slice fa fl fc) fates ∧ (0 < fates.length → ∀ a c d, (.slice fa fl fc : Value) = .slice (some a) c d → a.block < w.heap.size) := by
            obtain ⟨_, _, _, _, _, _, hin⟩ := act_box (HAC.out.below hd6.low) HX.out
            have h1 := hin.fates
            have h2 := hin.old
            simp only [HRLE.out.2.2] at h1 h2
            refine ⟨h1, fun h0 a c d e => h2 (by rw [← HRLE.out.2.2]; exact h0) a c d e⟩
          have HON := Lib.hid (hd6.on (.slice fa fl fc) fates hac.1 hac.2)
          clear hd6 hq6 hx6 hac HOFF
          go_wp2_with fail
          refine HON.out.mono ?_
          rintro e w7 ⟨⟨vo, rfl⟩, hd7, hq7⟩
          obtain ⟨sgs, hsgs⟩ : ∃ x, wrap64 (1 + wrap64 ((IntKind.u64.wrap seg).tmod 400)) = x := ⟨_, rfl⟩
          have hop := hd7.open_ (by show 1 + 2 * i + 1 < 200; omega)
          rw [show (enL seg).sv = sgs from hsgs, show (enL seg).P.toArray = #[112, 97, 114, 116] from rfl] at hop
          have HQ7 := Lib.hid hq7
          have HOP := Lib.hid hop
          have HSGS := Lib.hid hsgs
          clear hd7 hq7 hop hsgs HON
          go_wp2_with fail
          rw [HSGS.out]
          refine HOP.out.mono ?_
          rintro e w8 ⟨p, G2, sf2, rfl, hu8, hk8, hkl8, ⟨n8, hn8⟩, hq8⟩
          have HU8 := Lib.hid hu8
          have HQ8 := Lib.hid hq8
          have HN8 := Lib.hid (And.intro hk8 (And.intro hkl8 hn8))
          have HAL := Lib.hid hu8.all
          clear hu8 hk8 hkl8 hn8 hq8 HOP
          go_wp2_with fail
          refine HAL.out.mono ?_
          rintro e w9 ⟨av, ab, LA, rfl, hsa, hga, hall, hla, hb9⟩
          obtain ⟨aa, ac, rfl⟩ := hsa.form
          have hqq : Kq (fun b => (Q' b ∧ b < wc.heap.size)) wc w9 := by
            have h6 := HQ6.out
            have h7 := HQ7.out.mono (Q' := fun b => Q' b ∧ b < wc.heap.size) fun b hl hb => ⟨hb, Nat.lt_of_lt_of_le hb.2 h6.size⟩
            have h8 := HQ8.out.mono (Q' := fun b => Q' b ∧ b < wc.heap.size) fun b hl hb => ⟨⟨hb, Nat.lt_of_lt_of_le hb.2 h6.size⟩, Nat.lt_of_lt_of_le (Nat.lt_of_lt_of_le hb.2 h6.size) h7.size⟩
            exact ((h6.trans h7).trans h8).trans ((Kq.below hb9).mono fun _ _ h => h)
          have keyq : ∀ b, Q' b → b < wc.heap.size → w9.heap[b]? = wc.heap[b]? ∧ True := fun b hb hl => ⟨hqq.block b hl ⟨hb, hl⟩, trivial⟩
          have hs9 : BtIn (fun _ => True) w9 (.slice ua' un' uc') L0 := by
            have h1 := HSV.out
            rw [HLS.out.2.2.2.1] at h1
            exact ⟨Rds.keep h1.1 hqq.size keyq, fun p hp => Rds.keep (h1.2 p hp) hqq.size keyq⟩
          have hg9 : BtIn (fun _ => True) w9 (.slice ga' gn' gc') L1 := by
            have h1 := HGV.out
            rw [HLS.out.2.2.2.2] at h1
            exact ⟨Rds.keep h1.1 hqq.size keyq, fun p hp => Rds.keep (h1.2 p hp) hqq.size keyq⟩
          have hq8l : w.heap.size ≤ w8.heap.size := HU8.out.low.size
          obtain ⟨an, han⟩ : ∃ an, LA.length = an := ⟨_, rfl⟩
          have hlen2 : (fla G2).length = an := by rw [← hla, List.length_map, han]
          have han2 : an ≤ 200 := by rw [← hlen2]; exact HU8.out.len.1
          have hL0k : L0.length = k' := by
            have h1 := congrArg List.length HLS.out.1
            rw [List.length_map, List.length_take] at h1
            have h2 := HN8.out.2.1
            have h3 := HN8.out.2.2
            rw [h3, List.length_take] at h2
            omega
          have hm1 : L0.map (·.1) = (LA.map (·.1)).take L0.length := by rw [HLS.out.1, hla, hL0k]; exact HN8.out.1
          have hm2 : LA.map (·.1) = (L1.map (·.1)).take LA.length := by
            rw [hla, HLS.out.2.1, han, ← hlen2, HN8.out.2.2, HLS.out.2.2.1, List.take_take, List.length_take, List.take_eq_take_iff]
            omega
          have hgl := HU8.out.log.good
          have hr0 : ∀ p ∈ L0, p.1.recs.length ≤ 1099511627776 := fun p hp => by
            have h1 : p.1 ∈ (fla G2).take k' := by rw [← HN8.out.1, ← HLS.out.1]; exact List.mem_map.2 ⟨p, hp, rfl⟩
            have h2 := (Pl.enc_short (hgl p.1 (List.mem_of_mem_take h1))).2.2
            omega
          have hrA : ∀ p ∈ LA, p.1.recs.length ≤ 1099511627776 := fun p hp => by
            have h1 : p.1 ∈ fla G2 := by rw [← hla]; exact List.mem_map.2 ⟨p, hp, rfl⟩
            have h2 := (Pl.enc_short (hgl p.1 h1)).2.2
            omega
          have hav : BtIn (fun b => w8.heap.size ≤ b ∧ b < w9.heap.size) w9 (.slice aa LA.length ac) LA := ⟨Rds.of_sl hsa fun b hb => ⟨hga b hb, hsa.lt b hb⟩, fun p hp => Rds.keep (hall p hp) (Nat.le_refl _) fun b hb hl => ⟨rfl, hb.1, hl⟩⟩
          have hone := bc6_one hall
          have hcA := hsa.cap
          have hl1n : L1.length ≤ 1000 := by rw [HLS.out.2.2.2.2, ← HLS.out.2.2.2.2, ← List.length_map (f := fun p : Pl.Bt × Value => p.1), HLS.out.2.1]; omega
          have hB1 := begins_any (A := fun _ => True) (A' := fun b => w8.heap.size ≤ b ∧ b < w9.heap.size) (.slice ua' un' uc') (.slice aa LA.length ac) L0 LA w9 hs9 hav hcA hm1 (by omega) hr0
          have hB2 : ∀ wx, Below w9.heap.size w9 wx → Calls Tryz.prog 35 #[.slice aa LA.length ac, .slice ga' gn' gc'] wx fun e w' => e = .returned (.bool true) ∧ Below wx.heap.size wx w' := fun wx hx =>
            begins_any (A := fun b => w8.heap.size ≤ b ∧ b < w9.heap.size) (A' := fun _ => True) (.slice aa LA.length ac) (.slice ga' gn' gc') LA L1 wx (hav.below hx) (hg9.below hx) (fun a c e => by injection e with _ _ e3; rw [← e3]; exact HCAP.out) hm2 hl1n hrA
          rw [han] at hB1
          rw [han] at hB2
          rw [han] at hav
          have HAV := Lib.hid hav
          have HB1 := Lib.hid hB1
          have HB2 := Lib.hid hB2
          have HB9 := Lib.hid hb9
          have HLA := Lib.hid (And.intro hla han)
          have HONE := Lib.hid hone
          rw [han]
          clear hsa hga hall hla hb9 hqq keyq hs9 hg9 han hlen2 hL0k hm1 hm2 hgl hr0 hrA hav hone hcA hl1n hB1 hB2 hDl HAL
          go_wp2_with fail
          refine HB1.out.mono ?_
          rintro e w10 ⟨rfl, hb10⟩
          have HB10 := Lib.hid hb10
          clear hb10 HB1
          go_wp2_with fail
          refine (HB2.out _ HB10.out).mono ?_
          rintro e w11 ⟨rfl, hb11⟩
          have HB11 := Lib.hid (HB10.out.trans (hb11.mono HB10.out.size))
          clear hb11 HB2
          have hba : Below w11.heap.size w11 (w11.alloc (.cells #[] 34)) := (Below.refl _ _).alloc (Nat.le_refl _) _
          have hbt := (HAV.out.below HB11.out).below hba
          have hu11 := HU8.out.below (HB9.out.trans ((HB11.out.trans (hba.mono HB11.out.size)).mono HB9.out.size))
          have HBT := Lib.hid hbt
          have HU11 := Lib.hid hu11
          have HSE := Lib.hid (Sl.empty w11 34 6)
          have HSZ : Hid (w8.heap.size ≤ w11.heap.size ∧ w9.heap.size ≤ w11.heap.size) := Lib.hid ⟨Nat.le_trans HB9.out.size HB11.out.size, HB11.out.size⟩
          have HRD : Hid (Rds (fun b => w8.heap.size ≤ b ∧ b < w9.heap.size) (w11.alloc (.cells #[] 34)) (.slice aa an ac) 6 an (LA.flatMap bc6)) := Lib.hid (by have := hbt.1; rw [HLA.out.2] at this; exact this)
          obtain ⟨i0', hi0, hz0, hz1, hz2⟩ := infoBt
          clear hba hbt hu11
          go_wp2_with (at_builtin; refine wpList_append_rd (by rfl) _ _ 29 (by rfl) 34 i0' (.agg zeroB) 6 64 Tryz.underlying29 hi0 hz0 hz1 hz2 rfl _ (some w11.heap.size) 0 _ (by rfl) HSE.out _ an (LA.flatMap bc6) (by rfl) HRD.out HONE.out (by omega) (by omega) ?_)
          intro v9 w12 gb9 hs12 hg12 hn12
          obtain ⟨va12, vc12, rfl⟩ := hs12.form
          have hs12' : Sl w12 (.slice va12 an vc12) gb9 34 6 LA.length (LA.flatMap bc6) := by rw [HLA.out.2]; simpa using hs12
          have hcp := Gv.copy (Q := fun b => False ∨ w8.heap.size ≤ b) (W' := w12) (gb9 := gb9) (v9 := .slice va12 an vc12) (b0 := w11.heap.size) HBT.out (fun b _ hb => ⟨.inr hb.1, fun e => by have h1 := HSZ.out.2; have h2 := hb.2; omega⟩) (by simp) (.inr HSZ.out.1) hs12' hg12 (by simpa using hn12)
          have hle8 := HU8.out.low.size
          have hct : Ct w (fun b => (False ∨ w8.heap.size ≤ b) ∨ (w11.alloc (.cells #[] 34)).heap.size ≤ b) gb9 (.slice aa an ac) (.slice va12 an vc12) (fla G2) (fla G2) w12 := by
            rw [HLA.out.1] at hcp
            refine ⟨fun b hb => ?_, hcp.2, hcp.1⟩
            have h1 := HSZ.out.1
            rcases hb with (hb | hb) | hb
            · exact hb.elim
            · omega
            · simp at hb; omega
          have hup := HU11.out.grown hg12 fun k hk => (by cases hk; exact ⟨.inr HSZ.out.1, Nat.le_trans hle8 HSZ.out.1⟩)
          have HCT := Lib.hid hct
          have HUP := Lib.hid hup
          clear hs12 hs12' hg12 hn12 hcp hct hup hle8
          obtain ⟨l1, hl1⟩ : ∃ l1, lo + 1 = l1 := ⟨_, rfl⟩
          have hwl : IntKind.i64.wrap ((lo : Int) + 1) = (l1 : Int) := by rw [IntWalk.i64_in _ (by omega)]; omega
          have j0 : (0 : Int) ≤ (l1 : Int) := by omega
          by_cases hp1 : l1 < PN
          · have hdp : decide ((l1 : Int) < (PN : Int)) = true := by simp; omega
            by_cases hp5 : l1 < 5
            · have hd5 : decide ((l1 : Int) < 5) = true := by simp; omega
              have j1 : (l1 : Int) < (PN : Int) := by omega
              obtain ⟨pb, po, pz, rfl, hpc⟩ := HPW.out l1 w12 hp1 HUP.out.low
              have HAR := Lib.hid (HUP.out.arm _ (HM40.out pz))
              go_wp2_with fail
              refine HAR.out.mono ?_
              rintro e w13 ⟨⟨vo, rfl⟩, hu13, hq13⟩
              have HF := Lib.hid (And.intro hu13 (HCT.out.kq hq13))
              clear hu13 hq13 HAR
              go_wp2_with fail
              go_roundw
              case rel => exact ⟨i + 1, l1, p, G2, sf2, (fla G2).length, _, _, by omega, by omega, by go_num, by omega, rfl, rfl, HF.out.1.mono (by omega), by rw [List.take_length]; exact HF.out.2⟩
              case measure => simp [intOf]; omega
            · have hd5 : decide ((l1 : Int) < 5) = false := by simp; omega
              go_wp2_with fail
              go_roundw
              case rel => exact ⟨i + 1, l1, p, G2, sf2, (fla G2).length, _, _, by omega, by omega, by go_num, by omega, rfl, rfl, HUP.out.mono (by omega), by rw [List.take_length]; exact HCT.out⟩
              case measure => simp [intOf]; omega
          · have hdp : decide ((l1 : Int) < (PN : Int)) = false := by simp; omega
            go_wp2_with fail
            go_roundw
            case rel => exact ⟨i + 1, l1, p, G2, sf2, (fla G2).length, _, _, by omega, by omega, by go_num, by omega, rfl, rfl, HUP.out.mono (by omega), by rw [List.take_length]; exact HCT.out⟩
            case measure => simp [intOf]; omega
      | false =>
        have HAL := Lib.hid HOi.out.all
        go_wp2_with fail
        refine HAL.out.mono ?_
        rintro e w2' ⟨av, ab, LA, rfl, hsa, hga, hall, hla, hb9⟩
        have hbt : BtIn (fun _ => True) w2' av LA := ⟨Rds.of_sl hsa fun _ _ => trivial, fun p hp => Rds.mono (hall p hp) fun _ _ => trivial⟩
        obtain ⟨-, -, L, h1, h2, h3, h4⟩ := HC.out
        have hgv : BtIn (fun _ => True) w2' (.slice ga gn gc) L := ⟨Rds.of_sl (h1.same fun b hb => hb9.block b (h1.lt b hb)) fun _ _ => trivial, fun p hp => Rds.mono ((h3 p hp).below hb9) fun _ _ => trivial⟩
        have HBS := Lib.hid (batches_true _ _ LA L w2' hbt hgv (by rw [hla, h4]) (by have h := HOi.out.len.1; rw [← hla, List.length_map] at h; omega) fun p hp => by
          have h5 : p.1 ∈ fla G := by rw [← hla]; exact List.mem_map.2 ⟨p, hp, rfl⟩
          have h6 := (Pl.enc_short (HOi.out.log.good p.1 h5)).2.2
          omega)
        have HF := Lib.hid ((HOi.out.below hb9).low)
        clear hsa hga hall hla hb9 hbt hgv h1 h2 h3 h4 HAL
        go_wp2_with fail
        refine HBS.out.mono ?_
        rintro e w3' ⟨rfl, hb3⟩
        have HF3 := Lib.hid (HF.out.trans (hb3.mono HF.out.size))
        clear hb3
        go_wp2_with fail
        go_ret
        exact ⟨rfl, HF3.out⟩
end Go.Proofs.YtdaoeplblkfapaaGreatDoor
