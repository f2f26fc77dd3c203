/- THE WALK OF PlanLeaves. -/
import Derived.Test.YtmkinnheoejphaaDoorLwE
import Derived.Deep.RegionHeld3
import Derived.Deep.CutRange
import Derived.Deep.CutBlock
import Derived.Deep.DeepCutAuto
namespace Go.Proofs.YtmkinnheoejphaaDoor
open Go.RowKit

set_option maxHeartbeats 8000000 in
set_option maxRecDepth 100000 in
theorem leaves_any {A : Nat → Prop} (s0 s1 s2 : Int) (ev : Value) (l : List Pn.Ev) (nn : Int) (w : World) (lb : Lb w) (hA : Evs A w ev l) :
    Calls Tryd.prog 6 #[.agg #[.int .i64 s0, .int .i64 s1, .int .i64 s2], ev, .int .i64 nn] w fun e w' => e = .returned (.bool true) ∧ Below w.heap.size w w' := by
  obtain ⟨ea, ec, rfl⟩ := hA.form
  obtain ⟨m, hm⟩ : ∃ m, l.length = m := ⟨_, rfl⟩
  have HM := Lib.hid hm
  have HEV : Hid (∀ wx, Below w.heap.size w wx → Evs A wx (.slice ea m ec) l) := Lib.hid fun wx hb => by rw [← hm]; exact Rds.below hA hb
  rw [hm]
  obtain ⟨W1, hW1⟩ : ∃ W, w.alloc (.cells #[.int .i64 s0, .int .i64 s1, .int .i64 s2] 22) = W := ⟨_, rfl⟩
  have hb1 : Below w.heap.size w W1 := by rw [← hW1]; exact (Below.refl _ _).alloc (Nat.le_refl _) _
  have k1 : Blk W1 w.heap.size #[.int .i64 s0, .int .i64 s1, .int .i64 s2] 22 := by rw [← hW1]; exact Blk.new _ _ _
  have HB1 := Lib.hid hb1
  have HK1 := Lib.hid k1
  have HLB1 := Lib.hid (lb.below lb.size hb1)
  clear hb1 k1 hA hm lb
  go_enter Tryd.func6, Tryd.ntmps6
  go_upto_region 1 with fail
  clear hW1
  go_wp2_with fail
  refine (awake_any W1 HLB1.out).mono ?_
  rintro e w2 ⟨rfl, hb2⟩
  have HB2 := Lib.hid (HB1.out.trans (hb2.mono HB1.out.size))
  obtain ⟨x0, x1, x2⟩ := (HK1.out.below hb2).cells3
  clear hb2 HK1 HLB1
  go_wp2_with fail
  refine (begun_any s0 s1 s2 w2).mono ?_
  rintro e w3 ⟨hb3, n0, c0, m0, pv, hlay, rfl, hp3⟩
  have HB3 := Lib.hid (HB2.out.trans (hb3.mono HB2.out.size))
  obtain ⟨sa, sc, la, lc, rfl, hrd⟩ := hp3.begun
  have HG0 := Lib.hid (Pn.new_good hlay)
  have HE0 : Hid (∀ x ∈ (Pn.new n0 c0 m0).parts, x.ep ≤ 1) := Lib.hid fun x hx => by rw [Pn.new_low x hx]; exact Int.le_refl _
  obtain ⟨p0, hp0⟩ : ∃ p, Pn.new n0 c0 m0 = p := ⟨_, rfl⟩
  rw [hp0] at hrd HG0 HE0 ⊢
  have HRD := Lib.hid hrd
  clear x0 x1 x2 hb3 hlay hp3 hp0 hrd
  unfold plV
  obtain ⟨W4, hW4⟩ : ∃ W, w3.alloc (.cells #[.int .i64 p0.nodes, .int .i64 p0.copies, .slice sa p0.parts.length sc, .slice la p0.lives.length lc] 28) = W := ⟨_, rfl⟩
  have hb4 : Below w3.heap.size w3 W4 := by rw [← hW4]; exact (Below.refl _ _).alloc (Nat.le_refl _) _
  have HBX : Hid (PBox w3.heap.size (fun b => b ≠ w3.heap.size) W4 p0 sa sc la lc) := Lib.hid (by rw [← hW4]; exact PBox.made HRD.out)
  have HB4 := Lib.hid (HB3.out.trans (hb4.mono HB3.out.size))
  have HW4 := Lib.hid hW4
  have HLE : Hid (w.heap.size ≤ w3.heap.size) := Lib.hid HB3.out.size
  have HKI : Hid (KI w w3.heap.size 0 p0 sa sc la lc W4) := Lib.hid ⟨HB4.out, HG0.out, HE0.out, HBX.out, HLE.out⟩
  clear hb4 hW4 HRD
  go_upto_region 4 with fail
  rw [HW4.out]
  clear HW4
  obtain ⟨bp, hbp⟩ : ∃ b, w3.heap.size = b := ⟨_, rfl⟩
  rw [hbp] at HKI ⊢
  clear hbp HBX HB4 HLE HB3 HB2 HB1 HG0 HE0
  go_wp2_with fail
  go_loopw [8, 9, 10, 11] (fun si _ _ _ wr => ∃ (i : Nat) (p : Pn.P) (sa : Option Addr) (sc : Nat) (la : Option Addr) (lc : Nat), i ≤ m ∧ i ≤ 150 ∧ si = .int .i64 i ∧ KI w bp i p sa sc la lc wr) (fun si _ _ _ _ => m - (intOf si).toNat)
  case atStart => exact ⟨0, p0, sa, sc, la, lc, Nat.zero_le _, by omega, rfl, HKI.out⟩
  case round =>
    clear HKI
    obtain ⟨i, p, sa, sc, la, lc, hi, hi150, rfl, hki⟩ := hrel
    have HK := Lib.hid hki
    have HG := Lib.hid hki.good
    have HBW := Lib.hid hki.low
    clear hki
    obtain ⟨cv, hcv⟩ : ∃ c, (decide (i < m) && decide (i < 150)) = c := ⟨_, rfl⟩
    have HCV := Lib.hid hcv
    clear hcv
    go_upto_region 5 with fail
    go_cut [32] from 25 to 32 (fun sx wx => sx = .bool cv ∧ Eqw2 wr wx)
    case first =>
      by_cases h1 : i < m
      · have g1 : (i : Int) < (m : Int) := by omega
        by_cases h2 : i < 150
        · have g2 : (i : Int) < 150 := by omega
          have hc : cv = true := by rw [← HCV.out]; simp [h1, h2]
          go_wp2_with fail
          go_meet
          case rel => exact ⟨by rw [hc], rfl⟩
        · have g2 : ¬ ((i : Int) < 150) := by omega
          have hc : cv = false := by rw [← HCV.out]; simp [h2]
          go_wp2_with fail
          go_meet
          case rel => exact ⟨by rw [hc], rfl⟩
      · have g1 : ¬ ((i : Int) < (m : Int)) := by omega
        have hc : cv = false := by rw [← HCV.out]; simp [h1]
        go_wp2_with fail
        go_meet
        case rel => exact ⟨by rw [hc], rfl⟩
    case rest =>
    obtain ⟨rfl, hw⟩ := hcut
    have hw' : wr = wc := hw.symm
    subst hw'
    clear hw
    cases cv with
    | true =>
      have h1 : i < m := by have := HCV.out; simp at this; exact this.1
      have h2 : i < 150 := by have := HCV.out; simp at this; exact this.2
      obtain ⟨x, hx⟩ : ∃ x, l[i]? = some x := ⟨_, List.getElem?_eq_getElem (by rw [HM.out]; exact h1)⟩
      obtain ⟨eb, ep, ek, he1, -, hebl, -⟩ := (HEV.out _ (Below.refl _ _)).at hx
      rw [HM.out] at he1
      obtain rfl : ea = some ⟨eb, ep, none⟩ := by injection he1
      have HEC : Hid (∀ wx, Below w.heap.size w wx → wx.cell? ⟨eb, ep + i * 4, none⟩ = some (.int .i64 x.kind) ∧ wx.cell? ⟨eb, ep + i * 4 + 1, none⟩ = some (.int .i64 x.node) ∧ wx.cell? ⟨eb, ep + i * 4 + 2, none⟩ = some (.int .i64 x.part) ∧ wx.cell? ⟨eb, ep + i * 4 + 3, none⟩ = some (.int .i64 x.n)) := Lib.hid fun wx hb => by
        obtain ⟨eb', ep', ek', he2, -, -, q0, q1, q2, q3⟩ := (HEV.out wx hb).at hx
        injection he2 with he2
        injection he2 with he2
        injection he2 with he2 he3
        subst he2 he3
        exact ⟨q0, q1, q2, q3⟩
      have i0 : (0 : Int) ≤ (i : Int) := by omega
      have i1 : (i : Int) < (m : Int) := by omega
      have i2 : (i : Int) < 150 := by omega
      have i3 : i < 150 := h2
      have HEB : Hid (eb < w.heap.size) := Lib.hid hebl
      obtain ⟨R, hR⟩ : ∃ R, Pn.apply p x = R := ⟨_, rfl⟩
      have HRR := Lib.hid hR
      have HX9 := Lib.hid hx
      clear hx he1 hebl hR
      obtain ⟨c0, c1, c2, c3⟩ := (HK.out.box).blk.cells4
      obtain ⟨e0, e1, e2, e3⟩ := HEC.out wr HBW.out
      have HAP : Hid (∀ wx, Below wr.heap.size wr wx → Calls Tryd.prog 10 #[.agg #[.int .i64 p.nodes, .int .i64 p.copies, .slice sa p.parts.length sc, .slice la p.lives.length lc], .agg #[.int .i64 x.kind, .int .i64 x.node, .int .i64 x.part, .int .i64 x.n]] wx fun e w' => ApM wx (Pn.apply p x) e w') := Lib.hid fun wx hb => mapply ((HK.out.box).rd.below hb) HG.out
      have HX := Lib.hid (drew_refl wr)
      have HXA : Hid (∀ o, Below wr.heap.size wr.drew (wr.alloc o).drew) := Lib.hid (alloc_drew wr)
      have HZ : Hid (Blk (wr.alloc (.cells #[.int .i64 0, .int .i64 0, .slice none 0 0, .slice none 0 0] 28)).drew wr.heap.size #[.int .i64 0, .int .i64 0, .slice none 0 0, .slice none 0 0] 28) := Lib.hid (Blk.new wr _ _)
      have HNP : Hid (bp ≠ wr.heap.size) := Lib.hid (by have := (HK.out.box).blk.lt; omega)
      have HNV : Hid (eb ≠ wr.heap.size) := Lib.hid (by have : eb < wr.heap.size := block_lt_of_cell e0; omega)
      rw [HRR.out] at HAP
      go_upto_region 7 with fail
      go_cut [9, 10, 11] from 25 to 47 (fun sq st sr wx => ApB wr R sq st sr wx)
      case first =>
        have hB := HX.out
        go_region_held3 (fun w' => w'.cell? ⟨bp, 0, none⟩ = some (.int .i64 p.nodes) ∧ w'.cell? ⟨bp, 1, none⟩ = some (.int .i64 p.copies) ∧ w'.cell? ⟨bp, 2, none⟩ = some (.slice sa p.parts.length sc) ∧ w'.cell? ⟨bp, 3, none⟩ = some (.slice la p.lives.length lc) ∧ w'.cell? ⟨eb, ep + i * 4, none⟩ = some (.int .i64 x.kind) ∧ w'.cell? ⟨eb, ep + i * 4 + 1, none⟩ = some (.int .i64 x.node) ∧ w'.cell? ⟨eb, ep + i * 4 + 2, none⟩ = some (.int .i64 x.part) ∧ w'.cell? ⟨eb, ep + i * 4 + 3, none⟩ = some (.int .i64 x.n))
          (first | with_reducible exact ⟨dcell hB c0, dcell hB c1, dcell hB c2, dcell hB c3, dcell hB e0, dcell hB e1, dcell hB e2, dcell hB e3⟩ | with_reducible exact ⟨far4 HNP.out (dcell hB c0), far4 HNP.out (dcell hB c1), far4 HNP.out (dcell hB c2), far4 HNP.out (dcell hB c3), far4 HNV.out (dcell hB e0), far4 HNV.out (dcell hB e1), far4 HNV.out (dcell hB e2), far4 HNV.out (dcell hB e3)⟩ | with_reducible exact ⟨dcell (HXA.out _) c0, dcell (HXA.out _) c1, dcell (HXA.out _) c2, dcell (HXA.out _) c3, dcell (HXA.out _) e0, dcell (HXA.out _) e1, dcell (HXA.out _) e2, dcell (HXA.out _) e3⟩ | with_reducible exact ⟨farB (dcell hB c0), farB (dcell hB c1), farB (dcell hB c2), farB (dcell hB c3), farB (dcell hB e0), farB (dcell hB e1), farB (dcell hB e2), farB (dcell hB e3)⟩ | fail)
          (first
            | (go_at_call 10; ((first | with_reducible refine (HAP.out _ (of_drew HX.out)).mono ?_ | with_reducible refine (HAP.out _ (of_drew (HXA.out _))).mono ?_); rintro e w3 ⟨hb3, sa3, sc3, la3, lc3, ta3, tc3, rfl, hp3, ht3⟩; have hB := (show Below wr.heap.size wr.drew w3 by first | with_reducible exact drew_trans HX.out hb3 | with_reducible exact drew_trans (HXA.out _) hb3); have HP3 := Lib.hid hp3; have HT3 := Lib.hid ht3; try (obtain ⟨z0, z1, z2, z3⟩ := (HZ.out.below hb3).cells4; obtain ⟨y0, y1, y2, y3⟩ := (HZ.out.below hb3).free4); have HB3 := Lib.hid hb3; clear hp3 ht3 hb3))
            | fail)
        all_goals
          go_wp2_with fail
          go_meet
          case rel =>
            first
              | with_reducible exact ApB.late hB HP3.out HT3.out
              | with_reducible exact ApB.early HB3.out HP3.out HT3.out
              | exact ApB.late hB HP3.out HT3.out
              | exact ApB.early HB3.out HP3.out HT3.out
      case rest =>
      obtain ⟨hba, b7, sa7, sc7, la7, lc7, ta7, tc7, rfl, rfl, rfl, hle7, hbox7, -⟩ := hcut
      have HBA := Lib.hid hba
      have HBX7 := Lib.hid hbox7
      have HK2 := Lib.hid (HK.out.below hba)
      clear c0 c1 c2 c3 e0 e1 e2 e3 HAP HX HXA HZ HNP HNV hba hbox7 hle7 HBW
      cases hR : R with
      | bad c =>
        rw [hR] at HRR
        have hc0 : (c == 0) = false := by
          have := Pn.bad_code HRR.out
          simp
          omega
        clear hR
        simp only [Pn.rc]
        go_wp2_with fail
        go_roundw
        case rel => exact ⟨i + 1, p, sa, sc, la, lc, by omega, by omega, by go_num, HK2.out.next⟩
        case measure => simp [intOf]; omega
      | ok q t =>
        rw [hR] at HRR HBX7
        have HST := Lib.hid (Pn.step_of HRR.out)
        have HK5 := Lib.hid (HK2.out.put (q := q) HBX7.out HK.out.box.blk.lt HST.out.good (fun y hy => by
          have := HST.out.low (1 + (i : Int)) (by omega) HK.out.lo y hy
          omega))
        clear hR
        simp only [Pn.rp] at HBX7
        obtain ⟨c0, c1, c2, c3⟩ := HBX7.out.blk.cells4
        obtain ⟨d0, d1, d2, d3⟩ := HK2.out.box.blk.cells4
        obtain ⟨y0, y1, y2, y3⟩ := HK2.out.box.blk.free4
        obtain ⟨W7, hW7⟩ : ∃ W, ((((wc.setCell ⟨bp, 0, none⟩ (.int .i64 q.nodes)).setCell ⟨bp, 1, none⟩ (.int .i64 q.copies)).setCell ⟨bp, 2, none⟩ (.slice sa7 q.parts.length sc7)).setCell ⟨bp, 3, none⟩ (.slice la7 q.lives.length lc7)) = W := ⟨_, rfl⟩
        rw [hW7] at HK5
        simp only [Pn.rc]
        go_wp2_with fail
        go_roundw
        case rel => exact ⟨i + 1, q, sa7, sc7, la7, lc7, by omega, by omega, by go_num, HK5.out⟩
        case measure => simp [intOf]; omega
    | false =>
      have HLO : Hid (∀ x ∈ p.parts, x.ep < 1073741824) := Lib.hid fun x hx => by have := HK.out.lo x hx; omega
      have HPL : Hid (PlR (fun c => c ≠ bp ∧ c < wr.heap.size) wr (plV p sa sc la lc) p) := Lib.hid HK.out.box.rd.lt
      have hlay := Pn.lay_iff.1 HG.out.lay
      have hn1 : 1 ≤ p.nodes := hlay.1
      have hn5 : p.nodes ≤ 5 := hlay.2.1
      have hmx : max p.nodes 1 = p.nodes := by omega
      obtain ⟨H, hH1, hH2⟩ := modN nn p.nodes (by omega) (by omega)
      have hu : IntKind.u64.wrap p.nodes = p.nodes := by rw [IntKind.wrap_u64]; omega
      have hz : ¬ (p.nodes = 0) := by omega
      obtain ⟨N, hN⟩ : ∃ N : Int, 1 + (H : Int) = N := ⟨_, rfl⟩
      have hN1 : 1 ≤ N := by omega
      have hN2 : N ≤ p.nodes := by omega
      obtain ⟨c0, c1, c2, c3⟩ := HK.out.box.blk.cells4
      have HDD := Lib.hid (Pn.dead_ok HG.out hN1 hN2 HLO.out)
      have HAP : Hid (Calls Tryd.prog 10 #[.agg #[.int .i64 p.nodes, .int .i64 p.copies, .slice sa p.parts.length sc, .slice la p.lives.length lc], .agg #[.int .i64 2, .int .i64 N, .int .i64 0, .int .i64 0]] wr fun e w' => ApM wr (Pn.apply p ⟨2, N, 0, 0⟩) e w') := Lib.hid (mapply HK.out.box.rd HG.out)
      have HN := Lib.hid (And.intro hN1 hN2)
      have HNN := Lib.hid hN
      clear hlay hN
      go_upto_region 11 with fail
      rw [HNN.out]
      clear hmx hu hz hH1 hH2 hn1 hn5 hN1 hN2 HNN
      go_wp2_with fail
      refine HAP.out.mono ?_
      rintro e w3 ⟨hb3, sa3, sc3, la3, lc3, ta3, tc3, rfl, hp3, -⟩
      obtain ⟨R, hR⟩ : ∃ R, Pn.apply p ⟨2, N, 0, 0⟩ = R := ⟨_, rfl⟩
      rw [hR] at hp3 ⊢
      have HRR := Lib.hid hR
      obtain ⟨W4, hW4⟩ : ∃ W, w3.alloc (.cells #[.int .i64 (Pn.rp R).nodes, .int .i64 (Pn.rp R).copies, .slice sa3 (Pn.rp R).parts.length sc3, .slice la3 (Pn.rp R).lives.length lc3] 28) = W := ⟨_, rfl⟩
      have hb4 : Below w3.heap.size w3 W4 := by rw [← hW4]; exact (Below.refl _ _).alloc (Nat.le_refl _) _
      have HBX : Hid (PBox w3.heap.size (fun b => b ≠ w3.heap.size) W4 (Pn.rp R) sa3 sc3 la3 lc3) := Lib.hid (by rw [← hW4]; exact PBox.made hp3)
      have hb34 := hb3.trans (hb4.mono hb3.size)
      have HK4 := Lib.hid (HK.out.below hb34)
      have HPL4 := Lib.hid (HPL.out.below hb34)
      have HSZ : Hid (wr.heap.size ≤ w3.heap.size) := Lib.hid hb3.size
      have HBP : Hid (bp < wr.heap.size) := Lib.hid HK.out.box.blk.lt
      have HW4 := Lib.hid hW4
      clear hR hp3 hb3 hb4 hb34 hW4 c0 c1 c2 c3 HAP HBW
      go_upto_region 12 with fail
      rw [HW4.out]
      clear HW4
      obtain ⟨b13, hb13⟩ : ∃ b, w3.heap.size = b := ⟨_, rfl⟩
      rw [hb13] at HBX HSZ ⊢
      clear hb13
      obtain ⟨tn, htn⟩ : ∃ k, (Pn.nums (Pn.rt R)).length = k := ⟨_, rfl⟩
      obtain ⟨cd, hcd⟩ : ∃ c, Pn.rc R = c := ⟨_, rfl⟩
      have HTN := Lib.hid htn
      have HCD := Lib.hid hcd
      rw [htn, hcd]
      clear htn hcd
      go_upto_if 66 with fail
      go_cut [] from 67 to 74 (fun wx => ∃ (q : Pn.P) (sb : Option Addr) (sbc : Nat) (lb : Option Addr) (lbc : Nat), KI w bp i p sa sc la lc wx ∧ PBox b13 (fun b => b ≠ b13) wx q sb sbc lb lbc ∧ q.parts.length = p.parts.length ∧ ∀ (k : Nat) (a : Pn.Pt), p.parts[k]? = some a → ∃ b, q.parts[k]? = some b ∧ Pn.Left N a b)
      case first =>
        rcases HDD.out with ⟨q, t, hq, ht, hql, hqa⟩ | ⟨hq, hqa⟩
        · rw [HRR.out] at hq
          subst hq
          have HQL := Lib.hid hql
          have HQA := Lib.hid hqa
          obtain rfl : cd = 0 := HCD.out.symm
          have ht0 : ((tn : Int) == 0) = false := by
            have : tn ≠ 0 := fun e => by
              have htn := HTN.out
              rw [e] at htn
              unfold Pn.nums at htn
              rw [List.length_map] at htn
              exact ht (List.length_eq_zero_iff.1 htn)
            simp
            omega
          clear hql hqa ht
          go_wp2_with fail
          go_meet
          case rel => exact ⟨q, sa3, sc3, la3, lc3, HK4.out, HBX.out, HQL.out, HQA.out⟩
        · rw [HRR.out] at hq
          subst hq
          have HQA := Lib.hid hqa
          obtain rfl : cd = 21 := HCD.out.symm
          obtain rfl : tn = 0 := HTN.out.symm
          simp only [Pn.rp, Pn.zeroP] at HBX
          obtain ⟨c0, c1, c2, c3⟩ := HK4.out.box.blk.cells4
          obtain ⟨d0, d1, d2, d3⟩ := HBX.out.blk.cells4
          obtain ⟨y0, y1, y2, y3⟩ := HBX.out.blk.free4
          obtain ⟨W5, hW5⟩ : ∃ W, ((((W4.setCell ⟨b13, 0, none⟩ (.int .i64 p.nodes)).setCell ⟨b13, 1, none⟩ (.int .i64 p.copies)).setCell ⟨b13, 2, none⟩ (.slice sa p.parts.length sc)).setCell ⟨b13, 3, none⟩ (.slice la p.lives.length lc)) = W := ⟨_, rfl⟩
          have HF : Hid (KI w bp i p sa sc la lc W5 ∧ PBox b13 (fun b => b ≠ b13) W5 p sa sc la lc) := Lib.hid (by
            have hk : Kb b13 W4 W5 := by rw [← hW5]; exact four_kb _ _ _ _ _ _
            have h1 := HBP.out
            have h2 := HSZ.out
            have hb : Blk W5 b13 #[.int .i64 p.nodes, .int .i64 p.copies, .slice sa p.parts.length sc, .slice la p.lives.length lc] 28 := by rw [← hW5]; exact HBX.out.blk.four _ _ _ _
            have hle := HK4.out.le
            exact ⟨⟨HK4.out.low.trans (hk.below (by omega) HBX.out.blk.lt), HK4.out.good, HK4.out.lo, ⟨HK4.out.box.blk.kb hk (by omega), HPL4.out.kb hk (fun c hc => hc.1) (fun c hc => by omega), fun h => h rfl⟩, hle⟩,
              ⟨hb, HPL4.out.kb hk (fun c hc => by omega) (fun c hc => by omega), fun h => h rfl⟩⟩)
          clear hqa
          go_wp2_with fail
          go_meet
          case rel => exact ⟨p, sa, sc, la, lc, HF.out.1, HF.out.2, rfl, fun k a ha => ⟨a, ha, HQA.out k a ha⟩⟩
      case rest =>
      obtain ⟨q, sb, sbc, lb, lbc, hki, hqb, hql, hqa⟩ := hcut
      clear HK4 HBX HPL4 HPL HDD HRR HSZ HBP HK HLO
      have HK := Lib.hid hki
      have HQ := Lib.hid hqb
      have HQA := Lib.hid hqa
      obtain ⟨P, hP⟩ : ∃ P, q.parts.length = P := ⟨_, rfl⟩
      have HP := Lib.hid hP
      have HPP : Hid (p.parts.length = P) := Lib.hid (by rw [← hql]; exact hP)
      have HP4 : Hid (P ≤ 4) := Lib.hid (by rw [← HPP.out]; exact HG.out.parts_len.2)
      obtain ⟨d0, d1, d2, d3⟩ := hqb.blk.cells4
      obtain ⟨c0, c1, c2, c3⟩ := hki.box.blk.cells4
      rw [hP] at d2
      rw [HPP.out] at c2
      have hP4 : P ≤ 4 := HP4.out
      clear hki hqb hqa hql hP
      go_wp2_with fail
      go_loopw [16, 17, 18, 19, 20] (fun sk _ _ _ _ wx => ∃ k : Nat, k ≤ P ∧ sk = .int .i64 k ∧ Eqw2 wc wx) (fun sk _ _ _ _ _ => P - (intOf sk).toNat)
      case atStart => exact ⟨0, Nat.zero_le _, rfl, rfl⟩
      case round =>
        obtain ⟨k, hk, rfl, hw⟩ := hrel
        have hw' : wc = wr := hw.symm
        subst hw'
        clear hw
        by_cases hlt : k < P
        · obtain ⟨a, ha⟩ : ∃ a, p.parts[k]? = some a := ⟨_, List.getElem?_eq_getElem (by rw [HPP.out]; exact hlt)⟩
          obtain ⟨b, hb, hL⟩ := HQA.out k a ha
          have hps := HK.out.box.rd.ps.1
          have hqs := HQ.out.rd.ps.1
          obtain ⟨xb, xp, xk, xv, ex, -, -, xn, -, g1, -⟩ := hps.at ha
          obtain ⟨zb, zp, zk, zv, ez, -, -, zn, -, h1, h2⟩ := hqs.at hb
          obtain rfl : sa = some ⟨xb, xp, none⟩ := by injection ex
          obtain rfl : sb = some ⟨zb, zp, none⟩ := by injection ez
          obtain ⟨xa, xc, rfl⟩ := xn.form
          obtain ⟨za, zc, rfl⟩ := zn.form
          obtain ⟨ae, ac, al⟩ := a
          obtain ⟨be, bc, bl⟩ := b
          have hac5 : ac.length ≤ 5 := HG.out.ch_len _ (List.mem_of_getElem? ha)
          have hbc5 : bc.length ≤ 5 := by
            have := hL.fl
            simp only at this
            rw [this]
            exact Nat.le_trans (List.length_filter_le _ _) hac5
          obtain ⟨LA, hLA⟩ : ∃ n, ac.length = n := ⟨_, rfl⟩
          obtain ⟨LB, hLB⟩ : ∃ n, bc.length = n := ⟨_, rfl⟩
          have HXN := Lib.hid xn
          have HZN := Lib.hid zn
          simp only at g1 h1 h2
          rw [hLA] at g1 hac5
          rw [hLB] at h1 hbc5
          have HLA := Lib.hid hLA
          have HLB := Lib.hid hLB
          have HLF := Lib.hid hL
          have hle : (bl == N) = false := by have := hL.le; simpa using this
          have HIN : Hid (∀ M : Int, Calls Tryd.prog 13 #[.slice za LB zc, .int .i64 M] wc fun e w' => SmeOut wc (bc.contains M) e w') := Lib.hid fun M => by
            have h := in_any _ bc M wc zn (by simp only at *; omega)
            simp only at h
            rw [hLB] at h
            exact h
          obtain ⟨B, hB⟩ : ∃ B, bc.contains N = B := ⟨_, rfl⟩
          have HB := Lib.hid hB
          have HIB : Hid (Calls Tryd.prog 13 #[.slice za LB zc, .int .i64 N] wc fun e w' => SmeOut wc B e w') := Lib.hid (by rw [← hB]; exact HIN.out N)
          have HCL : Hid (B = true → ¬ (1 < LB)) := Lib.hid fun h => by
            have := hL.ch (by simp only; rw [hB]; exact h)
            simp only at this
            rw [hLB] at this
            exact this
          have i0 : (0 : Int) ≤ (k : Int) := by omega
          have i1 : (k : Int) < (P : Int) := by omega
          clear ha hb hps hqs xn zn ex ez hLA hLB hL hB
          go_upto_region 20 with fail
          go_cut [105] from 75 to 105 (fun sx wx => sx = .bool false ∧ Eqw2 wc wx)
          case first =>
            go_wp2_with fail
            refine HIB.out.mono ?_
            rintro e w6 ⟨rfl, rfl⟩
            cases B with
            | true =>
              have h3 : ¬ ((1 : Int) < (LB : Int)) := by have := HCL.out rfl; omega
              have h4 : decide ((1 : Int) < (LB : Int)) = false := decide_eq_false h3
              have h5 : ¬ (1 < LB) := HCL.out rfl
              go_wp2_with fail
              go_meet
              case rel => exact ⟨rfl, rfl⟩
            | false =>
              go_wp2_with fail
              go_meet
              case rel => exact ⟨rfl, rfl⟩
          case rest =>
          obtain ⟨rfl, hw⟩ := hcut
          have hw' := hw.symm
          unfold Eqw2 at hw
          subst hw'
          clear hw
          go_wp2_with fail
          go_loopw [18, 19, 20] (fun sat sj _ wx => ∃ j : Nat, j ≤ LA ∧ sat = .int .i64 (((ac.take j).filter (Pn.keepB bc N)).length : Nat) ∧ sj = .int .i64 j ∧ Eqw2 wc wx) (fun _ sj _ _ => LA - (intOf sj).toNat)
          case atStart => exact ⟨0, Nat.zero_le _, rfl, rfl, rfl⟩
          case round =>
            obtain ⟨j, hj, rfl, rfl, hw⟩ := hrel
            have hw' := hw.symm
            unfold Eqw2 at hw
            subst hw'
            clear hw
            obtain ⟨at_, hat⟩ : ∃ n, ((ac.take j).filter (Pn.keepB bc N)).length = n := ⟨_, rfl⟩
            rw [hat]
            by_cases hjl : j < LA
            · obtain ⟨m', hm'⟩ : ∃ x, ac[j]? = some x := ⟨_, List.getElem?_eq_getElem (by rw [HLA.out]; exact hjl)⟩
              obtain ⟨f1, f2⟩ := filt_at (f := Pn.keepB bc N) hm'
              rw [hat] at f1 f2
              have hfl : ac.filter (Pn.keepB bc N) = bc := by have := HLF.out.fl; simp only at this; exact this.symm
              rw [hfl] at f1
              have HF1 := Lib.hid f1
              have HF2 := Lib.hid f2
              obtain ⟨vb, vp, vk, ev, -, -, q0⟩ := HXN.out.at hm'
              try simp only at ev
              rw [HLA.out] at ev
              obtain rfl : xa = some ⟨vb, vp, none⟩ := by injection ev
              have HI3 := Lib.hid (HIN.out N)
              obtain ⟨KB, hKB⟩ : ∃ b, Pn.keepB bc N m' = b := ⟨_, rfl⟩
              have HKB := Lib.hid hKB
              have j0 : (0 : Int) ≤ (j : Int) := by omega
              have j1 : (j : Int) < (LA : Int) := by omega
              clear f1 f2 hfl hm' ev hat hKB
              go_upto_region 27 with fail
              go_cut [134] from 106 to 134 (fun sx wx => sx = .bool (!KB) ∧ Eqw2 wc wx)
              case first =>
                by_cases hmn : m' = N
                · subst hmn
                  go_wp2_with fail
                  refine HI3.out.mono ?_
                  rintro e w6 ⟨rfl, rfl⟩
                  have hk : (!KB) = !bc.contains m' := by rw [← HKB.out]; unfold Pn.keepB; simp
                  go_wp2_with fail
                  go_meet
                  case rel => exact ⟨by first | rfl | (rw [hk]; done) | (rw [hk]; rfl) | (rw [hk]; simp), rfl⟩
                · have hb : (m' == N) = false := by simp [hmn]
                  have hk : (!KB) = false := by rw [← HKB.out]; unfold Pn.keepB; rw [hb]; rfl
                  clear hmn
                  go_wp2_with fail
                  go_meet
                  case rel => exact ⟨by first | rfl | (rw [hk]; done) | (rw [hk]; rfl) | (rw [hk]; simp), rfl⟩
              case rest =>
              obtain ⟨rfl, hw⟩ := hcut
              have hw' := hw.symm
              unfold Eqw2 at hw
              subst hw'
              clear hw
              cases KB with
              | false =>
                have HN2 := Lib.hid (HF2.out HKB.out)
                go_wp2_with fail
                go_roundw
                case rel => exact ⟨j + 1, by omega, by rw [HN2.out], by go_num, rfl⟩
                case measure => simp [intOf]; omega
              | true =>
                obtain ⟨f3, f4⟩ := HF1.out HKB.out
                obtain ⟨yb, yp, yk, ev, -, -, q1⟩ := HZN.out.at f3
                have f5 := (List.getElem?_eq_some_iff.1 f3).1
                try simp only at ev
                rw [HLB.out] at ev f5
                obtain rfl : za = some ⟨yb, yp, none⟩ := by injection ev
                have HF4 := Lib.hid f4
                have u0 : (0 : Int) ≤ (at_ : Int) := by omega
                have u1 : (at_ : Int) < (LB : Int) := by omega
                have u2 : ¬ ((LB : Int) ≤ (at_ : Int)) := by omega
                clear f3 f4 ev
                go_wp2_with fail
                go_roundw
                case rel => exact ⟨j + 1, by omega, by rw [HF4.out]; go_num, by go_num, rfl⟩
                case measure => simp [intOf]; omega
            · have hj2 : at_ = LB := by
                rw [← hat, List.take_of_length_le (by rw [HLA.out]; omega), ← HLB.out]
                have := HLF.out.fl
                simp only at this
                rw [← this]
              subst hj2
              clear hat
              go_wp2_with fail
              go_roundw
              case rel => exact ⟨k + 1, by omega, by go_num, rfl⟩
              case measure => simp [intOf]; omega
        · go_wp2_with fail
          go_ret
          exact ⟨rfl, HK.out.low⟩
end Go.Proofs.YtmkinnheoejphaaDoor
