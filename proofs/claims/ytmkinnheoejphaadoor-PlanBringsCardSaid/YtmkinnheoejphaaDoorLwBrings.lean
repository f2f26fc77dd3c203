/- THE WALK OF PlanBrings. -/
import Derived.Test.YtmkinnheoejphaaDoorLwF
import Derived.Deep.LoopGhost
import Derived.Deep.RegionHeld3
import Derived.Deep.CutRange
import Derived.Deep.CutBlock
import Derived.Deep.DeepCutAuto
namespace Go.Proofs.YtmkinnheoejphaaDoor
open Go.RowKit

set_option maxHeartbeats 8000000 in
set_option maxRecDepth 100000 in
theorem brings_any {A : Nat → Prop} (s0 s1 s2 : Int) (ev : Value) (l : List Pn.Ev) (nn : Int) (w : World) (lb : Lb w) (hA : Evs A w ev l) :
    Calls Tryd.prog 5 #[.agg #[.int .i64 s0, .int .i64 s1, .int .i64 s2], ev, .int .i64 nn] w fun e w' => e = .returned (.bool true) ∧ Below w.heap.size w w' := by
  obtain ⟨ea, ec, rfl⟩ := hA.form
  obtain ⟨m, hm⟩ : ∃ m, l.length = m := ⟨_, rfl⟩
  have HM := Lib.hid hm
  have HEV : Hid (∀ wx, Below w.heap.size w wx → Evs A wx (.slice ea m ec) l) := Lib.hid fun wx hb => by rw [← hm]; exact Rds.below hA hb
  rw [hm]
  obtain ⟨W1, hW1⟩ : ∃ W, w.alloc (.cells #[.int .i64 s0, .int .i64 s1, .int .i64 s2] 22) = W := ⟨_, rfl⟩
  have hb1 : Below w.heap.size w W1 := by rw [← hW1]; exact (Below.refl _ _).alloc (Nat.le_refl _) _
  have k1 : Blk W1 w.heap.size #[.int .i64 s0, .int .i64 s1, .int .i64 s2] 22 := by rw [← hW1]; exact Blk.new _ _ _
  have HB1 := Lib.hid hb1
  have HK1 := Lib.hid k1
  have HLB1 := Lib.hid (lb.below lb.size hb1)
  clear hb1 k1 hA hm lb
  go_enter Tryd.func5, Tryd.ntmps5
  go_upto_region 1 with fail
  clear hW1
  go_wp2_with fail
  refine (awake_any W1 HLB1.out).mono ?_
  rintro e w2 ⟨rfl, hb2⟩
  have HB2 := Lib.hid (HB1.out.trans (hb2.mono HB1.out.size))
  obtain ⟨x0, x1, x2⟩ := (HK1.out.below hb2).cells3
  clear hb2 HK1 HLB1
  go_wp2_with fail
  refine (begun_any s0 s1 s2 w2).mono ?_
  rintro e w3 ⟨hb3, n0, c0, m0, pv, hlay, rfl, hp3⟩
  have HB3 := Lib.hid (HB2.out.trans (hb3.mono HB2.out.size))
  obtain ⟨sa, sc, la, lc, rfl, hrd⟩ := hp3.begun
  have HG0 := Lib.hid (Pn.new_good hlay)
  have HE0 : Hid (∀ x ∈ (Pn.new n0 c0 m0).parts, x.ep ≤ 1) := Lib.hid fun x hx => by rw [Pn.new_low x hx]; exact Int.le_refl _
  obtain ⟨p0, hp0⟩ : ∃ p, Pn.new n0 c0 m0 = p := ⟨_, rfl⟩
  rw [hp0] at hrd HG0 HE0 ⊢
  have HRD := Lib.hid hrd
  clear x0 x1 x2 hb3 hlay hp3 hp0 hrd
  unfold plV
  obtain ⟨W4, hW4⟩ : ∃ W, w3.alloc (.cells #[.int .i64 p0.nodes, .int .i64 p0.copies, .slice sa p0.parts.length sc, .slice la p0.lives.length lc] 28) = W := ⟨_, rfl⟩
  have hb4 : Below w3.heap.size w3 W4 := by rw [← hW4]; exact (Below.refl _ _).alloc (Nat.le_refl _) _
  have HBX : Hid (PBox w3.heap.size (fun b => b ≠ w3.heap.size) W4 p0 sa sc la lc) := Lib.hid (by rw [← hW4]; exact PBox.made HRD.out)
  have HB4 := Lib.hid (HB3.out.trans (hb4.mono HB3.out.size))
  have HW4 := Lib.hid hW4
  have HLE : Hid (w.heap.size ≤ w3.heap.size) := Lib.hid HB3.out.size
  have HKI : Hid (KI w w3.heap.size 0 p0 sa sc la lc W4) := Lib.hid ⟨HB4.out, HG0.out, HE0.out, HBX.out, HLE.out⟩
  clear hb4 hW4 HRD
  go_upto_region 4 with fail
  rw [HW4.out]
  clear HW4
  obtain ⟨bp, hbp⟩ : ∃ b, w3.heap.size = b := ⟨_, rfl⟩
  rw [hbp] at HKI ⊢
  clear hbp HBX HB4 HLE HB3 HB2 HB1 HG0 HE0
  go_wp2_with fail
  go_loopw [8, 9, 10, 11] (fun si _ _ _ wr => ∃ (i : Nat) (p : Pn.P) (sa : Option Addr) (sc : Nat) (la : Option Addr) (lc : Nat), i ≤ m ∧ i ≤ 150 ∧ si = .int .i64 i ∧ KI w bp i p sa sc la lc wr) (fun si _ _ _ _ => m - (intOf si).toNat)
  case atStart => exact ⟨0, p0, sa, sc, la, lc, Nat.zero_le _, by omega, rfl, HKI.out⟩
  case round =>
    clear HKI
    obtain ⟨i, p, sa, sc, la, lc, hi, hi150, rfl, hki⟩ := hrel
    have HK := Lib.hid hki
    have HG := Lib.hid hki.good
    have HBW := Lib.hid hki.low
    clear hki
    obtain ⟨cv, hcv⟩ : ∃ c, (decide (i < m) && decide (i < 150)) = c := ⟨_, rfl⟩
    have HCV := Lib.hid hcv
    clear hcv
    go_upto_region 5 with fail
    go_cut [38] from 31 to 38 (fun sx wx => sx = .bool cv ∧ Eqw2 wr wx)
    case first =>
      by_cases h1 : i < m
      · have g1 : (i : Int) < (m : Int) := by omega
        by_cases h2 : i < 150
        · have g2 : (i : Int) < 150 := by omega
          have hc : cv = true := by rw [← HCV.out]; simp [h1, h2]
          go_wp2_with fail
          go_meet
          case rel => exact ⟨by rw [hc], rfl⟩
        · have g2 : ¬ ((i : Int) < 150) := by omega
          have hc : cv = false := by rw [← HCV.out]; simp [h2]
          go_wp2_with fail
          go_meet
          case rel => exact ⟨by rw [hc], rfl⟩
      · have g1 : ¬ ((i : Int) < (m : Int)) := by omega
        have hc : cv = false := by rw [← HCV.out]; simp [h1]
        go_wp2_with fail
        go_meet
        case rel => exact ⟨by rw [hc], rfl⟩
    case rest =>
    obtain ⟨rfl, hw⟩ := hcut
    have hw' : wr = wc := hw.symm
    subst hw'
    clear hw
    cases cv with
    | true =>
      have h1 : i < m := by have := HCV.out; simp at this; exact this.1
      have h2 : i < 150 := by have := HCV.out; simp at this; exact this.2
      obtain ⟨x, hx⟩ : ∃ x, l[i]? = some x := ⟨_, List.getElem?_eq_getElem (by rw [HM.out]; exact h1)⟩
      obtain ⟨eb, ep, ek, he1, -, hebl, -⟩ := (HEV.out _ (Below.refl _ _)).at hx
      rw [HM.out] at he1
      obtain rfl : ea = some ⟨eb, ep, none⟩ := by injection he1
      have HEC : Hid (∀ wx, Below w.heap.size w wx → wx.cell? ⟨eb, ep + i * 4, none⟩ = some (.int .i64 x.kind) ∧ wx.cell? ⟨eb, ep + i * 4 + 1, none⟩ = some (.int .i64 x.node) ∧ wx.cell? ⟨eb, ep + i * 4 + 2, none⟩ = some (.int .i64 x.part) ∧ wx.cell? ⟨eb, ep + i * 4 + 3, none⟩ = some (.int .i64 x.n)) := Lib.hid fun wx hb => by
        obtain ⟨eb', ep', ek', he2, -, -, q0, q1, q2, q3⟩ := (HEV.out wx hb).at hx
        injection he2 with he2
        injection he2 with he2
        injection he2 with he2 he3
        subst he2 he3
        exact ⟨q0, q1, q2, q3⟩
      have i0 : (0 : Int) ≤ (i : Int) := by omega
      have i1 : (i : Int) < (m : Int) := by omega
      have i2 : (i : Int) < 150 := by omega
      have i3 : i < 150 := h2
      have HEB : Hid (eb < w.heap.size) := Lib.hid hebl
      obtain ⟨R, hR⟩ : ∃ R, Pn.apply p x = R := ⟨_, rfl⟩
      have HRR := Lib.hid hR
      have HX9 := Lib.hid hx
      clear hx he1 hebl hR
      obtain ⟨c0, c1, c2, c3⟩ := (HK.out.box).blk.cells4
      obtain ⟨e0, e1, e2, e3⟩ := HEC.out wr HBW.out
      have HAP : Hid (∀ wx, Below wr.heap.size wr wx → Calls Tryd.prog 10 #[.agg #[.int .i64 p.nodes, .int .i64 p.copies, .slice sa p.parts.length sc, .slice la p.lives.length lc], .agg #[.int .i64 x.kind, .int .i64 x.node, .int .i64 x.part, .int .i64 x.n]] wx fun e w' => ApM wx (Pn.apply p x) e w') := Lib.hid fun wx hb => mapply ((HK.out.box).rd.below hb) HG.out
      have HX := Lib.hid (drew_refl wr)
      have HXA : Hid (∀ o, Below wr.heap.size wr.drew (wr.alloc o).drew) := Lib.hid (alloc_drew wr)
      have HZ : Hid (Blk (wr.alloc (.cells #[.int .i64 0, .int .i64 0, .slice none 0 0, .slice none 0 0] 28)).drew wr.heap.size #[.int .i64 0, .int .i64 0, .slice none 0 0, .slice none 0 0] 28) := Lib.hid (Blk.new wr _ _)
      have HNP : Hid (bp ≠ wr.heap.size) := Lib.hid (by have := (HK.out.box).blk.lt; omega)
      have HNV : Hid (eb ≠ wr.heap.size) := Lib.hid (by have : eb < wr.heap.size := block_lt_of_cell e0; omega)
      rw [HRR.out] at HAP
      go_upto_region 7 with fail
      go_cut [9, 10, 11] from 31 to 53 (fun sq st sr wx => ApB wr R sq st sr wx)
      case first =>
        have hB := HX.out
        go_region_held3 (fun w' => w'.cell? ⟨bp, 0, none⟩ = some (.int .i64 p.nodes) ∧ w'.cell? ⟨bp, 1, none⟩ = some (.int .i64 p.copies) ∧ w'.cell? ⟨bp, 2, none⟩ = some (.slice sa p.parts.length sc) ∧ w'.cell? ⟨bp, 3, none⟩ = some (.slice la p.lives.length lc) ∧ w'.cell? ⟨eb, ep + i * 4, none⟩ = some (.int .i64 x.kind) ∧ w'.cell? ⟨eb, ep + i * 4 + 1, none⟩ = some (.int .i64 x.node) ∧ w'.cell? ⟨eb, ep + i * 4 + 2, none⟩ = some (.int .i64 x.part) ∧ w'.cell? ⟨eb, ep + i * 4 + 3, none⟩ = some (.int .i64 x.n))
          (first | with_reducible exact ⟨dcell hB c0, dcell hB c1, dcell hB c2, dcell hB c3, dcell hB e0, dcell hB e1, dcell hB e2, dcell hB e3⟩ | with_reducible exact ⟨far4 HNP.out (dcell hB c0), far4 HNP.out (dcell hB c1), far4 HNP.out (dcell hB c2), far4 HNP.out (dcell hB c3), far4 HNV.out (dcell hB e0), far4 HNV.out (dcell hB e1), far4 HNV.out (dcell hB e2), far4 HNV.out (dcell hB e3)⟩ | with_reducible exact ⟨dcell (HXA.out _) c0, dcell (HXA.out _) c1, dcell (HXA.out _) c2, dcell (HXA.out _) c3, dcell (HXA.out _) e0, dcell (HXA.out _) e1, dcell (HXA.out _) e2, dcell (HXA.out _) e3⟩ | with_reducible exact ⟨farB (dcell hB c0), farB (dcell hB c1), farB (dcell hB c2), farB (dcell hB c3), farB (dcell hB e0), farB (dcell hB e1), farB (dcell hB e2), farB (dcell hB e3)⟩ | fail)
          (first
            | (go_at_call 10; ((first | with_reducible refine (HAP.out _ (of_drew HX.out)).mono ?_ | with_reducible refine (HAP.out _ (of_drew (HXA.out _))).mono ?_); rintro e w3 ⟨hb3, sa3, sc3, la3, lc3, ta3, tc3, rfl, hp3, ht3⟩; have hB := (show Below wr.heap.size wr.drew w3 by first | with_reducible exact drew_trans HX.out hb3 | with_reducible exact drew_trans (HXA.out _) hb3); have HP3 := Lib.hid hp3; have HT3 := Lib.hid ht3; try (obtain ⟨z0, z1, z2, z3⟩ := (HZ.out.below hb3).cells4; obtain ⟨y0, y1, y2, y3⟩ := (HZ.out.below hb3).free4); have HB3 := Lib.hid hb3; clear hp3 ht3 hb3))
            | fail)
        all_goals
          go_wp2_with fail
          go_meet
          case rel =>
            first
              | with_reducible exact ApB.late hB HP3.out HT3.out
              | with_reducible exact ApB.early HB3.out HP3.out HT3.out
              | exact ApB.late hB HP3.out HT3.out
              | exact ApB.early HB3.out HP3.out HT3.out
      case rest =>
      obtain ⟨hba, b7, sa7, sc7, la7, lc7, ta7, tc7, rfl, rfl, rfl, hle7, hbox7, -⟩ := hcut
      have HBA := Lib.hid hba
      have HBX7 := Lib.hid hbox7
      have HK2 := Lib.hid (HK.out.below hba)
      clear c0 c1 c2 c3 e0 e1 e2 e3 HAP HX HXA HZ HNP HNV hba hbox7 hle7 HBW
      cases hR : R with
      | bad c =>
        rw [hR] at HRR
        have hc0 : (c == 0) = false := by
          have := Pn.bad_code HRR.out
          simp
          omega
        clear hR
        simp only [Pn.rc]
        go_wp2_with fail
        go_roundw
        case rel => exact ⟨i + 1, p, sa, sc, la, lc, by omega, by omega, by go_num, HK2.out.next⟩
        case measure => simp [intOf]; omega
      | ok q t =>
        rw [hR] at HRR HBX7
        have HST := Lib.hid (Pn.step_of HRR.out)
        have HK5 := Lib.hid (HK2.out.put (q := q) HBX7.out HK.out.box.blk.lt HST.out.good (fun y hy => by
          have := HST.out.low (1 + (i : Int)) (by omega) HK.out.lo y hy
          omega))
        clear hR
        simp only [Pn.rp] at HBX7
        obtain ⟨c0, c1, c2, c3⟩ := HBX7.out.blk.cells4
        obtain ⟨d0, d1, d2, d3⟩ := HK2.out.box.blk.cells4
        obtain ⟨y0, y1, y2, y3⟩ := HK2.out.box.blk.free4
        obtain ⟨W7, hW7⟩ : ∃ W, ((((wc.setCell ⟨bp, 0, none⟩ (.int .i64 q.nodes)).setCell ⟨bp, 1, none⟩ (.int .i64 q.copies)).setCell ⟨bp, 2, none⟩ (.slice sa7 q.parts.length sc7)).setCell ⟨bp, 3, none⟩ (.slice la7 q.lives.length lc7)) = W := ⟨_, rfl⟩
        rw [hW7] at HK5
        simp only [Pn.rc]
        go_wp2_with fail
        go_roundw
        case rel => exact ⟨i + 1, q, sa7, sc7, la7, lc7, by omega, by omega, by go_num, HK5.out⟩
        case measure => simp [intOf]; omega
    | false =>
      have HLO : Hid (∀ x ∈ p.parts, x.ep < 1073741824) := Lib.hid fun x hx => by have := HK.out.lo x hx; omega
      have hlay := Pn.lay_iff.1 HG.out.lay
      have hn1 : 1 ≤ p.nodes := hlay.1
      have hn5 : p.nodes ≤ 5 := hlay.2.1
      have hmx : max p.nodes 1 = p.nodes := by omega
      obtain ⟨H, hH1, hH2⟩ := modN nn p.nodes (by omega) (by omega)
      have hu : IntKind.u64.wrap p.nodes = p.nodes := by rw [IntKind.wrap_u64]; omega
      have hz : ¬ (p.nodes = 0) := by omega
      obtain ⟨N, hN⟩ : ∃ N : Int, 1 + (H : Int) = N := ⟨_, rfl⟩
      have hN1 : 1 ≤ N := by omega
      have hN2 : N ≤ p.nodes := by omega
      obtain ⟨c0, c1, c2, c3⟩ := HK.out.box.blk.cells4
      have HBT : Hid (Pn.life p.lives N = 0 → ∃ q t, Pn.apply p ⟨1, N, 0, 1⟩ = .ok q t ∧ Pn.life q.lives N = 1) := Lib.hid fun h => Pn.boot_ok HG.out hN1 hN2 h HLO.out
      have HLF := Lib.hid (llife (plV p sa sc la lc) p N wr HK.out.box.rd HG.out)
      unfold plV at HLF
      have HN := Lib.hid (And.intro hN1 hN2)
      have HNN := Lib.hid hN
      have HI := Lib.hid hi150
      clear hlay hN
      go_upto_region 11 with fail
      rw [HNN.out]
      clear hmx hu hz hH1 hH2 hn1 hn5 hN1 hN2 HNN
      go_wp2_with fail
      refine HLF.out.mono ?_
      rintro e w4 ⟨rfl, hb4⟩
      obtain ⟨lf, hlf⟩ : ∃ x, Pn.life p.lives N = x := ⟨_, rfl⟩
      have HLV := Lib.hid hlf
      rw [hlf]
      have HK4 := Lib.hid (HK.out.below hb4)
      clear c0 c1 c2 c3 hb4 hlf HLF HBW
      obtain ⟨c0, c1, c2, c3⟩ := HK4.out.box.blk.cells4
      go_upto_if 66 with fail
      go_cut [13, 14, 15] from 67 to 77 (fun _ _ _ wx => ∃ (q : Pn.P) (sb : Option Addr) (sbc : Nat) (lb : Option Addr) (lbc : Nat), BI w bp N q sb sbc lb lbc wx)
      case first =>
        by_cases hl0 : lf = 0
        · obtain ⟨q, t, hq, hq1⟩ := HBT.out (HLV.out.trans hl0)
          have HAP : Hid (Calls Tryd.prog 10 #[.agg #[.int .i64 p.nodes, .int .i64 p.copies, .slice sa p.parts.length sc, .slice la p.lives.length lc], .agg #[.int .i64 1, .int .i64 N, .int .i64 0, .int .i64 1]] w4 fun e w' => ApM w4 (.ok q t) e w') := Lib.hid (by rw [← hq]; exact mapply HK4.out.box.rd HG.out)
          have HST := Lib.hid (Pn.step_of hq)
          have HQ1 := Lib.hid hq1
          subst hl0
          clear hq hq1
          go_wp2_with fail
          refine HAP.out.mono ?_
          rintro e w5 ⟨hb5, sa3, sc3, la3, lc3, ta3, tc3, rfl, hp3, -⟩
          simp only [Pn.rp, Pn.rt, Pn.rc] at hp3 ⊢
          obtain ⟨W6, hW6⟩ : ∃ W, w5.alloc (.cells #[.int .i64 q.nodes, .int .i64 q.copies, .slice sa3 q.parts.length sc3, .slice la3 q.lives.length lc3] 28) = W := ⟨_, rfl⟩
          have hb6 : Below w5.heap.size w5 W6 := by rw [← hW6]; exact (Below.refl _ _).alloc (Nat.le_refl _) _
          have HBX : Hid (PBox w5.heap.size (fun b => w4.heap.size ≤ b ∧ b ≠ w5.heap.size) W6 q sa3 sc3 la3 lc3) := Lib.hid (by rw [← hW6]; exact PBox.made2 hp3)
          have HK6 := Lib.hid (HK4.out.below (hb5.trans (hb6.mono hb5.size)))
          have HK7 := Lib.hid (HK6.out.put HBX.out HK4.out.box.blk.lt HST.out.good (fun y hy => by
            have := HST.out.low (1 + (i : Int)) (by omega) HK.out.lo y hy
            omega))
          have HW6 := Lib.hid hW6
          clear hW6 hb5 hb6 hp3 c0 c1 c2 c3 HAP
          go_upto_region 13 with fail
          rw [HW6.out]
          clear HW6
          obtain ⟨d0, d1, d2, d3⟩ := HBX.out.blk.cells4
          obtain ⟨c0, c1, c2, c3⟩ := HK6.out.box.blk.cells4
          obtain ⟨y0, y1, y2, y3⟩ := HK6.out.box.blk.free4
          obtain ⟨W7, hW7⟩ : ∃ W, ((((W6.setCell ⟨bp, 0, none⟩ (.int .i64 q.nodes)).setCell ⟨bp, 1, none⟩ (.int .i64 q.copies)).setCell ⟨bp, 2, none⟩ (.slice sa3 q.parts.length sc3)).setCell ⟨bp, 3, none⟩ (.slice la3 q.lives.length lc3)) = W := ⟨_, rfl⟩
          rw [hW7] at HK7
          go_wp2_with fail
          go_meet
          case rel => exact ⟨q, sa3, sc3, la3, lc3, HK7.out.bi (by have := HI.out; omega) HN.out.1 (by rw [HST.out.nodes]; exact HN.out.2) (by rw [HQ1.out]; decide)⟩
        · have hlb : (lf == 0) = false := by simp [hl0]
          have HL0 := Lib.hid hl0
          clear hl0
          go_wp2_with fail
          go_meet
          case rel => exact ⟨p, sa, sc, la, lc, HK4.out.bi (by have := HI.out; omega) HN.out.1 HN.out.2 (by rw [HLV.out]; exact HL0.out)⟩
      case rest =>
      obtain ⟨p1, sa1, sc1, la1, lc1, hbi⟩ := hcut
      have HBI := Lib.hid hbi
      clear HK4 HBT HK HLV HG HLO HI hbi c0 c1 c2 c3
      obtain ⟨n9, hn9⟩ : ∃ n, (Pn.wants p1 N).length = n := ⟨_, rfl⟩
      have HN9 := Lib.hid hn9
      clear hn9
      go_wp2_with fail
      go_loopg [16, 17, 18, 19, 20, 21, 22, 23, 24, 25, 26] n9 (fun gk _ _ _ _ _ _ _ _ _ _ _ wx => ∃ (p : Pn.P) (sa : Option Addr) (sc : Nat) (la : Option Addr) (lc : Nat), BI w bp N p sa sc la lc wx ∧ (Pn.wants p N).length = gk)
      case atStart => exact ⟨p1, sa1, sc1, la1, lc1, HBI.out, HN9.out⟩
      case round =>
        obtain ⟨p, sa, sc, la, lc, hbi, hgk⟩ := hrel
        have HB := Lib.hid hbi
        have HGK := Lib.hid hgk
        obtain ⟨c0, c1, c2, c3⟩ := hbi.box.blk.cells4
        have HWA : Hid (∀ wx, Below wr.heap.size wr wx → Calls Tryd.prog 18 #[.agg #[.int .i64 p.nodes, .int .i64 p.copies, .slice sa p.parts.length sc, .slice la p.lives.length lc], .int .i64 N] wx fun e w' => LstOut wx (Pn.nums (Pn.wants p N)) e w') := Lib.hid fun wx hb =>
          wants_any _ p N wx (HB.out.box.rd.below hb) (by have := HB.out.good.parts_len; omega) (fun x hx => by have := HB.out.good.ch_len x hx; omega)
        have HRN : Hid (∀ k ks, Pn.wants p N = k :: ks → ∃ q r a, Pn.Rnd p q r N k ks a) := Lib.hid fun k ks h => Pn.round HB.out.good HB.out.n1 HB.out.n2 HB.out.lf h (fun x hx => by
          have := HB.out.lo k (by rw [h]; exact List.mem_cons_self ..) x hx
          omega)
        obtain ⟨wl, hwl⟩ : ∃ l, Pn.wants p N = l := ⟨_, rfl⟩
        have HWL := Lib.hid hwl
        rw [hwl] at HWA HGK
        clear hbi hgk hwl HBI HN9
        go_wp2_with fail
        refine (HWA.out wr (Below.refl _ _)).mono ?_
        rintro e w4 ⟨hb4, v4, g4, rfl, hz4⟩
        obtain ⟨a4, k4, rfl⟩ := hz4.ns.form
        have HB4 := Lib.hid (HB.out.below hb4)
        have HLB4 := Lib.hid hb4
        clear hz4 hb4 c0 c1 c2 c3
        cases wl with
        | nil =>
          have h0 : (Pn.nums []).length = 0 := rfl
          rw [h0]
          go_wp2_with fail
          go_ret
          exact ⟨rfl, HB4.out.low⟩
        | cons k ks =>
          obtain ⟨q, r, ⟨ae, ac, al⟩, hrd⟩ := HRN.out k ks HWL.out
          have HRD := Lib.hid hrd
          have hae1 : 1 ≤ ae := (HB.out.good.pl _ (List.mem_of_getElem? hrd.at0)).e1
          have hae2 : ae ≤ 1000 := HB.out.lo k (by rw [HWL.out]; exact List.mem_cons_self ..) _ hrd.at0
          have hac5 : ac.length ≤ 5 := HB.out.good.ch_len _ (List.mem_of_getElem? hrd.at0)
          have hkp : k < p.parts.length := (List.getElem?_eq_some_iff.1 hrd.at0).1
          have hkq : k < q.parts.length := (List.getElem?_eq_some_iff.1 hrd.qat).1
          have hkr : k < r.parts.length := (List.getElem?_eq_some_iff.1 hrd.rat).1
          obtain ⟨wn, hwn⟩ : ∃ n, (Pn.nums (k :: ks)).length = n := ⟨_, rfl⟩
          have hwp : (0 : Int) < (wn : Int) := by
            have : wn = ks.length + 1 := by rw [← hwn]; simp [Pn.nums]
            omega
          rw [hwn]
          obtain ⟨c0, c1, c2, c3⟩ := HB4.out.box.blk.cells4
          clear hrd
          go_wp2_with fail
          refine (HWA.out w4 HLB4.out).mono ?_
          rintro e w5 ⟨hb5, v5, g5, rfl, hz5⟩
          obtain ⟨b5, p5, cap5, rfl, -, -, q5⟩ := hz5.ns.at (j := 0) (x := (k : Int)) rfl
          rw [hwn]
          simp only [Nat.add_zero] at q5
          have HB5 := Lib.hid (HB4.out.below hb5)
          have HJ : Hid (Calls Tryd.prog 10 #[.agg #[.int .i64 p.nodes, .int .i64 p.copies, .slice sa p.parts.length sc, .slice la p.lives.length lc], .agg #[.int .i64 5, .int .i64 N, .int .i64 (k : Int), .int .i64 0]] w5 fun e w' => ApM w5 (.ok q [k]) e w') := Lib.hid (by rw [← HRD.out.join]; exact mapply HB5.out.box.rd HB5.out.good)
          clear c0 c1 c2 c3 hz5 hb5 hwn
          obtain ⟨c0, c1, c2, c3⟩ := HB5.out.box.blk.cells4
          go_wp2_with fail
          refine HJ.out.mono ?_
          rintro e w6 ⟨hb6, sa6, sc6, la6, lc6, ta6, tc6, rfl, hp6, -⟩
          simp only [Pn.rp, Pn.rt, Pn.rc] at hp6 ⊢
          obtain ⟨W7, hW7⟩ : ∃ W, w6.alloc (.cells #[.int .i64 q.nodes, .int .i64 q.copies, .slice sa6 q.parts.length sc6, .slice la6 q.lives.length lc6] 28) = W := ⟨_, rfl⟩
          have hb7 : Below w6.heap.size w6 W7 := by rw [← hW7]; exact (Below.refl _ _).alloc (Nat.le_refl _) _
          have HQ7 : Hid (PBox w6.heap.size (fun b => b ≠ w6.heap.size) W7 q sa6 sc6 la6 lc6) := Lib.hid (by rw [← hW7]; exact PBox.made hp6)
          have HB7 := Lib.hid (HB5.out.below (hb6.trans (hb7.mono hb6.size)))
          have HW7 := Lib.hid hW7
          clear hW7 hb6 hb7 hp6 c0 c1 c2 c3 q5 HJ
          go_upto_region 19 with fail
          rw [HW7.out]
          clear HW7
          obtain ⟨b17, hb17⟩ : ∃ b, w6.heap.size = b := ⟨_, rfl⟩
          rw [hb17] at HQ7 ⊢
          clear hb17
          obtain ⟨d0, d1, d2, d3⟩ := HQ7.out.blk.cells4
          obtain ⟨c0, c1, c2, c3⟩ := HB7.out.box.blk.cells4
          obtain ⟨bq, pq, kq, vq, eq, -, -, -, -, -, l2⟩ := HQ7.out.rd.ps.1.at HRD.out.qat
          obtain ⟨bz, pz, kz, vz, ez, -, -, zn, z0, z1, -⟩ := HB7.out.box.rd.ps.1.at HRD.out.at0
          obtain rfl : sa6 = some ⟨bq, pq, none⟩ := by injection eq
          obtain rfl : sa = some ⟨bz, pz, none⟩ := by injection ez
          simp only at l2 z0 z1 zn
          obtain ⟨za, zc, rfl⟩ := zn.form
          obtain ⟨an, han⟩ : ∃ n, ac.length = n := ⟨_, rfl⟩
          have HAN := Lib.hid han
          rw [han] at hac5
          have HPL7 := Lib.hid HB7.out.box.rd.lt
          have HQL7 := Lib.hid HQ7.out.rd.lt
          have HLTB : Hid (bp < W7.heap.size ∧ b17 < W7.heap.size) := Lib.hid ⟨HB7.out.box.blk.lt, HQ7.out.blk.lt⟩
          have i0 : (0 : Int) ≤ (k : Int) := by omega
          have i1 : (k : Int) < (p.parts.length : Int) := by omega
          have i2 : (k : Int) < (q.parts.length : Int) := by omega
          have i3 : (k : Int) < (r.parts.length : Int) := by omega
          obtain ⟨W8, hW8⟩ : ∃ W, W7.alloc (.cells #[.int .i64 3, .int .i64 N, .int .i64 (k : Int), .int .i64 ae] 35) = W := ⟨_, rfl⟩
          have hb8 : Below W7.heap.size W7 W8 := by rw [← hW8]; exact (Below.refl _ _).alloc (Nat.le_refl _) _
          have HE8 : Hid (Blk W8 W7.heap.size #[.int .i64 3, .int .i64 N, .int .i64 (k : Int), .int .i64 ae] 35) := Lib.hid (by rw [← hW8]; exact Blk.new _ _ _)
          have HB8 := Lib.hid (HB7.out.below hb8)
          have HQ8 := Lib.hid (HQ7.out.below hb8)
          have HPL8 := Lib.hid (HPL7.out.below hb8)
          have HQL8 := Lib.hid (HQL7.out.below hb8)
          have HLT : Hid (Calls Tryd.prog 10 #[.agg #[.int .i64 q.nodes, .int .i64 q.copies, .slice (some ⟨bq, pq, none⟩) q.parts.length sc6, .slice la6 q.lives.length lc6], .agg #[.int .i64 3, .int .i64 N, .int .i64 (k : Int), .int .i64 ae]] W8 fun e w' => ApM W8 (.bad 21) e w') := Lib.hid (by rw [← HRD.out.late]; exact mapply HQ8.out.rd HRD.out.good)
          have HW8 := Lib.hid hW8
          clear hW8 hb8 zn z1 eq ez han
          go_upto_region 22 with fail
          rw [HW8.out]
          clear HW8 c0 c1 c2 c3 d0 d1 d2 d3 l2 z0
          obtain ⟨b20, hb20⟩ : ∃ b, W7.heap.size = b := ⟨_, rfl⟩
          rw [hb20] at HE8 HPL8 HQL8 HLTB ⊢
          clear HPL7 HQL7
          clear hb20
          obtain ⟨d0, d1, d2, d3⟩ := HQ8.out.blk.cells4
          obtain ⟨e0, e1, e2, e3⟩ := HE8.out.cells4
          go_wp2_with fail
          refine HLT.out.mono ?_
          rintro e w9 ⟨hb9, sa9, sc9, la9, lc9, ta9, tc9, rfl, -, -⟩
          simp only [Pn.rp, Pn.rt, Pn.rc, Pn.zeroP, List.length_nil]
          obtain ⟨W10, hW10⟩ : ∃ W, w9.alloc (.cells #[.int .i64 0, .int .i64 0, .slice sa9 0 sc9, .slice la9 0 lc9] 28) = W := ⟨_, rfl⟩
          have hb10 : Below w9.heap.size w9 W10 := by rw [← hW10]; exact (Below.refl _ _).alloc (Nat.le_refl _) _
          have hb89 := hb9.trans (hb10.mono hb9.size)
          have HB10 := Lib.hid (HB8.out.below hb89)
          have HQ10 := Lib.hid (HQ8.out.below hb89)
          have HE10 := Lib.hid (HE8.out.below hb89)
          have HPL10 := Lib.hid (HPL8.out.below hb89)
          have HQL10 := Lib.hid (HQL8.out.below hb89)
          have HW10 := Lib.hid hW10
          clear hW10 hb9 hb10 hb89 d0 d1 d2 d3 e0 e1 e2 e3 HLT
          go_upto_region 23 with fail
          rw [HW10.out]
          clear HW10
          obtain ⟨e0, e1, e2, e3⟩ := HE10.out.cells4
          obtain ⟨y0, y1, y2, y3⟩ := HE10.out.free4
          obtain ⟨W11, hW11⟩ : ∃ W, W10.setCell ⟨b20, 3, none⟩ (.int .i64 (ae + 1)) = W := ⟨_, rfl⟩
          have hk11 : Kb b20 W10 W11 := by rw [← hW11]; exact Kb.setCell _ _
          have HB11 := Lib.hid (HB10.out.kb HPL10.out hk11 HLTB.out.1 (Nat.le_refl _) HE10.out.lt)
          have HQ11 := Lib.hid (HQ10.out.kb2 HQL10.out hk11 HLTB.out.2 (Nat.le_refl _))
          have HE11 : Hid (Blk W11 b20 #[.int .i64 3, .int .i64 N, .int .i64 (k : Int), .int .i64 (ae + 1)] 35) := Lib.hid (by rw [← hW11]; exact HE10.out.set (i := 3) _)
          have HRY : Hid (Calls Tryd.prog 10 #[.agg #[.int .i64 q.nodes, .int .i64 q.copies, .slice (some ⟨bq, pq, none⟩) q.parts.length sc6, .slice la6 q.lives.length lc6], .agg #[.int .i64 3, .int .i64 N, .int .i64 (k : Int), .int .i64 (ae + 1)]] W11 fun e w' => ApM W11 (.ok r [k]) e w') := Lib.hid (by rw [← HRD.out.ready]; exact mapply HQ11.out.rd HRD.out.good)
          have HW11 := Lib.hid hW11
          clear hW11 hk11 HPL10 HQL10 HPL8 HQL8
          go_upto_region 26 with fail
          rw [HW11.out]
          clear HW11 e0 e1 e2 e3 y0 y1 y2 y3
          obtain ⟨d0, d1, d2, d3⟩ := HQ11.out.blk.cells4
          obtain ⟨e0, e1, e2, e3⟩ := HE11.out.cells4
          go_wp2_with fail
          refine HRY.out.mono ?_
          rintro e w12 ⟨hb12, sa12, sc12, la12, lc12, ta12, tc12, rfl, hp12, -⟩
          simp only [Pn.rp, Pn.rt, Pn.rc] at hp12 ⊢
          obtain ⟨W13, hW13⟩ : ∃ W, w12.alloc (.cells #[.int .i64 r.nodes, .int .i64 r.copies, .slice sa12 r.parts.length sc12, .slice la12 r.lives.length lc12] 28) = W := ⟨_, rfl⟩
          have hb13 : Below w12.heap.size w12 W13 := by rw [← hW13]; exact (Below.refl _ _).alloc (Nat.le_refl _) _
          have HR13 : Hid (PBox w12.heap.size (fun b => W11.heap.size ≤ b ∧ b ≠ w12.heap.size) W13 r sa12 sc12 la12 lc12) := Lib.hid (by rw [← hW13]; exact PBox.made2 hp12)
          have HB13 := Lib.hid (HB11.out.below (hb12.trans (hb13.mono hb12.size)))
          have HW13 := Lib.hid hW13
          clear hW13 hb12 hb13 hp12 d0 d1 d2 d3 e0 e1 e2 e3 HRY
          go_upto_region 27 with fail
          rw [HW13.out]
          clear HW13
          obtain ⟨f0, f1, f2, f3⟩ := HR13.out.blk.cells4
          obtain ⟨c0, c1, c2, c3⟩ := HB13.out.box.blk.cells4
          obtain ⟨br, pr, kr, vr, er, -, -, rn, -, r1, r2⟩ := HR13.out.rd.ps.1.at HRD.out.rat
          obtain ⟨bz', pz', kz', vz', ez', -, -, zn', -, z1', -⟩ := HB13.out.box.rd.ps.1.at HRD.out.at0
          obtain rfl : sa12 = some ⟨br, pr, none⟩ := by injection er
          obtain ⟨rfl, rfl⟩ : bz = bz' ∧ pz = pz' := by injection ez' with ez'; injection ez' with ez'; injection ez' with h1 h2; exact ⟨h1, h2⟩
          simp only at r1 r2 z1' rn zn'
          obtain ⟨rv, rp', rcap, rfl, -, -, r4⟩ := rn.at (j := an) (x := N) (by rw [List.getElem?_append_right (by rw [HAN.out]; exact Nat.le_refl _), HAN.out, Nat.sub_self]; rfl)
          obtain ⟨za', zc', rfl⟩ := zn'.form
          rw [HAN.out] at z1'
          rw [List.length_append, HAN.out] at r1
          simp only [List.length_cons, List.length_nil, Nat.zero_add] at r1
          have w1 : IntKind.i64.wrap ((an : Int) + 1 - 1) = (an : Int) := by rw [IntKind.wrap_i64]; omega
          have w2 : IntKind.i64.wrap ((an : Int) + 1) = (an : Int) + 1 := by rw [IntKind.wrap_i64]; omega
          have w3 : IntKind.i64.wrap (an : Int) = (an : Int) := by rw [IntKind.wrap_i64]; omega
          have u0 : (0 : Int) ≤ (an : Int) := by omega
          have u1 : (an : Int) < (an : Int) + 1 := by omega
          have HBPZ : Hid (bp < W11.heap.size) := Lib.hid HB11.out.box.blk.lt
          clear er ez' rn zn'
          go_upto_region 28 with fail
          go_quiet (fail)
          obtain ⟨W14, hW14⟩ : ∃ W, W13.drewN nq = W := ⟨_, rfl⟩
          have hb14 : Below W13.heap.size W13 W14 := by rw [← hW14]; exact below_drewN _ _
          have HB14 := Lib.hid (HB13.out.below hb14)
          have HR14 := Lib.hid (HR13.out.below hb14)
          rw [hW14]
          clear hW14 hb14 c0 c1 c2 c3 f0 f1 f2 f3 r1 r2 r4 z1' w1 w2 w3 u0 u1
          obtain ⟨f0, f1, f2, f3⟩ := HR14.out.blk.cells4
          obtain ⟨c0, c1, c2, c3⟩ := HB14.out.box.blk.cells4
          obtain ⟨y0, y1, y2, y3⟩ := HB14.out.box.blk.free4
          have HB15 := Lib.hid (HB14.out.put HRD.out HWL.out HR14.out HBPZ.out)
          obtain ⟨W15, hW15⟩ : ∃ W, ((((W14.setCell ⟨bp, 0, none⟩ (.int .i64 r.nodes)).setCell ⟨bp, 1, none⟩ (.int .i64 r.copies)).setCell ⟨bp, 2, none⟩ (.slice (some ⟨br, pr, none⟩) r.parts.length sc12)).setCell ⟨bp, 3, none⟩ (.slice la12 r.lives.length lc12)) = W := ⟨_, rfl⟩
          rw [hW15] at HB15
          go_wp2_with fail
          go_roundg ks.length
          case measure => have := HGK.out; simp only [List.length_cons] at this; omega
          case rel => exact ⟨r, _, _, _, _, HB15.out, by rw [HRD.out.wants]⟩
end Go.Proofs.YtmkinnheoejphaaDoor
