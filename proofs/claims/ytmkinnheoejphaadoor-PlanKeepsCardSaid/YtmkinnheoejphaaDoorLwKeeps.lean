/- THE WALK OF PlanKeeps. -/
import Derived.Test.YtmkinnheoejphaaDoorLwE
import Derived.Deep.RegionHeld3
import Derived.Deep.CutRange
import Derived.Deep.CutBlock
import Derived.Deep.DeepCutAuto
namespace Go.Proofs.YtmkinnheoejphaaDoor
open Go.RowKit

set_option maxHeartbeats 8000000 in
set_option maxRecDepth 100000 in
theorem keeps_any {A : Nat → Prop} (s0 s1 s2 : Int) (ev : Value) (l : List Pn.Ev) (w : World) (lb : Lb w) (hA : Evs A w ev l) :
    Calls Tryd.prog 7 #[.agg #[.int .i64 s0, .int .i64 s1, .int .i64 s2], ev] w fun e w' => e = .returned (.bool true) ∧ Below w.heap.size w w' := by
  obtain ⟨ea, ec, rfl⟩ := hA.form
  obtain ⟨m, hm⟩ : ∃ m, l.length = m := ⟨_, rfl⟩
  have HM := Lib.hid hm
  have HEV : Hid (∀ wx, Below w.heap.size w wx → Evs A wx (.slice ea m ec) l) := Lib.hid fun wx hb => by rw [← hm]; exact Rds.below hA hb
  rw [hm]
  obtain ⟨W1, hW1⟩ : ∃ W, w.alloc (.cells #[.int .i64 s0, .int .i64 s1, .int .i64 s2] 22) = W := ⟨_, rfl⟩
  have hb1 : Below w.heap.size w W1 := by rw [← hW1]; exact (Below.refl _ _).alloc (Nat.le_refl _) _
  have k1 : Blk W1 w.heap.size #[.int .i64 s0, .int .i64 s1, .int .i64 s2] 22 := by rw [← hW1]; exact Blk.new _ _ _
  have HB1 := Lib.hid hb1
  have HK1 := Lib.hid k1
  have HLB1 := Lib.hid (lb.below lb.size hb1)
  clear hb1 k1 hA hm lb
  go_enter Tryd.func7, Tryd.ntmps7
  go_upto_region 1 with fail
  clear hW1
  go_wp2_with fail
  refine (awake_any W1 HLB1.out).mono ?_
  rintro e w2 ⟨rfl, hb2⟩
  have HB2 := Lib.hid (HB1.out.trans (hb2.mono HB1.out.size))
  obtain ⟨x0, x1, x2⟩ := (HK1.out.below hb2).cells3
  clear hb2 HK1 HLB1
  go_wp2_with fail
  refine (begun_any s0 s1 s2 w2).mono ?_
  rintro e w3 ⟨hb3, n0, c0, m0, pv, hlay, rfl, hp3⟩
  have HB3 := Lib.hid (HB2.out.trans (hb3.mono HB2.out.size))
  obtain ⟨sa, sc, la, lc, rfl, hrd⟩ := hp3.begun
  have HG0 := Lib.hid (Pn.new_good hlay)
  have HE0 : Hid (∀ x ∈ (Pn.new n0 c0 m0).parts, x.ep ≤ 1) := Lib.hid fun x hx => by rw [Pn.new_low x hx]; exact Int.le_refl _
  obtain ⟨p0, hp0⟩ : ∃ p, Pn.new n0 c0 m0 = p := ⟨_, rfl⟩
  rw [hp0] at hrd HG0 HE0 ⊢
  have HRD := Lib.hid hrd
  clear x0 x1 x2 hb3 hlay hp3 hp0 hrd
  unfold plV
  obtain ⟨W4, hW4⟩ : ∃ W, w3.alloc (.cells #[.int .i64 p0.nodes, .int .i64 p0.copies, .slice sa p0.parts.length sc, .slice la p0.lives.length lc] 28) = W := ⟨_, rfl⟩
  have hb4 : Below w3.heap.size w3 W4 := by rw [← hW4]; exact (Below.refl _ _).alloc (Nat.le_refl _) _
  have HBX : Hid (PBox w3.heap.size (fun b => b ≠ w3.heap.size) W4 p0 sa sc la lc) := Lib.hid (by rw [← hW4]; exact PBox.made HRD.out)
  have HB4 := Lib.hid (HB3.out.trans (hb4.mono HB3.out.size))
  have HW4 := Lib.hid hW4
  have HLE : Hid (w.heap.size ≤ w3.heap.size) := Lib.hid HB3.out.size
  have HKI : Hid (KI w w3.heap.size 0 p0 sa sc la lc W4) := Lib.hid ⟨HB4.out, HG0.out, HE0.out, HBX.out, HLE.out⟩
  clear hb4 hW4 HRD
  go_upto_region 4 with fail
  rw [HW4.out]
  clear HW4
  obtain ⟨bp, hbp⟩ : ∃ b, w3.heap.size = b := ⟨_, rfl⟩
  rw [hbp] at HKI ⊢
  clear hbp HBX HB4 HLE HB3 HB2 HB1 HG0 HE0
  go_wp2_with fail
  go_loopw [6, 7, 8, 9, 10, 11, 12, 13, 14, 15] (fun si _ _ _ _ _ _ _ _ _ wr => ∃ (i : Nat) (p : Pn.P) (sa : Option Addr) (sc : Nat) (la : Option Addr) (lc : Nat), i ≤ m ∧ i ≤ 150 ∧ si = .int .i64 i ∧ KI w bp i p sa sc la lc wr) (fun si _ _ _ _ _ _ _ _ _ _ => m - (intOf si).toNat)
  case atStart => exact ⟨0, p0, sa, sc, la, lc, Nat.zero_le _, by omega, rfl, HKI.out⟩
  case round =>
    clear HKI
    obtain ⟨i, p, sa, sc, la, lc, hi, hi150, rfl, hki⟩ := hrel
    have HK := Lib.hid hki
    have HG := Lib.hid hki.good
    have HBW := Lib.hid hki.low
    clear hki
    by_cases h1 : i < m ∧ i < 150
    · obtain ⟨h1, h2⟩ := h1
      obtain ⟨x, hx⟩ : ∃ x, l[i]? = some x := ⟨_, List.getElem?_eq_getElem (by rw [HM.out]; exact h1)⟩
      obtain ⟨eb, ep, ek, he1, -, hebl, -⟩ := (HEV.out _ (Below.refl _ _)).at hx
      rw [HM.out] at he1
      obtain rfl : ea = some ⟨eb, ep, none⟩ := by injection he1
      have HEC : Hid (∀ wx, Below w.heap.size w wx → wx.cell? ⟨eb, ep + i * 4, none⟩ = some (.int .i64 x.kind) ∧ wx.cell? ⟨eb, ep + i * 4 + 1, none⟩ = some (.int .i64 x.node) ∧ wx.cell? ⟨eb, ep + i * 4 + 2, none⟩ = some (.int .i64 x.part) ∧ wx.cell? ⟨eb, ep + i * 4 + 3, none⟩ = some (.int .i64 x.n)) := Lib.hid fun wx hb => by
        obtain ⟨eb', ep', ek', he2, -, -, q0, q1, q2, q3⟩ := (HEV.out wx hb).at hx
        injection he2 with he2
        injection he2 with he2
        injection he2 with he2 he3
        subst he2 he3
        exact ⟨q0, q1, q2, q3⟩
      have i0 : (0 : Int) ≤ (i : Int) := by omega
      have i1 : (i : Int) < (m : Int) := by omega
      have i2 : (i : Int) < 150 := by omega
      have i3 : i < 150 := h2
      have HEB : Hid (eb < w.heap.size) := Lib.hid hebl
      obtain ⟨R, hR⟩ : ∃ R, Pn.apply p x = R := ⟨_, rfl⟩
      have HRR := Lib.hid hR
      have HX9 := Lib.hid hx
      clear hx he1 hebl hR
      obtain ⟨c0, c1, c2, c3⟩ := (HK.out.box).blk.cells4
      obtain ⟨e0, e1, e2, e3⟩ := HEC.out wr HBW.out
      have HAP : Hid (∀ wx, Below wr.heap.size wr wx → Calls Tryd.prog 10 #[.agg #[.int .i64 p.nodes, .int .i64 p.copies, .slice sa p.parts.length sc, .slice la p.lives.length lc], .agg #[.int .i64 x.kind, .int .i64 x.node, .int .i64 x.part, .int .i64 x.n]] wx fun e w' => ApM wx (Pn.apply p x) e w') := Lib.hid fun wx hb => mapply ((HK.out.box).rd.below hb) HG.out
      have HX := Lib.hid (drew_refl wr)
      have HXA : Hid (∀ o, Below wr.heap.size wr.drew (wr.alloc o).drew) := Lib.hid (alloc_drew wr)
      have HZ : Hid (Blk (wr.alloc (.cells #[.int .i64 0, .int .i64 0, .slice none 0 0, .slice none 0 0] 28)).drew wr.heap.size #[.int .i64 0, .int .i64 0, .slice none 0 0, .slice none 0 0] 28) := Lib.hid (Blk.new wr _ _)
      have HNP : Hid (bp ≠ wr.heap.size) := Lib.hid (by have := (HK.out.box).blk.lt; omega)
      have HNV : Hid (eb ≠ wr.heap.size) := Lib.hid (by have : eb < wr.heap.size := block_lt_of_cell e0; omega)
      rw [HRR.out] at HAP
      go_upto_region 7 with fail
      go_cut [7, 8, 9] from 20 to 81 (fun sq st sr wx => ApB wr R sq st sr wx)
      case first =>
        have hB := HX.out
        go_region_held3 (fun w' => w'.cell? ⟨bp, 0, none⟩ = some (.int .i64 p.nodes) ∧ w'.cell? ⟨bp, 1, none⟩ = some (.int .i64 p.copies) ∧ w'.cell? ⟨bp, 2, none⟩ = some (.slice sa p.parts.length sc) ∧ w'.cell? ⟨bp, 3, none⟩ = some (.slice la p.lives.length lc) ∧ w'.cell? ⟨eb, ep + i * 4, none⟩ = some (.int .i64 x.kind) ∧ w'.cell? ⟨eb, ep + i * 4 + 1, none⟩ = some (.int .i64 x.node) ∧ w'.cell? ⟨eb, ep + i * 4 + 2, none⟩ = some (.int .i64 x.part) ∧ w'.cell? ⟨eb, ep + i * 4 + 3, none⟩ = some (.int .i64 x.n))
          (first | with_reducible exact ⟨dcell hB c0, dcell hB c1, dcell hB c2, dcell hB c3, dcell hB e0, dcell hB e1, dcell hB e2, dcell hB e3⟩ | with_reducible exact ⟨far4 HNP.out (dcell hB c0), far4 HNP.out (dcell hB c1), far4 HNP.out (dcell hB c2), far4 HNP.out (dcell hB c3), far4 HNV.out (dcell hB e0), far4 HNV.out (dcell hB e1), far4 HNV.out (dcell hB e2), far4 HNV.out (dcell hB e3)⟩ | with_reducible exact ⟨dcell (HXA.out _) c0, dcell (HXA.out _) c1, dcell (HXA.out _) c2, dcell (HXA.out _) c3, dcell (HXA.out _) e0, dcell (HXA.out _) e1, dcell (HXA.out _) e2, dcell (HXA.out _) e3⟩ | with_reducible exact ⟨farB (dcell hB c0), farB (dcell hB c1), farB (dcell hB c2), farB (dcell hB c3), farB (dcell hB e0), farB (dcell hB e1), farB (dcell hB e2), farB (dcell hB e3)⟩ | fail)
          (first
            | (go_at_call 10; ((first | with_reducible refine (HAP.out _ (of_drew HX.out)).mono ?_ | with_reducible refine (HAP.out _ (of_drew (HXA.out _))).mono ?_); rintro e w3 ⟨hb3, sa3, sc3, la3, lc3, ta3, tc3, rfl, hp3, ht3⟩; have hB := (show Below wr.heap.size wr.drew w3 by first | with_reducible exact drew_trans HX.out hb3 | with_reducible exact drew_trans (HXA.out _) hb3); have HP3 := Lib.hid hp3; have HT3 := Lib.hid ht3; try (obtain ⟨z0, z1, z2, z3⟩ := (HZ.out.below hb3).cells4; obtain ⟨y0, y1, y2, y3⟩ := (HZ.out.below hb3).free4); have HB3 := Lib.hid hb3; clear hp3 ht3 hb3))
            | fail)
        all_goals
          go_wp2_with fail
          go_meet
          case rel =>
            first
              | with_reducible exact ApB.late hB HP3.out HT3.out
              | with_reducible exact ApB.early HB3.out HP3.out HT3.out
              | exact ApB.late hB HP3.out HT3.out
              | exact ApB.early HB3.out HP3.out HT3.out
      case rest =>
      obtain ⟨hba, b7, sa7, sc7, la7, lc7, ta7, tc7, rfl, rfl, rfl, hle7, hbox7, -⟩ := hcut
      have HBA := Lib.hid hba
      have HBX7 := Lib.hid hbox7
      have HL7 := Lib.hid hle7
      have HK2 := Lib.hid (HK.out.below hba)
      clear c0 c1 c2 c3 e0 e1 e2 e3 HAP HX HXA HZ HNP HNV hba hbox7 hle7 HBW
      have HBW := Lib.hid HK2.out.low
      obtain ⟨c0, c1, c2, c3⟩ := (HK2.out.box).blk.cells4
      obtain ⟨e0, e1, e2, e3⟩ := HEC.out wc HBW.out
      have HAP : Hid (∀ wx, Below wc.heap.size wc wx → Calls Tryd.prog 10 #[.agg #[.int .i64 p.nodes, .int .i64 p.copies, .slice sa p.parts.length sc, .slice la p.lives.length lc], .agg #[.int .i64 x.kind, .int .i64 x.node, .int .i64 x.part, .int .i64 x.n]] wx fun e w' => ApM wx (Pn.apply p x) e w') := Lib.hid fun wx hb => mapply ((HK2.out.box).rd.below hb) HG.out
      have HX := Lib.hid (drew_refl wc)
      have HXA : Hid (∀ o, Below wc.heap.size wc.drew (wc.alloc o).drew) := Lib.hid (alloc_drew wc)
      have HZ : Hid (Blk (wc.alloc (.cells #[.int .i64 0, .int .i64 0, .slice none 0 0, .slice none 0 0] 28)).drew wc.heap.size #[.int .i64 0, .int .i64 0, .slice none 0 0, .slice none 0 0] 28) := Lib.hid (Blk.new wc _ _)
      have HNP : Hid (bp ≠ wc.heap.size) := Lib.hid (by have := (HK2.out.box).blk.lt; omega)
      have HNV : Hid (eb ≠ wc.heap.size) := Lib.hid (by have : eb < wc.heap.size := block_lt_of_cell e0; omega)
      rw [HRR.out] at HAP
      go_upto_region 8 with fail
      go_cut [10, 11, 12] from 20 to 81 (fun sq st sr wx => ApB wc R sq st sr wx)
      case first =>
        have hB := HX.out
        go_region_held3 (fun w' => w'.cell? ⟨bp, 0, none⟩ = some (.int .i64 p.nodes) ∧ w'.cell? ⟨bp, 1, none⟩ = some (.int .i64 p.copies) ∧ w'.cell? ⟨bp, 2, none⟩ = some (.slice sa p.parts.length sc) ∧ w'.cell? ⟨bp, 3, none⟩ = some (.slice la p.lives.length lc) ∧ w'.cell? ⟨eb, ep + i * 4, none⟩ = some (.int .i64 x.kind) ∧ w'.cell? ⟨eb, ep + i * 4 + 1, none⟩ = some (.int .i64 x.node) ∧ w'.cell? ⟨eb, ep + i * 4 + 2, none⟩ = some (.int .i64 x.part) ∧ w'.cell? ⟨eb, ep + i * 4 + 3, none⟩ = some (.int .i64 x.n))
          (first | with_reducible exact ⟨dcell hB c0, dcell hB c1, dcell hB c2, dcell hB c3, dcell hB e0, dcell hB e1, dcell hB e2, dcell hB e3⟩ | with_reducible exact ⟨far4 HNP.out (dcell hB c0), far4 HNP.out (dcell hB c1), far4 HNP.out (dcell hB c2), far4 HNP.out (dcell hB c3), far4 HNV.out (dcell hB e0), far4 HNV.out (dcell hB e1), far4 HNV.out (dcell hB e2), far4 HNV.out (dcell hB e3)⟩ | with_reducible exact ⟨dcell (HXA.out _) c0, dcell (HXA.out _) c1, dcell (HXA.out _) c2, dcell (HXA.out _) c3, dcell (HXA.out _) e0, dcell (HXA.out _) e1, dcell (HXA.out _) e2, dcell (HXA.out _) e3⟩ | with_reducible exact ⟨farB (dcell hB c0), farB (dcell hB c1), farB (dcell hB c2), farB (dcell hB c3), farB (dcell hB e0), farB (dcell hB e1), farB (dcell hB e2), farB (dcell hB e3)⟩ | fail)
          (first
            | (go_at_call 10; ((first | with_reducible refine (HAP.out _ (of_drew HX.out)).mono ?_ | with_reducible refine (HAP.out _ (of_drew (HXA.out _))).mono ?_); rintro e w3 ⟨hb3, sa3, sc3, la3, lc3, ta3, tc3, rfl, hp3, ht3⟩; have hB := (show Below wc.heap.size wc.drew w3 by first | with_reducible exact drew_trans HX.out hb3 | with_reducible exact drew_trans (HXA.out _) hb3); have HP3 := Lib.hid hp3; have HT3 := Lib.hid ht3; try (obtain ⟨z0, z1, z2, z3⟩ := (HZ.out.below hb3).cells4; obtain ⟨y0, y1, y2, y3⟩ := (HZ.out.below hb3).free4); have HB3 := Lib.hid hb3; clear hp3 ht3 hb3))
            | fail)
        all_goals
          go_wp2_with fail
          go_meet
          case rel =>
            first
              | with_reducible exact ApB.late hB HP3.out HT3.out
              | with_reducible exact ApB.early HB3.out HP3.out HT3.out
              | exact ApB.late hB HP3.out HT3.out
              | exact ApB.early HB3.out HP3.out HT3.out
      case rest =>
      obtain ⟨hba, b10, sa10, sc10, la10, lc10, ta10, tc10, rfl, rfl, rfl, hle10, hbox10, -⟩ := hcut
      have HBX7' := Lib.hid (HBX7.out.below hba)
      have HBX10 := Lib.hid hbox10
      have HK3 := Lib.hid (HK2.out.below hba)
      clear c0 c1 c2 c3 e0 e1 e2 e3 HAP HX HXA HZ HNP HNV hba hbox10 hle10 HBW
      have HBW := Lib.hid HK3.out.low
      have HGR : Hid (Pn.GoodG (Pn.rp R) ∨ Pn.rp R = Pn.zeroP) := Lib.hid (by
        have h := HRR.out
        cases R with
        | bad c => exact .inr rfl
        | ok q t => exact .inl (Pn.step_of h).good)
      have HSM := Lib.hid (lsame _ _ _ wc HBX7'.out.rd HBX10.out.rd HGR.out)
      unfold plV at HSM
      obtain ⟨c0, c1, c2, c3⟩ := HBX7'.out.blk.cells4
      obtain ⟨d0, d1, d2, d3⟩ := HBX10.out.blk.cells4
      obtain ⟨cd, hcd⟩ : ∃ c, Pn.rc R = c := ⟨_, rfl⟩
      have HCD := Lib.hid hcd
      rw [hcd]
      have hcc : (cd != cd) = false := by simp
      clear hcd
      go_wp2_with fail
      refine HSM.out.mono ?_
      rintro e w6 ⟨rfl, hb6⟩
      have HB6 := Lib.hid hb6
      have HK4 := Lib.hid (HK3.out.below hb6)
      have HBX6 := Lib.hid (HBX7'.out.below hb6)
      clear hb6 c0 c1 c2 c3 d0 d1 d2 d3 HSM HBW
      cases hR : R with
      | bad c =>
        rw [hR] at HRR HCD
        have hc0 : (cd != 0) = true := by
          have := HCD.out
          simp only [Pn.rc] at this
          have := Pn.bad_code HRR.out
          simp
          omega
        clear hR
        go_wp2_with fail
        go_roundw
        case rel => exact ⟨i + 1, p, sa, sc, la, lc, by omega, by omega, by go_num, HK4.out.next⟩
        case measure => simp [intOf]; omega
      | ok q t =>
        rw [hR] at HRR HCD HBX6
        obtain rfl : cd = 0 := HCD.out.symm
        have HST := Lib.hid (Pn.step_of HRR.out)
        have HG2 := Lib.hid HST.out.good
        have HAG : Hid (x.kind ≠ 4 → Pn.apply q x = .bad 21) := Lib.hid (Pn.again HRR.out)
        have HK5 := Lib.hid (HK4.out.put (q := q) HBX6.out HK.out.box.blk.lt HST.out.good (fun y hy => by
          have := HST.out.low (1 + (i : Int)) (by omega) HK.out.lo y hy
          omega))
        clear hR
        simp only [Pn.rp] at HBX6
        obtain ⟨c0, c1, c2, c3⟩ := HBX6.out.blk.cells4
        obtain ⟨d0, d1, d2, d3⟩ := HK4.out.box.blk.cells4
        obtain ⟨y0, y1, y2, y3⟩ := HK4.out.box.blk.free4
        obtain ⟨W7, hW7⟩ : ∃ W, ((((w6.setCell ⟨bp, 0, none⟩ (.int .i64 q.nodes)).setCell ⟨bp, 1, none⟩ (.int .i64 q.copies)).setCell ⟨bp, 2, none⟩ (.slice sa7 q.parts.length sc7)).setCell ⟨bp, 3, none⟩ (.slice la7 q.lives.length lc7)) = W := ⟨_, rfl⟩
        rw [hW7] at HK5
        have HW7 := Lib.hid hW7
        clear hW7
        simp only [Pn.rp]
        go_upto_region 13 with fail
        rw [HW7.out]
        clear HW7 c0 c1 c2 c3 d0 d1 d2 d3 y0 y1 y2 y3
        have HBW := Lib.hid HK5.out.low
        obtain ⟨c0, c1, c2, c3⟩ := (HK5.out.box).blk.cells4
        obtain ⟨e0, e1, e2, e3⟩ := HEC.out W7 HBW.out
        have HAP : Hid (∀ wx, Below W7.heap.size W7 wx → Calls Tryd.prog 10 #[.agg #[.int .i64 q.nodes, .int .i64 q.copies, .slice sa7 q.parts.length sc7, .slice la7 q.lives.length lc7], .agg #[.int .i64 x.kind, .int .i64 x.node, .int .i64 x.part, .int .i64 x.n]] wx fun e w' => ApM wx (Pn.apply q x) e w') := Lib.hid fun wx hb => mapply ((HK5.out.box).rd.below hb) HG2.out
        have HX := Lib.hid (drew_refl W7)
        have HXA : Hid (∀ o, Below W7.heap.size W7.drew (W7.alloc o).drew) := Lib.hid (alloc_drew W7)
        have HZ : Hid (Blk (W7.alloc (.cells #[.int .i64 0, .int .i64 0, .slice none 0 0, .slice none 0 0] 28)).drew W7.heap.size #[.int .i64 0, .int .i64 0, .slice none 0 0, .slice none 0 0] 28) := Lib.hid (Blk.new W7 _ _)
        have HNP : Hid (bp ≠ W7.heap.size) := Lib.hid (by have := (HK5.out.box).blk.lt; omega)
        have HNV : Hid (eb ≠ W7.heap.size) := Lib.hid (by have : eb < W7.heap.size := block_lt_of_cell e0; omega)
        go_upto_region 13 with fail
        go_cut [13, 14, 15] from 20 to 81 (fun sq st sr wx => ApB W7 (Pn.apply q x) sq st sr wx)
        case first =>
          have hB := HX.out
          go_region_held3 (fun w' => w'.cell? ⟨bp, 0, none⟩ = some (.int .i64 q.nodes) ∧ w'.cell? ⟨bp, 1, none⟩ = some (.int .i64 q.copies) ∧ w'.cell? ⟨bp, 2, none⟩ = some (.slice sa7 q.parts.length sc7) ∧ w'.cell? ⟨bp, 3, none⟩ = some (.slice la7 q.lives.length lc7) ∧ w'.cell? ⟨eb, ep + i * 4, none⟩ = some (.int .i64 x.kind) ∧ w'.cell? ⟨eb, ep + i * 4 + 1, none⟩ = some (.int .i64 x.node) ∧ w'.cell? ⟨eb, ep + i * 4 + 2, none⟩ = some (.int .i64 x.part) ∧ w'.cell? ⟨eb, ep + i * 4 + 3, none⟩ = some (.int .i64 x.n))
            (first | with_reducible exact ⟨dcell hB c0, dcell hB c1, dcell hB c2, dcell hB c3, dcell hB e0, dcell hB e1, dcell hB e2, dcell hB e3⟩ | with_reducible exact ⟨far4 HNP.out (dcell hB c0), far4 HNP.out (dcell hB c1), far4 HNP.out (dcell hB c2), far4 HNP.out (dcell hB c3), far4 HNV.out (dcell hB e0), far4 HNV.out (dcell hB e1), far4 HNV.out (dcell hB e2), far4 HNV.out (dcell hB e3)⟩ | with_reducible exact ⟨dcell (HXA.out _) c0, dcell (HXA.out _) c1, dcell (HXA.out _) c2, dcell (HXA.out _) c3, dcell (HXA.out _) e0, dcell (HXA.out _) e1, dcell (HXA.out _) e2, dcell (HXA.out _) e3⟩ | with_reducible exact ⟨farB (dcell hB c0), farB (dcell hB c1), farB (dcell hB c2), farB (dcell hB c3), farB (dcell hB e0), farB (dcell hB e1), farB (dcell hB e2), farB (dcell hB e3)⟩ | fail)
            (first
              | (go_at_call 10; ((first | with_reducible refine (HAP.out _ (of_drew HX.out)).mono ?_ | with_reducible refine (HAP.out _ (of_drew (HXA.out _))).mono ?_); rintro e w3 ⟨hb3, sa3, sc3, la3, lc3, ta3, tc3, rfl, hp3, ht3⟩; have hB := (show Below W7.heap.size W7.drew w3 by first | with_reducible exact drew_trans HX.out hb3 | with_reducible exact drew_trans (HXA.out _) hb3); have HP3 := Lib.hid hp3; have HT3 := Lib.hid ht3; try (obtain ⟨z0, z1, z2, z3⟩ := (HZ.out.below hb3).cells4; obtain ⟨y0, y1, y2, y3⟩ := (HZ.out.below hb3).free4); have HB3 := Lib.hid hb3; clear hp3 ht3 hb3))
              | fail)
          all_goals
            go_wp2_with fail
            go_meet
            case rel =>
              first
                | with_reducible exact ApB.late hB HP3.out HT3.out
                | with_reducible exact ApB.early HB3.out HP3.out HT3.out
                | exact ApB.late hB HP3.out HT3.out
                | exact ApB.early HB3.out HP3.out HT3.out
        case rest =>
        obtain ⟨hba, b13, sa13, sc13, la13, lc13, ta13, tc13, rfl, rfl, rfl, -, -, -⟩ := hcut
        have HK8 := Lib.hid (HK5.out.below hba)
        clear c0 c1 c2 c3 e0 e1 e2 e3 HAP HX HXA HZ HNP HNV hba HBW
        obtain ⟨e0, e1, e2, e3⟩ := HEC.out _ HK8.out.low
        by_cases hk : x.kind = 4
        · have hkb : (x.kind != 4) = false := by simp [hk]
          clear hk
          go_wp2_with fail
          go_roundw
          case rel => exact ⟨i + 1, q, sa7, sc7, la7, lc7, by omega, by omega, by go_num, HK8.out⟩
          case measure => simp [intOf]; omega
        · have hkb : (x.kind != 4) = true := by simp [hk]
          rw [HAG.out hk]
          simp only [Pn.rc]
          clear hk
          go_wp2_with fail
          go_roundw
          case rel => exact ⟨i + 1, q, sa7, sc7, la7, lc7, by omega, by omega, by go_num, HK8.out⟩
          case measure => simp [intOf]; omega
    · by_cases h2 : i < m
      · have h3 : ¬ i < 150 := fun h => h1 ⟨h2, h⟩
        have g1 : (i : Int) < (m : Int) := by omega
        have g2 : ¬ ((i : Int) < 150) := by omega
        clear h1
        go_wp2_with fail
        go_ret
        exact ⟨rfl, HBW.out⟩
      · have g1 : ¬ ((i : Int) < (m : Int)) := by omega
        clear h1
        go_wp2_with fail
        go_ret
        exact ⟨rfl, HBW.out⟩
end Go.Proofs.YtmkinnheoejphaaDoor
