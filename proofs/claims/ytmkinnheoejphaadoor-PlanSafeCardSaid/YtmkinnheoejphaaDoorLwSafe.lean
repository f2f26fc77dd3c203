/- THE WALK OF PlanSafe. -/
import Derived.Test.YtmkinnheoejphaaDoorLwG
import Derived.BigQuiet
import Derived.Lib.QuietBelow
import Derived.Deep.QuietTactic
import Derived.Deep.RegionHeld3
import Derived.Deep.CutRange
import Derived.Deep.CutBlock
import Derived.Deep.DeepCutAuto
namespace Go.Proofs.YtmkinnheoejphaaDoor
open Go.RowKit

set_option maxHeartbeats 8000000 in
set_option maxRecDepth 100000 in
theorem safe_any {A : Nat → Prop} (s0 s1 s2 : Int) (ev : Value) (l : List Pn.Ev) (w : World) (lb : Lb w) (hA : Evs A w ev l) :
    Calls Tryd.prog 3 #[.agg #[.int .i64 s0, .int .i64 s1, .int .i64 s2], ev] w fun e w' => e = .returned (.bool true) ∧ Below w.heap.size w w' := by
  obtain ⟨ea, ec, rfl⟩ := hA.form
  obtain ⟨m, hm⟩ : ∃ m, l.length = m := ⟨_, rfl⟩
  have HM := Lib.hid hm
  have HEV : Hid (∀ wx, Below w.heap.size w wx → Evs A wx (.slice ea m ec) l) := Lib.hid fun wx hb => by rw [← hm]; exact Rds.below hA hb
  rw [hm]
  obtain ⟨W1, hW1⟩ : ∃ W, w.alloc (.cells #[.int .i64 s0, .int .i64 s1, .int .i64 s2] 22) = W := ⟨_, rfl⟩
  have hb1 : Below w.heap.size w W1 := by rw [← hW1]; exact (Below.refl _ _).alloc (Nat.le_refl _) _
  have k1 : Blk W1 w.heap.size #[.int .i64 s0, .int .i64 s1, .int .i64 s2] 22 := by rw [← hW1]; exact Blk.new _ _ _
  have HB1 := Lib.hid hb1
  have HK1 := Lib.hid k1
  have HLB1 := Lib.hid (lb.below lb.size hb1)
  clear hb1 k1 hA hm lb
  go_enter Tryd.func3, Tryd.ntmps3
  go_upto_region 1 with fail
  clear hW1
  go_wp2_with fail
  refine (awake_any W1 HLB1.out).mono ?_
  rintro e w2 ⟨rfl, hb2⟩
  have HB2 := Lib.hid (HB1.out.trans (hb2.mono HB1.out.size))
  obtain ⟨x0, x1, x2⟩ := (HK1.out.below hb2).cells3
  clear hb2 HK1 HLB1
  go_wp2_with fail
  refine (begun_any s0 s1 s2 w2).mono ?_
  rintro e w3 ⟨hb3, n0, c0, m0, pv, hlay, rfl, hp3⟩
  have HB3 := Lib.hid (HB2.out.trans (hb3.mono HB2.out.size))
  obtain ⟨sa, sc, la, lc, rfl, hrd⟩ := hp3.begun
  have HG0 := Lib.hid (Pn.new_good hlay)
  have HE0 : Hid (∀ x ∈ (Pn.new n0 c0 m0).parts, x.ep ≤ 1) := Lib.hid fun x hx => by rw [Pn.new_low x hx]; exact Int.le_refl _
  obtain ⟨p0, hp0⟩ : ∃ p, Pn.new n0 c0 m0 = p := ⟨_, rfl⟩
  rw [hp0] at hrd HG0 HE0 ⊢
  have HRD := Lib.hid hrd
  clear x0 x1 x2 hb3 hlay hp3 hp0 hrd
  unfold plV
  obtain ⟨W4, hW4⟩ : ∃ W, w3.alloc (.cells #[.int .i64 p0.nodes, .int .i64 p0.copies, .slice sa p0.parts.length sc, .slice la p0.lives.length lc] 28) = W := ⟨_, rfl⟩
  have hb4 : Below w3.heap.size w3 W4 := by rw [← hW4]; exact (Below.refl _ _).alloc (Nat.le_refl _) _
  have HBX : Hid (PBox w3.heap.size (fun b => b ≠ w3.heap.size) W4 p0 sa sc la lc) := Lib.hid (by rw [← hW4]; exact PBox.made HRD.out)
  have HB4 := Lib.hid (HB3.out.trans (hb4.mono HB3.out.size))
  have HW4 := Lib.hid hW4
  have HLE : Hid (w.heap.size ≤ w3.heap.size) := Lib.hid HB3.out.size
  have HKI : Hid (KI w w3.heap.size 0 p0 sa sc la lc W4) := Lib.hid ⟨HB4.out, HG0.out, HE0.out, HBX.out, HLE.out⟩
  clear hb4 hW4 HRD
  go_upto_region 4 with fail
  rw [HW4.out]
  clear HW4
  obtain ⟨bp, hbp⟩ : ∃ b, w3.heap.size = b := ⟨_, rfl⟩
  rw [hbp] at HKI ⊢
  clear hbp HBX HB4 HLE HB3 HB2 HB1 HG0 HE0
  go_wp2_with fail
  go_loopw [6, 7, 8, 9, 10, 11, 12, 13, 14, 15, 16] (fun si _ _ _ _ _ _ _ _ _ _ wr => ∃ (i : Nat) (p : Pn.P) (sa : Option Addr) (sc : Nat) (la : Option Addr) (lc : Nat), i ≤ m ∧ i ≤ 150 ∧ si = .int .i64 i ∧ KI w bp i p sa sc la lc wr) (fun si _ _ _ _ _ _ _ _ _ _ _ => m - (intOf si).toNat)
  case atStart => exact ⟨0, p0, sa, sc, la, lc, Nat.zero_le _, by omega, rfl, HKI.out⟩
  case round =>
    clear HKI
    obtain ⟨i, p, sa, sc, la, lc, hi, hi150, rfl, hki⟩ := hrel
    have HK := Lib.hid hki
    have HG := Lib.hid hki.good
    have HBW := Lib.hid hki.low
    clear hki
    by_cases h1 : i < m ∧ i < 150
    · obtain ⟨h1, h2⟩ := h1
      obtain ⟨x, hx⟩ : ∃ x, l[i]? = some x := ⟨_, List.getElem?_eq_getElem (by rw [HM.out]; exact h1)⟩
      obtain ⟨eb, ep, ek, he1, -, hebl, -⟩ := (HEV.out _ (Below.refl _ _)).at hx
      rw [HM.out] at he1
      obtain rfl : ea = some ⟨eb, ep, none⟩ := by injection he1
      have HEC : Hid (∀ wx, Below w.heap.size w wx → wx.cell? ⟨eb, ep + i * 4, none⟩ = some (.int .i64 x.kind) ∧ wx.cell? ⟨eb, ep + i * 4 + 1, none⟩ = some (.int .i64 x.node) ∧ wx.cell? ⟨eb, ep + i * 4 + 2, none⟩ = some (.int .i64 x.part) ∧ wx.cell? ⟨eb, ep + i * 4 + 3, none⟩ = some (.int .i64 x.n)) := Lib.hid fun wx hb => by
        obtain ⟨eb', ep', ek', he2, -, -, q0, q1, q2, q3⟩ := (HEV.out wx hb).at hx
        injection he2 with he2
        injection he2 with he2
        injection he2 with he2 he3
        subst he2 he3
        exact ⟨q0, q1, q2, q3⟩
      have i0 : (0 : Int) ≤ (i : Int) := by omega
      have i1 : (i : Int) < (m : Int) := by omega
      have i2 : (i : Int) < 150 := by omega
      have i3 : i < 150 := h2
      have HEB : Hid (eb < w.heap.size) := Lib.hid hebl
      obtain ⟨R, hR⟩ : ∃ R, Pn.apply p x = R := ⟨_, rfl⟩
      have HRR := Lib.hid hR
      have HX9 := Lib.hid hx
      clear hx he1 hebl hR
      obtain ⟨c0, c1, c2, c3⟩ := (HK.out.box).blk.cells4
      obtain ⟨e0, e1, e2, e3⟩ := HEC.out wr HBW.out
      have HAP : Hid (∀ wx, Below wr.heap.size wr wx → Calls Tryd.prog 10 #[.agg #[.int .i64 p.nodes, .int .i64 p.copies, .slice sa p.parts.length sc, .slice la p.lives.length lc], .agg #[.int .i64 x.kind, .int .i64 x.node, .int .i64 x.part, .int .i64 x.n]] wx fun e w' => ApM wx (Pn.apply p x) e w') := Lib.hid fun wx hb => mapply ((HK.out.box).rd.below hb) HG.out
      have HX := Lib.hid (drew_refl wr)
      have HXA : Hid (∀ o, Below wr.heap.size wr.drew (wr.alloc o).drew) := Lib.hid (alloc_drew wr)
      have HZ : Hid (Blk (wr.alloc (.cells #[.int .i64 0, .int .i64 0, .slice none 0 0, .slice none 0 0] 28)).drew wr.heap.size #[.int .i64 0, .int .i64 0, .slice none 0 0, .slice none 0 0] 28) := Lib.hid (Blk.new wr _ _)
      have HNP : Hid (bp ≠ wr.heap.size) := Lib.hid (by have := (HK.out.box).blk.lt; omega)
      have HNV : Hid (eb ≠ wr.heap.size) := Lib.hid (by have : eb < wr.heap.size := block_lt_of_cell e0; omega)
      rw [HRR.out] at HAP
      go_upto_region 7 with fail
      go_cut [7, 8, 9] from 21 to 189 (fun sq st sr wx => ApB wr R sq st sr wx)
      case first =>
        have hB := HX.out
        go_region_held3 (fun w' => w'.cell? ⟨bp, 0, none⟩ = some (.int .i64 p.nodes) ∧ w'.cell? ⟨bp, 1, none⟩ = some (.int .i64 p.copies) ∧ w'.cell? ⟨bp, 2, none⟩ = some (.slice sa p.parts.length sc) ∧ w'.cell? ⟨bp, 3, none⟩ = some (.slice la p.lives.length lc) ∧ w'.cell? ⟨eb, ep + i * 4, none⟩ = some (.int .i64 x.kind) ∧ w'.cell? ⟨eb, ep + i * 4 + 1, none⟩ = some (.int .i64 x.node) ∧ w'.cell? ⟨eb, ep + i * 4 + 2, none⟩ = some (.int .i64 x.part) ∧ w'.cell? ⟨eb, ep + i * 4 + 3, none⟩ = some (.int .i64 x.n))
          (first | with_reducible exact ⟨dcell hB c0, dcell hB c1, dcell hB c2, dcell hB c3, dcell hB e0, dcell hB e1, dcell hB e2, dcell hB e3⟩ | with_reducible exact ⟨far4 HNP.out (dcell hB c0), far4 HNP.out (dcell hB c1), far4 HNP.out (dcell hB c2), far4 HNP.out (dcell hB c3), far4 HNV.out (dcell hB e0), far4 HNV.out (dcell hB e1), far4 HNV.out (dcell hB e2), far4 HNV.out (dcell hB e3)⟩ | with_reducible exact ⟨dcell (HXA.out _) c0, dcell (HXA.out _) c1, dcell (HXA.out _) c2, dcell (HXA.out _) c3, dcell (HXA.out _) e0, dcell (HXA.out _) e1, dcell (HXA.out _) e2, dcell (HXA.out _) e3⟩ | with_reducible exact ⟨farB (dcell hB c0), farB (dcell hB c1), farB (dcell hB c2), farB (dcell hB c3), farB (dcell hB e0), farB (dcell hB e1), farB (dcell hB e2), farB (dcell hB e3)⟩ | fail)
          (first
            | (go_at_call 10; ((first | with_reducible refine (HAP.out _ (of_drew HX.out)).mono ?_ | with_reducible refine (HAP.out _ (of_drew (HXA.out _))).mono ?_); rintro e w3 ⟨hb3, sa3, sc3, la3, lc3, ta3, tc3, rfl, hp3, ht3⟩; have hB := (show Below wr.heap.size wr.drew w3 by first | with_reducible exact drew_trans HX.out hb3 | with_reducible exact drew_trans (HXA.out _) hb3); have HP3 := Lib.hid hp3; have HT3 := Lib.hid ht3; try (obtain ⟨z0, z1, z2, z3⟩ := (HZ.out.below hb3).cells4; obtain ⟨y0, y1, y2, y3⟩ := (HZ.out.below hb3).free4); have HB3 := Lib.hid hb3; clear hp3 ht3 hb3))
            | fail)
        all_goals
          go_wp2_with fail
          go_meet
          case rel =>
            first
              | with_reducible exact ApB.late hB HP3.out HT3.out
              | with_reducible exact ApB.early HB3.out HP3.out HT3.out
              | exact ApB.late hB HP3.out HT3.out
              | exact ApB.early HB3.out HP3.out HT3.out
      case rest =>
      obtain ⟨hba, b7, sa7, sc7, la7, lc7, ta7, tc7, rfl, rfl, rfl, hle7, hbox7, hns7⟩ := hcut
      obtain ⟨z, hz⟩ : ∃ z, wr.heap.size = z := ⟨_, rfl⟩
      have HBZ : Hid (bp < z) := Lib.hid (by rw [← hz]; exact HK.out.box.blk.lt)
      rw [hz] at hbox7 hns7
      have HBX7 := Lib.hid hbox7
      have HNS7 := Lib.hid hns7
      have HK2 := Lib.hid (HK.out.below hba)
      clear c0 c1 c2 c3 e0 e1 e2 e3 HAP HX HXA HZ HNP HNV hba hbox7 hns7 hle7 hz HBW HEC HEB
      obtain ⟨cd, hcd⟩ : ∃ c, Pn.rc R = c := ⟨_, rfl⟩
      obtain ⟨tn, htn⟩ : ∃ n, (Pn.nums (Pn.rt R)).length = n := ⟨_, rfl⟩
      have HCD := Lib.hid hcd
      have HTN := Lib.hid htn
      rw [htn] at HNS7
      rw [hcd, htn]
      clear hcd htn
      cases hR : R with
      | bad c =>
        rw [hR] at HRR HCD HTN HBX7
        obtain rfl : tn = 0 := HTN.out.symm
        have hc0 : (cd != 0) = true := by
          have := HCD.out
          simp only [Pn.rc] at this
          have := Pn.bad_code HRR.out
          simp
          omega
        have HSM : Hid (Calls Tryd.prog 11 #[.agg #[.int .i64 0, .int .i64 0, .slice sa7 0 sc7, .slice la7 0 lc7], .agg #[.int .i64 0, .int .i64 0, .slice none 0 0, .slice none 0 0]] wc fun e w' => BolOut wc true e w') := Lib.hid (lsame _ _ Pn.zeroP wc HBX7.out.rd (PlR.zero (fun _ => True) _) (.inr rfl))
        obtain ⟨d0, d1, d2, d3⟩ := (show Blk wc b7 #[.int .i64 0, .int .i64 0, .slice sa7 0 sc7, .slice la7 0 lc7] 28 from HBX7.out.blk).cells4
        clear hR
        go_wp2_with fail
        refine HSM.out.mono ?_
        rintro e w6 ⟨rfl, hb6⟩
        have HK3 := Lib.hid (HK2.out.below hb6)
        clear hb6 d0 d1 d2 d3 HSM
        go_wp2_with fail
        go_roundw
        case rel => exact ⟨i + 1, p, sa, sc, la, lc, by omega, by omega, by go_num, HK3.out.next⟩
        case measure => simp [intOf]; omega
      | ok q t =>
        rw [hR] at HRR HCD HTN HBX7 HNS7
        obtain rfl : cd = 0 := HCD.out.symm
        simp only [Pn.rt] at HTN HNS7
        simp only [Pn.rp] at HBX7
        have HST := Lib.hid (Pn.step_of HRR.out)
        have HGD : Hid (Calls Tryd.prog 12 #[.agg #[.int .i64 q.nodes, .int .i64 q.copies, .slice sa7 q.parts.length sc7, .slice la7 q.lives.length lc7]] wc fun e w' => BolOut wc true e w') := Lib.hid (lgood _ q wc HBX7.out.rd HST.out.good)
        have HSI := Lib.hid (SI.mk HK2.out HBX7.out HNS7.out)
        obtain ⟨d0, d1, d2, d3⟩ := HBX7.out.blk.cells4
        clear hR HK2 HBX7 HNS7
        go_wp2_with fail
        refine HGD.out.mono ?_
        rintro e w6 ⟨rfl, hb6⟩
        have HS6 := Lib.hid (HSI.out.below hb6)
        clear hb6 d0 d1 d2 d3 HGD HSI
        obtain ⟨d0, d1, d2, d3⟩ := HS6.out.qb.blk.cells4
        obtain ⟨c0, c1, c2, c3⟩ := HS6.out.ki.box.blk.cells4
        obtain ⟨P, hP⟩ : ∃ P, p.parts.length = P := ⟨_, rfl⟩
        obtain ⟨Q, hQ⟩ : ∃ Q, q.parts.length = Q := ⟨_, rfl⟩
        rw [hP] at c2
        rw [hQ] at d2
        have HP := Lib.hid hP
        have HQ := Lib.hid hQ
        have hP4 : P ≤ 4 := by rw [← hP]; exact HG.out.parts_len.2
        have n1 : ¬ (Q < P) := by have := HST.out.len1; omega
        have n2 : ¬ (P + 1 < Q) := by have := HST.out.len2; omega
        have g1 : ¬ ((Q : Int) < (P : Int)) := by omega
        have g2 : ¬ ((P : Int) + 1 < (Q : Int)) := by omega
        have g3 : IntKind.i64.wrap ((P : Int) + 1) = (P : Int) + 1 := by rw [IntKind.wrap_i64]; omega
        clear hP hQ
        go_wp2_with fail
        go_loopw [10, 11, 12, 13, 14, 15] (fun sk _ _ _ _ _ wx => ∃ k : Nat, k ≤ P ∧ sk = .int .i64 k ∧ SI w bp i p sa sc la lc b7 z q sa7 sc7 la7 lc7 ta7 tc7 tn t wx) (fun sk _ _ _ _ _ _ => P - (intOf sk).toNat)
        case atStart => exact ⟨0, Nat.zero_le _, rfl, HS6.out⟩
        case round =>
          clear c0 c1 c2 c3 d0 d1 d2 d3 n1 n2 g1 g2 g3 HS6
          obtain ⟨k, hk, rfl, hs⟩ := hrel
          have HS := Lib.hid hs
          clear hs
          obtain ⟨c0, c1, c2, c3⟩ := HS.out.ki.box.blk.cells4
          rw [HP.out] at c2
          by_cases hlt : k < P
          · obtain ⟨a, ha⟩ : ∃ a, p.parts[k]? = some a := ⟨_, List.getElem?_eq_getElem (by rw [HP.out]; exact hlt)⟩
            obtain ⟨b, hb, hep, hsm, hsc⟩ := HST.out.at_ k a ha
            have HA := Lib.hid ha
            have HB := Lib.hid hb
            have hkq : k < Q := by rw [← HQ.out]; exact (List.getElem?_eq_some_iff.1 hb).1
            obtain ⟨xb, xp, xk, xv, ex, -, -, xn, x0, x1, x2⟩ := HS.out.ki.box.rd.ps.1.at ha
            obtain ⟨zb, zp, zk, zv, ez, -, hzl, zn, z0, z1, z2⟩ := HS.out.qb.rd.ps.1.at hb
            obtain rfl : sa = some ⟨xb, xp, none⟩ := by injection ex
            obtain rfl : sa7 = some ⟨zb, zp, none⟩ := by injection ez
            obtain ⟨xa, xc, rfl⟩ := xn.form
            obtain ⟨za, zc, rfl⟩ := zn.form
            have hpl := HG.out.pl a (List.mem_of_getElem? ha)
            have hae1 := hpl.e1
            have hae2 := HK.out.lo a (List.mem_of_getElem? ha)
            have hac5 : a.ch.length ≤ 5 := HG.out.ch_len _ (List.mem_of_getElem? ha)
            have hbc5 : b.ch.length ≤ 5 := HST.out.good.ch_len _ (List.mem_of_getElem? hb)
            obtain ⟨ae, ac, al⟩ := a
            obtain ⟨be, bc, bl⟩ := b
            simp only at x0 x1 x2 z0 z1 z2 hep hsm hsc xn zn hae1 hae2 hac5 hbc5
            obtain ⟨LA, hLA⟩ : ∃ n, ac.length = n := ⟨_, rfl⟩
            obtain ⟨LB, hLB⟩ : ∃ n, bc.length = n := ⟨_, rfl⟩
            rw [hLA] at x1 hac5
            rw [hLB] at z1 hbc5
            have HLA := Lib.hid hLA
            have HLB := Lib.hid hLB
            have HXN := Lib.hid xn
            have HZN := Lib.hid zn
            have HEP := Lib.hid hep
            have HSAM := Lib.hid hsm
            have HSC := Lib.hid hsc
            have i0' : (0 : Int) ≤ (k : Int) := by omega
            have i1' : (k : Int) < (P : Int) := by omega
            have i2' : (k : Int) < (Q : Int) := by omega
            obtain ⟨W1, hW1⟩ : ∃ W, wr.alloc (.cells #[.int .i64 ae, .slice xa LA xc, .int .i64 al] 39) = W := ⟨_, rfl⟩
            have hb1 : Below wr.heap.size wr W1 := by rw [← hW1]; exact (Below.refl _ _).alloc (Nat.le_refl _) _
            have HK11 : Hid (Blk W1 wr.heap.size #[.int .i64 ae, .slice xa LA xc, .int .i64 al] 39) := Lib.hid (by rw [← hW1]; exact Blk.new _ _ _)
            have HS1 := Lib.hid (HS.out.below hb1)
            have HB1 := Lib.hid hb1
            have HW1 := Lib.hid hW1
            have HZ3 := Lib.hid (And.intro (below_cell hb1 z0) (And.intro (below_cell hb1 z1) (below_cell hb1 z2)))
            clear ha hb xn zn ex ez hLA hLB hep hsm hsc hpl hW1 hb1 hzl
            go_upto_region 17 with fail
            rw [HW1.out]
            clear HW1 c0 c1 c2 c3 x0 x1 x2 z0 z1 z2
            obtain ⟨b11, hb11⟩ : ∃ b, wr.heap.size = b := ⟨_, rfl⟩
            rw [hb11] at HK11 ⊢
            clear hb11
            obtain ⟨z0, z1, z2⟩ := HZ3.out
            obtain ⟨d0, d1, d2, d3⟩ := HS1.out.qb.blk.cells4
            rw [HQ.out] at d2
            obtain ⟨W2, hW2⟩ : ∃ W, W1.alloc (.cells #[.int .i64 be, .slice za LB zc, .int .i64 bl] 39) = W := ⟨_, rfl⟩
            have hb2 : Below W1.heap.size W1 W2 := by rw [← hW2]; exact (Below.refl _ _).alloc (Nat.le_refl _) _
            have HK12 : Hid (Blk W2 W1.heap.size #[.int .i64 be, .slice za LB zc, .int .i64 bl] 39) := Lib.hid (by rw [← hW2]; exact Blk.new _ _ _)
            have HS2 := Lib.hid (HS1.out.below hb2)
            have HK11' := Lib.hid (HK11.out.below hb2)
            have HXN2 := Lib.hid ((HXN.out.below HB1.out).below hb2)
            have HZN2 := Lib.hid ((HZN.out.below HB1.out).below hb2)
            have HW2 := Lib.hid hW2
            clear hW2 hb2 HZ3
            go_upto_region 18 with fail
            rw [HW2.out]
            clear HW2 z0 z1 z2 d0 d1 d2 d3 HXN HZN HK11 HS1 HB1 HS
            obtain ⟨b12, hb12⟩ : ∃ b, W1.heap.size = b := ⟨_, rfl⟩
            rw [hb12] at HK12 ⊢
            clear hb12
            obtain ⟨B, hB⟩ : ∃ B, decide (k ∈ t) = B := ⟨_, rfl⟩
            have HIN : Hid (Calls Tryd.prog 13 #[.slice ta7 tn tc7, .int .i64 (k : Int)] W2 fun e w' => SmeOut W2 B e w') := Lib.hid (by
              have h := in_any _ (Pn.nums t) (k : Int) W2 HS2.out.nt (by have := HST.out.tlen; unfold Pn.nums; rw [List.length_map]; omega)
              rw [Pn.nums_has, hB] at h
              exact h)
            have HBB := Lib.hid hB
            obtain ⟨u0, u1, u2⟩ := HK11'.out.cells3
            obtain ⟨v0, v1, v2⟩ := HK12.out.cells3
            clear hB
            go_wp2_with fail
            refine HIN.out.mono ?_
            rintro e w8 ⟨rfl, rfl⟩
            clear HIN
            go_upto_region 19 with fail
            go_cut [125] from 74 to 125 (fun sx wx => sx = .bool false ∧ Below w8.heap.size w8 wx)
            case first =>
              cases B with
              | true =>
                have hm : k ∈ t := of_decide_eq_true HBB.out
                have hbe : be = ae + 1 := by have := HEP.out; rw [if_pos hm] at this; exact this
                have q1 : ¬ (be < ae) := by omega
                have q2 : ae < be := by omega
                have q3 : IntKind.i64.wrap (be - ae) = 1 := by rw [IntKind.wrap_i64]; omega
                clear hbe hm
                go_wp2_with fail
                go_meet
                case rel => exact ⟨rfl, Below.refl _ _⟩
              | false =>
                have hm : k ∉ t := of_decide_eq_false HBB.out
                have HPL : Hid (Calls Tryd.prog 14 #[.agg #[.int .i64 ae, .slice xa LA xc, .int .i64 al], .agg #[.int .i64 be, .slice za LB zc, .int .i64 bl]] w8 fun e w' => BolOut w8 true e w') := Lib.hid (by
                  have h := places_eq (a := ⟨ae, ac, al⟩) (b := ⟨be, bc, bl⟩) (HSAM.out hm) HXN2.out HZN2.out (by simp only; have := HLA.out; omega)
                  unfold ptv at h
                  simp only at h
                  rw [HLA.out, HLB.out] at h
                  exact h)
                have hbe : be = ae := by have := HEP.out; rw [if_neg hm] at this; omega
                have q1 : ¬ (be < ae) := by omega
                have q2 : ¬ (ae < be) := by omega
                have q3 : IntKind.i64.wrap (be - ae) = 0 := by rw [IntKind.wrap_i64]; omega
                clear hm hbe
                go_wp2_with fail
                refine HPL.out.mono ?_
                rintro e w9 ⟨rfl, hb9⟩
                clear u0 u1 u2 v0 v1 v2
                obtain ⟨u0, u1, u2⟩ := (HK11'.out.below hb9).cells3
                obtain ⟨v0, v1, v2⟩ := (HK12.out.below hb9).cells3
                have HB9 := Lib.hid hb9
                clear hb9 HPL
                go_wp2_with fail
                go_meet
                case rel => exact ⟨rfl, HB9.out⟩
            case rest =>
            obtain ⟨rfl, hbc⟩ := hcut
            clear u0 u1 u2 v0 v1 v2
            obtain ⟨u0, u1, u2⟩ := (HK11'.out.below hbc).cells3
            obtain ⟨v0, v1, v2⟩ := (HK12.out.below hbc).cells3
            have HS3 := Lib.hid (HS2.out.below hbc)
            have HXN3 := Lib.hid (HXN2.out.below hbc)
            have HZN3 := Lib.hid (HZN2.out.below hbc)
            clear hbc HS2 HXN2 HZN2 HK11' HK12 HEP HSAM HBB hae1 hae2
            go_wp2_with fail
            go_loopw [14, 15] (fun sat sj wx => ∃ (at_ j n : Nat), j ≤ LB ∧ at_ ≤ LA + j ∧ sat = .int .i64 at_ ∧ sj = .int .i64 j ∧ wx = wc.drewN n ∧ Pn.scan al (ac.drop at_) (bc.drop j) = true) (fun _ sj _ => LB - (intOf sj).toNat)
            case atStart => exact ⟨0, 0, 0, Nat.zero_le _, Nat.zero_le _, rfl, rfl, rfl, HSC.out⟩
            case round =>
              clear HSC
              obtain ⟨at_, j, n, hj, hat, rfl, rfl, rfl, hsc⟩ := hrel
              have HSC := Lib.hid hsc
              clear hsc
              by_cases hjl : j < LB
              · obtain ⟨x', hx'⟩ : ∃ x, bc[j]? = some x := ⟨_, List.getElem?_eq_getElem (by rw [HLB.out]; exact hjl)⟩
                obtain ⟨vb, vp, vk, ev, -, -, q0⟩ := HZN3.out.at hx'
                try simp only at ev
                rw [HLB.out] at ev
                obtain rfl : za = some ⟨vb, vp, none⟩ := by injection ev
                have HX' := Lib.hid hx'
                have j0 : (0 : Int) ≤ (j : Int) := by omega
                have j1 : (j : Int) < (LB : Int) := by omega
                clear hx' ev
                go_wp2_with fail
                go_loopw [14] (fun sat wx => ∃ (at_ n : Nat), at_ ≤ LA + j ∧ sat = .int .i64 at_ ∧ wx = wc.drewN n ∧ Pn.scan al (ac.drop at_) (bc.drop j) = true) (fun sat _ => LA - (intOf sat).toNat)
                case atStart => exact ⟨at_, n, by omega, rfl, rfl, HSC.out⟩
                case round =>
                  clear HSC hat
                  obtain ⟨at_, n, hat, rfl, rfl, hsc⟩ := hrel
                  have HSC := Lib.hid hsc
                  clear hsc
                  by_cases hal : at_ < LA
                  · obtain ⟨y, hy⟩ : ∃ y, ac[at_]? = some y := ⟨_, List.getElem?_eq_getElem (by rw [HLA.out]; exact hal)⟩
                    obtain ⟨yb, yp, yk, ev, -, -, q1⟩ := HXN3.out.at hy
                    try simp only at ev
                    rw [HLA.out] at ev
                    obtain rfl : xa = some ⟨yb, yp, none⟩ := by injection ev
                    have a0 : (0 : Int) ≤ (at_ : Int) := by omega
                    have a1 : (at_ : Int) < (LA : Int) := by omega
                    have a2 : ¬ ((LA : Int) ≤ (at_ : Int)) := by omega
                    have a3 : ¬ (LA ≤ at_) := by omega
                    by_cases hyx : y = x'
                    · subst hyx
                      have HN := Lib.hid (Pn.scan_hit HSC.out hy HX'.out)
                      have hne : (y != y) = false := by simp
                      clear hy ev
                      go_wp2_with fail
                      go_quiet (fail)
                      go_wp2_with fail
                      go_quiet (fail)
                      go_wp2_with fail
                      go_roundw
                      case rel => exact ⟨at_ + 1, j + 1, _, by omega, by omega, by go_num, by go_num, rfl, HN.out⟩
                      case measure => simp [intOf]; omega
                    · have HN := Lib.hid (Pn.scan_on HSC.out hy HX'.out hyx)
                      have hne : (y != x') = true := by simp [hyx]
                      clear hy ev hyx
                      go_wp2_with fail
                      go_quiet (fail)
                      go_wp2_with fail
                      go_roundw
                      case rel => exact ⟨at_ + 1, _, by omega, by go_num, rfl, HN.out⟩
                      case measure => simp [intOf]; omega
                  · obtain ⟨hj1, hxl, hN⟩ := Pn.scan_end HSC.out (by rw [HLA.out]; omega) HX'.out
                    rw [HLB.out] at hj1
                    subst hxl
                    have HN := Lib.hid hN
                    have a1 : ¬ ((at_ : Int) < (LA : Int)) := by omega
                    have a2 : (LA : Int) ≤ (at_ : Int) := by omega
                    have a3 : LA ≤ at_ := by omega
                    have a4 : IntKind.i64.wrap ((LB : Int) - 1) = (j : Int) := by rw [IntKind.wrap_i64]; omega
                    have hne : (x' != x') = false := by simp
                    have hnj : ((j : Int) != (j : Int)) = false := by simp
                    clear hN
                    go_wp2_with fail
                    go_quiet (fail)
                    go_wp2_with fail
                    go_quiet (fail)
                    go_wp2_with fail
                    go_roundw
                    case rel => exact ⟨at_ + 1, j + 1, _, by omega, by omega, by go_num, by go_num, rfl, HN.out⟩
                    case measure => simp [intOf]; omega
              · have HS4 := Lib.hid (HS3.out.below (below_drewN (B := wc.heap.size) wc n))
                have j1 : ¬ ((j : Int) < (LB : Int)) := by omega
                go_wp2_with fail
                go_roundw
                case rel => exact ⟨k + 1, by omega, by go_num, HS4.out⟩
                case measure => simp [intOf]; omega
          · have k1 : ¬ ((k : Int) < (P : Int)) := by omega
            go_wp2_with fail
            go_loopw [16] (fun sn wx => ∃ n : Nat, 1 ≤ n ∧ n ≤ 6 ∧ sn = .int .i64 n ∧ SI w bp i p sa sc la lc b7 z q sa7 sc7 la7 lc7 ta7 tc7 tn t wx) (fun sn _ => 6 - (intOf sn).toNat)
            case atStart => exact ⟨1, Nat.le_refl _, by omega, rfl, HS.out⟩
            case round =>
              clear c0 c1 c2 c3 HS
              obtain ⟨n, hn1, hn6, rfl, hs⟩ := hrel
              have HS := Lib.hid hs
              clear hs
              obtain ⟨c0, c1, c2, c3⟩ := HS.out.ki.box.blk.cells4
              obtain ⟨d0, d1, d2, d3⟩ := HS.out.qb.blk.cells4
              by_cases hn5 : n ≤ 5
              · have m1 : (n : Int) ≤ 5 := by omega
                have HLP := Lib.hid fun d os => Calls.regrown_of (llife (plV p sa sc la lc) p (n : Int) _ (HS.out.ki.box.rd.below (below_regrown wr d os)) HG.out)
                have HLQ := Lib.hid fun d os => Calls.regrown_of (llife (plV q sa7 sc7 la7 lc7) q (n : Int) _ (HS.out.qb.rd.below (below_regrown wr d os)) HST.out.good)
                unfold plV at HLP HLQ
                have hlv := HST.out.lives (n : Int)
                obtain ⟨lp, hlp⟩ : ∃ x, Pn.life p.lives (n : Int) = x := ⟨_, rfl⟩
                obtain ⟨lq, hlq⟩ : ∃ x, Pn.life q.lives (n : Int) = x := ⟨_, rfl⟩
                rw [hlp] at HLP hlv
                rw [hlq] at HLQ hlv
                have hnl : ¬ (lq < lp) := by omega
                have kc0 := cell_regrown c0
                have kc1 := cell_regrown c1
                have kc2 := cell_regrown c2
                have kc3 := cell_regrown c3
                have kd0 := cell_regrown d0
                have kd1 := cell_regrown d1
                have kd2 := cell_regrown d2
                have kd3 := cell_regrown d3
                clear hlp hlq hlv
                go_upto_region 33 with fail
                clear c0 c1 c2 c3 d0 d1 d2 d3
                refine wp_region_quiet_below (by kernel_rfl) (by kernel_rfl) ?_
                repeat (go_big_quiet_step (first | (go_at_call 15; with_reducible exact HLQ.out _ _) | (go_at_call 15; with_reducible exact HLP.out _ _)))
                refine wpQuiet_nil ?_
                intro w9 hw9
                obtain ⟨⟨dq, osq⟩, hw9'⟩ := hw9
                have HS9 := Lib.hid (HS.out.below (show Below wr.heap.size wr w9 by rw [hw9']; exact below_regrown wr dq osq))
                clear hw9' HLP HLQ kc0 kc1 kc2 kc3 kd0 kd1 kd2 kd3
                go_wp2_with fail
                go_roundw
                case rel => exact ⟨n + 1, by omega, by omega, by go_num, HS9.out⟩
                case measure => simp [intOf]; omega
              · have m1 : ¬ ((n : Int) ≤ 5) := by omega
                have HK5 := Lib.hid (HS.out.ki.put (q := q) HS.out.qb HBZ.out HST.out.good (fun y hy => by
                  have := HST.out.low (1 + (i : Int)) (by omega) HK.out.lo y hy
                  omega))
                obtain ⟨y0, y1, y2, y3⟩ := HS.out.ki.box.blk.free4
                obtain ⟨W7, hW7⟩ : ∃ W, ((((wr.setCell ⟨bp, 0, none⟩ (.int .i64 q.nodes)).setCell ⟨bp, 1, none⟩ (.int .i64 q.copies)).setCell ⟨bp, 2, none⟩ (.slice sa7 q.parts.length sc7)).setCell ⟨bp, 3, none⟩ (.slice la7 q.lives.length lc7)) = W := ⟨_, rfl⟩
                rw [hW7] at HK5
                go_wp2_with fail
                go_roundw
                case rel => exact ⟨i + 1, q, sa7, sc7, la7, lc7, by omega, by omega, by go_num, HK5.out⟩
                case measure => simp [intOf]; omega
    · by_cases h2 : i < m
      · have h3 : ¬ i < 150 := fun h => h1 ⟨h2, h⟩
        have g1 : (i : Int) < (m : Int) := by omega
        have g2 : ¬ ((i : Int) < 150) := by omega
        clear h1
        go_wp2_with fail
        go_ret
        exact ⟨rfl, HBW.out⟩
      · have g1 : ¬ ((i : Int) < (m : Int)) := by omega
        clear h1
        go_wp2_with fail
        go_ret
        exact ⟨rfl, HBW.out⟩
end Go.Proofs.YtmkinnheoejphaaDoor
