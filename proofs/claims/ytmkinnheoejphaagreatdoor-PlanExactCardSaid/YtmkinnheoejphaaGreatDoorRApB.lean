/- THE CONTRACT OF THE DOCUMENT's Apply. -/
import Derived.Test.YtmkinnheoejphaaGreatDoorRAq
import Derived.Test.YtmkinnheoejphaaGreatDoorRGd
import Derived.Test.YtmkinnheoejphaaGreatDoorRCp
import Derived.Test.YtmkinnheoejphaaGreatDoorEvR
import Derived.Test.YtmkinnheoejphaaGreatDoorPnT
import Derived.Deep.CutRange
import Derived.Deep.CutBlock
import Derived.Deep.RegionHeld3
import Derived.StillTailTactics
namespace Go.Proofs.YtmkinnheoejphaaGreatDoor
open Go.RowKit

set_option maxHeartbeats 8000000 in
set_option maxRecDepth 100000 in
theorem rapply_2 {A : Nat → Prop} (pv : Value) (p : Pn.P) (x : Pn.Ev) (w : World) (hkk : x.kind = 2) (h : PlR A w pv p) (hl : p.parts.length ≤ 64) (hll : p.lives.length ≤ 60) (hc : ∀ x ∈ p.parts, x.ch.length ≤ 64) :
    Calls Tryz.prog 8 #[pv, .agg #[.int .i64 x.kind, .int .i64 x.node, .int .i64 x.part, .int .i64 x.n]] w fun e w' => AplOut w (Pn.apply p x) e w' := by
  obtain ⟨sv0, lv0, rfl, hps, hlv⟩ := h
  obtain ⟨nodes, copies, parts, lives⟩ := p
  obtain ⟨kd, nd, pt, nn⟩ := x
  simp only [plv] at hps hlv hl hll hc hkk ⊢
  have HKK := Lib.hid hkk
  clear hkk
  obtain ⟨a, cap, rfl⟩ := hps.form
  obtain ⟨la, lcap, rfl⟩ := hlv.form
  obtain ⟨m, hm⟩ : ∃ n, parts.length = n := ⟨_, rfl⟩
  obtain ⟨ln, hln⟩ : ∃ n, lives.length = n := ⟨_, rfl⟩
  obtain ⟨W1, hW1⟩ : ∃ W, w.alloc (.cells #[.int .i64 nodes, .int .i64 copies, .slice a m cap, .slice la ln lcap] 25) = W := ⟨_, rfl⟩
  obtain ⟨W2, hW2⟩ : ∃ W, W1.alloc (.cells #[.int .i64 kd, .int .i64 nd, .int .i64 pt, .int .i64 nn] 27) = W := ⟨_, rfl⟩
  obtain ⟨W3, hW3⟩ : ∃ W, W2.alloc (.cells #[.int .i64 0, .int .i64 0, .slice none 0 0, .slice none 0 0] 25) = W := ⟨_, rfl⟩
  obtain ⟨W4, hW4⟩ : ∃ W, W3.alloc (.cells #[.int .i64 0, .int .i64 0, .slice none 0 0, .slice none 0 0] 25) = W := ⟨_, rfl⟩
  have hb1 : Below w.heap.size w W1 := by rw [← hW1]; exact (Below.refl _ _).alloc (Nat.le_refl _) _
  have hb12 : Below W1.heap.size W1 W2 := by rw [← hW2]; exact (Below.refl _ _).alloc (Nat.le_refl _) _
  have hb23 : Below W2.heap.size W2 W3 := by rw [← hW3]; exact (Below.refl _ _).alloc (Nat.le_refl _) _
  have hb34 : Below W3.heap.size W3 W4 := by rw [← hW4]; exact (Below.refl _ _).alloc (Nat.le_refl _) _
  have k0 : Blk W1 w.heap.size #[.int .i64 nodes, .int .i64 copies, .slice a m cap, .slice la ln lcap] 25 := by rw [← hW1]; exact Blk.new _ _ _
  have k1 : Blk W2 W1.heap.size #[.int .i64 kd, .int .i64 nd, .int .i64 pt, .int .i64 nn] 27 := by rw [← hW2]; exact Blk.new _ _ _
  have k2 : Blk W3 W2.heap.size zeroC 25 := by rw [← hW3]; exact Blk.new _ _ _
  have k3 : Blk W4 W3.heap.size zeroC 25 := by rw [← hW4]; exact Blk.new _ _ _
  have hb2 := hb1.trans (hb12.mono hb1.size)
  have hb3 := hb2.trans (hb23.mono hb2.size)
  have hb4 := hb3.trans (hb34.mono hb3.size)
  have HLT : Hid (w.heap.size < W1.heap.size ∧ W1.heap.size < W2.heap.size ∧ W2.heap.size < W3.heap.size ∧ W3.heap.size < W4.heap.size) := Lib.hid ⟨k0.lt, k1.lt, k2.lt, k3.lt⟩
  have HK0 := Lib.hid (((k0.below hb12).below hb23).below hb34)
  have HK1 := Lib.hid ((k1.below hb23).below hb34)
  have HK2 := Lib.hid (k2.below hb34)
  have HK3 := Lib.hid k3
  have HB4 := Lib.hid hb4
  have HLS : Hid (∀ wx, Below w.heap.size w wx → Lvs A wx (.slice la ln lcap) lives) := Lib.hid fun wx hb => by rw [← hln]; exact hlv.below hb
  have HPL : Hid (∀ wx, Below w.heap.size w wx → PlR A wx (.agg #[.int .i64 nodes, .int .i64 copies, .slice a m cap, .slice la ln lcap]) ⟨nodes, copies, parts, lives⟩) := Lib.hid fun wx hb => ⟨.slice a m cap, .slice la ln lcap, rfl, by rw [← hm]; exact hps.below hb, by rw [← hln]; exact hlv.below hb⟩
  have HGD : Hid (∀ wx, Below W4.heap.size W4 wx → Calls Tryz.prog 14 #[.agg #[.int .i64 nodes, .int .i64 copies, .slice a m cap, .slice la ln lcap]] wx fun e w' => BolOut wx (Pn.goodB ⟨nodes, copies, parts, lives⟩) e w') := Lib.hid fun wx hb => rgood_any _ ⟨nodes, copies, parts, lives⟩ wx (HPL.out wx (HB4.out.trans (hb.mono HB4.out.size))) (by simp only; omega) (by simp only; omega) hc
  have HEV : Hid (∀ wx : World, Calls Tryz.prog 32 #[.agg #[.int .i64 kd, .int .i64 nd, .int .i64 pt, .int .i64 nn]] wx fun e w' => BolOut wx (Pn.evB ⟨kd, nd, pt, nn⟩) e w') := Lib.hid fun wx => revent_any ⟨kd, nd, pt, nn⟩ wx
  have HCD : Hid (∀ wx, Below W4.heap.size W4 wx → Calls Tryz.prog 33 #[.agg #[.int .i64 nodes, .int .i64 copies, .slice a m cap, .slice la ln lcap]] wx fun e w' => ClpOut wx ⟨nodes, copies, parts, lives⟩ e w') := Lib.hid fun wx hb => rcopy_any _ ⟨nodes, copies, parts, lives⟩ wx (HPL.out wx (HB4.out.trans (hb.mono HB4.out.size))) (by simp only; omega) (by simp only; omega) hc
  have HOK : Hid (Pn.okB ⟨nodes, copies, parts, lives⟩ ⟨kd, nd, pt, nn⟩ = (Pn.goodB ⟨nodes, copies, parts, lives⟩ && Pn.evB ⟨kd, nd, pt, nn⟩ && decide (nd ≤ nodes) && decide (pt < (m : Int)))) := Lib.hid (by rw [← hm]; rfl)
  obtain ⟨O, hO⟩ : ∃ O, Pn.okB ⟨nodes, copies, parts, lives⟩ ⟨kd, nd, pt, nn⟩ = O := ⟨_, rfl⟩
  have HO := Lib.hid hO
  rw [hO] at HOK
  obtain ⟨G, hG⟩ : ∃ G, Pn.goodB ⟨nodes, copies, parts, lives⟩ = G := ⟨_, rfl⟩
  obtain ⟨V, hV⟩ : ∃ V, Pn.evB ⟨kd, nd, pt, nn⟩ = V := ⟨_, rfl⟩
  rw [hG] at HGD HOK
  rw [hV] at HEV HOK
  have HM := Lib.hid hm
  have HLN := Lib.hid hln
  have HLL := Lib.hid hll
  have HC := Lib.hid hc
  have HX0 := Lib.hid (Below.refl W4.heap.size W4)
  have HW4 := Lib.hid hW4
  clear hW4
  rw [hm, hln]
  rw [hm] at hl
  obtain ⟨c0, c1, c2, c3⟩ := HK0.out.cells4
  clear hb1 hb12 hb23 hb34 k0 k1 k2 k3 hb2 hb3 hb4 hps hlv hll hc hG hV hO hm hln
  go_enter Tryz.func8, Tryz.ntmps8
  go_upto_region 2 with fail
  rw [HW4.out]
  clear hW1 hW2 hW3 HW4
  go_wp2_with fail
  refine (HGD.out _ HX0.out).mono ?_
  rintro e wg ⟨rfl, hg⟩
  have HG := Lib.hid hg
  have HK1' := HK1.out.below hg
  obtain ⟨e0, e1, e2, e3⟩ := HK1'.cells4
  clear HK1' hg c0 c1 c2 c3
  cases G with
  | false =>
    have HT : Hid (Pn.apply ⟨nodes, copies, parts, lives⟩ ⟨kd, nd, pt, nn⟩ = .bad 1) := Lib.hid (by unfold Pn.apply; rw [HO.out, HOK.out]; rfl)
    have HD2 := Lib.hid (HK2.out.below HG.out)
    obtain ⟨y0, y1, y2, y3⟩ := HD2.out.free4
    obtain ⟨z0, z1, z2, z3⟩ := HD2.out.cells4
    obtain ⟨n0, n1, n2, n3⟩ := (HK3.out.below HG.out).cells4
    go_wp2_with fail
    exact rbad_ret (HB4.out.trans (HG.out.mono HB4.out.size)) (by have := HLT.out; omega) HD2.out HT.out rfl rfl rfl
  | true =>
  go_wp2_with fail
  refine (HEV.out _).mono ?_
  rintro e we ⟨rfl, he⟩
  have HE := Lib.hid (HG.out.trans (he.mono HG.out.size))
  have HK0' := HK0.out.below HE.out
  have HK1' := HK1.out.below HE.out
  clear e0 e1 e2 e3
  obtain ⟨e0, e1, e2, e3⟩ := HK1'.cells4
  obtain ⟨c0, c1, c2, c3⟩ := HK0'.cells4
  clear HK0' HK1' he
  cases V with
  | false =>
    have HT : Hid (Pn.apply ⟨nodes, copies, parts, lives⟩ ⟨kd, nd, pt, nn⟩ = .bad 1) := Lib.hid (by unfold Pn.apply; rw [HO.out, HOK.out]; rfl)
    have HD2 := Lib.hid (HK2.out.below HE.out)
    obtain ⟨y0, y1, y2, y3⟩ := HD2.out.free4
    obtain ⟨z0, z1, z2, z3⟩ := HD2.out.cells4
    obtain ⟨n0, n1, n2, n3⟩ := (HK3.out.below HE.out).cells4
    go_wp2_with fail
    exact rbad_ret (HB4.out.trans (HE.out.mono HB4.out.size)) (by have := HLT.out; omega) HD2.out HT.out rfl rfl rfl
  | true =>
  by_cases h1 : nodes < nd
  · have h1' : decide (nd ≤ nodes) = false := decide_eq_false (by omega)
    have HT : Hid (Pn.apply ⟨nodes, copies, parts, lives⟩ ⟨kd, nd, pt, nn⟩ = .bad 1) := Lib.hid (by unfold Pn.apply; rw [HO.out, HOK.out, h1']; rfl)
    have HD2 := Lib.hid (HK2.out.below HE.out)
    obtain ⟨y0, y1, y2, y3⟩ := HD2.out.free4
    obtain ⟨z0, z1, z2, z3⟩ := HD2.out.cells4
    obtain ⟨n0, n1, n2, n3⟩ := (HK3.out.below HE.out).cells4
    go_wp2_with fail
    exact rbad_ret (HB4.out.trans (HE.out.mono HB4.out.size)) (by have := HLT.out; omega) HD2.out HT.out rfl rfl rfl
  have h1' : decide (nd ≤ nodes) = true := decide_eq_true (by omega)
  by_cases h2 : (m : Int) ≤ pt
  · have h2' : decide (pt < (m : Int)) = false := decide_eq_false (by omega)
    have HT : Hid (Pn.apply ⟨nodes, copies, parts, lives⟩ ⟨kd, nd, pt, nn⟩ = .bad 1) := Lib.hid (by unfold Pn.apply; rw [HO.out, HOK.out, h1', h2']; rfl)
    have HD2 := Lib.hid (HK2.out.below HE.out)
    obtain ⟨y0, y1, y2, y3⟩ := HD2.out.free4
    obtain ⟨z0, z1, z2, z3⟩ := HD2.out.cells4
    obtain ⟨n0, n1, n2, n3⟩ := (HK3.out.below HE.out).cells4
    go_wp2_with fail
    exact rbad_ret (HB4.out.trans (HE.out.mono HB4.out.size)) (by have := HLT.out; omega) HD2.out HT.out rfl rfl rfl
  have h2' : decide (pt < (m : Int)) = true := decide_eq_true (by omega)
  have HOT : Hid (Pn.okB ⟨nodes, copies, parts, lives⟩ ⟨kd, nd, pt, nn⟩ = true) := Lib.hid (by rw [HO.out, HOK.out, h1', h2']; rfl)
  obtain ⟨hgood, hevb, -, -, hp0, hm2, hm4, hn1, hn5, hc1, hcn⟩ := Pn.ok_facts HOT.out
  simp only at hp0 hm2 hm4 hn1 hn5 hc1 hcn
  have HGO := Lib.hid hgood
  have HEB := Lib.hid hevb
  have HLE := Lib.hid (HB4.out.trans (HE.out.mono HB4.out.size))
  have HF0 := Lib.hid (HK0.out.below HE.out)
  have HF1 := Lib.hid (HK1.out.below HE.out)
  have HF2 := Lib.hid (HK2.out.below HE.out)
  have HF3 := Lib.hid (HK3.out.below HE.out)
  clear h1' h2' HOK HO hgood hevb
  go_wp2_with fail
  refine (HCD.out _ HE.out).mono ?_
  rintro e w5 ⟨h5, lab, sv, lv, rfl, hpl⟩
  simp only [plv]
  obtain ⟨sa, sc, rfl⟩ := hpl.1.form
  obtain ⟨lva, lvc, rfl⟩ := hpl.2.rd.form
  simp only at hpl ⊢
  rw [HM.out, HLN.out] at hpl
  rw [HM.out, HLN.out]
  obtain ⟨sg, sp, rfl⟩ : ∃ g p, sa = some ⟨g, p, none⟩ := by
    obtain ⟨gb, F, hF, hrow⟩ := hpl.1
    obtain ⟨ao', cap', ev2, -, hpos, -⟩ := Sl.make hrow.1.1
    obtain ⟨g', p', e1, e2⟩ := hpos (by have := congrArg List.length hF; rw [List.length_map] at this; have := HM.out; simp only at *; omega)
    injection ev2 with e3 e4 e5
    exact ⟨g', p', e3.trans e1⟩
  obtain ⟨PC, hPC⟩ : ∃ PC : Array Value, #[Value.int .i64 nodes, .int .i64 copies, .slice a m cap, .slice la ln lcap] = PC := ⟨_, rfl⟩
  obtain ⟨F, gl, hF, hap⟩ := Aq.start (x := ⟨kd, nd, pt, nn⟩) (pc := PC) HLE.out ⟨HLT.out.1, HLT.out.2.1, HLT.out.2.2.1⟩ (by rw [← hPC]; exact HF0.out) HF1.out HF2.out HF3.out h5 rfl (by have := HM.out; omega) hpl
  obtain ⟨n, rfl⟩ : ∃ n : Nat, pt = n := ⟨pt.toNat, by omega⟩
  obtain ⟨W6, hW6⟩ : ∃ W, w5.alloc (.cells #[.int .i64 nodes, .int .i64 copies, .slice (some ⟨sg, sp, none⟩) m sc, .slice lva ln lvc] 25) = W := ⟨_, rfl⟩
  have hb6 : Below w5.heap.size w5 W6 := by rw [← hW6]; exact (Below.refl _ _).alloc (Nat.le_refl _) _
  rw [hW6] at hap
  obtain ⟨W7, hW7⟩ : ∃ W, W6.alloc (.cells #[] 3) = W := ⟨_, rfl⟩
  have hb7 : Below W6.heap.size W6 W7 := by rw [← hW7]; exact (Below.refl _ _).alloc (Nat.le_refl _) _
  rw [hW7] at hap
  have HPC := Lib.hid hPC
  have HAP := Lib.hid hap
  have HFP := Lib.hid hF
  have HW6 := Lib.hid hW6
  have HW7 := Lib.hid hW7
  clear hap hF hpl h5 hW6 hW7 hPC hb6 hb7 c0 c1 c2 c3 e0 e1 e2 e3
  go_upto_region 5 with fail
  rw [HW6.out]
  go_upto_region 6 with fail
  rw [HW7.out]
  clear HW6 HW7 HF0 HF1 HF2 HF3 HG HE HGD HEV HCD HLE HX0 HK0 HK1 HK2 HK3 HB4
  have HML : Hid (F.length = m) := Lib.hid (by have := congrArg List.length HFP.out; rw [List.length_map] at this; rw [this]; exact HM.out)
  have HEP : Hid (∀ x ∈ parts, 0 ≤ x.ep ∧ x.ep ≤ 1073741824) := Lib.hid (Pn.good_eps HGO.out)
  have hkd : kd = 1 ∨ kd = 2 ∨ kd = 3 ∨ kd = 4 ∨ kd = 5 := by have := Pn.ev_kind HEB.out; simp only at this; exact this
  have HKD := Lib.hid hkd
  have HAPP : Hid (Pn.apply ⟨nodes, copies, parts, lives⟩ ⟨kd, nd, (n : Int), nn⟩ = if kd = 1 then Pn.apply1 ⟨nodes, copies, parts, lives⟩ ⟨kd, nd, (n : Int), nn⟩ else if kd = 2 then Pn.apply2 ⟨nodes, copies, parts, lives⟩ ⟨kd, nd, (n : Int), nn⟩ else if kd = 3 then Pn.apply3 ⟨nodes, copies, parts, lives⟩ ⟨kd, nd, (n : Int), nn⟩ else if kd = 4 then Pn.apply4 ⟨nodes, copies, parts, lives⟩ else Pn.apply5 ⟨nodes, copies, parts, lives⟩ ⟨kd, nd, (n : Int), nn⟩) := Lib.hid (by rw [Pn.apply, HOT.out, if_neg (by decide)])
  obtain ⟨e0, e1, e2, e3⟩ := (show Blk W7 W1.heap.size #[.int .i64 kd, .int .i64 nd, .int .i64 (n : Int), .int .i64 nn] 27 from HAP.out.k1).cells4
  clear hkd
  go_upto_block 0 with fail
  go_cut [9] from 10 to 302 (fun s9 wx => Mid w W1.heap.size W2.heap.size W3.heap.size w5.heap.size we.heap.size PC ⟨kd, nd, (n : Int), nn⟩ ⟨nodes, copies, parts, lives⟩ sg sp m sc s9 wx)
  case first =>
    obtain ⟨c0, c1, c2, c3⟩ := (show Blk W7 w.heap.size #[.int .i64 nodes, .int .i64 copies, .slice a m cap, .slice la ln lcap] 25 by rw [HPC.out]; exact HAP.out.k0).cells4
    rcases HKD.out with hkd | hkd | hkd | hkd | hkd
    · exact (show False by have := HKK.out; omega).elim
    · subst hkd
      have HP2 := Lib.hid (HAPP.out.trans ((if_neg (by decide)).trans (if_pos rfl)))
      have HGG := Lib.hid (Pn.good_iff.1 HGO.out)
      have HFP0 : Hid (F.map PE.x = (parts.take 0).map (Pn.lose nd) ++ parts.drop 0) := Lib.hid (by rw [HFP.out]; simp)
      obtain ⟨ii, hii, i1i, i2i, i3i, i4i⟩ := infoInt
      clear c0 c1 c2 c3 e0 e1 e2 e3
      go_wp2_with fail
      go_loopw [9, 14, 15] (fun s9 s14 _ wx => ∃ (i : Nat) (lab : Lab) (F1 : List PE) (gt : Option Nat), i ≤ m ∧ s14 = .int .i64 i ∧ Aq w W1.heap.size W2.heap.size W3.heap.size w5.heap.size we.heap.size PC ⟨2, nd, (n : Int), nn⟩ nodes copies lab (.slice (some ⟨sg, sp, none⟩) m sc) sg F1 (.slice lva ln lvc) (.slice lva ln lvc) gl lives s9 gt (Pn.idx (Pn.loseB nd) 0 (parts.take i)) wx ∧ F1.map PE.x = (parts.take i).map (Pn.lose nd) ++ parts.drop i) (fun _ s14 _ _ => m - (intOf s14).toNat)
      case atStart => exact ⟨0, _, F, _, Nat.zero_le _, rfl, HAP.out, HFP0.out⟩
      case round =>
        obtain ⟨i, lab3, F1, gt3, hi, rfl, hap, hf1⟩ := hrel
        obtain ⟨T, hT⟩ : ∃ T, Pn.idx (Pn.loseB nd) 0 (parts.take i) = T := ⟨_, rfl⟩
        have HT := Lib.hid hT
        rw [hT] at hap
        obtain ⟨ta, tc, rfl⟩ := hap.tns.ns.form
        have htl : T.length ≤ 64 := by rw [← hT]; exact Nat.le_trans (Pn.idx_len _ _ _) (by rw [List.length_take]; have := HM.out; omega)
        obtain ⟨tn, htn⟩ : ∃ k, (Pn.nums T).length = k := ⟨_, rfl⟩
        have HTN := Lib.hid htn
        have htnl : tn ≤ 64 := by rw [← htn]; unfold Pn.nums; rw [List.length_map]; exact htl
        rw [htn] at hap ⊢
        have hml : F1.length = m := by
          have := congrArg List.length hf1
          rw [List.length_map, List.length_append, List.length_map, List.length_take, List.length_drop] at this
          have := HM.out
          omega
        have HS := Lib.hid hap
        have HF1 := Lib.hid hf1
        have HML1 := Lib.hid hml
        obtain ⟨o0, o1, o2, o3⟩ := hap.k4.cells4
        clear hT htl
        by_cases hlt2 : i < m
        · obtain ⟨e, he⟩ : ∃ e, F1[i]? = some e := ⟨_, List.getElem?_eq_getElem (by rw [hml]; exact hlt2)⟩
          have hx : parts[i]? = some e.x := map_at hf1 he
          obtain ⟨d0, d1, d2⟩ := hap.at3 he
          have hch := hap.row.2.2 i _ he
          have hc64 := HC.out _ (List.mem_of_getElem? hx)
          have hpl := HGG.out.pl _ (List.mem_of_getElem? hx)
          obtain ⟨⟨xe, xc, xl⟩, cv⟩ := e
          simp only at hx d0 d1 d2 hch hc64 hpl
          obtain ⟨cb, hc, hcl⟩ := hch
          obtain ⟨ca, cc, rfl⟩ := hc.ns.form
          obtain ⟨W8, hW8⟩ : ∃ W, wr.alloc (.cells #[.int .i64 xe, .slice ca xc.length cc, .int .i64 xl] 49) = W := ⟨_, rfl⟩
          have hb8 : Below wr.heap.size wr W8 := by rw [← hW8]; exact (Below.refl _ _).alloc (Nat.le_refl _) _
          have k8 : Blk W8 wr.heap.size #[.int .i64 xe, .slice ca xc.length cc, .int .i64 xl] 49 := by rw [← hW8]; exact Blk.new _ _ _
          have HHS := Lib.hid (rhas_any _ xc nd W8 (hc.ns.below hb8) hc64)
          have HWO := Lib.hid (rwithout_any _ xc nd W8 (hc.ns.below hb8) hc64)
          have HDOC := Lib.hid (Pn.lose_doc hpl nd)
          simp only at HDOC
          have HIX := Lib.hid (Pn.idx_take (Pn.loseB nd) hx)
          obtain ⟨E, hE⟩ : ∃ E, xc.contains nd = E := ⟨_, rfl⟩
          rw [hE] at HHS HDOC
          obtain ⟨LS, hLS⟩ : ∃ L, (xc.filter fun m => m != nd) = L := ⟨_, rfl⟩
          rw [hLS] at HWO HDOC
          obtain ⟨cn, hcn⟩ : ∃ n, xc.length = n := ⟨_, rfl⟩
          rw [hcn] at d1 HHS HWO HDOC hW8 k8
          have HCN := Lib.hid hcn
          have HX := Lib.hid hx
          have HE0 := Lib.hid he
          have HCH : Hid (NsO we.heap.size wr (.slice ca cn cc) cb xc) := Lib.hid (by rw [← hcn]; exact hc)
          have HCL : Hid (∀ b, cb = some b → lab3 b = .ch i ∧ b < wr.heap.size) := Lib.hid fun b e => ⟨hcl b e, (hc.lt b e).2⟩
          have HB8 := Lib.hid hb8
          have HK8 := Lib.hid k8
          have HW8 := Lib.hid hW8
          have HAP8 := Lib.hid (hap.below hb8)
          have i0 : (0 : Int) ≤ (i : Int) := by omega
          have i1 : (i : Int) < (m : Int) := by omega
          clear hap hf1 he hx hc hcl hE hLS hcn hc64 hpl hb8 k8 hW8 hml htn
          go_upto_region 33 with fail
          rw [HW8.out]
          clear HW8 d0 d1 d2 o0 o1 o2 o3
          obtain ⟨e0, e1, e2, e3⟩ := (show Blk W8 W1.heap.size #[.int .i64 2, .int .i64 nd, .int .i64 (n : Int), .int .i64 nn] 27 from HAP8.out.k1).cells4
          obtain ⟨y0, y1, y2⟩ := HK8.out.cells3
          obtain ⟨C, hC⟩ : ∃ C, (E && decide (1 < cn)) = C := ⟨_, rfl⟩
          have HCC := Lib.hid hC
          clear hC
          go_cut [171] from 161 to 171 (fun s wx => s = .bool C ∧ wx = W8)
          case first =>
            cases E with
            | false =>
              have HCF : Hid (C = false) := Lib.hid (by rw [← HCC.out]; rfl)
              go_wp2_with fail
              refine HHS.out.mono ?_
              rintro e w3 ⟨rfl, rfl⟩
              go_wp2_with fail
              go_meet
              case rel => exact ⟨by rw [HCF.out], rfl⟩
            | true =>
              have HCF : Hid (C = decide ((1 : Int) < (cn : Int))) := Lib.hid (by rw [← HCC.out]; simp <;> omega)
              go_wp2_with fail
              refine HHS.out.mono ?_
              rintro e w3 ⟨rfl, rfl⟩
              go_wp2_with fail
              go_meet
              case rel => exact ⟨by rw [HCF.out], rfl⟩
          case rest =>
          obtain ⟨hs, hw⟩ := hcut
          have hw' : W8 = wc := hw.symm
          subst hw'
          subst hs
          clear hw
          cases C with
          | true =>
            have hcc : E = true ∧ 1 < cn := by have := HCC.out; simpa using this
            obtain ⟨hlo, hlb, hle⟩ := HDOC.out.1 hcc.1 hcc.2
            have HLO := Lib.hid hlo
            have HIY : Hid (Pn.idx (Pn.loseB nd) 0 (parts.take (i + 1)) = T ++ [i]) := Lib.hid (by rw [HIX.out, HT.out, hlb]; rfl)
            have hxb : (xl == nd) = false := by simpa using hle
            clear hcc hlo hlb hle
            go_wp2_with fail
            refine HWO.out.mono ?_
            rintro e w9 ⟨hb9, v9, g9, rfl, hz9⟩
            obtain ⟨a9, k9, rfl⟩ := hz9.ns.form
            obtain ⟨n9, hn9⟩ : ∃ k, LS.length = k := ⟨_, rfl⟩
            rw [hn9] at hz9 ⊢
            have hk9 := HK8.out.below hb9
            obtain ⟨W10, hW10⟩ : ∃ W, w9.setCell ⟨wr.heap.size, 1, none⟩ (.slice a9 n9 k9) = W := ⟨_, rfl⟩
            have hk10 : Blk W10 wr.heap.size #[.int .i64 xe, .slice a9 n9 k9, .int .i64 xl] 49 := by rw [← hW10]; exact hk9.set (i := 1) _
            have hkb : Kb wr.heap.size w9 W10 := by rw [← hW10]; exact Kb.setCell _ _
            have h8s : wr.heap.size < W8.heap.size := HK8.out.lt
            have hb10 : Below wr.heap.size wr W10 := (HB8.out.trans (hb9.mono HB8.out.size)).trans (hkb.below (Nat.le_refl _) hk9.lt)
            have hap10 := HS.out.below hb10
            have hz10 : NsO we.heap.size W10 (.slice a9 n9 k9) g9 LS := (Wz.kb hz9 hkb (fun e => by have := hz9.2 _ e; omega)).mono (by have := HS.out.zle; omega)
            have hapc := HS.out.put3 (y := ⟨xe, LS, xl⟩) HML1.out HE0.out (cb := none) (fun b e => by cases e) (grown_none hb10) hz10 (fun b e => .inr (by have := hz9.2 _ e; omega))
            obtain ⟨W12, hW12⟩ : ∃ W, ((W10.setCell ⟨sg, sp + i * 3, none⟩ (.int .i64 xe)).setCell ⟨sg, sp + i * 3 + 1, none⟩ (.slice a9 n9 k9)).setCell ⟨sg, sp + i * 3 + 2, none⟩ (.int .i64 xl) = W := ⟨_, rfl⟩
            have hkb12 : Kb sg W10 W12 := by rw [← hW12]; exact st3_kb W10 sg (sp + i * 3) ⟨xe, LS, xl⟩ (.slice a9 n9 k9)
            have HK12 := Lib.hid (hk10.kb hkb12 (by have := (HS.out.row.1.lt sg rfl).2; omega))
            have HAPC := Lib.hid (show Aq w W1.heap.size W2.heap.size W3.heap.size w5.heap.size we.heap.size PC ⟨2, nd, (n : Int), nn⟩ nodes copies _ (.slice (some ⟨sg, sp, none⟩) m sc) sg (F1.set i ⟨⟨xe, LS, xl⟩, .slice a9 n9 k9⟩) (.slice lva ln lvc) (.slice lva ln lvc) gl lives (.slice ta tn tc) gt3 T W12 by rw [← hW12]; exact hapc)
            clear y0 y1 y2
            obtain ⟨y0, y1, y2⟩ := hk9.cells3
            obtain ⟨x0, x1, x2, -⟩ := hk9.free4
            have HA10 := Lib.hid hap10
            have HK10 := Lib.hid hk10
            have HW10 := Lib.hid hW10
            have HW12 := Lib.hid hW12
            clear hk9 hk10 hkb hb10 hap10 hz10 hapc hW10 hW12 hkb12
            go_upto_region 35 with fail
            rw [HW10.out]
            clear y0 y1 y2 x0 x1 x2 HW10
            obtain ⟨y0, y1, y2⟩ := HK10.out.cells3
            obtain ⟨o0, o1, o2, o3⟩ := HA10.out.k4.cells4
            obtain ⟨d0, d1, d2⟩ := HA10.out.at3 HE0.out
            have x0 := HA10.out.free (o := sp + i * 3)
            have x1 := HA10.out.free (o := sp + i * 3 + 1)
            have x2 := HA10.out.free (o := sp + i * 3 + 2)
            simp only at d0 d1 d2
            go_upto_region 36 with fail
            rw [HW12.out]
            clear y0 y1 y2 x0 x1 x2 o0 o1 o2 o3 d0 d1 d2 HW12
            obtain ⟨y0, y1, y2⟩ := HK12.out.cells3
            have HMP := Lib.hid (map_next (f := Pn.lose nd) (.slice a9 n9 k9) HF1.out HX.out)
            rw [HLO.out] at HMP
            obtain ⟨W20, hW20⟩ : ∃ W, W12.alloc (.cells #[.int .i64 (i : Int)] 3) = W := ⟨_, rfl⟩
            have hb20 : Below W12.heap.size W12 W20 := by rw [← hW20]; exact (Below.refl _ _).alloc (Nat.le_refl _) _
            have HS20 : Hid (Rds (fun b => b = W12.heap.size) W20 (.slice (some ⟨W12.heap.size, 0, none⟩) 1 1) 1 1 [.int .i64 (i : Int)]) := Lib.hid (by rw [← hW20]; exact Rds.lit (w := W12) (n := 1) (size := 1) (cs := [.int .i64 (i : Int)]) 3 rfl)
            have HROW20 : Hid (Sl W20 (.slice ta tn tc) gt3 3 1 tn ((Pn.nums T).map (Value.int .i64))) := Lib.hid (by
              have := (Wz.below HAPC.out.tns hb20).1
              rw [HTN.out] at this
              exact this)
            have HB20 := Lib.hid hb20
            clear hb20
            go_wp2_with (at_builtin; refine wpList_append_rd (by rfl) _ _ _ (by rfl) 3 ii _ 1 8 Tryz.underlying32 hii i1i i2i i3i i4i _ gt3 tn ((Pn.nums T).map (Value.int .i64)) (by rfl) HROW20.out _ 1 [.int .i64 (i : Int)] (by rfl) HS20.out (by simp [Value.oneCell']) (by omega) (by omega) ?_)
            intro v' w' gb' h1 h2 h3
            have HAPD := Lib.hid (HAPC.out.tpush HTN.out HB20.out h1 h2 h3)
            have HG20 := Lib.hid h2
            clear h1 h2 h3
            have hk13 : Hid (Blk w' wr.heap.size #[.int .i64 xe, .slice a9 n9 k9, .int .i64 xl] 49) := Lib.hid ((HK12.out.below HB20.out).grown HG20.out (fun e => by have := (HS.out.tns.lt _ e.symm).2; omega))
            clear y0 y1 y2 e0 e1 e2 e3
            obtain ⟨y0, y1, y2⟩ := hk13.out.cells3
            obtain ⟨e0, e1, e2, e3⟩ := (show Blk w' W1.heap.size #[.int .i64 2, .int .i64 nd, .int .i64 (n : Int), .int .i64 nn] 27 from HAPD.out.k1).cells4
            go_wp2_with fail
            go_roundw
            case rel => exact ⟨i + 1, _, _, _, by omega, by go_num, by rw [HIY.out]; exact HAPD.out, HMP.out⟩
            case measure => simp [intOf]; omega
          | false =>
            have hcc : ¬ (E = true ∧ 1 < cn) := by have := HCC.out; simpa using this
            by_cases hxl : xl = nd
            · obtain ⟨hlo, hlb⟩ := HDOC.out.2.1 hcc hxl
              have HLO := Lib.hid hlo
              have HIY : Hid (Pn.idx (Pn.loseB nd) 0 (parts.take (i + 1)) = T ++ [i]) := Lib.hid (by rw [HIX.out, HT.out, hlb]; rfl)
              clear hcc hlo hlb
              subst hxl
              obtain ⟨W10, hW10⟩ : ∃ W, W8.setCell ⟨wr.heap.size, 2, none⟩ (.int .i64 0) = W := ⟨_, rfl⟩
              have hk10 : Blk W10 wr.heap.size #[.int .i64 xe, .slice ca cn cc, .int .i64 0] 49 := by rw [← hW10]; exact HK8.out.set (i := 2) _
              have hkb : Kb wr.heap.size W8 W10 := by rw [← hW10]; exact Kb.setCell _ _
              have h8s : wr.heap.size < W8.heap.size := HK8.out.lt
              have hk9 := HK8.out
              have hb10 : Below wr.heap.size wr W10 := HB8.out.trans (hkb.below (Nat.le_refl _) HK8.out.lt)
              have hap10 := HS.out.below hb10
              have hz10 : NsO we.heap.size W10 (.slice ca cn cc) cb xc := Wz.below HCH.out hb10
              have hapc := HS.out.put3 (y := ⟨xe, xc, 0⟩) HML1.out HE0.out (cb := none) (fun b e => by cases e) (grown_none hb10) hz10 (fun b e => .inl (.inr (HCL.out b e)))
              obtain ⟨W12, hW12⟩ : ∃ W, ((W10.setCell ⟨sg, sp + i * 3, none⟩ (.int .i64 xe)).setCell ⟨sg, sp + i * 3 + 1, none⟩ (.slice ca cn cc)).setCell ⟨sg, sp + i * 3 + 2, none⟩ (.int .i64 0) = W := ⟨_, rfl⟩
              have hkb12 : Kb sg W10 W12 := by rw [← hW12]; exact st3_kb W10 sg (sp + i * 3) ⟨xe, xc, 0⟩ (.slice ca cn cc)
              have HK12 := Lib.hid (hk10.kb hkb12 (by have := (HS.out.row.1.lt sg rfl).2; omega))
              have HAPC := Lib.hid (show Aq w W1.heap.size W2.heap.size W3.heap.size w5.heap.size we.heap.size PC ⟨2, xl, (n : Int), nn⟩ nodes copies _ (.slice (some ⟨sg, sp, none⟩) m sc) sg (F1.set i ⟨⟨xe, xc, 0⟩, .slice ca cn cc⟩) (.slice lva ln lvc) (.slice lva ln lvc) gl lives (.slice ta tn tc) gt3 T W12 by rw [← hW12]; exact hapc)
              clear y0 y1 y2
              obtain ⟨y0, y1, y2⟩ := hk9.cells3
              obtain ⟨x0, x1, x2, -⟩ := hk9.free4
              have HA10 := Lib.hid hap10
              have HK10 := Lib.hid hk10
              have HW10 := Lib.hid hW10
              have HW12 := Lib.hid hW12
              clear hk9 hk10 hkb hb10 hap10 hz10 hapc hW10 hW12 hkb12
              go_upto_region 39 with fail
              rw [HW10.out]
              clear y0 y1 y2 x0 x1 x2 HW10
              obtain ⟨y0, y1, y2⟩ := HK10.out.cells3
              obtain ⟨o0, o1, o2, o3⟩ := HA10.out.k4.cells4
              obtain ⟨d0, d1, d2⟩ := HA10.out.at3 HE0.out
              have x0 := HA10.out.free (o := sp + i * 3)
              have x1 := HA10.out.free (o := sp + i * 3 + 1)
              have x2 := HA10.out.free (o := sp + i * 3 + 2)
              simp only at d0 d1 d2
              go_upto_region 40 with fail
              rw [HW12.out]
              clear y0 y1 y2 x0 x1 x2 o0 o1 o2 o3 d0 d1 d2 HW12
              obtain ⟨y0, y1, y2⟩ := HK12.out.cells3
              have HMP := Lib.hid (map_next (f := Pn.lose xl) (.slice ca cn cc) HF1.out HX.out)
              rw [HLO.out] at HMP
              obtain ⟨W20, hW20⟩ : ∃ W, W12.alloc (.cells #[.int .i64 (i : Int)] 3) = W := ⟨_, rfl⟩
              have hb20 : Below W12.heap.size W12 W20 := by rw [← hW20]; exact (Below.refl _ _).alloc (Nat.le_refl _) _
              have HS20 : Hid (Rds (fun b => b = W12.heap.size) W20 (.slice (some ⟨W12.heap.size, 0, none⟩) 1 1) 1 1 [.int .i64 (i : Int)]) := Lib.hid (by rw [← hW20]; exact Rds.lit (w := W12) (n := 1) (size := 1) (cs := [.int .i64 (i : Int)]) 3 rfl)
              have HROW20 : Hid (Sl W20 (.slice ta tn tc) gt3 3 1 tn ((Pn.nums T).map (Value.int .i64))) := Lib.hid (by
                have := (Wz.below HAPC.out.tns hb20).1
                rw [HTN.out] at this
                exact this)
              have HB20 := Lib.hid hb20
              clear hb20
              go_wp2_with (at_builtin; refine wpList_append_rd (by rfl) _ _ _ (by rfl) 3 ii _ 1 8 Tryz.underlying32 hii i1i i2i i3i i4i _ gt3 tn ((Pn.nums T).map (Value.int .i64)) (by rfl) HROW20.out _ 1 [.int .i64 (i : Int)] (by rfl) HS20.out (by simp [Value.oneCell']) (by omega) (by omega) ?_)
              intro v' w' gb' h1 h2 h3
              have HAPD := Lib.hid (HAPC.out.tpush HTN.out HB20.out h1 h2 h3)
              have HG20 := Lib.hid h2
              clear h1 h2 h3
              go_wp2_with fail
              go_roundw
              case rel => exact ⟨i + 1, _, _, _, by omega, by go_num, by rw [HIY.out]; exact HAPD.out, HMP.out⟩
              case measure => simp [intOf]; omega
            · obtain ⟨hlo, hlb⟩ := HDOC.out.2.2 hcc hxl
              have HMP := Lib.hid (map_same (f := Pn.lose nd) HF1.out HX.out hlo)
              have HIY : Hid (Pn.idx (Pn.loseB nd) 0 (parts.take (i + 1)) = T) := Lib.hid (by rw [HIX.out, HT.out, hlb]; simp)
              have hxb : (xl == nd) = false := by simpa using hxl
              clear hcc hlo hlb hxl
              go_wp2_with fail
              go_roundw
              case rel => exact ⟨i + 1, _, _, _, by omega, by go_num, by rw [HIY.out]; exact HAP8.out, HMP.out⟩
              case measure => simp [intOf]; omega
        · have him : i = m := by omega
          have HTE : Hid (T = Pn.idx (Pn.loseB nd) 0 parts) := Lib.hid (by rw [← HT.out, List.take_of_length_le (by rw [HM.out]; omega)])
          have HFE : Hid (F1.map PE.x = parts.map (Pn.lose nd)) := Lib.hid (by rw [hf1, List.take_of_length_le (by rw [HM.out]; omega), List.drop_of_length_le (by rw [HM.out]; omega), List.append_nil])
          have HTT : Hid (T.length = tn) := Lib.hid (by rw [← HTN.out]; unfold Pn.nums; rw [List.length_map])
          clear hap hf1 hml him htn
          by_cases h0 : tn = 0
          · have HR : Hid (Pn.apply ⟨nodes, copies, parts, lives⟩ ⟨2, nd, (n : Int), nn⟩ = .bad 21) := Lib.hid (by
              rw [HP2.out]
              have ht0 : T = [] := List.length_eq_zero_iff.1 (HTT.out.trans h0)
              unfold Pn.apply2
              simp only
              rw [← HTE.out, if_pos ht0])
            subst h0
            obtain ⟨y0, y1, y2, y3⟩ := HS.out.k2.free4
            obtain ⟨z0, z1, z2, z3⟩ := HS.out.k2.cells4
            obtain ⟨n0, n1, n2, n3⟩ := HS.out.k3.cells4
            go_wp2_with fail
            exact rbad_ret HS.out.low (by have := HLT.out; omega) HS.out.k2 HR.out rfl rfl rfl
          · have hn0 : ((tn : Int) == 0) = false := by simp; omega
            have HFI : Hid (Pn.apply ⟨nodes, copies, parts, lives⟩ ⟨2, nd, (n : Int), nn⟩ = Pn.fin ⟨nodes, copies, parts, lives⟩ (F1.map PE.x) lives T) := Lib.hid (by
              rw [HP2.out, HFE.out]
              have ht0 : ¬ T = [] := fun e => h0 (by rw [← HTT.out, e]; rfl)
              unfold Pn.apply2
              simp only
              rw [← HTE.out, if_neg ht0])
            clear h0
            go_wp2_with fail
            go_meet
            case rel => exact ⟨_, F1, _, _, _, _, T, HS.out, HML1.out, by rw [HTE.out, ← HM.out]; exact ⟨Pn.idx_len _ _ _, Pn.idx_lt0 _ _⟩, fun e he => by
              have h1 : e.x ∈ F1.map PE.x := List.mem_map_of_mem he
              rw [HFE.out] at h1
              obtain ⟨y, hy, hye⟩ := List.mem_map.1 h1
              rw [← hye, Pn.lose_ep]
              exact HEP.out y hy, HFI.out⟩
    · exact (show False by have := HKK.out; omega).elim
    · exact (show False by have := HKK.out; omega).elim
    · exact (show False by have := HKK.out; omega).elim
  case rest =>
    obtain ⟨lab, F1, lv, gl1, q, gt, t, hap, hml, htb, hep, hfi⟩ := hcut
    simp only at hap
    obtain ⟨ta, tc, rfl⟩ := hap.tns.ns.form
    obtain ⟨tn, htn⟩ : ∃ k, t.length = k := ⟨_, rfl⟩
    have htn' : (Pn.nums t).length = tn := by unfold Pn.nums; rw [List.length_map]; exact htn
    rw [htn'] at hap ⊢
    obtain ⟨va, vc, rfl⟩ := hap.lvs.form
    obtain ⟨qn, hqn⟩ : ∃ k, q.length = k := ⟨_, rfl⟩
    rw [hqn] at hap
    obtain ⟨D, hD⟩ : ∃ D, Pn.rise (F1.map PE.x) t = D := ⟨_, rfl⟩
    have HFS : Hid (∀ qs, D = some qs → Pn.apply ⟨nodes, copies, parts, lives⟩ ⟨kd, nd, (n : Int), nn⟩ = .ok ⟨nodes, copies, qs, q⟩ t) := Lib.hid fun qs h => by rw [hfi, Pn.fin, hD, h]
    have HFN : Hid (D = none → Pn.apply ⟨nodes, copies, parts, lives⟩ ⟨kd, nd, (n : Int), nn⟩ = .bad 32) := Lib.hid fun h => by rw [hfi, Pn.fin, hD, h]
    have HS0 := Lib.hid hap
    have HML0 := Lib.hid hml
    have HEP0 := Lib.hid hep
    have HD0 : Hid (Pn.rise (F1.map PE.x) (t.drop 0) = D) := Lib.hid (by rw [List.drop_zero]; exact hD)
    have HTB := Lib.hid htb
    have HTN := Lib.hid htn
    have HTN' := Lib.hid htn'
    have htm : tn ≤ 64 := by omega
    clear hap hml hep hfi htb htn htn' hD hqn
    go_wp2_with fail
    go_loopw [17] (fun s17 wx => ∃ (i : Nat) (F2 : List PE), i ≤ tn ∧ s17 = .int .i64 i ∧ Aq w W1.heap.size W2.heap.size W3.heap.size w5.heap.size we.heap.size PC ⟨kd, nd, (n : Int), nn⟩ nodes copies lab (.slice (some ⟨sg, sp, none⟩) m sc) sg F2 (.slice va qn vc) (.slice va qn vc) gl1 q (.slice ta tn tc) gt t wx ∧ F2.length = m ∧ Pn.rise (F2.map PE.x) (t.drop i) = D ∧ ∀ e ∈ F2, 0 ≤ e.x.ep ∧ e.x.ep ≤ 1073741824) (fun s17 _ => tn - (intOf s17).toNat)
    case atStart => exact ⟨0, F1, Nat.zero_le _, rfl, HS0.out, HML0.out, HD0.out, HEP0.out⟩
    case round =>
      obtain ⟨i, F2, hi, rfl, hap, hml, hdr, hep⟩ := hrel
      have HAPR := Lib.hid hap
      have HMLR := Lib.hid hml
      obtain ⟨o0, o1, o2, o3⟩ := hap.k4.cells4
      by_cases hlt : i < tn
      · obtain ⟨k, hk⟩ : ∃ k, t[i]? = some k := ⟨_, List.getElem?_eq_getElem (by rw [HTN.out]; exact hlt)⟩
        have hkm : k < m := HTB.out.2 k (List.mem_of_getElem? hk)
        obtain ⟨e, he⟩ : ∃ e, F2[k]? = some e := ⟨_, List.getElem?_eq_getElem (by rw [hml]; exact hkm)⟩
        have hns := hap.tns.ns
        obtain ⟨tb, tp, tcap, ev, -, htb, t0⟩ := hns.at (j := i) (x := (k : Int)) (by unfold Pn.nums; rw [List.getElem?_map, hk]; rfl)
        obtain rfl : ta = some ⟨tb, tp, none⟩ := by injection ev
        obtain ⟨d0, d1, d2⟩ := hap.at3 he
        have hlo := hep e (List.mem_of_getElem? he)
        have HRS : Hid (e.x.ep ≠ 1073741824 → Pn.rise ((F2.set k ⟨⟨e.x.ep + 1, e.x.ch, e.x.le⟩, e.cv⟩).map PE.x) (t.drop (i + 1)) = D) := Lib.hid fun hne => by
          obtain ⟨hltt, hte⟩ := List.getElem?_eq_some_iff.1 hk
          rw [List.drop_eq_getElem_cons hltt, hte] at hdr
          have hge : (F2.map PE.x)[k]? = some e.x := by rw [List.getElem?_map, he]; rfl
          unfold Pn.rise at hdr
          simp only [hge] at hdr
          rw [if_neg hne] at hdr
          rw [List.map_set]
          exact hdr
        have HTOP : Hid (e.x.ep = 1073741824 → D = none) := Lib.hid fun he2 => by
          rw [← hdr]
          exact Pn.rise_top hk (by rw [List.getElem?_map, he]; rfl) he2
        have HEP2 : Hid (e.x.ep ≠ 1073741824 → ∀ y ∈ F2.set k ⟨⟨e.x.ep + 1, e.x.ch, e.x.le⟩, e.cv⟩, 0 ≤ y.x.ep ∧ y.x.ep ≤ 1073741824) := Lib.hid fun hne y hy => by
          rcases List.mem_or_eq_of_mem_set hy with hy | rfl
          · exact hep y hy
          · exact ⟨by simp only; omega, by simp only; omega⟩
        obtain ⟨⟨xe, xc, xl⟩, cv⟩ := e
        simp only at d0 d1 d2 hlo HRS HTOP HEP2
        obtain ⟨Wd, hWd⟩ : ∃ W, wr.drew = W := ⟨_, rfl⟩
        have hapd := hap.below (show Below wr.heap.size wr Wd by rw [← hWd]; exact (Below.refl _ _).drew)
        have hrd := (hapd.rose (xe + 1) hml he).2
        have fd : Wd.frozen? ⟨sg, sp + k * 3, none⟩ = false := hapd.free
        obtain ⟨q0, q1, q2⟩ := hapd.at3 he
        obtain ⟨p0, p1, p2, p3⟩ := hapd.k4.cells4
        simp only at q0
        obtain ⟨W8, hW8⟩ : ∃ W, Wd.setCell ⟨sg, sp + k * 3, none⟩ (.int .i64 (xe + 1)) = W := ⟨_, rfl⟩
        rw [hW8] at hrd
        have HAP8 := Lib.hid hrd
        have HW8 := Lib.hid hW8
        have HWD := Lib.hid hWd
        have HK := Lib.hid hk
        have i0 : (0 : Int) ≤ (i : Int) := by omega
        have i1 : (i : Int) < (tn : Int) := by omega
        have j0 : (0 : Int) ≤ (k : Int) := by omega
        have j1 : (k : Int) < (m : Int) := by omega
        have hw1 : wrap64 (xe + 1) = xe + 1 := by unfold wrap64; omega
        clear hap hml hdr hep hk he hns ev hW8 hWd hapd hrd d1 d2 htb q1 q2
        go_upto_region 64 with fail
        go_still_tail 12, (by kernel_rfl)
        change wpList _ _ _ _ _ wr.drew
        rw [HWD.out]
        go_upto_region 65 with fail
        rw [HW8.out]
        clear HW8 HWD d0 q0 t0 fd o0 o1 o2 o3 p0 p1 p2 p3
        obtain ⟨o0, o1, o2, o3⟩ := HAP8.out.k4.cells4
        obtain ⟨tb', tp', tcap', ev, -, -, t0⟩ := HAP8.out.tns.ns.at (j := i) (x := (k : Int)) (by unfold Pn.nums; rw [List.getElem?_map, HK.out]; rfl)
        injection ev with ev1 ev2 ev3
        injection ev1 with ev1
        injection ev1 with ev4 ev5
        subst ev4 ev5
        obtain ⟨d0, d1, d2⟩ := HAP8.out.at3 (k := k) (e := ⟨⟨xe + 1, xc, xl⟩, cv⟩) (by rw [List.getElem?_set]; simp [HMLR.out, hkm])
        simp only at d0
        have HML8 : Hid ((F2.set k ⟨⟨xe + 1, xc, xl⟩, cv⟩).length = m) := Lib.hid (by rw [List.length_set]; exact HMLR.out)
        clear ev2 ev3 d1 d2
        by_cases htop : xe = 1073741824
        · have HR := Lib.hid (HFN.out (HTOP.out htop))
          subst htop
          go_quiet (fail)
          have HAPQ := Lib.hid (HAP8.out.below (below_drewN W8 nq))
          clear o0 o1 o2 o3 d0 t0
          obtain ⟨y0, y1, y2, y3⟩ := HAPQ.out.k2.free4
          obtain ⟨z0, z1, z2, z3⟩ := HAPQ.out.k2.cells4
          obtain ⟨n0, n1, n2, n3⟩ := HAPQ.out.k3.cells4
          go_wp2_with fail
          exact rbad_ret HAPQ.out.low (by have := HLT.out; omega) HAPQ.out.k2 HR.out rfl rfl rfl
        · have hgt : decide (1073741824 < xe + 1) = false := decide_eq_false (by omega)
          have HRS2 := Lib.hid (HRS.out htop)
          have HEP3 := Lib.hid (HEP2.out htop)
          clear htop
          go_quiet (fail)
          have HAPQ := Lib.hid (HAP8.out.below (below_drewN W8 nq))
          clear o0 o1 o2 o3 d0 t0
          go_wp2_with fail
          go_roundw
          case rel => exact ⟨i + 1, _, by omega, by go_num, HAPQ.out, HML8.out, HRS2.out, HEP3.out⟩
          case measure => simp [intOf]; omega
      · have HR := Lib.hid (HFS.out (F2.map PE.x) (by
          rw [← hdr, List.drop_of_length_le (by rw [HTN.out]; omega)]
          unfold Pn.rise
          rfl))
        obtain ⟨y0, y1, y2, y3⟩ := HAPR.out.k2.free4
        obtain ⟨z0, z1, z2, z3⟩ := HAPR.out.k2.cells4
        clear hap hml hdr hep
        go_wp2_with fail
        refine bodyPost_ret (rapply_ret (Blk.four HAPR.out.k2 _ _ _ _) rfl rfl rfl) rfl ?_
        rw [HR.out]
        obtain ⟨l1, l2, l3⟩ := HAPR.out.fin (four_kb _ _ _ _ _ _)
        exact ⟨l1, _, _, gt, rfl, l2, l3⟩
end Go.Proofs.YtmkinnheoejphaaGreatDoor
