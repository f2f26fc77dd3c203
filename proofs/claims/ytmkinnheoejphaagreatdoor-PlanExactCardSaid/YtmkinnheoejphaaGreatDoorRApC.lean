/- THE CONTRACT OF THE DOCUMENT's Apply. -/
import Derived.Test.YtmkinnheoejphaaGreatDoorRAq
import Derived.Test.YtmkinnheoejphaaGreatDoorRGd
import Derived.Test.YtmkinnheoejphaaGreatDoorRCp
import Derived.Test.YtmkinnheoejphaaGreatDoorEvR
import Derived.Test.YtmkinnheoejphaaGreatDoorPnT
import Derived.Test.YtmkinnheoejphaaGreatDoorFlo
import Derived.Deep.CutRange
import Derived.Deep.CutBlock
import Derived.Deep.RegionHeld3
import Derived.StillTailTactics
namespace Go.Proofs.YtmkinnheoejphaaGreatDoor
open Go.RowKit

set_option maxHeartbeats 8000000 in
set_option maxRecDepth 100000 in
theorem rapply_3 {A : Nat → Prop} (pv : Value) (p : Pn.P) (x : Pn.Ev) (w : World) (hkk : x.kind ≠ 1 ∧ x.kind ≠ 2) (h : PlR A w pv p) (hl : p.parts.length ≤ 64) (hll : p.lives.length ≤ 60) (hc : ∀ x ∈ p.parts, x.ch.length ≤ 64) :
    Calls Tryz.prog 8 #[pv, .agg #[.int .i64 x.kind, .int .i64 x.node, .int .i64 x.part, .int .i64 x.n]] w fun e w' => AplOut w (Pn.apply p x) e w' := by
  obtain ⟨sv0, lv0, rfl, hps, hlv⟩ := h
  obtain ⟨nodes, copies, parts, lives⟩ := p
  obtain ⟨kd, nd, pt, nn⟩ := x
  simp only [plv] at hps hlv hl hll hc hkk ⊢
  have HKK := Lib.hid hkk
  clear hkk
  obtain ⟨a, cap, rfl⟩ := hps.form
  obtain ⟨la, lcap, rfl⟩ := hlv.form
  obtain ⟨m, hm⟩ : ∃ n, parts.length = n := ⟨_, rfl⟩
  obtain ⟨ln, hln⟩ : ∃ n, lives.length = n := ⟨_, rfl⟩
  obtain ⟨W1, hW1⟩ : ∃ W, w.alloc (.cells #[.int .i64 nodes, .int .i64 copies, .slice a m cap, .slice la ln lcap] 25) = W := ⟨_, rfl⟩
  obtain ⟨W2, hW2⟩ : ∃ W, W1.alloc (.cells #[.int .i64 kd, .int .i64 nd, .int .i64 pt, .int .i64 nn] 27) = W := ⟨_, rfl⟩
  obtain ⟨W3, hW3⟩ : ∃ W, W2.alloc (.cells #[.int .i64 0, .int .i64 0, .slice none 0 0, .slice none 0 0] 25) = W := ⟨_, rfl⟩
  obtain ⟨W4, hW4⟩ : ∃ W, W3.alloc (.cells #[.int .i64 0, .int .i64 0, .slice none 0 0, .slice none 0 0] 25) = W := ⟨_, rfl⟩
  have hb1 : Below w.heap.size w W1 := by rw [← hW1]; exact (Below.refl _ _).alloc (Nat.le_refl _) _
  have hb12 : Below W1.heap.size W1 W2 := by rw [← hW2]; exact (Below.refl _ _).alloc (Nat.le_refl _) _
  have hb23 : Below W2.heap.size W2 W3 := by rw [← hW3]; exact (Below.refl _ _).alloc (Nat.le_refl _) _
  have hb34 : Below W3.heap.size W3 W4 := by rw [← hW4]; exact (Below.refl _ _).alloc (Nat.le_refl _) _
  have k0 : Blk W1 w.heap.size #[.int .i64 nodes, .int .i64 copies, .slice a m cap, .slice la ln lcap] 25 := by rw [← hW1]; exact Blk.new _ _ _
  have k1 : Blk W2 W1.heap.size #[.int .i64 kd, .int .i64 nd, .int .i64 pt, .int .i64 nn] 27 := by rw [← hW2]; exact Blk.new _ _ _
  have k2 : Blk W3 W2.heap.size zeroC 25 := by rw [← hW3]; exact Blk.new _ _ _
  have k3 : Blk W4 W3.heap.size zeroC 25 := by rw [← hW4]; exact Blk.new _ _ _
  have hb2 := hb1.trans (hb12.mono hb1.size)
  have hb3 := hb2.trans (hb23.mono hb2.size)
  have hb4 := hb3.trans (hb34.mono hb3.size)
  have HLT : Hid (w.heap.size < W1.heap.size ∧ W1.heap.size < W2.heap.size ∧ W2.heap.size < W3.heap.size ∧ W3.heap.size < W4.heap.size) := Lib.hid ⟨k0.lt, k1.lt, k2.lt, k3.lt⟩
  have HK0 := Lib.hid (((k0.below hb12).below hb23).below hb34)
  have HK1 := Lib.hid ((k1.below hb23).below hb34)
  have HK2 := Lib.hid (k2.below hb34)
  have HK3 := Lib.hid k3
  have HB4 := Lib.hid hb4
  have HLS : Hid (∀ wx, Below w.heap.size w wx → Lvs A wx (.slice la ln lcap) lives) := Lib.hid fun wx hb => by rw [← hln]; exact hlv.below hb
  have HPL : Hid (∀ wx, Below w.heap.size w wx → PlR A wx (.agg #[.int .i64 nodes, .int .i64 copies, .slice a m cap, .slice la ln lcap]) ⟨nodes, copies, parts, lives⟩) := Lib.hid fun wx hb => ⟨.slice a m cap, .slice la ln lcap, rfl, by rw [← hm]; exact hps.below hb, by rw [← hln]; exact hlv.below hb⟩
  have HGD : Hid (∀ wx, Below W4.heap.size W4 wx → Calls Tryz.prog 14 #[.agg #[.int .i64 nodes, .int .i64 copies, .slice a m cap, .slice la ln lcap]] wx fun e w' => BolOut wx (Pn.goodB ⟨nodes, copies, parts, lives⟩) e w') := Lib.hid fun wx hb => rgood_any _ ⟨nodes, copies, parts, lives⟩ wx (HPL.out wx (HB4.out.trans (hb.mono HB4.out.size))) (by simp only; omega) (by simp only; omega) hc
  have HEV : Hid (∀ wx : World, Calls Tryz.prog 32 #[.agg #[.int .i64 kd, .int .i64 nd, .int .i64 pt, .int .i64 nn]] wx fun e w' => BolOut wx (Pn.evB ⟨kd, nd, pt, nn⟩) e w') := Lib.hid fun wx => revent_any ⟨kd, nd, pt, nn⟩ wx
  have HCD : Hid (∀ wx, Below W4.heap.size W4 wx → Calls Tryz.prog 33 #[.agg #[.int .i64 nodes, .int .i64 copies, .slice a m cap, .slice la ln lcap]] wx fun e w' => ClpOut wx ⟨nodes, copies, parts, lives⟩ e w') := Lib.hid fun wx hb => rcopy_any _ ⟨nodes, copies, parts, lives⟩ wx (HPL.out wx (HB4.out.trans (hb.mono HB4.out.size))) (by simp only; omega) (by simp only; omega) hc
  have HOK : Hid (Pn.okB ⟨nodes, copies, parts, lives⟩ ⟨kd, nd, pt, nn⟩ = (Pn.goodB ⟨nodes, copies, parts, lives⟩ && Pn.evB ⟨kd, nd, pt, nn⟩ && decide (nd ≤ nodes) && decide (pt < (m : Int)))) := Lib.hid (by rw [← hm]; rfl)
  obtain ⟨O, hO⟩ : ∃ O, Pn.okB ⟨nodes, copies, parts, lives⟩ ⟨kd, nd, pt, nn⟩ = O := ⟨_, rfl⟩
  have HO := Lib.hid hO
  rw [hO] at HOK
  obtain ⟨G, hG⟩ : ∃ G, Pn.goodB ⟨nodes, copies, parts, lives⟩ = G := ⟨_, rfl⟩
  obtain ⟨V, hV⟩ : ∃ V, Pn.evB ⟨kd, nd, pt, nn⟩ = V := ⟨_, rfl⟩
  rw [hG] at HGD HOK
  rw [hV] at HEV HOK
  have HM := Lib.hid hm
  have HLN := Lib.hid hln
  have HLL := Lib.hid hll
  have HC := Lib.hid hc
  have HX0 := Lib.hid (Below.refl W4.heap.size W4)
  have HW4 := Lib.hid hW4
  clear hW4
  rw [hm, hln]
  rw [hm] at hl
  obtain ⟨c0, c1, c2, c3⟩ := HK0.out.cells4
  clear hb1 hb12 hb23 hb34 k0 k1 k2 k3 hb2 hb3 hb4 hps hlv hll hc hG hV hO hm hln
  go_enter Tryz.func8, Tryz.ntmps8
  go_upto_region 2 with fail
  rw [HW4.out]
  clear hW1 hW2 hW3 HW4
  go_wp2_with fail
  refine (HGD.out _ HX0.out).mono ?_
  rintro e wg ⟨rfl, hg⟩
  have HG := Lib.hid hg
  have HK1' := HK1.out.below hg
  obtain ⟨e0, e1, e2, e3⟩ := HK1'.cells4
  clear HK1' hg c0 c1 c2 c3
  cases G with
  | false =>
    have HT : Hid (Pn.apply ⟨nodes, copies, parts, lives⟩ ⟨kd, nd, pt, nn⟩ = .bad 1) := Lib.hid (by unfold Pn.apply; rw [HO.out, HOK.out]; rfl)
    have HD2 := Lib.hid (HK2.out.below HG.out)
    obtain ⟨y0, y1, y2, y3⟩ := HD2.out.free4
    obtain ⟨z0, z1, z2, z3⟩ := HD2.out.cells4
    obtain ⟨n0, n1, n2, n3⟩ := (HK3.out.below HG.out).cells4
    go_wp2_with fail
    exact rbad_ret (HB4.out.trans (HG.out.mono HB4.out.size)) (by have := HLT.out; omega) HD2.out HT.out rfl rfl rfl
  | true =>
  go_wp2_with fail
  refine (HEV.out _).mono ?_
  rintro e we ⟨rfl, he⟩
  have HE := Lib.hid (HG.out.trans (he.mono HG.out.size))
  have HK0' := HK0.out.below HE.out
  have HK1' := HK1.out.below HE.out
  clear e0 e1 e2 e3
  obtain ⟨e0, e1, e2, e3⟩ := HK1'.cells4
  obtain ⟨c0, c1, c2, c3⟩ := HK0'.cells4
  clear HK0' HK1' he
  cases V with
  | false =>
    have HT : Hid (Pn.apply ⟨nodes, copies, parts, lives⟩ ⟨kd, nd, pt, nn⟩ = .bad 1) := Lib.hid (by unfold Pn.apply; rw [HO.out, HOK.out]; rfl)
    have HD2 := Lib.hid (HK2.out.below HE.out)
    obtain ⟨y0, y1, y2, y3⟩ := HD2.out.free4
    obtain ⟨z0, z1, z2, z3⟩ := HD2.out.cells4
    obtain ⟨n0, n1, n2, n3⟩ := (HK3.out.below HE.out).cells4
    go_wp2_with fail
    exact rbad_ret (HB4.out.trans (HE.out.mono HB4.out.size)) (by have := HLT.out; omega) HD2.out HT.out rfl rfl rfl
  | true =>
  by_cases h1 : nodes < nd
  · have h1' : decide (nd ≤ nodes) = false := decide_eq_false (by omega)
    have HT : Hid (Pn.apply ⟨nodes, copies, parts, lives⟩ ⟨kd, nd, pt, nn⟩ = .bad 1) := Lib.hid (by unfold Pn.apply; rw [HO.out, HOK.out, h1']; rfl)
    have HD2 := Lib.hid (HK2.out.below HE.out)
    obtain ⟨y0, y1, y2, y3⟩ := HD2.out.free4
    obtain ⟨z0, z1, z2, z3⟩ := HD2.out.cells4
    obtain ⟨n0, n1, n2, n3⟩ := (HK3.out.below HE.out).cells4
    go_wp2_with fail
    exact rbad_ret (HB4.out.trans (HE.out.mono HB4.out.size)) (by have := HLT.out; omega) HD2.out HT.out rfl rfl rfl
  have h1' : decide (nd ≤ nodes) = true := decide_eq_true (by omega)
  by_cases h2 : (m : Int) ≤ pt
  · have h2' : decide (pt < (m : Int)) = false := decide_eq_false (by omega)
    have HT : Hid (Pn.apply ⟨nodes, copies, parts, lives⟩ ⟨kd, nd, pt, nn⟩ = .bad 1) := Lib.hid (by unfold Pn.apply; rw [HO.out, HOK.out, h1', h2']; rfl)
    have HD2 := Lib.hid (HK2.out.below HE.out)
    obtain ⟨y0, y1, y2, y3⟩ := HD2.out.free4
    obtain ⟨z0, z1, z2, z3⟩ := HD2.out.cells4
    obtain ⟨n0, n1, n2, n3⟩ := (HK3.out.below HE.out).cells4
    go_wp2_with fail
    exact rbad_ret (HB4.out.trans (HE.out.mono HB4.out.size)) (by have := HLT.out; omega) HD2.out HT.out rfl rfl rfl
  have h2' : decide (pt < (m : Int)) = true := decide_eq_true (by omega)
  have HOT : Hid (Pn.okB ⟨nodes, copies, parts, lives⟩ ⟨kd, nd, pt, nn⟩ = true) := Lib.hid (by rw [HO.out, HOK.out, h1', h2']; rfl)
  obtain ⟨hgood, hevb, -, -, hp0, hm2, hm4, hn1, hn5, hc1, hcn⟩ := Pn.ok_facts HOT.out
  simp only at hp0 hm2 hm4 hn1 hn5 hc1 hcn
  have HGO := Lib.hid hgood
  have HEB := Lib.hid hevb
  have HLE := Lib.hid (HB4.out.trans (HE.out.mono HB4.out.size))
  have HF0 := Lib.hid (HK0.out.below HE.out)
  have HF1 := Lib.hid (HK1.out.below HE.out)
  have HF2 := Lib.hid (HK2.out.below HE.out)
  have HF3 := Lib.hid (HK3.out.below HE.out)
  clear h1' h2' HOK HO hgood hevb
  go_wp2_with fail
  refine (HCD.out _ HE.out).mono ?_
  rintro e w5 ⟨h5, lab, sv, lv, rfl, hpl⟩
  simp only [plv]
  obtain ⟨sa, sc, rfl⟩ := hpl.1.form
  obtain ⟨lva, lvc, rfl⟩ := hpl.2.rd.form
  simp only at hpl ⊢
  rw [HM.out, HLN.out] at hpl
  rw [HM.out, HLN.out]
  obtain ⟨sg, sp, rfl⟩ : ∃ g p, sa = some ⟨g, p, none⟩ := by
    obtain ⟨gb, F, hF, hrow⟩ := hpl.1
    obtain ⟨ao', cap', ev2, -, hpos, -⟩ := Sl.make hrow.1.1
    obtain ⟨g', p', e1, e2⟩ := hpos (by have := congrArg List.length hF; rw [List.length_map] at this; have := HM.out; simp only at *; omega)
    injection ev2 with e3 e4 e5
    exact ⟨g', p', e3.trans e1⟩
  obtain ⟨PC, hPC⟩ : ∃ PC : Array Value, #[Value.int .i64 nodes, .int .i64 copies, .slice a m cap, .slice la ln lcap] = PC := ⟨_, rfl⟩
  obtain ⟨F, gl, hF, hap⟩ := Aq.start (x := ⟨kd, nd, pt, nn⟩) (pc := PC) HLE.out ⟨HLT.out.1, HLT.out.2.1, HLT.out.2.2.1⟩ (by rw [← hPC]; exact HF0.out) HF1.out HF2.out HF3.out h5 rfl (by have := HM.out; omega) hpl
  obtain ⟨n, rfl⟩ : ∃ n : Nat, pt = n := ⟨pt.toNat, by omega⟩
  obtain ⟨W6, hW6⟩ : ∃ W, w5.alloc (.cells #[.int .i64 nodes, .int .i64 copies, .slice (some ⟨sg, sp, none⟩) m sc, .slice lva ln lvc] 25) = W := ⟨_, rfl⟩
  have hb6 : Below w5.heap.size w5 W6 := by rw [← hW6]; exact (Below.refl _ _).alloc (Nat.le_refl _) _
  rw [hW6] at hap
  obtain ⟨W7, hW7⟩ : ∃ W, W6.alloc (.cells #[] 3) = W := ⟨_, rfl⟩
  have hb7 : Below W6.heap.size W6 W7 := by rw [← hW7]; exact (Below.refl _ _).alloc (Nat.le_refl _) _
  rw [hW7] at hap
  have HPC := Lib.hid hPC
  have HAP := Lib.hid hap
  have HFP := Lib.hid hF
  have HW6 := Lib.hid hW6
  have HW7 := Lib.hid hW7
  clear hap hF hpl h5 hW6 hW7 hPC hb6 hb7 c0 c1 c2 c3 e0 e1 e2 e3
  go_upto_region 5 with fail
  rw [HW6.out]
  go_upto_region 6 with fail
  rw [HW7.out]
  clear HW6 HW7 HF0 HF1 HF2 HF3 HG HE HGD HEV HCD HLE HX0 HK0 HK1 HK2 HK3 HB4
  have HML : Hid (F.length = m) := Lib.hid (by have := congrArg List.length HFP.out; rw [List.length_map] at this; rw [this]; exact HM.out)
  have HEP : Hid (∀ x ∈ parts, 0 ≤ x.ep ∧ x.ep ≤ 1073741824) := Lib.hid (Pn.good_eps HGO.out)
  have hkd : kd = 1 ∨ kd = 2 ∨ kd = 3 ∨ kd = 4 ∨ kd = 5 := by have := Pn.ev_kind HEB.out; simp only at this; exact this
  have HKD := Lib.hid hkd
  have HAPP : Hid (Pn.apply ⟨nodes, copies, parts, lives⟩ ⟨kd, nd, (n : Int), nn⟩ = if kd = 1 then Pn.apply1 ⟨nodes, copies, parts, lives⟩ ⟨kd, nd, (n : Int), nn⟩ else if kd = 2 then Pn.apply2 ⟨nodes, copies, parts, lives⟩ ⟨kd, nd, (n : Int), nn⟩ else if kd = 3 then Pn.apply3 ⟨nodes, copies, parts, lives⟩ ⟨kd, nd, (n : Int), nn⟩ else if kd = 4 then Pn.apply4 ⟨nodes, copies, parts, lives⟩ else Pn.apply5 ⟨nodes, copies, parts, lives⟩ ⟨kd, nd, (n : Int), nn⟩) := Lib.hid (by rw [Pn.apply, HOT.out, if_neg (by decide)])
  obtain ⟨e0, e1, e2, e3⟩ := (show Blk W7 W1.heap.size #[.int .i64 kd, .int .i64 nd, .int .i64 (n : Int), .int .i64 nn] 27 from HAP.out.k1).cells4
  clear hkd
  go_upto_block 0 with fail
  go_cut [9] from 10 to 302 (fun s9 wx => Mid w W1.heap.size W2.heap.size W3.heap.size w5.heap.size we.heap.size PC ⟨kd, nd, (n : Int), nn⟩ ⟨nodes, copies, parts, lives⟩ sg sp m sc s9 wx)
  case first =>
    obtain ⟨c0, c1, c2, c3⟩ := (show Blk W7 w.heap.size #[.int .i64 nodes, .int .i64 copies, .slice a m cap, .slice la ln lcap] 25 by rw [HPC.out]; exact HAP.out.k0).cells4
    rcases HKD.out with hkd | hkd | hkd | hkd | hkd
    · exact (show False by have := HKK.out; omega).elim
    · exact (show False by have := HKK.out; omega).elim
    · subst hkd
      have HP3 := Lib.hid (HAPP.out.trans ((if_neg (by decide)).trans ((if_neg (by decide)).trans (if_pos rfl))))
      obtain ⟨e, he⟩ : ∃ e, F[n]? = some e := ⟨_, List.getElem?_eq_getElem (by rw [HML.out]; omega)⟩
      have hx : parts[n]? = some e.x := by rw [← HFP.out, List.getElem?_map, he]; rfl
      obtain ⟨d0, d1, d2⟩ := HAP.out.at3 he
      have hch := HAP.out.row.2.2 n _ he
      obtain ⟨o0, o1, o2, o3⟩ := HAP.out.k4.cells4
      obtain ⟨⟨xe, xc, xl⟩, cv⟩ := e
      simp only at hx d0 d1 d2 hch
      obtain ⟨cb, hc, hcl⟩ := hch
      obtain ⟨ca, cc, rfl⟩ := hc.ns.form
      have hc64 := HC.out _ (List.mem_of_getElem? hx)
      simp only at hc64
      obtain ⟨cn, hcn⟩ : ∃ k, xc.length = k := ⟨_, rfl⟩
      have HCN := Lib.hid hcn
      have HX := Lib.hid hx
      have HE0 := Lib.hid he
      have HAT : Hid (Pn.at' ⟨nodes, copies, parts, lives⟩ ⟨3, nd, (n : Int), nn⟩ = ⟨xe, xc, xl⟩) := Lib.hid (by
        unfold Pn.at'
        simp only [Int.toNat_natCast, List.getD_eq_getElem?_getD, hx, Option.getD_some])
      have HP4 : Hid (Pn.apply ⟨nodes, copies, parts, lives⟩ ⟨3, nd, (n : Int), nn⟩ = if nn = xe ∧ nd = xl then Pn.fin ⟨nodes, copies, parts, lives⟩ (parts.set n ⟨xe, xc ++ [nd], 0⟩) lives [n] else .bad 21) := Lib.hid (by
        rw [HP3.out]
        unfold Pn.apply3
        rw [HAT.out]
        simp only [Int.toNat_natCast])
      rw [hcn] at d1 hc64
      obtain ⟨W8, hW8⟩ : ∃ W, W7.alloc (.cells #[.int .i64 xe, .slice ca cn cc, .int .i64 xl] 49) = W := ⟨_, rfl⟩
      have hb8 : Below W7.heap.size W7 W8 := by rw [← hW8]; exact (Below.refl _ _).alloc (Nat.le_refl _) _
      have k8 : Blk W8 W7.heap.size #[.int .i64 xe, .slice ca cn cc, .int .i64 xl] 49 := by rw [← hW8]; exact Blk.new _ _ _
      have HCH := Lib.hid hc
      have HCL : Hid (∀ b, cb = some b → relab lab w5.heap.size .no b = .ch n ∧ we.heap.size ≤ b ∧ b < W7.heap.size) := Lib.hid fun b e => ⟨hcl b e, hc.lt b e⟩
      have HB8 := Lib.hid hb8
      have HK8 := Lib.hid k8
      have HW8 := Lib.hid hW8
      have HAP8 := Lib.hid (HAP.out.below hb8)
      have n0 : (0 : Int) ≤ (n : Int) := by omega
      clear hx he hc hcl hcn HP3 HAT hb8 k8 hW8
      go_upto_region 45 with fail
      rw [HW8.out]
      clear HW8 c0 c1 c2 c3 d0 d1 d2 o0 o1 o2 o3 e0 e1 e2 e3
      obtain ⟨e0, e1, e2, e3⟩ := (show Blk W8 W1.heap.size #[.int .i64 3, .int .i64 nd, .int .i64 (n : Int), .int .i64 nn] 27 from HAP8.out.k1).cells4
      obtain ⟨y0, y1, y2⟩ := HK8.out.cells3
      by_cases g1 : nn = xe
      · subst g1
        by_cases g2 : nd = xl
        · subst g2
          have HF0 : Hid (Pn.apply ⟨nodes, copies, parts, lives⟩ ⟨3, nd, (n : Int), nn⟩ = Pn.fin ⟨nodes, copies, parts, lives⟩ (parts.set n ⟨nn, xc ++ [nd], 0⟩) lives [n]) := Lib.hid (by rw [HP4.out, if_pos ⟨rfl, rfl⟩])
          obtain ⟨ii, hii, i1i, i2i, i3i, i4i⟩ := infoInt
          obtain ⟨W9, hW9⟩ : ∃ W, W8.alloc (.cells #[.int .i64 nd] 3) = W := ⟨_, rfl⟩
          have hb9 : Below W8.heap.size W8 W9 := by rw [← hW9]; exact (Below.refl _ _).alloc (Nat.le_refl _) _
          have HS9 : Hid (Rds (fun b => b = W8.heap.size) W9 (.slice (some ⟨W8.heap.size, 0, none⟩) 1 1) 1 1 [.int .i64 nd]) := Lib.hid (by rw [← hW9]; exact Rds.lit (w := W8) (n := 1) (size := 1) (cs := [.int .i64 nd]) 3 rfl)
          have hb79 := HB8.out.trans (hb9.mono HB8.out.size)
          have HROW : Hid (Sl W9 (.slice ca cn cc) cb 3 1 cn (xc.map (Value.int .i64))) := Lib.hid (by
            have := (Wz.below HCH.out hb79).1
            rw [HCN.out] at this
            exact this)
          have HB9 := Lib.hid hb9
          have HB79 := Lib.hid hb79
          clear hb9 hb79
          go_upto_region 47 with fail
          go_wp2_with (at_builtin; refine wpList_append_rd (by rfl) _ _ _ (by rfl) 3 ii _ 1 8 Tryz.underlying32 hii i1i i2i i3i i4i _ cb cn (xc.map (Value.int .i64)) (by rfl) HROW.out _ 1 [.int .i64 nd] (by rfl) HS9.out (by simp [Value.oneCell']) (by omega) (by omega) ?_)
          intro v' w' gb' h1 h2 h3
          obtain ⟨va, vc, rfl⟩ := h1.form
          have hg7 := grown_after HB79.out h2
          have h8s : W7.heap.size < W8.heap.size := HK8.out.lt
          have h9s := HB9.out.size
          have hk8 := (HK8.out.below HB9.out).grown h2 (fun e => by have := (HCL.out _ e.symm).2.2; omega)
          obtain ⟨W10, hW10⟩ : ∃ W, w'.setCell ⟨W7.heap.size, 1, none⟩ (.slice va (cn + 1) vc) = W := ⟨_, rfl⟩
          have hk9 : Blk W10 W7.heap.size #[.int .i64 nn, .slice va (cn + 1) vc, .int .i64 nd] 49 := by rw [← hW10]; exact hk8.set (i := 1) _
          obtain ⟨W11, hW11⟩ : ∃ W, W10.setCell ⟨W7.heap.size, 2, none⟩ (.int .i64 0) = W := ⟨_, rfl⟩
          have hk10 : Blk W11 W7.heap.size #[.int .i64 nn, .slice va (cn + 1) vc, .int .i64 0] 49 := by rw [← hW11]; exact hk9.set (i := 2) _
          have hkb : Kb W7.heap.size w' W11 := by rw [← hW11, ← hW10]; exact (Kb.setCell _ _).trans (Kb.setCell _ _)
          have hg11 : W7.grownBy W11 cb := grown_then hg7 ⟨hkb.os, hkb.tape, hkb.output, hkb.size, fun b hb => hkb.block b (by have := hg7.size; omega) (by omega)⟩
          have hch11 : NsO we.heap.size W11 (.slice va (cn + 1) vc) gb' (xc ++ [nd]) := by
            refine ⟨?_, fun b e => ?_⟩
            · rw [List.length_append, List.length_singleton, HCN.out, List.map_append]
              refine h1.same fun b e => hkb.block b (h1.lt b e) (fun e2 => ?_)
              rcases h3 with h3 | ⟨g', h3, h4⟩
              · have := (HCL.out b (h3 ▸ e)).2.2; omega
              · rw [h3] at e; cases e; omega
            · rcases h3 with h3 | ⟨g', h3, h4⟩
              · exact (HCL.out b (h3 ▸ e)).2.1
              · have := HAP.out.zle; rw [h3] at e; cases e; omega
          obtain ⟨q1, q2, q3, q4, q5, q6⟩ := HAP.out.grew (k := n) hg11 HCL.out HE0.out
          have hap12 := HAP.out.put3 (y := ⟨nn, xc ++ [nd], 0⟩) HML.out HE0.out HCL.out hg11 hch11 (fun b e => by
            rcases h3 with h3 | ⟨g', h3, h4⟩
            · exact .inl (.inl (h3 ▸ e))
            · rw [h3] at e; cases e; exact .inr (by omega))
          obtain ⟨W12, hW12⟩ : ∃ W, ((W11.setCell ⟨sg, sp + n * 3, none⟩ (.int .i64 nn)).setCell ⟨sg, sp + n * 3 + 1, none⟩ (.slice va (cn + 1) vc)).setCell ⟨sg, sp + n * 3 + 2, none⟩ (.int .i64 0) = W := ⟨_, rfl⟩
          have HAPC := Lib.hid (show Aq w W1.heap.size W2.heap.size W3.heap.size w5.heap.size we.heap.size PC ⟨3, nd, (n : Int), nn⟩ nodes copies _ (.slice (some ⟨sg, sp, none⟩) m sc) sg (F.set n ⟨⟨nn, xc ++ [nd], 0⟩, .slice va (cn + 1) vc⟩) (.slice lva ln lvc) (.slice lva ln lvc) gl lives (.slice (some ⟨W6.heap.size, 0, none⟩) 0 0) (some W6.heap.size) [] W12 by rw [← hW12]; exact hap12)
          have HK8B := Lib.hid hk8
          have HK9 := Lib.hid hk9
          have HK10 := Lib.hid hk10
          have HQ1 := Lib.hid q1
          have HQ2 := Lib.hid q2
          have HQ3 := Lib.hid q3
          have HW10 := Lib.hid hW10
          have HW11 := Lib.hid hW11
          have HW12 := Lib.hid hW12
          simp only at q4 q5 q6
          have HQ456 := Lib.hid (And.intro q4 (And.intro q5 q6))
          clear h1 h2 h3 hg7 hk8 hk9 hk10 hkb hg11 hch11 hap12 q1 q2 q3 q4 q5 q6 hW10 hW11 hW12 y0 y1 y2 e0 e1 e2 e3 HP4 hii i1i i2i i3i i4i
          obtain ⟨y0, y1, y2⟩ := HK8B.out.cells3
          obtain ⟨x0, x1, x2, -⟩ := HK8B.out.free4
          go_upto_region 48 with fail
          rw [HW10.out]
          clear y0 y1 y2 x0 x1 x2 HW10
          obtain ⟨y0, y1, y2⟩ := HK9.out.cells3
          obtain ⟨x0, x1, x2, -⟩ := HK9.out.free4
          go_upto_region 49 with fail
          rw [HW11.out]
          clear y0 y1 y2 x0 x1 x2 HW11
          obtain ⟨y0, y1, y2⟩ := HK10.out.cells3
          obtain ⟨e0, e1, e2, e3⟩ := (show Blk W11 W1.heap.size #[.int .i64 3, .int .i64 nd, .int .i64 (n : Int), .int .i64 nn] 27 from HQ1.out).cells4
          obtain ⟨o0, o1, o2, o3⟩ := HQ2.out.cells4
          obtain ⟨d0, d1, d2⟩ := HQ456.out
          have x0 := HQ3.out (sp + n * 3)
          have x1 := HQ3.out (sp + n * 3 + 1)
          have x2 := HQ3.out (sp + n * 3 + 2)
          go_upto_region 50 with fail
          rw [HW12.out]
          clear y0 y1 y2 x0 x1 x2 e0 e1 e2 e3 o0 o1 o2 o3 d0 d1 d2 HW12
          obtain ⟨e0, e1, e2, e3⟩ := (show Blk W12 W1.heap.size #[.int .i64 3, .int .i64 nd, .int .i64 (n : Int), .int .i64 nn] 27 from HAPC.out.k1).cells4
          obtain ⟨ii, hii, i1i, i2i, i3i, i4i⟩ := infoInt
          have HTN : Hid ((Pn.nums []).length = 0) := Lib.hid rfl
          obtain ⟨W20, hW20⟩ : ∃ W, W12.alloc (.cells #[.int .i64 (n : Int)] 3) = W := ⟨_, rfl⟩
          have hb20 : Below W12.heap.size W12 W20 := by rw [← hW20]; exact (Below.refl _ _).alloc (Nat.le_refl _) _
          have HS20 : Hid (Rds (fun b => b = W12.heap.size) W20 (.slice (some ⟨W12.heap.size, 0, none⟩) 1 1) 1 1 [.int .i64 (n : Int)]) := Lib.hid (by rw [← hW20]; exact Rds.lit (w := W12) (n := 1) (size := 1) (cs := [.int .i64 (n : Int)]) 3 rfl)
          have HROW20 : Hid (Sl W20 (.slice (some ⟨W6.heap.size, 0, none⟩) 0 0) (some W6.heap.size) 3 1 0 ((Pn.nums []).map (Value.int .i64))) := Lib.hid (by
            have := (Wz.below HAPC.out.tns hb20).1
            rw [HTN.out] at this
            exact this)
          have HB20 := Lib.hid hb20
          clear hb20
          go_wp2_with (at_builtin; refine wpList_append_rd (by rfl) _ _ _ (by rfl) 3 ii _ 1 8 Tryz.underlying32 hii i1i i2i i3i i4i _ (some W6.heap.size) 0 ((Pn.nums []).map (Value.int .i64)) (by rfl) HROW20.out _ 1 [.int .i64 (n : Int)] (by rfl) HS20.out (by simp [Value.oneCell']) (by omega) (by omega) ?_)
          intro v' w' gb' h1 h2 h3
          have HAPD := Lib.hid (HAPC.out.tpush HTN.out HB20.out h1 h2 h3)
          have HG20 := Lib.hid h2
          clear h1 h2 h3
          go_wp2_with fail
          go_meet
          case rel => exact ⟨_, _, _, _, lives, _, [n], HAPD.out, by rw [List.length_set]; exact HML.out, ⟨by have := HM.out; simp only [List.length_cons, List.length_nil]; omega, fun k hk => by simp only [List.mem_singleton] at hk; omega⟩, fun e he => by
            rcases List.mem_or_eq_of_mem_set he with he | rfl
            · exact HEP.out e.x (by rw [← HFP.out]; exact List.mem_map_of_mem he)
            · exact (show 0 ≤ nn ∧ nn ≤ 1073741824 from HEP.out _ (List.mem_of_getElem? HX.out)), by rw [HF0.out, List.map_set, HFP.out]⟩
        · have hne : (xl != nd) = true := bne_iff_ne.2 fun e => g2 e.symm
          have HR : Hid (Pn.apply ⟨nodes, copies, parts, lives⟩ ⟨3, nd, (n : Int), nn⟩ = .bad 21) := Lib.hid (by rw [HP4.out, if_neg (fun e => g2 e.2)])
          obtain ⟨y0, y1, y2, y3⟩ := HAP8.out.k2.free4
          obtain ⟨z0, z1, z2, z3⟩ := HAP8.out.k2.cells4
          obtain ⟨n0, n1, n2, n3⟩ := HAP8.out.k3.cells4
          go_wp2_with fail
          exact rbad_ret HAP8.out.low (by have := HLT.out; omega) HAP8.out.k2 HR.out rfl rfl rfl
      · have hne : (xe != nn) = true := bne_iff_ne.2 fun e => g1 e.symm
        have HR : Hid (Pn.apply ⟨nodes, copies, parts, lives⟩ ⟨3, nd, (n : Int), nn⟩ = .bad 21) := Lib.hid (by rw [HP4.out, if_neg (fun e => g1 e.1)])
        obtain ⟨y0, y1, y2, y3⟩ := HAP8.out.k2.free4
        obtain ⟨z0, z1, z2, z3⟩ := HAP8.out.k2.cells4
        obtain ⟨n0, n1, n2, n3⟩ := HAP8.out.k3.cells4
        go_wp2_with fail
        exact rbad_ret HAP8.out.low (by have := HLT.out; omega) HAP8.out.k2 HR.out rfl rfl rfl
    · subst hkd
      have HP4 := Lib.hid (HAPP.out.trans ((if_neg (by decide)).trans ((if_neg (by decide)).trans ((if_neg (by decide)).trans (if_pos rfl)))))
      obtain ⟨o0, o1, o2, o3⟩ := HAP.out.k4.cells4
      by_cases h4 : m = 4
      · have hm4a : (4 : Int) ≤ (m : Int) := by omega
        have HR : Hid (Pn.apply ⟨nodes, copies, parts, lives⟩ ⟨4, nd, (n : Int), nn⟩ = .bad 32) := Lib.hid (by
          rw [HP4.out]
          unfold Pn.apply4
          simp only
          rw [HM.out, if_pos h4])
        clear h4
        obtain ⟨y0, y1, y2, y3⟩ := HAP.out.k2.free4
        obtain ⟨z0, z1, z2, z3⟩ := HAP.out.k2.cells4
        obtain ⟨n0, n1, n2, n3⟩ := HAP.out.k3.cells4
        go_wp2_with fail
        exact rbad_ret HAP.out.low (by have := HLT.out; omega) HAP.out.k2 HR.out rfl rfl rfl
      · have hm4' : ¬ ((4 : Int) ≤ (m : Int)) := by have := HM.out; omega
        have hmx : m ≤ 4 := by have := HM.out; omega
        have HR : Hid (Pn.apply ⟨nodes, copies, parts, lives⟩ ⟨4, nd, (n : Int), nn⟩ = .ok ⟨nodes, copies, parts ++ [Pn.first nodes copies (m : Int)], lives⟩ [m]) := Lib.hid (by
          rw [HP4.out]
          unfold Pn.apply4
          simp only
          rw [HM.out, if_neg h4])
        have HFI : Hid (∀ wx, Below W7.heap.size W7 wx → Calls Tryz.prog 36 #[.int .i64 (m : Int), .int .i64 nodes, .int .i64 copies] wx fun e w' => FisOut wx (Pn.ch0 nodes copies (m : Int)) e w') := Lib.hid fun wx _ => (place_any' nodes copies (m : Int) wx hn1 hn5 (by omega) (by omega) (by omega) (by omega)).mono fun e w' h => first_spelt h
        obtain ⟨CH, hCH⟩ : ∃ CH, Pn.ch0 nodes copies (m : Int) = CH := ⟨_, rfl⟩
        have HCH := Lib.hid hCH
        have HROW : Hid (∀ wx, Below W7.heap.size W7 wx → Sl wx (.slice (some ⟨sg, sp, none⟩) m sc) (some sg) 49 3 m (F.flatMap PE.cells)) := Lib.hid fun wx hb => by
          have := (HAP.out.below hb).row.1.1
          rw [HML.out] at this
          exact this
        have HD2 : Hid (∀ wx, Below W7.heap.size W7 wx → wx.cell? ⟨w5.heap.size, 2, none⟩ = some (.slice (some ⟨sg, sp, none⟩) m sc)) := Lib.hid fun wx hb => (HAP.out.below hb).k4.cell rfl
        have HD3 : Hid (∀ wx, Below W7.heap.size W7 wx → wx.cell? ⟨w.heap.size, 0, none⟩ = some (.int .i64 nodes) ∧ wx.cell? ⟨w.heap.size, 1, none⟩ = some (.int .i64 copies)) := Lib.hid fun wx hb => by
          have h := (HAP.out.below hb).k0
          rw [← HPC.out] at h
          exact ⟨h.cell rfl, h.cell rfl⟩
        rw [hCH] at HFI
        have HX0 := Lib.hid (Below.refl W7.heap.size W7)
        obtain ⟨ip, hip, i1p, i2p, i3p, i4p⟩ := infoPart
        have HPUSH : Hid (∀ wA wB w' v' cv cb gb', Below W7.heap.size W7 wA → NsO W7.heap.size wA cv cb CH → Below wA.heap.size wA wB → Sl w' v' gb' 49 3 (m + 1) (F.flatMap PE.cells ++ [.int .i64 1, cv, .int .i64 0]) → wB.grownBy w' (some sg) → (gb' = some sg ∨ ∃ g', gb' = some g' ∧ wB.heap.size ≤ g') →
            (w'.cell? ⟨w5.heap.size, 2, none⟩ = some (.slice (some ⟨sg, sp, none⟩) m sc) ∧ w'.frozen? ⟨w5.heap.size, 2, none⟩ = false) ∧
            (w'.cell? ⟨w.heap.size, 0, none⟩ = some (.int .i64 nodes) ∧ w'.cell? ⟨w.heap.size, 1, none⟩ = some (.int .i64 copies)) ∧ ((w'.setCell ⟨w5.heap.size, 2, none⟩ v').cell? ⟨w.heap.size, 0, none⟩ = some (.int .i64 nodes) ∧ (w'.setCell ⟨w5.heap.size, 2, none⟩ v').cell? ⟨w.heap.size, 1, none⟩ = some (.int .i64 copies)) ∧
            ∃ lab2 g2, Aq w W1.heap.size W2.heap.size W3.heap.size w5.heap.size we.heap.size PC ⟨4, nd, (n : Int), nn⟩ nodes copies lab2 v' g2 (F ++ [⟨Pn.first nodes copies (m : Int), cv⟩]) (.slice lva ln lvc) (.slice lva ln lvc) gl lives (.slice (some ⟨W6.heap.size, 0, none⟩) 0 0) (some W6.heap.size) [] (w'.setCell ⟨w5.heap.size, 2, none⟩ v')) := Lib.hid fun wA wB w' v' cv cb gb' hA hc hB h1 h2 h3 => by
          obtain ⟨r1, lab2, g2, r2⟩ := HAP.out.push (y := Pn.first nodes copies (m : Int)) hA (show NsO _ _ _ _ (Pn.ch0 nodes copies (m : Int)) by rw [HCH.out]; exact hc) hB (by rw [HML.out]; exact h1) h2 h3
          have h0 := r2.k0
          rw [← HPC.out] at h0
          have hne : w.heap.size ≠ w5.heap.size := by have := r2.lo; omega
          have q0 : (w'.setCell ⟨w5.heap.size, 2, none⟩ v').cell? ⟨w.heap.size, 0, none⟩ = some (.int .i64 nodes) := h0.cell rfl
          have q1 : (w'.setCell ⟨w5.heap.size, 2, none⟩ v').cell? ⟨w.heap.size, 1, none⟩ = some (.int .i64 copies) := h0.cell rfl
          have q2 := q0
          have q3 := q1
          rw [cell_far hne] at q2 q3
          exact ⟨r1, ⟨q2, q3⟩, ⟨q0, q1⟩, lab2, g2, r2⟩
        clear hCH
        go_upto_region 54 with fail
        refine wp_region_any (by kernel_rfl) (any_of_till (S := (fun w' => w'.cell? ⟨w5.heap.size, 2, none⟩ = some (.slice (some ⟨sg, sp, none⟩) m sc) ∧ w'.cell? ⟨w.heap.size, 0, none⟩ = some (.int .i64 nodes) ∧ w'.cell? ⟨w.heap.size, 1, none⟩ = some (.int .i64 copies))) (k := 11) _ _ _ _ ?_)
        change wpTill _ _ _ _ _ _ _ _ _ W7.drew
        have hSd : (fun w' => w'.cell? ⟨w5.heap.size, 2, none⟩ = some (.slice (some ⟨sg, sp, none⟩) m sc) ∧ w'.cell? ⟨w.heap.size, 0, none⟩ = some (.int .i64 nodes) ∧ w'.cell? ⟨w.heap.size, 1, none⟩ = some (.int .i64 copies)) W7.drew := ⟨HD2.out _ HX0.out.drew, HD3.out _ HX0.out.drew⟩
        refine till_take 3 (i := 0) (v := .pointer (some ⟨w5.heap.size, 2, none⟩)) rfl (by kernel_rfl) (by kernel_rfl) (by kernel_rfl) (by kernel_rfl) (fun _ _ _ h => h) (Or.inl ⟨by rfl, ?_⟩) hSd ?_
        · intro wz hSw
          go_simp
        simp only [Act.put, List.setIfInBounds_toArray]
        refine till_take 3 (i := 1) (v := .slice (some ⟨sg, sp, none⟩) m sc) rfl (by kernel_rfl) (by kernel_rfl) (by kernel_rfl) (by kernel_rfl) (fun _ _ _ h => h) (Or.inl ⟨by rfl, ?_⟩) hSd ?_
        · intro wz hSw
          go_simp
        simp only [Act.put]
        refine till_take 3 (i := 2) (v := .pointer (some ⟨w5.heap.size, 2, none⟩)) rfl (by kernel_rfl) (by kernel_rfl) (by kernel_rfl) (by kernel_rfl) (fun _ _ _ h => h) (Or.inl ⟨by rfl, ?_⟩) hSd ?_
        · intro wz hSw
          go_simp
        simp only [Act.put]
        refine till_take 3 (i := 3) (v := .slice (some ⟨sg, sp, none⟩) m sc) rfl (by kernel_rfl) (by kernel_rfl) (by kernel_rfl) (by kernel_rfl) (fun _ _ _ h => h) (Or.inl ⟨by rfl, ?_⟩) hSd ?_
        · intro wz hSw
          go_simp
        simp only [Act.put]
        refine till_take 3 (i := 4) (v := .int .i64 (m : Int)) rfl (by kernel_rfl) (by kernel_rfl) (by kernel_rfl) (by kernel_rfl) (fun _ _ _ h => h) (Or.inl ⟨by rfl, ?_⟩) hSd ?_
        · intro wz hSw
          go_simp
        simp only [Act.put]
        refine till_take 3 (i := 5) (v := .pointer (some ⟨w.heap.size, 0, none⟩)) rfl (by kernel_rfl) (by kernel_rfl) (by kernel_rfl) (by kernel_rfl) (fun _ _ _ h => h) (Or.inl ⟨by rfl, ?_⟩) hSd ?_
        · intro wz hSw
          go_simp
        simp only [Act.put]
        refine till_take 3 (i := 6) (v := .int .i64 nodes) rfl (by kernel_rfl) (by kernel_rfl) (by kernel_rfl) (by kernel_rfl) (fun _ _ _ h => h) (Or.inl ⟨by rfl, ?_⟩) hSd ?_
        · intro wz hSw
          go_simp
        simp only [Act.put]
        refine till_take 3 (i := 7) (v := .pointer (some ⟨w.heap.size, 1, none⟩)) rfl (by kernel_rfl) (by kernel_rfl) (by kernel_rfl) (by kernel_rfl) (fun _ _ _ h => h) (Or.inl ⟨by rfl, ?_⟩) hSd ?_
        · intro wz hSw
          go_simp
        simp only [Act.put]
        refine till_take 3 (i := 8) (v := .int .i64 copies) rfl (by kernel_rfl) (by kernel_rfl) (by kernel_rfl) (by kernel_rfl) (fun _ _ _ h => h) (Or.inl ⟨by rfl, ?_⟩) hSd ?_
        · intro wz hSw
          go_simp
        simp only [Act.put]
        refine till_one (i := 9) rfl (by kernel_rfl) (fun K9 hK9 => ?_)
        go_simp
        go_at_call 36
        refine (HFI.out _ HX0.out.drew).mono ?_
        rintro e wA ⟨hA, ca, ck, cb, rfl, hc⟩
        have HA := Lib.hid (HX0.out.drew.trans hA)
        have HC9 := Lib.hid (show NsO W7.heap.size wA _ cb CH from hc)
        refine hK9.out _ _ ⟨.inr ⟨HD2.out _ HA.out, HD3.out _ HA.out⟩, ?_⟩
        try simp only [Act.put, List.setIfInBounds_toArray, List.set_cons_zero, List.set_cons_succ]
        have hB1 := HA.out.alloc HA.out.size (.cells #[.int .i64 1, .slice ca CH.length ck, .int .i64 0] 49)
        have HB1 := Lib.hid hB1
        have HSR := Lib.hid (Rds.lit (w := wA) (n := 1) (size := 3) (cs := [.int .i64 1, .slice ca CH.length ck, .int .i64 0]) 49 rfl)
        clear hA hc hB1
        refine till_one (i := 10) rfl (by kernel_rfl) (fun K10 hK10 => ?_)
        go_simp
        refine hK10.out _ _ ⟨.inr ⟨HD2.out _ HB1.out, HD3.out _ HB1.out⟩, ?_⟩
        try simp only [Act.put, List.setIfInBounds_toArray, List.set_cons_zero, List.set_cons_succ]
        refine till_one (i := 11) rfl (by kernel_rfl) (fun K11 hK11 => ?_)
        refine step_append_rd (by rfl) _ _ _ (by rfl) 49 ip _ 3 40 Tryz.underlying22 hip i1p i2p i3p i4p _ (some sg) m (F.flatMap PE.cells) (by rfl) (HROW.out _ HB1.out) _ 1 [.int .i64 1, .slice ca CH.length ck, .int .i64 0] (by rfl) HSR.out (by simp [Value.oneCell']) (by omega) (by omega) ?_
        intro v' w' gb' h1 h2 h3
        obtain ⟨va, vc, rfl⟩ := h1.form
        obtain ⟨⟨g4, g5⟩, hk3, hk4, lab2, gq, hap⟩ := HPUSH.out _ _ _ _ _ _ _ HA.out HC9.out ((Below.refl _ _).alloc (Nat.le_refl _) (.cells #[.int .i64 1, .slice ca CH.length ck, .int .i64 0] 49)) h1 h2 h3
        have HAP9 := Lib.hid hap
        clear h1 h2 h3 hap hk3 hk4
        refine hK11.out _ _ ⟨.inl (by kernel_rfl), ?_⟩
        try simp only [Act.put, List.setIfInBounds_toArray]
        refine till_list 12 (by kernel_rfl) (by rfl) (by kernel_rfl) ?_
        simp only [List.drop_succ_cons, List.drop_zero]
        go_upto_region 55 with fail
        obtain ⟨W9, hW9⟩ : ∃ W, w'.setCell ⟨w5.heap.size, 2, none⟩ (.slice va (m + 1) vc) = W := ⟨_, rfl⟩
        rw [hW9] at HAP9 ⊢
        clear g4 g5 hW9 c0 c1 c2 c3 e0 e1 e2 e3 o0 o1 o2 o3 HSR hSd HB1
        obtain ⟨c0, c1, c2, c3⟩ := HAP9.out.k4.cells4
        obtain ⟨y0, y1, y2, y3⟩ := HAP9.out.k2.free4
        obtain ⟨z0, z1, z2, z3⟩ := HAP9.out.k2.cells4
        have hw0 : IntKind.i64.wrap (m : Int) = (m : Int) := by rw [IntKind.wrap_i64]; omega
        have hbA := (Below.refl W9.heap.size W9).alloc (Nat.le_refl _) (.cells #[.int .i64 (m : Int)] 3)
        obtain ⟨c0a, c1a, c2a, c3a⟩ := (HAP9.out.below hbA).k4.cells4
        obtain ⟨y0a, y1a, y2a, y3a⟩ := (HAP9.out.below hbA).k2.free4
        obtain ⟨z0a, z1a, z2a, z3a⟩ := (HAP9.out.below hbA).k2.cells4
        have c0d : W9.drew.cell? ⟨w5.heap.size, 0, none⟩ = some (.int .i64 nodes) := c0
        have c1d : W9.drew.cell? ⟨w5.heap.size, 1, none⟩ = some (.int .i64 copies) := c1
        have c2d : W9.drew.cell? ⟨w5.heap.size, 2, none⟩ = some (.slice va (m + 1) vc) := c2
        have c3d : W9.drew.cell? ⟨w5.heap.size, 3, none⟩ = some (.slice lva ln lvc) := c3
        have HNE : Hid (w5.heap.size ≠ W2.heap.size) := Lib.hid (by have := HAP9.out.lo; omega)
        obtain ⟨c0b, c1b, c2b, c3b⟩ := (HAP9.out.below hbA.drew).k4.cells4
        clear hbA HPUSH HROW HD2 HD3 HFI HA HC9
        have hb2 : W2.heap.size < W9.heap.size := HAP9.out.k2.lt
        have HMI : Hid (MadeAt w (((((W9.alloc (.cells #[.int .i64 (m : Int)] 3)).setCell ⟨W2.heap.size, 0, none⟩ (.int .i64 nodes)).setCell ⟨W2.heap.size, 1, none⟩ (.int .i64 copies)).setCell ⟨W2.heap.size, 2, none⟩ (.slice va (m + 1) vc)).setCell ⟨W2.heap.size, 3, none⟩ (.slice lva ln lvc)).drew W2.heap.size nodes copies (.slice va (m + 1) vc) (.slice lva ln lvc) (parts ++ [Pn.first nodes copies (m : Int)]) lives W9.heap.size m) := Lib.hid (by
          have hm := HAP9.out.made (m := m) ((Kb.alloc (Kb.refl _ _) (.cells #[.int .i64 (m : Int)] 3)).trans (four_kb _ _ (.int .i64 nodes) (.int .i64 copies) (.slice va (m + 1) vc) (.slice lva ln lvc))).drew ((Blk.new _ _ _).four' (by omega) _ _ _ _).drew
          rw [List.map_append, HFP.out] at hm
          exact ⟨(Blk.four (HAP9.out.k2.alloc _) _ _ _ _).drew, hm.1, hm.2.1, hm.2.2⟩)
        have HMJ : Hid (MadeAt w (((((W9.setCell ⟨W2.heap.size, 0, none⟩ (.int .i64 nodes)).setCell ⟨W2.heap.size, 1, none⟩ (.int .i64 copies)).setCell ⟨W2.heap.size, 2, none⟩ (.slice va (m + 1) vc)).setCell ⟨W2.heap.size, 3, none⟩ (.slice lva ln lvc)).alloc (.cells #[.int .i64 (m : Int)] 3)).drew W2.heap.size nodes copies (.slice va (m + 1) vc) (.slice lva ln lvc) (parts ++ [Pn.first nodes copies (m : Int)]) lives W9.heap.size m) := Lib.hid (by
          have hm := HAP9.out.made (m := m) (Kb.alloc (four_kb _ _ (.int .i64 nodes) (.int .i64 copies) (.slice va (m + 1) vc) (.slice lva ln lvc)) (.cells #[.int .i64 (m : Int)] 3)).drew (by rw [← four_size W9 W2.heap.size (.int .i64 nodes) (.int .i64 copies) (.slice va (m + 1) vc) (.slice lva ln lvc)]; exact (Blk.new _ _ _).drew)
          rw [List.map_append, HFP.out] at hm
          exact ⟨((Blk.four HAP9.out.k2 _ _ _ _).alloc _).drew, hm.1, hm.2.1, hm.2.2⟩)
        clear hb2 HAP9
        clear HAPP HAP HP4 HEP HGO HX0 hip i1p i2p i3p i4p
        try clear HEB
        try clear HFP
        try clear HML
        try clear HC
        try clear HLL
        try clear HLN
        try clear HM
        try clear hW7
        try clear HLE
        try clear HF1
        try clear HF2
        try clear HF3
        try clear HG
        try clear HE
        try clear HB3
        try clear HPL
        try clear HCD
        try clear HGD
        try clear HEV
        go_region_held3 (fun w' => w'.cell? ⟨w5.heap.size, 0, none⟩ = some (.int .i64 nodes) ∧ w'.cell? ⟨w5.heap.size, 1, none⟩ = some (.int .i64 copies) ∧ w'.cell? ⟨w5.heap.size, 2, none⟩ = some (.slice va (m + 1) vc) ∧ w'.cell? ⟨w5.heap.size, 3, none⟩ = some (.slice lva ln lvc)) (first | with_reducible exact ⟨c0, c1, c2, c3⟩ | with_reducible exact ⟨c0d, c1d, c2d, c3d⟩ | with_reducible exact ⟨c0a, c1a, c2a, c3a⟩ | with_reducible exact ⟨c0b, c1b, c2b, c3b⟩ | with_reducible exact ⟨far4d HNE.out c0, far4d HNE.out c1, far4d HNE.out c2, far4d HNE.out c3⟩ | with_reducible exact ⟨far4d HNE.out c0a, far4d HNE.out c1a, far4d HNE.out c2a, far4d HNE.out c3a⟩ | with_reducible exact ⟨farA (far4 HNE.out c0), farA (far4 HNE.out c1), farA (far4 HNE.out c2), farA (far4 HNE.out c3)⟩ | (trace_state; fail)) (fail)
        all_goals
          clear c0 c0a c0b c0d c1 c1a c1b c1d c2 c2a c2b c2d c3 c3a c3b c3d y0 y1 y2 y3 z0 z1 z2 z3 y0a y1a y2a y3a z0a z1a z2a z3a hw0
          go_wp2_with fail
          show bodyPost _ _ _ _ _ _
          first
            | with_reducible refine rmade_ret HMI.out ?_ ?_ ?_ HR.out
            | with_reducible refine rmade_ret HMJ.out ?_ ?_ ?_ HR.out
          · rfl
          · rfl
          · rfl
    · subst hkd
      have HP5 := Lib.hid (HAPP.out.trans ((if_neg (by decide)).trans ((if_neg (by decide)).trans ((if_neg (by decide)).trans (if_neg (by decide))))))
      obtain ⟨e, he⟩ : ∃ e, F[n]? = some e := ⟨_, List.getElem?_eq_getElem (by rw [HML.out]; omega)⟩
      have hx : parts[n]? = some e.x := by rw [← HFP.out, List.getElem?_map, he]; rfl
      obtain ⟨⟨xe, xc, xl⟩, cv⟩ := e
      simp only at hx
      have HX := Lib.hid hx
      have HE0 := Lib.hid he
      have HAT : Hid (Pn.at' ⟨nodes, copies, parts, lives⟩ ⟨5, nd, (n : Int), nn⟩ = ⟨xe, xc, xl⟩) := Lib.hid (by
        unfold Pn.at'
        simp only [Int.toNat_natCast, List.getD_eq_getElem?_getD, hx, Option.getD_some])
      have hndn : 1 ≤ nd ∧ nd ≤ nodes := ⟨by have := Pn.ev_node5 HEB.out; exact this, by omega⟩
      have HLF : Hid (∀ wx, Below W7.heap.size W7 wx → Calls Tryz.prog 16 #[.agg #[.int .i64 nodes, .int .i64 copies, .slice a m cap, .slice la ln lcap], .int .i64 nd] wx fun e w' => NumOut wx (Pn.life lives nd) e w') := Lib.hid fun wx hb => rlife_any _ ⟨nodes, copies, parts, lives⟩ nd wx (HPL.out wx (HAP.out.low.trans (hb.mono HAP.out.low.size))) (by simp only; have := HLL.out; omega)
      have HWN : Hid (∀ wx, Below W7.heap.size W7 wx → Calls Tryz.prog 18 #[.agg #[.int .i64 nodes, .int .i64 copies, .slice a m cap, .slice la ln lcap], .int .i64 nd] wx fun e w' => LstOut wx (Pn.nums (Pn.wants ⟨nodes, copies, parts, lives⟩ nd)) e w') := Lib.hid fun wx hb => rwants_any _ ⟨nodes, copies, parts, lives⟩ nd wx (HPL.out wx (HAP.out.low.trans (hb.mono HAP.out.low.size))) (by simp only; have := HM.out; omega) HC.out
      obtain ⟨lf, hlf⟩ : ∃ l, Pn.life lives nd = l := ⟨_, rfl⟩
      obtain ⟨B, hB0⟩ : ∃ B, Pn.wantB copies nd ⟨xe, xc, xl⟩ = B := ⟨_, rfl⟩
      have HLV := Lib.hid hlf
      have HP5' : Hid (Pn.apply ⟨nodes, copies, parts, lives⟩ ⟨5, nd, (n : Int), nn⟩ = if lf = 0 ∨ B = false then .bad 21 else Pn.fin ⟨nodes, copies, parts, lives⟩ (parts.set n ⟨xe, xc, nd⟩) lives [n]) := Lib.hid (by
        rw [HP5.out]
        unfold Pn.apply5
        rw [HAT.out]
        simp only [Int.toNat_natCast]
        rw [hlf, hB0])
      have HCT : Hid (∀ (A : Nat → Prop) v wx, Ns A wx v (Pn.nums (Pn.wants ⟨nodes, copies, parts, lives⟩ nd)) → Calls Tryz.prog 34 #[v, .int .i64 (n : Int)] wx fun e w' => SmeOut wx B e w') := Lib.hid fun A v wx h => by
        have h1 := rhas_any v _ (n : Int) wx h (by unfold Pn.nums Pn.wants; rw [List.length_map, if_pos hndn]; exact Nat.le_trans (Pn.idx_len _ _ _) (by simp only; have := HM.out; omega))
        rw [Pn.wants_has hndn (x := ⟨xe, xc, xl⟩) HX.out] at h1
        rw [hB0] at h1
        exact h1
      rw [hlf] at HLF
      clear hx he hlf hB0 HAT HP5
      by_cases h0 : lf = 0
      · have HR : Hid (Pn.apply ⟨nodes, copies, parts, lives⟩ ⟨5, nd, (n : Int), nn⟩ = .bad 21) := Lib.hid (by rw [HP5'.out, if_pos (.inl h0)])
        subst h0
        have HC2 := Lib.hid fun d os => Calls.regrown_of (HLF.out _ (below_regrown W7 d os))
        have k0 : ∀ d os, _ := cell_regrown c0
        have k1 : ∀ d os, _ := cell_regrown c1
        have k2 : ∀ d os, _ := cell_regrown c2
        have k3 : ∀ d os, _ := cell_regrown c3
        have j1 : ∀ d os, _ := cell_regrown e1
        have j2 : ∀ d os, _ := cell_regrown e2
        clear HLF HWN HCT
        go_upto_region 57 with fail
        clear c0 c1 c2 c3 e0 e1 e2 e3
        refine wp_region_quiet_below (by kernel_rfl) (by kernel_rfl) ?_
        repeat (go_big_quiet_step ((go_at_call 16; with_reducible exact HC2.out _ _)))
        refine wpQuiet_nil ?_
        intro w8 hw8
        obtain ⟨⟨dq, osq⟩, hw8'⟩ := hw8
        have H8 : Hid (Below W7.heap.size W7 w8) := Lib.hid (by rw [hw8']; exact below_regrown W7 dq osq)
        clear hw8' HC2 k0 k1 k2 k3 j1 j2
        have HAP8 := Lib.hid (HAP.out.below H8.out)
        obtain ⟨y0, y1, y2, y3⟩ := HAP8.out.k2.free4
        obtain ⟨z0, z1, z2, z3⟩ := HAP8.out.k2.cells4
        obtain ⟨n0, n1, n2, n3⟩ := HAP8.out.k3.cells4
        go_wp2_with fail
        exact rbad_ret HAP8.out.low (by have := HLT.out; omega) HAP8.out.k2 HR.out rfl rfl rfl
      · have hz0 : (lf == 0) = false := by simp [h0]
        have HX0 := Lib.hid (drew_refl W7)
        go_upto_region 57 with fail
        have hB := HX0.out
        go_region_held3 (fun w' => w'.cell? ⟨w.heap.size, 0, none⟩ = some (.int .i64 nodes) ∧ w'.cell? ⟨w.heap.size, 1, none⟩ = some (.int .i64 copies) ∧ w'.cell? ⟨w.heap.size, 2, none⟩ = some (.slice a m cap) ∧ w'.cell? ⟨w.heap.size, 3, none⟩ = some (.slice la ln lcap) ∧ w'.cell? ⟨W1.heap.size, 1, none⟩ = some (.int .i64 nd) ∧ w'.cell? ⟨W1.heap.size, 2, none⟩ = some (.int .i64 (n : Int)))
          (first | with_reducible exact ⟨dcell hB c0, dcell hB c1, dcell hB c2, dcell hB c3, dcell hB e1, dcell hB e2⟩ | go_keep | fail)
          (first
            | (go_at_call 16; ((with_reducible refine (HLF.out _ (of_drew hB)).mono ?_); rintro e w8 ⟨rfl, hb8⟩; have hB := drew_trans hB hb8))
            | (go_at_call 18; ((with_reducible refine (HWN.out _ (of_drew hB)).mono ?_); rintro e w9 ⟨hb9, v9, g9, rfl, hz9⟩; obtain ⟨a9, k9, rfl⟩ := hz9.ns.form; have HN9 := Lib.hid hz9.ns; clear hz9; have hB := drew_trans hB hb9))
            | (go_at_call 34; ((with_reducible refine (HCT.out _ _ _ HN9.out).mono ?_); rintro e w10 ⟨rfl, rfl⟩))
            | fail)
        all_goals
          have HAP8 := Lib.hid (HAP.out.below (of_drew hB))
          clear hB c0 c1 c2 c3 e0 e1 e2 e3 HLF HWN HCT HN9 HX0
          cases B with
          | false =>
            have HR : Hid (Pn.apply ⟨nodes, copies, parts, lives⟩ ⟨5, nd, (n : Int), nn⟩ = .bad 21) := Lib.hid (by rw [HP5'.out, if_pos (.inr rfl)])
            obtain ⟨y0, y1, y2, y3⟩ := HAP8.out.k2.free4
            obtain ⟨z0, z1, z2, z3⟩ := HAP8.out.k2.cells4
            obtain ⟨n0, n1, n2, n3⟩ := HAP8.out.k3.cells4
            go_wp2_with fail
            exact rbad_ret HAP8.out.low (by have := HLT.out; omega) HAP8.out.k2 HR.out rfl rfl rfl
          | true =>
            have HF0 : Hid (Pn.apply ⟨nodes, copies, parts, lives⟩ ⟨5, nd, (n : Int), nn⟩ = Pn.fin ⟨nodes, copies, parts, lives⟩ (parts.set n ⟨xe, xc, nd⟩) lives [n]) := Lib.hid (by
              rw [HP5'.out, if_neg]
              rintro (h | h)
              · exact h0 h
              · cases h)
            obtain ⟨e0, e1, e2, e3⟩ := (show Blk _ W1.heap.size #[.int .i64 5, .int .i64 nd, .int .i64 (n : Int), .int .i64 nn] 27 from HAP8.out.k1).cells4
            obtain ⟨o0, o1, o2, o3⟩ := HAP8.out.k4.cells4
            obtain ⟨⟨x1, x2⟩, W9, hW9, hap⟩ := HAP8.out.learn2 nd HML.out HE0.out
            simp only at x1 hap
            have HAPC := Lib.hid hap
            have HW9 := Lib.hid hW9
            have n0 : (0 : Int) ≤ (n : Int) := by omega
            clear hap hW9 hz0 h0
            go_upto_region 60 with fail
            rw [HW9.out]
            clear HW9 x1 x2 e0 e1 e2 e3 o0 o1 o2 o3
            obtain ⟨e0, e1, e2, e3⟩ := (show Blk W9 W1.heap.size #[.int .i64 5, .int .i64 nd, .int .i64 (n : Int), .int .i64 nn] 27 from HAPC.out.k1).cells4
            obtain ⟨ii, hii, i1i, i2i, i3i, i4i⟩ := infoInt
            have HTN : Hid ((Pn.nums []).length = 0) := Lib.hid rfl
            obtain ⟨W20, hW20⟩ : ∃ W, W9.alloc (.cells #[.int .i64 (n : Int)] 3) = W := ⟨_, rfl⟩
            have hb20 : Below W9.heap.size W9 W20 := by rw [← hW20]; exact (Below.refl _ _).alloc (Nat.le_refl _) _
            have HS20 : Hid (Rds (fun b => b = W9.heap.size) W20 (.slice (some ⟨W9.heap.size, 0, none⟩) 1 1) 1 1 [.int .i64 (n : Int)]) := Lib.hid (by rw [← hW20]; exact Rds.lit (w := W9) (n := 1) (size := 1) (cs := [.int .i64 (n : Int)]) 3 rfl)
            have HROW20 : Hid (Sl W20 (.slice (some ⟨W6.heap.size, 0, none⟩) 0 0) (some W6.heap.size) 3 1 0 ((Pn.nums []).map (Value.int .i64))) := Lib.hid (by
              have := (Wz.below HAPC.out.tns hb20).1
              rw [HTN.out] at this
              exact this)
            have HB20 := Lib.hid hb20
            clear hb20
            go_wp2_with (at_builtin; refine wpList_append_rd (by rfl) _ _ _ (by rfl) 3 ii _ 1 8 Tryz.underlying32 hii i1i i2i i3i i4i _ (some W6.heap.size) 0 ((Pn.nums []).map (Value.int .i64)) (by rfl) HROW20.out _ 1 [.int .i64 (n : Int)] (by rfl) HS20.out (by simp [Value.oneCell']) (by omega) (by omega) ?_)
            intro v' w' gb' h1 h2 h3
            have HAPD := Lib.hid (HAPC.out.tpush HTN.out HB20.out h1 h2 h3)
            have HG20 := Lib.hid h2
            clear h1 h2 h3
            go_wp2_with fail
            go_meet
            case rel => exact ⟨_, _, _, _, lives, _, [n], HAPD.out, by rw [List.length_set]; exact HML.out, ⟨by have := HM.out; simp only [List.length_cons, List.length_nil]; omega, fun k hk => by simp only [List.mem_singleton] at hk; omega⟩, fun e he => by
              rcases List.mem_or_eq_of_mem_set he with he | rfl
              · exact HEP.out e.x (by rw [← HFP.out]; exact List.mem_map_of_mem he)
              · exact (show 0 ≤ xe ∧ xe ≤ 1073741824 from HEP.out _ (List.mem_of_getElem? HX.out)), by rw [HF0.out, List.map_set, HFP.out]⟩
  case rest =>
    obtain ⟨lab, F1, lv, gl1, q, gt, t, hap, hml, htb, hep, hfi⟩ := hcut
    simp only at hap
    obtain ⟨ta, tc, rfl⟩ := hap.tns.ns.form
    obtain ⟨tn, htn⟩ : ∃ k, t.length = k := ⟨_, rfl⟩
    have htn' : (Pn.nums t).length = tn := by unfold Pn.nums; rw [List.length_map]; exact htn
    rw [htn'] at hap ⊢
    obtain ⟨va, vc, rfl⟩ := hap.lvs.form
    obtain ⟨qn, hqn⟩ : ∃ k, q.length = k := ⟨_, rfl⟩
    rw [hqn] at hap
    obtain ⟨D, hD⟩ : ∃ D, Pn.rise (F1.map PE.x) t = D := ⟨_, rfl⟩
    have HFS : Hid (∀ qs, D = some qs → Pn.apply ⟨nodes, copies, parts, lives⟩ ⟨kd, nd, (n : Int), nn⟩ = .ok ⟨nodes, copies, qs, q⟩ t) := Lib.hid fun qs h => by rw [hfi, Pn.fin, hD, h]
    have HFN : Hid (D = none → Pn.apply ⟨nodes, copies, parts, lives⟩ ⟨kd, nd, (n : Int), nn⟩ = .bad 32) := Lib.hid fun h => by rw [hfi, Pn.fin, hD, h]
    have HS0 := Lib.hid hap
    have HML0 := Lib.hid hml
    have HEP0 := Lib.hid hep
    have HD0 : Hid (Pn.rise (F1.map PE.x) (t.drop 0) = D) := Lib.hid (by rw [List.drop_zero]; exact hD)
    have HTB := Lib.hid htb
    have HTN := Lib.hid htn
    have HTN' := Lib.hid htn'
    have htm : tn ≤ 64 := by omega
    clear hap hml hep hfi htb htn htn' hD hqn
    go_wp2_with fail
    go_loopw [17] (fun s17 wx => ∃ (i : Nat) (F2 : List PE), i ≤ tn ∧ s17 = .int .i64 i ∧ Aq w W1.heap.size W2.heap.size W3.heap.size w5.heap.size we.heap.size PC ⟨kd, nd, (n : Int), nn⟩ nodes copies lab (.slice (some ⟨sg, sp, none⟩) m sc) sg F2 (.slice va qn vc) (.slice va qn vc) gl1 q (.slice ta tn tc) gt t wx ∧ F2.length = m ∧ Pn.rise (F2.map PE.x) (t.drop i) = D ∧ ∀ e ∈ F2, 0 ≤ e.x.ep ∧ e.x.ep ≤ 1073741824) (fun s17 _ => tn - (intOf s17).toNat)
    case atStart => exact ⟨0, F1, Nat.zero_le _, rfl, HS0.out, HML0.out, HD0.out, HEP0.out⟩
    case round =>
      obtain ⟨i, F2, hi, rfl, hap, hml, hdr, hep⟩ := hrel
      have HAPR := Lib.hid hap
      have HMLR := Lib.hid hml
      obtain ⟨o0, o1, o2, o3⟩ := hap.k4.cells4
      by_cases hlt : i < tn
      · obtain ⟨k, hk⟩ : ∃ k, t[i]? = some k := ⟨_, List.getElem?_eq_getElem (by rw [HTN.out]; exact hlt)⟩
        have hkm : k < m := HTB.out.2 k (List.mem_of_getElem? hk)
        obtain ⟨e, he⟩ : ∃ e, F2[k]? = some e := ⟨_, List.getElem?_eq_getElem (by rw [hml]; exact hkm)⟩
        have hns := hap.tns.ns
        obtain ⟨tb, tp, tcap, ev, -, htb, t0⟩ := hns.at (j := i) (x := (k : Int)) (by unfold Pn.nums; rw [List.getElem?_map, hk]; rfl)
        obtain rfl : ta = some ⟨tb, tp, none⟩ := by injection ev
        obtain ⟨d0, d1, d2⟩ := hap.at3 he
        have hlo := hep e (List.mem_of_getElem? he)
        have HRS : Hid (e.x.ep ≠ 1073741824 → Pn.rise ((F2.set k ⟨⟨e.x.ep + 1, e.x.ch, e.x.le⟩, e.cv⟩).map PE.x) (t.drop (i + 1)) = D) := Lib.hid fun hne => by
          obtain ⟨hltt, hte⟩ := List.getElem?_eq_some_iff.1 hk
          rw [List.drop_eq_getElem_cons hltt, hte] at hdr
          have hge : (F2.map PE.x)[k]? = some e.x := by rw [List.getElem?_map, he]; rfl
          unfold Pn.rise at hdr
          simp only [hge] at hdr
          rw [if_neg hne] at hdr
          rw [List.map_set]
          exact hdr
        have HTOP : Hid (e.x.ep = 1073741824 → D = none) := Lib.hid fun he2 => by
          rw [← hdr]
          exact Pn.rise_top hk (by rw [List.getElem?_map, he]; rfl) he2
        have HEP2 : Hid (e.x.ep ≠ 1073741824 → ∀ y ∈ F2.set k ⟨⟨e.x.ep + 1, e.x.ch, e.x.le⟩, e.cv⟩, 0 ≤ y.x.ep ∧ y.x.ep ≤ 1073741824) := Lib.hid fun hne y hy => by
          rcases List.mem_or_eq_of_mem_set hy with hy | rfl
          · exact hep y hy
          · exact ⟨by simp only; omega, by simp only; omega⟩
        obtain ⟨⟨xe, xc, xl⟩, cv⟩ := e
        simp only at d0 d1 d2 hlo HRS HTOP HEP2
        obtain ⟨Wd, hWd⟩ : ∃ W, wr.drew = W := ⟨_, rfl⟩
        have hapd := hap.below (show Below wr.heap.size wr Wd by rw [← hWd]; exact (Below.refl _ _).drew)
        have hrd := (hapd.rose (xe + 1) hml he).2
        have fd : Wd.frozen? ⟨sg, sp + k * 3, none⟩ = false := hapd.free
        obtain ⟨q0, q1, q2⟩ := hapd.at3 he
        obtain ⟨p0, p1, p2, p3⟩ := hapd.k4.cells4
        simp only at q0
        obtain ⟨W8, hW8⟩ : ∃ W, Wd.setCell ⟨sg, sp + k * 3, none⟩ (.int .i64 (xe + 1)) = W := ⟨_, rfl⟩
        rw [hW8] at hrd
        have HAP8 := Lib.hid hrd
        have HW8 := Lib.hid hW8
        have HWD := Lib.hid hWd
        have HK := Lib.hid hk
        have i0 : (0 : Int) ≤ (i : Int) := by omega
        have i1 : (i : Int) < (tn : Int) := by omega
        have j0 : (0 : Int) ≤ (k : Int) := by omega
        have j1 : (k : Int) < (m : Int) := by omega
        have hw1 : wrap64 (xe + 1) = xe + 1 := by unfold wrap64; omega
        clear hap hml hdr hep hk he hns ev hW8 hWd hapd hrd d1 d2 htb q1 q2
        go_upto_region 64 with fail
        go_still_tail 12, (by kernel_rfl)
        change wpList _ _ _ _ _ wr.drew
        rw [HWD.out]
        go_upto_region 65 with fail
        rw [HW8.out]
        clear HW8 HWD d0 q0 t0 fd o0 o1 o2 o3 p0 p1 p2 p3
        obtain ⟨o0, o1, o2, o3⟩ := HAP8.out.k4.cells4
        obtain ⟨tb', tp', tcap', ev, -, -, t0⟩ := HAP8.out.tns.ns.at (j := i) (x := (k : Int)) (by unfold Pn.nums; rw [List.getElem?_map, HK.out]; rfl)
        injection ev with ev1 ev2 ev3
        injection ev1 with ev1
        injection ev1 with ev4 ev5
        subst ev4 ev5
        obtain ⟨d0, d1, d2⟩ := HAP8.out.at3 (k := k) (e := ⟨⟨xe + 1, xc, xl⟩, cv⟩) (by rw [List.getElem?_set]; simp [HMLR.out, hkm])
        simp only at d0
        have HML8 : Hid ((F2.set k ⟨⟨xe + 1, xc, xl⟩, cv⟩).length = m) := Lib.hid (by rw [List.length_set]; exact HMLR.out)
        clear ev2 ev3 d1 d2
        by_cases htop : xe = 1073741824
        · have HR := Lib.hid (HFN.out (HTOP.out htop))
          subst htop
          go_quiet (fail)
          have HAPQ := Lib.hid (HAP8.out.below (below_drewN W8 nq))
          clear o0 o1 o2 o3 d0 t0
          obtain ⟨y0, y1, y2, y3⟩ := HAPQ.out.k2.free4
          obtain ⟨z0, z1, z2, z3⟩ := HAPQ.out.k2.cells4
          obtain ⟨n0, n1, n2, n3⟩ := HAPQ.out.k3.cells4
          go_wp2_with fail
          exact rbad_ret HAPQ.out.low (by have := HLT.out; omega) HAPQ.out.k2 HR.out rfl rfl rfl
        · have hgt : decide (1073741824 < xe + 1) = false := decide_eq_false (by omega)
          have HRS2 := Lib.hid (HRS.out htop)
          have HEP3 := Lib.hid (HEP2.out htop)
          clear htop
          go_quiet (fail)
          have HAPQ := Lib.hid (HAP8.out.below (below_drewN W8 nq))
          clear o0 o1 o2 o3 d0 t0
          go_wp2_with fail
          go_roundw
          case rel => exact ⟨i + 1, _, by omega, by go_num, HAPQ.out, HML8.out, HRS2.out, HEP3.out⟩
          case measure => simp [intOf]; omega
      · have HR := Lib.hid (HFS.out (F2.map PE.x) (by
          rw [← hdr, List.drop_of_length_le (by rw [HTN.out]; omega)]
          unfold Pn.rise
          rfl))
        obtain ⟨y0, y1, y2, y3⟩ := HAPR.out.k2.free4
        obtain ⟨z0, z1, z2, z3⟩ := HAPR.out.k2.cells4
        clear hap hml hdr hep
        go_wp2_with fail
        refine bodyPost_ret (rapply_ret (Blk.four HAPR.out.k2 _ _ _ _) rfl rfl rfl) rfl ?_
        rw [HR.out]
        obtain ⟨l1, l2, l3⟩ := HAPR.out.fin (four_kb _ _ _ _ _ _)
        exact ⟨l1, _, _, gt, rfl, l2, l3⟩
end Go.Proofs.YtmkinnheoejphaaGreatDoor
