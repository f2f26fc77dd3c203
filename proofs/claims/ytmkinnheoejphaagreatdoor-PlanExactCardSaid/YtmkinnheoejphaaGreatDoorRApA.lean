/- THE CONTRACT OF THE DOCUMENT's Apply. -/
import Derived.Test.YtmkinnheoejphaaGreatDoorRAq
import Derived.Test.YtmkinnheoejphaaGreatDoorRGd
import Derived.Test.YtmkinnheoejphaaGreatDoorRCp
import Derived.Test.YtmkinnheoejphaaGreatDoorEvR
import Derived.Test.YtmkinnheoejphaaGreatDoorPnT
import Derived.Deep.CutRange
import Derived.Deep.CutBlock
import Derived.Deep.RegionHeld3
import Derived.StillTailTactics
namespace Go.Proofs.YtmkinnheoejphaaGreatDoor
open Go.RowKit

set_option maxHeartbeats 8000000 in
set_option maxRecDepth 100000 in
theorem rapply_1 {A : Nat → Prop} (pv : Value) (p : Pn.P) (x : Pn.Ev) (w : World) (hkk : x.kind = 1) (h : PlR A w pv p) (hl : p.parts.length ≤ 64) (hll : p.lives.length ≤ 60) (hc : ∀ x ∈ p.parts, x.ch.length ≤ 64) :
    Calls Tryz.prog 8 #[pv, .agg #[.int .i64 x.kind, .int .i64 x.node, .int .i64 x.part, .int .i64 x.n]] w fun e w' => AplOut w (Pn.apply p x) e w' := by
  obtain ⟨sv0, lv0, rfl, hps, hlv⟩ := h
  obtain ⟨nodes, copies, parts, lives⟩ := p
  obtain ⟨kd, nd, pt, nn⟩ := x
  simp only [plv] at hps hlv hl hll hc hkk ⊢
  have HKK := Lib.hid hkk
  clear hkk
  obtain ⟨a, cap, rfl⟩ := hps.form
  obtain ⟨la, lcap, rfl⟩ := hlv.form
  obtain ⟨m, hm⟩ : ∃ n, parts.length = n := ⟨_, rfl⟩
  obtain ⟨ln, hln⟩ : ∃ n, lives.length = n := ⟨_, rfl⟩
  obtain ⟨W1, hW1⟩ : ∃ W, w.alloc (.cells #[.int .i64 nodes, .int .i64 copies, .slice a m cap, .slice la ln lcap] 25) = W := ⟨_, rfl⟩
  obtain ⟨W2, hW2⟩ : ∃ W, W1.alloc (.cells #[.int .i64 kd, .int .i64 nd, .int .i64 pt, .int .i64 nn] 27) = W := ⟨_, rfl⟩
  obtain ⟨W3, hW3⟩ : ∃ W, W2.alloc (.cells #[.int .i64 0, .int .i64 0, .slice none 0 0, .slice none 0 0] 25) = W := ⟨_, rfl⟩
  obtain ⟨W4, hW4⟩ : ∃ W, W3.alloc (.cells #[.int .i64 0, .int .i64 0, .slice none 0 0, .slice none 0 0] 25) = W := ⟨_, rfl⟩
  have hb1 : Below w.heap.size w W1 := by rw [← hW1]; exact (Below.refl _ _).alloc (Nat.le_refl _) _
  have hb12 : Below W1.heap.size W1 W2 := by rw [← hW2]; exact (Below.refl _ _).alloc (Nat.le_refl _) _
  have hb23 : Below W2.heap.size W2 W3 := by rw [← hW3]; exact (Below.refl _ _).alloc (Nat.le_refl _) _
  have hb34 : Below W3.heap.size W3 W4 := by rw [← hW4]; exact (Below.refl _ _).alloc (Nat.le_refl _) _
  have k0 : Blk W1 w.heap.size #[.int .i64 nodes, .int .i64 copies, .slice a m cap, .slice la ln lcap] 25 := by rw [← hW1]; exact Blk.new _ _ _
  have k1 : Blk W2 W1.heap.size #[.int .i64 kd, .int .i64 nd, .int .i64 pt, .int .i64 nn] 27 := by rw [← hW2]; exact Blk.new _ _ _
  have k2 : Blk W3 W2.heap.size zeroC 25 := by rw [← hW3]; exact Blk.new _ _ _
  have k3 : Blk W4 W3.heap.size zeroC 25 := by rw [← hW4]; exact Blk.new _ _ _
  have hb2 := hb1.trans (hb12.mono hb1.size)
  have hb3 := hb2.trans (hb23.mono hb2.size)
  have hb4 := hb3.trans (hb34.mono hb3.size)
  have HLT : Hid (w.heap.size < W1.heap.size ∧ W1.heap.size < W2.heap.size ∧ W2.heap.size < W3.heap.size ∧ W3.heap.size < W4.heap.size) := Lib.hid ⟨k0.lt, k1.lt, k2.lt, k3.lt⟩
  have HK0 := Lib.hid (((k0.below hb12).below hb23).below hb34)
  have HK1 := Lib.hid ((k1.below hb23).below hb34)
  have HK2 := Lib.hid (k2.below hb34)
  have HK3 := Lib.hid k3
  have HB4 := Lib.hid hb4
  have HLS : Hid (∀ wx, Below w.heap.size w wx → Lvs A wx (.slice la ln lcap) lives) := Lib.hid fun wx hb => by rw [← hln]; exact hlv.below hb
  have HPL : Hid (∀ wx, Below w.heap.size w wx → PlR A wx (.agg #[.int .i64 nodes, .int .i64 copies, .slice a m cap, .slice la ln lcap]) ⟨nodes, copies, parts, lives⟩) := Lib.hid fun wx hb => ⟨.slice a m cap, .slice la ln lcap, rfl, by rw [← hm]; exact hps.below hb, by rw [← hln]; exact hlv.below hb⟩
  have HGD : Hid (∀ wx, Below W4.heap.size W4 wx → Calls Tryz.prog 14 #[.agg #[.int .i64 nodes, .int .i64 copies, .slice a m cap, .slice la ln lcap]] wx fun e w' => BolOut wx (Pn.goodB ⟨nodes, copies, parts, lives⟩) e w') := Lib.hid fun wx hb => rgood_any _ ⟨nodes, copies, parts, lives⟩ wx (HPL.out wx (HB4.out.trans (hb.mono HB4.out.size))) (by simp only; omega) (by simp only; omega) hc
  have HEV : Hid (∀ wx : World, Calls Tryz.prog 32 #[.agg #[.int .i64 kd, .int .i64 nd, .int .i64 pt, .int .i64 nn]] wx fun e w' => BolOut wx (Pn.evB ⟨kd, nd, pt, nn⟩) e w') := Lib.hid fun wx => revent_any ⟨kd, nd, pt, nn⟩ wx
  have HCD : Hid (∀ wx, Below W4.heap.size W4 wx → Calls Tryz.prog 33 #[.agg #[.int .i64 nodes, .int .i64 copies, .slice a m cap, .slice la ln lcap]] wx fun e w' => ClpOut wx ⟨nodes, copies, parts, lives⟩ e w') := Lib.hid fun wx hb => rcopy_any _ ⟨nodes, copies, parts, lives⟩ wx (HPL.out wx (HB4.out.trans (hb.mono HB4.out.size))) (by simp only; omega) (by simp only; omega) hc
  have HOK : Hid (Pn.okB ⟨nodes, copies, parts, lives⟩ ⟨kd, nd, pt, nn⟩ = (Pn.goodB ⟨nodes, copies, parts, lives⟩ && Pn.evB ⟨kd, nd, pt, nn⟩ && decide (nd ≤ nodes) && decide (pt < (m : Int)))) := Lib.hid (by rw [← hm]; rfl)
  obtain ⟨O, hO⟩ : ∃ O, Pn.okB ⟨nodes, copies, parts, lives⟩ ⟨kd, nd, pt, nn⟩ = O := ⟨_, rfl⟩
  have HO := Lib.hid hO
  rw [hO] at HOK
  obtain ⟨G, hG⟩ : ∃ G, Pn.goodB ⟨nodes, copies, parts, lives⟩ = G := ⟨_, rfl⟩
  obtain ⟨V, hV⟩ : ∃ V, Pn.evB ⟨kd, nd, pt, nn⟩ = V := ⟨_, rfl⟩
  rw [hG] at HGD HOK
  rw [hV] at HEV HOK
  have HM := Lib.hid hm
  have HLN := Lib.hid hln
  have HLL := Lib.hid hll
  have HC := Lib.hid hc
  have HX0 := Lib.hid (Below.refl W4.heap.size W4)
  have HW4 := Lib.hid hW4
  clear hW4
  rw [hm, hln]
  rw [hm] at hl
  obtain ⟨c0, c1, c2, c3⟩ := HK0.out.cells4
  clear hb1 hb12 hb23 hb34 k0 k1 k2 k3 hb2 hb3 hb4 hps hlv hll hc hG hV hO hm hln
  go_enter Tryz.func8, Tryz.ntmps8
  go_upto_region 2 with fail
  rw [HW4.out]
  clear hW1 hW2 hW3 HW4
  go_wp2_with fail
  refine (HGD.out _ HX0.out).mono ?_
  rintro e wg ⟨rfl, hg⟩
  have HG := Lib.hid hg
  have HK1' := HK1.out.below hg
  obtain ⟨e0, e1, e2, e3⟩ := HK1'.cells4
  clear HK1' hg c0 c1 c2 c3
  cases G with
  | false =>
    have HT : Hid (Pn.apply ⟨nodes, copies, parts, lives⟩ ⟨kd, nd, pt, nn⟩ = .bad 1) := Lib.hid (by unfold Pn.apply; rw [HO.out, HOK.out]; rfl)
    have HD2 := Lib.hid (HK2.out.below HG.out)
    obtain ⟨y0, y1, y2, y3⟩ := HD2.out.free4
    obtain ⟨z0, z1, z2, z3⟩ := HD2.out.cells4
    obtain ⟨n0, n1, n2, n3⟩ := (HK3.out.below HG.out).cells4
    go_wp2_with fail
    exact rbad_ret (HB4.out.trans (HG.out.mono HB4.out.size)) (by have := HLT.out; omega) HD2.out HT.out rfl rfl rfl
  | true =>
  go_wp2_with fail
  refine (HEV.out _).mono ?_
  rintro e we ⟨rfl, he⟩
  have HE := Lib.hid (HG.out.trans (he.mono HG.out.size))
  have HK0' := HK0.out.below HE.out
  have HK1' := HK1.out.below HE.out
  clear e0 e1 e2 e3
  obtain ⟨e0, e1, e2, e3⟩ := HK1'.cells4
  obtain ⟨c0, c1, c2, c3⟩ := HK0'.cells4
  clear HK0' HK1' he
  cases V with
  | false =>
    have HT : Hid (Pn.apply ⟨nodes, copies, parts, lives⟩ ⟨kd, nd, pt, nn⟩ = .bad 1) := Lib.hid (by unfold Pn.apply; rw [HO.out, HOK.out]; rfl)
    have HD2 := Lib.hid (HK2.out.below HE.out)
    obtain ⟨y0, y1, y2, y3⟩ := HD2.out.free4
    obtain ⟨z0, z1, z2, z3⟩ := HD2.out.cells4
    obtain ⟨n0, n1, n2, n3⟩ := (HK3.out.below HE.out).cells4
    go_wp2_with fail
    exact rbad_ret (HB4.out.trans (HE.out.mono HB4.out.size)) (by have := HLT.out; omega) HD2.out HT.out rfl rfl rfl
  | true =>
  by_cases h1 : nodes < nd
  · have h1' : decide (nd ≤ nodes) = false := decide_eq_false (by omega)
    have HT : Hid (Pn.apply ⟨nodes, copies, parts, lives⟩ ⟨kd, nd, pt, nn⟩ = .bad 1) := Lib.hid (by unfold Pn.apply; rw [HO.out, HOK.out, h1']; rfl)
    have HD2 := Lib.hid (HK2.out.below HE.out)
    obtain ⟨y0, y1, y2, y3⟩ := HD2.out.free4
    obtain ⟨z0, z1, z2, z3⟩ := HD2.out.cells4
    obtain ⟨n0, n1, n2, n3⟩ := (HK3.out.below HE.out).cells4
    go_wp2_with fail
    exact rbad_ret (HB4.out.trans (HE.out.mono HB4.out.size)) (by have := HLT.out; omega) HD2.out HT.out rfl rfl rfl
  have h1' : decide (nd ≤ nodes) = true := decide_eq_true (by omega)
  by_cases h2 : (m : Int) ≤ pt
  · have h2' : decide (pt < (m : Int)) = false := decide_eq_false (by omega)
    have HT : Hid (Pn.apply ⟨nodes, copies, parts, lives⟩ ⟨kd, nd, pt, nn⟩ = .bad 1) := Lib.hid (by unfold Pn.apply; rw [HO.out, HOK.out, h1', h2']; rfl)
    have HD2 := Lib.hid (HK2.out.below HE.out)
    obtain ⟨y0, y1, y2, y3⟩ := HD2.out.free4
    obtain ⟨z0, z1, z2, z3⟩ := HD2.out.cells4
    obtain ⟨n0, n1, n2, n3⟩ := (HK3.out.below HE.out).cells4
    go_wp2_with fail
    exact rbad_ret (HB4.out.trans (HE.out.mono HB4.out.size)) (by have := HLT.out; omega) HD2.out HT.out rfl rfl rfl
  have h2' : decide (pt < (m : Int)) = true := decide_eq_true (by omega)
  have HOT : Hid (Pn.okB ⟨nodes, copies, parts, lives⟩ ⟨kd, nd, pt, nn⟩ = true) := Lib.hid (by rw [HO.out, HOK.out, h1', h2']; rfl)
  obtain ⟨hgood, hevb, -, -, hp0, hm2, hm4, hn1, hn5, hc1, hcn⟩ := Pn.ok_facts HOT.out
  simp only at hp0 hm2 hm4 hn1 hn5 hc1 hcn
  have HGO := Lib.hid hgood
  have HEB := Lib.hid hevb
  have HLE := Lib.hid (HB4.out.trans (HE.out.mono HB4.out.size))
  have HF0 := Lib.hid (HK0.out.below HE.out)
  have HF1 := Lib.hid (HK1.out.below HE.out)
  have HF2 := Lib.hid (HK2.out.below HE.out)
  have HF3 := Lib.hid (HK3.out.below HE.out)
  clear h1' h2' HOK HO hgood hevb
  go_wp2_with fail
  refine (HCD.out _ HE.out).mono ?_
  rintro e w5 ⟨h5, lab, sv, lv, rfl, hpl⟩
  simp only [plv]
  obtain ⟨sa, sc, rfl⟩ := hpl.1.form
  obtain ⟨lva, lvc, rfl⟩ := hpl.2.rd.form
  simp only at hpl ⊢
  rw [HM.out, HLN.out] at hpl
  rw [HM.out, HLN.out]
  obtain ⟨sg, sp, rfl⟩ : ∃ g p, sa = some ⟨g, p, none⟩ := by
    obtain ⟨gb, F, hF, hrow⟩ := hpl.1
    obtain ⟨ao', cap', ev2, -, hpos, -⟩ := Sl.make hrow.1.1
    obtain ⟨g', p', e1, e2⟩ := hpos (by have := congrArg List.length hF; rw [List.length_map] at this; have := HM.out; simp only at *; omega)
    injection ev2 with e3 e4 e5
    exact ⟨g', p', e3.trans e1⟩
  obtain ⟨PC, hPC⟩ : ∃ PC : Array Value, #[Value.int .i64 nodes, .int .i64 copies, .slice a m cap, .slice la ln lcap] = PC := ⟨_, rfl⟩
  obtain ⟨F, gl, hF, hap⟩ := Aq.start (x := ⟨kd, nd, pt, nn⟩) (pc := PC) HLE.out ⟨HLT.out.1, HLT.out.2.1, HLT.out.2.2.1⟩ (by rw [← hPC]; exact HF0.out) HF1.out HF2.out HF3.out h5 rfl (by have := HM.out; omega) hpl
  obtain ⟨n, rfl⟩ : ∃ n : Nat, pt = n := ⟨pt.toNat, by omega⟩
  obtain ⟨W6, hW6⟩ : ∃ W, w5.alloc (.cells #[.int .i64 nodes, .int .i64 copies, .slice (some ⟨sg, sp, none⟩) m sc, .slice lva ln lvc] 25) = W := ⟨_, rfl⟩
  have hb6 : Below w5.heap.size w5 W6 := by rw [← hW6]; exact (Below.refl _ _).alloc (Nat.le_refl _) _
  rw [hW6] at hap
  obtain ⟨W7, hW7⟩ : ∃ W, W6.alloc (.cells #[] 3) = W := ⟨_, rfl⟩
  have hb7 : Below W6.heap.size W6 W7 := by rw [← hW7]; exact (Below.refl _ _).alloc (Nat.le_refl _) _
  rw [hW7] at hap
  have HPC := Lib.hid hPC
  have HAP := Lib.hid hap
  have HFP := Lib.hid hF
  have HW6 := Lib.hid hW6
  have HW7 := Lib.hid hW7
  clear hap hF hpl h5 hW6 hW7 hPC hb6 hb7 c0 c1 c2 c3 e0 e1 e2 e3
  go_upto_region 5 with fail
  rw [HW6.out]
  go_upto_region 6 with fail
  rw [HW7.out]
  clear HW6 HW7 HF0 HF1 HF2 HF3 HG HE HGD HEV HCD HLE HX0 HK0 HK1 HK2 HK3 HB4
  have HML : Hid (F.length = m) := Lib.hid (by have := congrArg List.length HFP.out; rw [List.length_map] at this; rw [this]; exact HM.out)
  have HEP : Hid (∀ x ∈ parts, 0 ≤ x.ep ∧ x.ep ≤ 1073741824) := Lib.hid (Pn.good_eps HGO.out)
  have hkd : kd = 1 ∨ kd = 2 ∨ kd = 3 ∨ kd = 4 ∨ kd = 5 := by have := Pn.ev_kind HEB.out; simp only at this; exact this
  have HKD := Lib.hid hkd
  have HAPP : Hid (Pn.apply ⟨nodes, copies, parts, lives⟩ ⟨kd, nd, (n : Int), nn⟩ = if kd = 1 then Pn.apply1 ⟨nodes, copies, parts, lives⟩ ⟨kd, nd, (n : Int), nn⟩ else if kd = 2 then Pn.apply2 ⟨nodes, copies, parts, lives⟩ ⟨kd, nd, (n : Int), nn⟩ else if kd = 3 then Pn.apply3 ⟨nodes, copies, parts, lives⟩ ⟨kd, nd, (n : Int), nn⟩ else if kd = 4 then Pn.apply4 ⟨nodes, copies, parts, lives⟩ else Pn.apply5 ⟨nodes, copies, parts, lives⟩ ⟨kd, nd, (n : Int), nn⟩) := Lib.hid (by rw [Pn.apply, HOT.out, if_neg (by decide)])
  obtain ⟨e0, e1, e2, e3⟩ := (show Blk W7 W1.heap.size #[.int .i64 kd, .int .i64 nd, .int .i64 (n : Int), .int .i64 nn] 27 from HAP.out.k1).cells4
  clear hkd
  go_upto_block 0 with fail
  go_cut [9] from 10 to 302 (fun s9 wx => Mid w W1.heap.size W2.heap.size W3.heap.size w5.heap.size we.heap.size PC ⟨kd, nd, (n : Int), nn⟩ ⟨nodes, copies, parts, lives⟩ sg sp m sc s9 wx)
  case first =>
    obtain ⟨c0, c1, c2, c3⟩ := (show Blk W7 w.heap.size #[.int .i64 nodes, .int .i64 copies, .slice a m cap, .slice la ln lcap] 25 by rw [HPC.out]; exact HAP.out.k0).cells4
    rcases HKD.out with hkd | hkd | hkd | hkd | hkd
    · subst hkd
      have HP1 := Lib.hid (HAPP.out.trans (if_pos rfl))
      have HLF : Hid (∀ wx, Below W7.heap.size W7 wx → Calls Tryz.prog 16 #[.agg #[.int .i64 nodes, .int .i64 copies, .slice a m cap, .slice la ln lcap], .int .i64 nd] wx fun e w' => NumOut wx (Pn.life lives nd) e w') := Lib.hid fun wx hb => rlife_any _ ⟨nodes, copies, parts, lives⟩ nd wx (HPL.out wx (HAP.out.low.trans (hb.mono HAP.out.low.size))) (by simp only; have := HLL.out; omega)
      obtain ⟨lf, hlf⟩ : ∃ l, Pn.life lives nd = l := ⟨_, rfl⟩
      have HLV := Lib.hid hlf
      rw [hlf] at HLF
      have HC2 := Lib.hid fun d os => Calls.regrown_of (HLF.out _ (below_regrown W7 d os))
      have k0 : ∀ d os, _ := cell_regrown c0
      have k1 : ∀ d os, _ := cell_regrown c1
      have k2 : ∀ d os, _ := cell_regrown c2
      have k3 : ∀ d os, _ := cell_regrown c3
      have j0 : ∀ d os, _ := cell_regrown e0
      have j1 : ∀ d os, _ := cell_regrown e1
      have j2 : ∀ d os, _ := cell_regrown e2
      have j3 : ∀ d os, _ := cell_regrown e3
      clear hlf HLF
      go_upto_region 8 with fail
      clear c0 c1 c2 c3 e0 e1 e2 e3
      refine wp_region_quiet_below (by kernel_rfl) (by kernel_rfl) ?_
      repeat (go_big_quiet_step ((go_at_call 16; with_reducible exact HC2.out _ _)))
      refine wpQuiet_nil ?_
      intro w8 hw8
      obtain ⟨⟨dq, osq⟩, hw8'⟩ := hw8
      have H8 : Hid (Below W7.heap.size W7 w8) := Lib.hid (by rw [hw8']; exact below_regrown W7 dq osq)
      clear hw8' HC2 k0 k1 k2 k3 j0 j1 j2 j3
      have HAP8 := Lib.hid (HAP.out.below H8.out)
      by_cases hlt : nn ≤ lf
      · have HR : Hid (Pn.apply ⟨nodes, copies, parts, lives⟩ ⟨1, nd, (n : Int), nn⟩ = .bad 21) := Lib.hid (by
          rw [HP1.out]
          unfold Pn.apply1
          simp only
          rw [HLV.out, if_pos hlt])
        obtain ⟨y0, y1, y2, y3⟩ := HAP8.out.k2.free4
        obtain ⟨z0, z1, z2, z3⟩ := HAP8.out.k2.cells4
        obtain ⟨n0, n1, n2, n3⟩ := HAP8.out.k3.cells4
        go_wp2_with fail
        exact rbad_ret HAP8.out.low (by have := HLT.out; omega) HAP8.out.k2 HR.out rfl rfl rfl
      obtain ⟨R, hR⟩ : ∃ R, Fk.putPt lives nd nn = R := ⟨_, rfl⟩
      have HRR := Lib.hid hR
      have HF0 : Hid (Pn.apply ⟨nodes, copies, parts, lives⟩ ⟨1, nd, (n : Int), nn⟩ = Pn.fin ⟨nodes, copies, parts, lives⟩ parts R (Pn.idx (Pn.hasB nd) 0 parts)) := Lib.hid (by
        rw [HP1.out]
        unfold Pn.apply1
        simp only
        rw [HLV.out, if_neg hlt, hR])
      obtain ⟨W9, hW9⟩ : ∃ W, w8.alloc (.cells #[] 55) = W := ⟨_, rfl⟩
      have hb9 : Below w8.heap.size w8 W9 := by rw [← hW9]; exact (Below.refl _ _).alloc (Nat.le_refl _) _
      have HAP9 := Lib.hid (HAP8.out.fresh (lv' := .slice (some ⟨w8.heap.size, 0, none⟩) 0 0) (gl' := some w8.heap.size) (q' := []) hb9 (by rw [← hW9]; exact Wz.empty _ _ _ (Nat.le_refl _)))
      have HW9 := Lib.hid hW9
      clear hW9 hb9 hR
      go_upto_region 11 with fail
      rw [HW9.out]
      go_upto_block 1 with fail
      go_cut [10, 11] from 12 to 103 (fun s10 s11 wx => ∃ (lab : Lab) (lv : Value) (gl : Option Nat), s11 = .bool (Pn.putS nd nn lives).2 ∧ s10 = lv ∧ Aq w W1.heap.size W2.heap.size W3.heap.size w5.heap.size we.heap.size PC ⟨1, nd, (n : Int), nn⟩ nodes copies lab (.slice (some ⟨sg, sp, none⟩) m sc) sg F (.slice lva ln lvc) lv gl (Pn.putS nd nn lives).1 (.slice (some ⟨W6.heap.size, 0, none⟩) 0 0) (some W6.heap.size) [] wx)
      case first =>
        go_wp2_with fail
        go_loopw [10, 11, 12] (fun s10 s11 s12 wx => ∃ (i : Nat) (lab : Lab) (lv : Value) (gl : Option Nat), i ≤ ln ∧ s12 = .int .i64 i ∧ s11 = .bool (Pn.putS nd nn (lives.take i)).2 ∧ s10 = lv ∧ Aq w W1.heap.size W2.heap.size W3.heap.size w5.heap.size we.heap.size PC ⟨1, nd, (n : Int), nn⟩ nodes copies lab (.slice (some ⟨sg, sp, none⟩) m sc) sg F (.slice lva ln lvc) lv gl (Pn.putS nd nn (lives.take i)).1 (.slice (some ⟨W6.heap.size, 0, none⟩) 0 0) (some W6.heap.size) [] wx) (fun _ _ s12 _ => ln - (intOf s12).toNat)
        case atStart => exact ⟨0, _, _, _, Nat.zero_le _, rfl, rfl, rfl, HAP9.out⟩
        case round =>
          obtain ⟨i, lab, lv, gl1, hi, rfl, rfl, rfl, hap⟩ := hrel
          obtain ⟨Q, hQ⟩ : ∃ Q, (Pn.putS nd nn (lives.take i)).1 = Q := ⟨_, rfl⟩
          obtain ⟨D, hD⟩ : ∃ D, (Pn.putS nd nn (lives.take i)).2 = D := ⟨_, rfl⟩
          have HPS : Hid (Pn.putS nd nn (lives.take i) = (Q, D)) := Lib.hid (by rw [← hQ, ← hD])
          have hql : Q.length ≤ 128 := by
            have h1 := Pn.putS_len nd nn (lives.take i) ([], false)
            have h2 := HLL.out
            rw [← hQ]
            rw [List.length_take] at h1
            simp only [List.length_nil] at h1
            show ((lives.take i).foldl (Pn.put1 nd nn) ([], false)).1.length ≤ 128
            omega
          rw [hQ] at hap
          rw [hD]
          obtain ⟨al, cl, rfl⟩ := hap.lvs.form
          obtain ⟨k, hk⟩ : ∃ k, Q.length = k := ⟨_, rfl⟩
          have HK := Lib.hid hk
          rw [hk] at hap ⊢
          have HS := Lib.hid hap
          obtain ⟨c0, c1, c2, c3⟩ := (show Blk wr w.heap.size #[.int .i64 nodes, .int .i64 copies, .slice a m cap, .slice la ln lcap] 25 by rw [HPC.out]; exact hap.k0).cells4
          obtain ⟨e0, e1, e2, e3⟩ := (show Blk wr W1.heap.size #[.int .i64 1, .int .i64 nd, .int .i64 (n : Int), .int .i64 nn] 27 from hap.k1).cells4
          rw [hk] at hql
          clear hQ hD hk
          by_cases hlt2 : i < ln
          · obtain ⟨q, hq⟩ : ∃ q, lives[i]? = some q := ⟨_, List.getElem?_eq_getElem (by rw [HLN.out]; exact hlt2)⟩
            have hls := HLS.out wr hap.low
            rw [← HLN.out] at hls
            obtain ⟨b, p, cap', ev, -, -, f0, f1⟩ := hls.at hq
            rw [HLN.out] at ev
            obtain rfl : la = some ⟨b, p, none⟩ := by injection ev
            obtain ⟨qa, qb⟩ := q
            simp only at f0 f1
            have HQ := Lib.hid hq
            have i0 : (0 : Int) ≤ (i : Int) := by omega
            have i1 : (i : Int) < (ln : Int) := by omega
            have i60 : i < 60 := by have := HLL.out; have := HLN.out; omega
            clear ev hq hls hap
            go_upto_region 15 with fail
            go_cut [78] from 66 to 78 (fun s wx => s = .bool (!D && decide (nd ≤ qa)) ∧ Below wr.heap.size wr wx)
            case first =>
              cases D with
              | true =>
                go_quiet (fail)
                go_wp2_with fail
                go_meet
                case rel => exact ⟨rfl, below_drewN _ _⟩
              | false =>
                by_cases hle : nd ≤ qa
                · have hle' : decide (nd ≤ qa) = true := decide_eq_true hle
                  go_quiet (fail)
                  go_wp2_with fail
                  go_meet
                  case rel => exact ⟨by simp [hle], below_drewN _ _⟩
                · have hle' : decide (nd ≤ qa) = false := decide_eq_false hle
                  clear hle
                  go_quiet (fail)
                  go_wp2_with fail
                  go_meet
                  case rel => exact ⟨by simp [hle'], below_drewN _ _⟩
            case rest =>
            obtain ⟨hs, hw⟩ := hcut
            subst hs
            have HAPC := Lib.hid (HS.out.below hw)
            obtain ⟨B, hB⟩ : ∃ B, (!D && decide (nd ≤ qa)) = B := ⟨_, rfl⟩
            rw [hB]
            have HBB := Lib.hid hB
            clear hw hB c0 c1 c2 c3 e0 e1 e2 e3 f0 f1
            obtain ⟨c0, c1, c2, c3⟩ := (show Blk wc w.heap.size #[.int .i64 nodes, .int .i64 copies, .slice a m cap, .slice (some ⟨b, p, none⟩) ln lcap] 25 by rw [HPC.out]; exact HAPC.out.k0).cells4
            obtain ⟨e0, e1, e2, e3⟩ := (show Blk wc W1.heap.size #[.int .i64 1, .int .i64 nd, .int .i64 (n : Int), .int .i64 nn] 27 from HAPC.out.k1).cells4
            obtain ⟨il, hil, i1l, i2l, i3l, i4l⟩ := infoLife
            go_upto_if 78 with fail
            go_cut [10, 11] from 79 to 86 (fun s10 s11 wx => ∃ (lab : Lab) (lv : Value) (gl : Option Nat), s11 = .bool (D || B) ∧ s10 = lv ∧ Aq w W1.heap.size W2.heap.size W3.heap.size w5.heap.size we.heap.size PC ⟨1, nd, (n : Int), nn⟩ nodes copies lab (.slice (some ⟨sg, sp, none⟩) m sc) sg F (.slice lva ln lvc) lv gl (if B = true then Q ++ [(nd, nn)] else Q) (.slice (some ⟨W6.heap.size, 0, none⟩) 0 0) (some W6.heap.size) [] wx)
            case first =>
              cases B with
              | false =>
                go_wp2_with fail
                go_meet
                case rel => exact ⟨_, _, _, by simp, rfl, by simp only [Bool.false_eq_true, if_false]; exact HAPC.out⟩
              | true =>
                obtain ⟨W10, hW10⟩ : ∃ W, wc.alloc (.cells #[.int .i64 nd, .int .i64 nn] 55) = W := ⟨_, rfl⟩
                have hb10 : Below wc.heap.size wc W10 := by rw [← hW10]; exact (Below.refl _ _).alloc (Nat.le_refl _) _
                have HS10 : Hid (Rds (fun b => b = wc.heap.size) W10 (.slice (some ⟨wc.heap.size, 0, none⟩) 1 1) 2 1 [.int .i64 nd, .int .i64 nn]) := Lib.hid (by rw [← hW10]; exact Rds.lit (w := wc) (n := 1) (size := 2) (cs := [.int .i64 nd, .int .i64 nn]) 55 rfl)
                have HROW : Hid (Sl W10 (.slice al k cl) gl1 55 2 k (lcs Q)) := Lib.hid (by
                  have := (HAPC.out.lvs.below hb10).1
                  rw [HK.out] at this
                  exact this)
                have HB10 := Lib.hid hb10
                clear hb10
                go_wp2_with (at_builtin; refine wpList_append_rd (by rfl) _ _ _ (by rfl) 55 il _ 2 16 Tryz.underlying23 hil i1l i2l i3l i4l _ gl1 k (lcs Q) (by rfl) HROW.out _ 1 [.int .i64 nd, .int .i64 nn] (by rfl) HS10.out (by simp [Value.oneCell']) (by omega) (by omega) ?_)
                intro v' w' gb' h1 h2 h3
                have HAPD := Lib.hid (HAPC.out.lpush HK.out HB10.out h1 h2 h3)
                clear h1 h2 h3
                go_wp2_with fail
                go_meet
                case rel => exact ⟨_, _, _, by simp, rfl, by simp only [if_true]; exact HAPD.out⟩
            case rest =>
            obtain ⟨lab2, lv2, gl2, hs11, hs10, hap2⟩ := hcut
            subst hs11 hs10
            obtain ⟨Q2, hQ2⟩ : ∃ Q2, (if B = true then Q ++ [(nd, nn)] else Q) = Q2 := ⟨_, rfl⟩
            obtain ⟨D2, hD2⟩ : ∃ D2, (D || B) = D2 := ⟨_, rfl⟩
            have HPSN : Hid (Pn.putS nd nn (lives.take (i + 1)) = (if qa ≠ nd then Q2 ++ [(qa, qb)] else Q2, D2)) := Lib.hid (by
              rw [Pn.putS_snoc HQ.out, HPS.out, Pn.put1_of, HBB.out, hQ2, hD2])
            have hq2l : Q2.length ≤ 129 := by
              rw [← hQ2]
              have := HK.out
              split
              · rw [List.length_append, List.length_singleton]; omega
              · omega
            rw [hQ2] at hap2
            rw [hD2]
            obtain ⟨al2, cl2, rfl⟩ := hap2.lvs.form
            obtain ⟨k2, hk2⟩ : ∃ k, Q2.length = k := ⟨_, rfl⟩
            have HK2 := Lib.hid hk2
            rw [hk2] at hap2 hq2l ⊢
            have HS2 := Lib.hid hap2
            clear hQ2 hD2 hk2 c0 c1 c2 c3 e0 e1 e2 e3 HPS HBB HAPC HS
            obtain ⟨c0, c1, c2, c3⟩ := (show Blk wc w.heap.size #[.int .i64 nodes, .int .i64 copies, .slice a m cap, .slice (some ⟨b, p, none⟩) ln lcap] 25 by rw [HPC.out]; exact hap2.k0).cells4
            obtain ⟨e0, e1, e2, e3⟩ := (show Blk wc W1.heap.size #[.int .i64 1, .int .i64 nd, .int .i64 (n : Int), .int .i64 nn] 27 from hap2.k1).cells4
            have hls := HLS.out _ hap2.low
            obtain ⟨f0, f1⟩ := hls.cells HQ.out
            simp only at f0 f1
            clear hls hap2
            by_cases hne : qa = nd
            · have hnb : (qa != nd) = false := by simp [hne]
              have HPSE : Hid (Pn.putS nd nn (lives.take (i + 1)) = (Q2, D2)) := Lib.hid (by rw [HPSN.out, if_neg (fun h => h hne)])
              clear hne
              go_upto_region 18 with fail
              go_quiet (fail)
              have HAPQ := Lib.hid (HS2.out.below (below_drewN _ nq))
              go_wp2_with fail
              go_roundw
              case rel => exact ⟨i + 1, _, _, _, by omega, by go_num, by rw [HPSE.out], rfl, by rw [HPSE.out]; exact HAPQ.out⟩
              case measure => simp [intOf]; omega
            · have hnb : (qa != nd) = true := by simp [hne]
              have HPSE : Hid (Pn.putS nd nn (lives.take (i + 1)) = (Q2 ++ [(qa, qb)], D2)) := Lib.hid (by rw [HPSN.out, if_pos hne])
              clear hne
              go_upto_region 18 with fail
              go_quiet (fail)
              obtain ⟨wq, hwq⟩ : ∃ W, wc.drewN nq = W := ⟨_, rfl⟩
              rw [hwq]
              have HAPQ := Lib.hid (show Aq w W1.heap.size W2.heap.size W3.heap.size w5.heap.size we.heap.size PC ⟨1, nd, (n : Int), nn⟩ nodes copies lab2 (.slice (some ⟨sg, sp, none⟩) m sc) sg F (.slice lva ln lvc) (.slice al2 k2 cl2) gl2 Q2 (.slice (some ⟨W6.heap.size, 0, none⟩) 0 0) (some W6.heap.size) [] wq by rw [← hwq]; exact HS2.out.below (below_drewN _ nq))
              clear hwq c0 c1 c2 c3 e0 e1 e2 e3 f0 f1
              obtain ⟨c0, c1, c2, c3⟩ := (show Blk wq w.heap.size #[.int .i64 nodes, .int .i64 copies, .slice a m cap, .slice (some ⟨b, p, none⟩) ln lcap] 25 by rw [HPC.out]; exact HAPQ.out.k0).cells4
              obtain ⟨f0, f1⟩ := (HLS.out _ HAPQ.out.low).cells HQ.out
              simp only at f0 f1
              obtain ⟨W10, hW10⟩ : ∃ W, wq.alloc (.cells #[.int .i64 qa, .int .i64 qb] 55) = W := ⟨_, rfl⟩
              have hb10 : Below wq.heap.size wq W10 := by rw [← hW10]; exact (Below.refl _ _).alloc (Nat.le_refl _) _
              have HS10 : Hid (Rds (fun b => b = wq.heap.size) W10 (.slice (some ⟨wq.heap.size, 0, none⟩) 1 1) 2 1 [.int .i64 qa, .int .i64 qb]) := Lib.hid (by rw [← hW10]; exact Rds.lit (w := wq) (n := 1) (size := 2) (cs := [.int .i64 qa, .int .i64 qb]) 55 rfl)
              have HROW : Hid (Sl W10 (.slice al2 k2 cl2) gl2 55 2 k2 (lcs Q2)) := Lib.hid (by
                have := (HAPQ.out.lvs.below hb10).1
                rw [HK2.out] at this
                exact this)
              have HB10 := Lib.hid hb10
              clear hb10
              go_wp2_with (at_builtin; refine wpList_append_rd (by rfl) _ _ _ (by rfl) 55 il _ 2 16 Tryz.underlying23 hil i1l i2l i3l i4l _ gl2 k2 (lcs Q2) (by rfl) HROW.out _ 1 [.int .i64 qa, .int .i64 qb] (by rfl) HS10.out (by simp [Value.oneCell']) (by omega) (by omega) ?_)
              intro v' w' gb' h1 h2 h3
              have HAPD := Lib.hid (HAPQ.out.lpush HK2.out HB10.out h1 h2 h3)
              clear h1 h2 h3
              go_wp2_with fail
              go_roundw
              case rel => exact ⟨i + 1, _, _, _, by omega, by go_num, by rw [HPSE.out], rfl, by rw [HPSE.out]; exact HAPD.out⟩
              case measure => simp [intOf]; omega
          · have HPSF : Hid (Pn.putS nd nn lives = (Q, D)) := Lib.hid (by
              rw [← HPS.out, List.take_of_length_le (by rw [HLN.out]; omega)])
            clear hap
            go_wp2_with fail
            go_meet
            case rel => exact ⟨_, _, _, by rw [HPSF.out], rfl, by rw [HPSF.out]; exact HS.out⟩
      case rest =>
      obtain ⟨lab1, lv1, gl1, hs11, hs10, hap1⟩ := hcut
      subst hs11 hs10
      obtain ⟨Q, hQ⟩ : ∃ Q, (Pn.putS nd nn lives).1 = Q := ⟨_, rfl⟩
      obtain ⟨D, hD⟩ : ∃ D, (Pn.putS nd nn lives).2 = D := ⟨_, rfl⟩
      have HPT : Hid ((if D = false then Q ++ [(nd, nn)] else Q) = R) := Lib.hid (by
        rw [← HRR.out, ← Pn.put_all (Pn.lives_pair lives nodes 0 (Pn.good_lives HGO.out)).1 nd nn]
        unfold Pn.putE
        rw [hQ, hD])
      have hql : Q.length ≤ 128 := by
        have h1 := Pn.putS_len nd nn lives ([], false)
        have h2 := HLL.out
        rw [← hQ]
        simp only [List.length_nil] at h1
        show (lives.foldl (Pn.put1 nd nn) ([], false)).1.length ≤ 128
        omega
      rw [hQ] at hap1
      rw [hD]
      obtain ⟨al, cl, rfl⟩ := hap1.lvs.form
      obtain ⟨k, hk⟩ : ∃ k, Q.length = k := ⟨_, rfl⟩
      have HK := Lib.hid hk
      rw [hk] at hap1 ⊢
      rw [hk] at hql
      have HAPC := Lib.hid hap1
      obtain ⟨e0, e1, e2, e3⟩ := (show Blk wc W1.heap.size #[.int .i64 1, .int .i64 nd, .int .i64 (n : Int), .int .i64 nn] 27 from hap1.k1).cells4
      obtain ⟨il, hil, i1l, i2l, i3l, i4l⟩ := infoLife
      clear hQ hD hk hap1
      go_upto_if 105 with fail
      go_cut [10] from 106 to 113 (fun s10 wx => ∃ (lab : Lab) (lv : Value) (gl : Option Nat), s10 = lv ∧ Aq w W1.heap.size W2.heap.size W3.heap.size w5.heap.size we.heap.size PC ⟨1, nd, (n : Int), nn⟩ nodes copies lab (.slice (some ⟨sg, sp, none⟩) m sc) sg F (.slice lva ln lvc) lv gl R (.slice (some ⟨W6.heap.size, 0, none⟩) 0 0) (some W6.heap.size) [] wx)
      case first =>
        cases D with
        | true =>
          have HPT2 : Hid (Q = R) := Lib.hid (by have := HPT.out; simpa using this)
          go_wp2_with fail
          go_meet
          case rel => exact ⟨_, _, _, rfl, by rw [← HPT2.out]; exact HAPC.out⟩
        | false =>
          have HPT2 : Hid (Q ++ [(nd, nn)] = R) := Lib.hid (by have := HPT.out; simpa using this)
          obtain ⟨W10, hW10⟩ : ∃ W, wc.alloc (.cells #[.int .i64 nd, .int .i64 nn] 55) = W := ⟨_, rfl⟩
          have hb10 : Below wc.heap.size wc W10 := by rw [← hW10]; exact (Below.refl _ _).alloc (Nat.le_refl _) _
          have HS10 : Hid (Rds (fun b => b = wc.heap.size) W10 (.slice (some ⟨wc.heap.size, 0, none⟩) 1 1) 2 1 [.int .i64 nd, .int .i64 nn]) := Lib.hid (by rw [← hW10]; exact Rds.lit (w := wc) (n := 1) (size := 2) (cs := [.int .i64 nd, .int .i64 nn]) 55 rfl)
          have HROW : Hid (Sl W10 (.slice al k cl) gl1 55 2 k (lcs Q)) := Lib.hid (by
            have := (HAPC.out.lvs.below hb10).1
            rw [HK.out] at this
            exact this)
          have HB10 := Lib.hid hb10
          clear hb10
          go_wp2_with (at_builtin; refine wpList_append_rd (by rfl) _ _ _ (by rfl) 55 il _ 2 16 Tryz.underlying23 hil i1l i2l i3l i4l _ gl1 k (lcs Q) (by rfl) HROW.out _ 1 [.int .i64 nd, .int .i64 nn] (by rfl) HS10.out (by simp [Value.oneCell']) (by omega) (by omega) ?_)
          intro v' w' gb' h1 h2 h3
          have HAPD := Lib.hid (HAPC.out.lpush HK.out HB10.out h1 h2 h3)
          clear h1 h2 h3
          go_wp2_with fail
          go_meet
          case rel => exact ⟨_, _, _, rfl, by rw [← HPT2.out]; exact HAPD.out⟩
      case rest =>
      obtain ⟨lab2, lv2, gl2, hs10, hap2⟩ := hcut
      subst hs10
      obtain ⟨al2, cl2, rfl⟩ := hap2.lvs.form
      obtain ⟨k2, hk2⟩ : ∃ k, R.length = k := ⟨_, rfl⟩
      rw [hk2] at hap2 ⊢
      obtain ⟨o0, o1, o2, o3⟩ := hap2.k4.cells4
      obtain ⟨g0, g1, g2, g3⟩ := hap2.k4.free4
      have hap3 := hap2.box4 (.slice al2 k2 cl2)
      obtain ⟨W12, hW12⟩ : ∃ W, wc.setCell ⟨w5.heap.size, 3, none⟩ (.slice al2 k2 cl2) = W := ⟨_, rfl⟩
      rw [hW12] at hap3
      have HAP3 := Lib.hid hap3
      have HW12 := Lib.hid hW12
      clear hap2 hap3 hW12 hk2 HAPC HPT e0 e1 e2 e3
      go_upto_region 23 with fail
      rw [HW12.out]
      clear HW12 o0 o1 o2 o3 g0 g1 g2 g3
      obtain ⟨ii, hii, i1i, i2i, i3i, i4i⟩ := infoInt
      go_wp2_with fail
      go_loopw [9, 13] (fun s9 s13 wx => ∃ (i : Nat) (lab : Lab) (gt : Option Nat), i ≤ m ∧ s13 = .int .i64 i ∧ Aq w W1.heap.size W2.heap.size W3.heap.size w5.heap.size we.heap.size PC ⟨1, nd, (n : Int), nn⟩ nodes copies lab (.slice (some ⟨sg, sp, none⟩) m sc) sg F (.slice al2 k2 cl2) (.slice al2 k2 cl2) gl2 R s9 gt (Pn.idx (Pn.hasB nd) 0 (parts.take i)) wx) (fun _ s13 _ => m - (intOf s13).toNat)
      case atStart => exact ⟨0, _, _, Nat.zero_le _, rfl, HAP3.out⟩
      case round =>
        obtain ⟨i, lab3, gt3, hi, rfl, hap⟩ := hrel
        obtain ⟨T, hT⟩ : ∃ T, Pn.idx (Pn.hasB nd) 0 (parts.take i) = T := ⟨_, rfl⟩
        have HT := Lib.hid hT
        rw [hT] at hap
        obtain ⟨ta, tc, rfl⟩ := hap.tns.ns.form
        have htl : T.length ≤ 64 := by rw [← hT]; exact Nat.le_trans (Pn.idx_len _ _ _) (by rw [List.length_take]; have := HM.out; omega)
        obtain ⟨tn, htn⟩ : ∃ k, (Pn.nums T).length = k := ⟨_, rfl⟩
        have HTN := Lib.hid htn
        have htnl : tn ≤ 64 := by rw [← htn]; unfold Pn.nums; rw [List.length_map]; exact htl
        rw [htn] at hap ⊢
        have HS := Lib.hid hap
        obtain ⟨o0, o1, o2, o3⟩ := hap.k4.cells4
        obtain ⟨e0, e1, e2, e3⟩ := (show Blk wr W1.heap.size #[.int .i64 1, .int .i64 nd, .int .i64 (n : Int), .int .i64 nn] 27 from hap.k1).cells4
        clear hT htl htn
        by_cases hlt2 : i < m
        · obtain ⟨e, he⟩ : ∃ e, F[i]? = some e := ⟨_, List.getElem?_eq_getElem (by rw [HML.out]; exact hlt2)⟩
          have hx : parts[i]? = some e.x := by rw [← HFP.out, List.getElem?_map, he]; rfl
          obtain ⟨d0, d1, d2⟩ := hap.at3 he
          have hch := (hap.row.2.2 i _ he).ns
          have hc64 := HC.out _ (List.mem_of_getElem? hx)
          obtain ⟨⟨xe, xc, xl⟩, cv⟩ := e
          simp only at hx d0 d1 d2 hch hc64
          obtain ⟨ca, cc, rfl⟩ := hch.form
          have HHS : Hid (∀ n, Calls Tryz.prog 34 #[.slice ca xc.length cc, .int .i64 nd] (wr.drewN n) fun e w' => e = .returned (.bool (xc.contains nd)) ∧ w' = wr.drewN n) := Lib.hid fun n => rhas_any _ xc nd (wr.drewN n) (hch.below (below_drewN _ _)) hc64
          have HGG : Hid (Pn.hasB nd ⟨xe, xc, xl⟩ = (xl == nd || xc.contains nd)) := Lib.hid rfl
          obtain ⟨E, hE⟩ : ∃ E, xc.contains nd = E := ⟨_, rfl⟩
          obtain ⟨G, hG⟩ : ∃ G, Pn.hasB nd ⟨xe, xc, xl⟩ = G := ⟨_, rfl⟩
          have HIX := Lib.hid (Pn.idx_take (Pn.hasB nd) hx)
          rw [hG] at HIX
          rw [hE] at HHS HGG
          rw [hG] at HGG
          obtain ⟨cn, hcn⟩ : ∃ n, xc.length = n := ⟨_, rfl⟩
          rw [hcn] at d1 HHS
          have i0 : (0 : Int) ≤ (i : Int) := by omega
          have i1 : (i : Int) < (m : Int) := by omega
          clear hap he hx hch hE hG hcn hc64
          go_upto_region 26 with fail
          go_cut [142] from 123 to 142 (fun s wx => s = .bool G ∧ Below wr.heap.size wr wx)
          case first =>
            cases E with
            | true =>
              have HGT : Hid (G = true) := Lib.hid (by rw [HGG.out]; simp)
              go_quiet ((go_at_call 34; refine Calls.quiet_of_same (HHS.out _)))
              go_wp2_with fail
              go_meet
              case rel => exact ⟨by rw [HGT.out], below_drewN _ _⟩
            | false =>
              by_cases hxl : xl = nd
              · have hxb : (xl == nd) = true := by simp [hxl]
                have HGT : Hid (G = true) := Lib.hid (by rw [HGG.out, hxb]; rfl)
                subst hxl
                go_quiet ((go_at_call 34; refine Calls.quiet_of_same (HHS.out _)))
                go_wp2_with fail
                go_meet
                case rel => exact ⟨by rw [HGT.out], below_drewN _ _⟩
              · have hxb : (xl == nd) = false := by simp [hxl]
                have HGT : Hid (G = false) := Lib.hid (by rw [HGG.out, hxb]; rfl)
                clear hxl
                go_quiet ((go_at_call 34; refine Calls.quiet_of_same (HHS.out _)))
                go_wp2_with fail
                go_meet
                case rel => exact ⟨by rw [HGT.out], below_drewN _ _⟩
          case rest =>
          obtain ⟨hs, hw⟩ := hcut
          subst hs
          have HAPC := Lib.hid (HS.out.below hw)
          clear hw HHS HGG HS o0 o1 o2 o3 e0 e1 e2 e3 d0 d1 d2
          cases G with
          | false =>
            have HIY : Hid (Pn.idx (Pn.hasB nd) 0 (parts.take (i + 1)) = T) := Lib.hid (by rw [HIX.out, HT.out]; simp)
            go_wp2_with fail
            go_roundw
            case rel => exact ⟨i + 1, _, _, by omega, by go_num, by rw [HIY.out]; exact HAPC.out⟩
            case measure => simp [intOf]; omega
          | true =>
            have HIY : Hid (Pn.idx (Pn.hasB nd) 0 (parts.take (i + 1)) = T ++ [i]) := Lib.hid (by rw [HIX.out, HT.out]; simp)
            obtain ⟨W20, hW20⟩ : ∃ W, wc.alloc (.cells #[.int .i64 (i : Int)] 3) = W := ⟨_, rfl⟩
            have hb20 : Below wc.heap.size wc W20 := by rw [← hW20]; exact (Below.refl _ _).alloc (Nat.le_refl _) _
            have HS20 : Hid (Rds (fun b => b = wc.heap.size) W20 (.slice (some ⟨wc.heap.size, 0, none⟩) 1 1) 1 1 [.int .i64 (i : Int)]) := Lib.hid (by rw [← hW20]; exact Rds.lit (w := wc) (n := 1) (size := 1) (cs := [.int .i64 (i : Int)]) 3 rfl)
            have HROW20 : Hid (Sl W20 (.slice ta tn tc) gt3 3 1 tn ((Pn.nums T).map (Value.int .i64))) := Lib.hid (by
              have := (Wz.below HAPC.out.tns hb20).1
              rw [HTN.out] at this
              exact this)
            have HB20 := Lib.hid hb20
            clear hb20
            go_wp2_with (at_builtin; refine wpList_append_rd (by rfl) _ _ _ (by rfl) 3 ii _ 1 8 Tryz.underlying32 hii i1i i2i i3i i4i _ gt3 tn ((Pn.nums T).map (Value.int .i64)) (by rfl) HROW20.out _ 1 [.int .i64 (i : Int)] (by rfl) HS20.out (by simp [Value.oneCell']) (by omega) (by omega) ?_)
            intro v' w' gb' h1 h2 h3
            have HAPD := Lib.hid (HAPC.out.tpush HTN.out HB20.out h1 h2 h3)
            have HG20 := Lib.hid h2
            clear h1 h2 h3
            go_wp2_with fail
            go_roundw
            case rel => exact ⟨i + 1, _, _, by omega, by go_num, by rw [HIY.out]; exact HAPD.out⟩
            case measure => simp [intOf]; omega
        · have HTE : Hid (T = Pn.idx (Pn.hasB nd) 0 parts) := Lib.hid (by rw [← HT.out, List.take_of_length_le (by rw [HM.out]; omega)])
          clear hap
          go_wp2_with fail
          go_meet
          case rel => exact ⟨_, F, _, _, _, _, T, HS.out, HML.out, by rw [HTE.out, ← HM.out]; exact ⟨Pn.idx_len _ _ _, Pn.idx_lt0 _ _⟩, fun e he => HEP.out e.x (by rw [← HFP.out]; exact List.mem_map_of_mem he), by rw [HF0.out, HFP.out, HTE.out]⟩
    · exact (show False by have := HKK.out; omega).elim
    · exact (show False by have := HKK.out; omega).elim
    · exact (show False by have := HKK.out; omega).elim
    · exact (show False by have := HKK.out; omega).elim
  case rest =>
    obtain ⟨lab, F1, lv, gl1, q, gt, t, hap, hml, htb, hep, hfi⟩ := hcut
    simp only at hap
    obtain ⟨ta, tc, rfl⟩ := hap.tns.ns.form
    obtain ⟨tn, htn⟩ : ∃ k, t.length = k := ⟨_, rfl⟩
    have htn' : (Pn.nums t).length = tn := by unfold Pn.nums; rw [List.length_map]; exact htn
    rw [htn'] at hap ⊢
    obtain ⟨va, vc, rfl⟩ := hap.lvs.form
    obtain ⟨qn, hqn⟩ : ∃ k, q.length = k := ⟨_, rfl⟩
    rw [hqn] at hap
    obtain ⟨D, hD⟩ : ∃ D, Pn.rise (F1.map PE.x) t = D := ⟨_, rfl⟩
    have HFS : Hid (∀ qs, D = some qs → Pn.apply ⟨nodes, copies, parts, lives⟩ ⟨kd, nd, (n : Int), nn⟩ = .ok ⟨nodes, copies, qs, q⟩ t) := Lib.hid fun qs h => by rw [hfi, Pn.fin, hD, h]
    have HFN : Hid (D = none → Pn.apply ⟨nodes, copies, parts, lives⟩ ⟨kd, nd, (n : Int), nn⟩ = .bad 32) := Lib.hid fun h => by rw [hfi, Pn.fin, hD, h]
    have HS0 := Lib.hid hap
    have HML0 := Lib.hid hml
    have HEP0 := Lib.hid hep
    have HD0 : Hid (Pn.rise (F1.map PE.x) (t.drop 0) = D) := Lib.hid (by rw [List.drop_zero]; exact hD)
    have HTB := Lib.hid htb
    have HTN := Lib.hid htn
    have HTN' := Lib.hid htn'
    have htm : tn ≤ 64 := by omega
    clear hap hml hep hfi htb htn htn' hD hqn
    go_wp2_with fail
    go_loopw [17] (fun s17 wx => ∃ (i : Nat) (F2 : List PE), i ≤ tn ∧ s17 = .int .i64 i ∧ Aq w W1.heap.size W2.heap.size W3.heap.size w5.heap.size we.heap.size PC ⟨kd, nd, (n : Int), nn⟩ nodes copies lab (.slice (some ⟨sg, sp, none⟩) m sc) sg F2 (.slice va qn vc) (.slice va qn vc) gl1 q (.slice ta tn tc) gt t wx ∧ F2.length = m ∧ Pn.rise (F2.map PE.x) (t.drop i) = D ∧ ∀ e ∈ F2, 0 ≤ e.x.ep ∧ e.x.ep ≤ 1073741824) (fun s17 _ => tn - (intOf s17).toNat)
    case atStart => exact ⟨0, F1, Nat.zero_le _, rfl, HS0.out, HML0.out, HD0.out, HEP0.out⟩
    case round =>
      obtain ⟨i, F2, hi, rfl, hap, hml, hdr, hep⟩ := hrel
      have HAPR := Lib.hid hap
      have HMLR := Lib.hid hml
      obtain ⟨o0, o1, o2, o3⟩ := hap.k4.cells4
      by_cases hlt : i < tn
      · obtain ⟨k, hk⟩ : ∃ k, t[i]? = some k := ⟨_, List.getElem?_eq_getElem (by rw [HTN.out]; exact hlt)⟩
        have hkm : k < m := HTB.out.2 k (List.mem_of_getElem? hk)
        obtain ⟨e, he⟩ : ∃ e, F2[k]? = some e := ⟨_, List.getElem?_eq_getElem (by rw [hml]; exact hkm)⟩
        have hns := hap.tns.ns
        obtain ⟨tb, tp, tcap, ev, -, htb, t0⟩ := hns.at (j := i) (x := (k : Int)) (by unfold Pn.nums; rw [List.getElem?_map, hk]; rfl)
        obtain rfl : ta = some ⟨tb, tp, none⟩ := by injection ev
        obtain ⟨d0, d1, d2⟩ := hap.at3 he
        have hlo := hep e (List.mem_of_getElem? he)
        have HRS : Hid (e.x.ep ≠ 1073741824 → Pn.rise ((F2.set k ⟨⟨e.x.ep + 1, e.x.ch, e.x.le⟩, e.cv⟩).map PE.x) (t.drop (i + 1)) = D) := Lib.hid fun hne => by
          obtain ⟨hltt, hte⟩ := List.getElem?_eq_some_iff.1 hk
          rw [List.drop_eq_getElem_cons hltt, hte] at hdr
          have hge : (F2.map PE.x)[k]? = some e.x := by rw [List.getElem?_map, he]; rfl
          unfold Pn.rise at hdr
          simp only [hge] at hdr
          rw [if_neg hne] at hdr
          rw [List.map_set]
          exact hdr
        have HTOP : Hid (e.x.ep = 1073741824 → D = none) := Lib.hid fun he2 => by
          rw [← hdr]
          exact Pn.rise_top hk (by rw [List.getElem?_map, he]; rfl) he2
        have HEP2 : Hid (e.x.ep ≠ 1073741824 → ∀ y ∈ F2.set k ⟨⟨e.x.ep + 1, e.x.ch, e.x.le⟩, e.cv⟩, 0 ≤ y.x.ep ∧ y.x.ep ≤ 1073741824) := Lib.hid fun hne y hy => by
          rcases List.mem_or_eq_of_mem_set hy with hy | rfl
          · exact hep y hy
          · exact ⟨by simp only; omega, by simp only; omega⟩
        obtain ⟨⟨xe, xc, xl⟩, cv⟩ := e
        simp only at d0 d1 d2 hlo HRS HTOP HEP2
        obtain ⟨Wd, hWd⟩ : ∃ W, wr.drew = W := ⟨_, rfl⟩
        have hapd := hap.below (show Below wr.heap.size wr Wd by rw [← hWd]; exact (Below.refl _ _).drew)
        have hrd := (hapd.rose (xe + 1) hml he).2
        have fd : Wd.frozen? ⟨sg, sp + k * 3, none⟩ = false := hapd.free
        obtain ⟨q0, q1, q2⟩ := hapd.at3 he
        obtain ⟨p0, p1, p2, p3⟩ := hapd.k4.cells4
        simp only at q0
        obtain ⟨W8, hW8⟩ : ∃ W, Wd.setCell ⟨sg, sp + k * 3, none⟩ (.int .i64 (xe + 1)) = W := ⟨_, rfl⟩
        rw [hW8] at hrd
        have HAP8 := Lib.hid hrd
        have HW8 := Lib.hid hW8
        have HWD := Lib.hid hWd
        have HK := Lib.hid hk
        have i0 : (0 : Int) ≤ (i : Int) := by omega
        have i1 : (i : Int) < (tn : Int) := by omega
        have j0 : (0 : Int) ≤ (k : Int) := by omega
        have j1 : (k : Int) < (m : Int) := by omega
        have hw1 : wrap64 (xe + 1) = xe + 1 := by unfold wrap64; omega
        clear hap hml hdr hep hk he hns ev hW8 hWd hapd hrd d1 d2 htb q1 q2
        go_upto_region 64 with fail
        go_still_tail 12, (by kernel_rfl)
        change wpList _ _ _ _ _ wr.drew
        rw [HWD.out]
        go_upto_region 65 with fail
        rw [HW8.out]
        clear HW8 HWD d0 q0 t0 fd o0 o1 o2 o3 p0 p1 p2 p3
        obtain ⟨o0, o1, o2, o3⟩ := HAP8.out.k4.cells4
        obtain ⟨tb', tp', tcap', ev, -, -, t0⟩ := HAP8.out.tns.ns.at (j := i) (x := (k : Int)) (by unfold Pn.nums; rw [List.getElem?_map, HK.out]; rfl)
        injection ev with ev1 ev2 ev3
        injection ev1 with ev1
        injection ev1 with ev4 ev5
        subst ev4 ev5
        obtain ⟨d0, d1, d2⟩ := HAP8.out.at3 (k := k) (e := ⟨⟨xe + 1, xc, xl⟩, cv⟩) (by rw [List.getElem?_set]; simp [HMLR.out, hkm])
        simp only at d0
        have HML8 : Hid ((F2.set k ⟨⟨xe + 1, xc, xl⟩, cv⟩).length = m) := Lib.hid (by rw [List.length_set]; exact HMLR.out)
        clear ev2 ev3 d1 d2
        by_cases htop : xe = 1073741824
        · have HR := Lib.hid (HFN.out (HTOP.out htop))
          subst htop
          go_quiet (fail)
          have HAPQ := Lib.hid (HAP8.out.below (below_drewN W8 nq))
          clear o0 o1 o2 o3 d0 t0
          obtain ⟨y0, y1, y2, y3⟩ := HAPQ.out.k2.free4
          obtain ⟨z0, z1, z2, z3⟩ := HAPQ.out.k2.cells4
          obtain ⟨n0, n1, n2, n3⟩ := HAPQ.out.k3.cells4
          go_wp2_with fail
          exact rbad_ret HAPQ.out.low (by have := HLT.out; omega) HAPQ.out.k2 HR.out rfl rfl rfl
        · have hgt : decide (1073741824 < xe + 1) = false := decide_eq_false (by omega)
          have HRS2 := Lib.hid (HRS.out htop)
          have HEP3 := Lib.hid (HEP2.out htop)
          clear htop
          go_quiet (fail)
          have HAPQ := Lib.hid (HAP8.out.below (below_drewN W8 nq))
          clear o0 o1 o2 o3 d0 t0
          go_wp2_with fail
          go_roundw
          case rel => exact ⟨i + 1, _, by omega, by go_num, HAPQ.out, HML8.out, HRS2.out, HEP3.out⟩
          case measure => simp [intOf]; omega
      · have HR := Lib.hid (HFS.out (F2.map PE.x) (by
          rw [← hdr, List.drop_of_length_le (by rw [HTN.out]; omega)]
          unfold Pn.rise
          rfl))
        obtain ⟨y0, y1, y2, y3⟩ := HAPR.out.k2.free4
        obtain ⟨z0, z1, z2, z3⟩ := HAPR.out.k2.cells4
        clear hap hml hdr hep
        go_wp2_with fail
        refine bodyPost_ret (rapply_ret (Blk.four HAPR.out.k2 _ _ _ _) rfl rfl rfl) rfl ?_
        rw [HR.out]
        obtain ⟨l1, l2, l3⟩ := HAPR.out.fin (four_kb _ _ _ _ _ _)
        exact ⟨l1, _, _, gt, rfl, l2, l3⟩
end Go.Proofs.YtmkinnheoejphaaGreatDoor
