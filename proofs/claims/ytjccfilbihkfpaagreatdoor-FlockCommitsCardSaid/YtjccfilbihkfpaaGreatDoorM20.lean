import Derived.Test.YtjccfilbihkfpaaGreatDoorM19
import Derived.Deep.RegionHeld3
import Derived.Deep.DrawnRows

/- THE CONTRACT OF Answer. -/
namespace Go.Proofs.YtjccfilbihkfpaaGreatDoor
open Go.RowKit

set_option maxHeartbeats 4000000 in
set_option maxRecDepth 100000 in
theorem answer_any {A : Nat → Prop} (v : Value) (L : List Fk.G) (off : Int) (xk xv : ByteArray) (gone : Bool) (q : Fk.Q) (rv : Value) (k : Int) (w : World) (lb : Lb w) (h : GsR A w v L) (hG : Gk k L) (hk : k ≤ 1099511627776) (hkl : xk.size ≤ 1000) (hvl : xv.size ≤ 1000) :
    Calls Tryz.prog 15 #[v, .agg #[.int .i64 off, .string xk, .string xv, .bool gone], qval q rv] w fun e w' => RspOut w q.client q.n (Fk.answer L (Fk.rd xk xv gone) q) e w' := by
  obtain ⟨x, hx⟩ : ∃ x, Fk.rd xk xv gone = x := ⟨_, rfl⟩
  have HRD : Hid (∀ wx, Below w.heap.size w wx → Calls Tryz.prog 24 #[.agg #[.int .i64 off, .string xk, .string xv, .bool gone]] wx fun e w' => RdOut wx x e w') := Lib.hid fun wx hb => by rw [← hx]; exact read_any off xk xv gone wx (lb.below lb.size hb) hkl hvl
  rw [hx]
  obtain ⟨X, hX⟩ : ∃ X, Fk.answer L x q = X := ⟨_, rfl⟩
  rw [hX]
  have hgd := hG.gd hk q.group
  have hfd : ∀ wx, Below w.heap.size w wx → Calls Tryz.prog 32 #[v, .string q.group] wx fun e w' => FndOut (fun b => b < w.heap.size) wx (Fk.fndD L q.group) (Fk.fnd L q.group).isSome e w' := fun wx hb => find_any v L q.group wx (h.bound.below hb) (fun b hb' => Nat.lt_of_lt_of_le hb' hb.size) hG.small (hG.ok.mono q.group)
  have hR : X = match (generalizing := false) x with
      | .turn _ _ _ _ => ⟨0, 0, (Fk.fndD L q.group).gen, Fk.own (Fk.fndD L q.group) q.member⟩
      | .point _ _ o g => ⟨0, o, g, []⟩
      | .no c => if c = 0 ∧ q.kind = 3 then ⟨c, 0, (Fk.fndD L q.group).gen, Fk.own (Fk.fndD L q.group) q.member⟩ else ⟨c, 0, 0, []⟩
      | .none => ⟨3, 0, 0, []⟩ := by cases x <;> exact hX.symm
  obtain ⟨gg, hgg⟩ : ∃ gg, Fk.fndD L q.group = gg := ⟨_, rfl⟩
  obtain ⟨th, hth⟩ : ∃ th, (Fk.fnd L q.group).isSome = th := ⟨_, rfl⟩
  rw [hgg, hth] at hfd
  rw [hgg] at hgd hR
  obtain ⟨cl, qn, kd, pt, sq, of, mx, gn, N, M⟩ := q
  obtain ⟨av, cap, rfl⟩ := h.form
  simp only at hR hfd ⊢
  obtain ⟨m, hm⟩ : ∃ m, L.length = m := ⟨_, rfl⟩
  rw [hm] at hfd ⊢
  obtain ⟨W0, hW0⟩ : ∃ W, w.alloc (.cells #[.int .i64 off, .string xk, .string xv, .bool gone] 28) = W := ⟨_, rfl⟩
  have hb0 : Below w.heap.size w W0 := by rw [← hW0]; exact (Below.refl _ _).alloc (Nat.le_refl _) _
  have kx0 : Blk W0 w.heap.size #[.int .i64 off, .string xk, .string xv, .bool gone] 28 := by rw [← hW0]; exact Blk.new _ _ _
  obtain ⟨W1, W2, W3, e1, e2, e3, hb2, kq2, hl3⟩ := LSt.start w W0 hb0 #[.int .i64 cl, .int .i64 qn, .int .i64 kd, .int .i64 pt, .int .i64 sq, .int .i64 of, .int .i64 mx, .int .i64 gn, .string N, .string M, rv] (rsp cl qn 0 0 0 (.slice none 0 0))
  have hb3 : Below W2.heap.size W2 W3 := by rw [← e3]; exact (Below.refl _ _).alloc (Nat.le_refl _) _
  have HKX := Lib.hid ((kx0.below hb2).below hb3)
  have HFD := Lib.hid hfd
  have HGD := Lib.hid hgd
  have HR := Lib.hid hR
  have HL3 := Lib.hid hl3
  have d0 : W2.cell? ⟨W0.heap.size, 0, none⟩ = some (.int .i64 cl) := kq2.cell rfl
  have d1 : W2.cell? ⟨W0.heap.size, 1, none⟩ = some (.int .i64 qn) := kq2.cell rfl
  have d8 : W3.cell? ⟨W0.heap.size, 8, none⟩ = some (.string N) := hl3.kq.cell rfl
  have E3 := Lib.hid e3
  clear hX hx hgg hth hm hfd hgd hR hl3 hb0 hb2 hb3 kx0 kq2 h hG hk e3 lb hkl hvl
  go_enter Tryz.func15, Tryz.ntmps15
  go_upto_region 2 with fail
  rw [E3.out]
  clear E3
  go_wp2_with fail
  refine (HFD.out _ HL3.out.low).mono ?_
  rintro e w5 ⟨gv, rfl, ⟨mv, pv, rfl, hmn, hpn⟩, hb5⟩
  obtain ⟨gnm, ggen, gparts, gmem, gpts⟩ := gg
  obtain ⟨ma, mc, rfl⟩ := hmn.form
  obtain ⟨pa, pc, rfl⟩ := hpn.form
  simp only
  have HL5 := Lib.hid (HL3.out.below hb5)
  obtain ⟨W6, hW6⟩ : ∃ W, w5.alloc (.cells #[.string gnm, .int .i64 ggen, .int .i64 gparts, .slice ma gmem.length mc, .slice pa gpts.length pc] 44) = W := ⟨_, rfl⟩
  have hb56 : Below w5.heap.size w5 W6 := by rw [← hW6]; exact (Below.refl _ _).alloc (Nat.le_refl _) _
  have kg6 : Blk W6 w5.heap.size #[.string gnm, .int .i64 ggen, .int .i64 gparts, .slice ma gmem.length mc, .slice pa gpts.length pc] 44 := by rw [← hW6]; exact Blk.new _ _ _
  have HL6 := Lib.hid (HL5.out.below hb56)
  have HKG := Lib.hid kg6
  have HMN := Lib.hid (Nms.below hmn hb56)
  have HPN := Lib.hid (Pts.below hpn hb56)
  have hkx := (HKX.out.below hb5).below hb56
  obtain ⟨x0, x1, x2, x3⟩ := hkx.cells4
  have HNE : Hid (w5.heap.size ≠ W2.heap.size) := Lib.hid (by have := HL5.out.ka.lt; omega)
  have HLB : Hid (w.heap.size ≤ W2.heap.size) := Lib.hid (by have := HL5.out.lq; have := HL5.out.lr; have := HL5.out.la; omega)
  clear hmn hpn hb5 hb56 kg6 HFD hkx HKX
  go_wp2_with fail
  refine (HRD.out _ HL6.out.low).mono ?_
  rintro e w7 ⟨hb7, wv, rfl, hwv⟩
  have HL7 := Lib.hid (HL6.out.below hb7)
  have HKG7 := Lib.hid (HKG.out.below hb7)
  have HMN7 := Lib.hid (Nms.below HMN.out hb7)
  have HPN7 := Lib.hid (Pts.below HPN.out hb7)
  have hbw : w7.heap.size ≠ W2.heap.size := by have := HL7.out.ka.lt; omega
  have HBW := Lib.hid hbw
  clear hb7 x0 x1 x2 x3 HRD hbw HL5 HL6 HKG HMN HPN HL3
  cases x with
  | none =>
    have hwv := hwv
    subst hwv
    have HX : Hid (X = ⟨3, 0, 0, []⟩) := Lib.hid HR.out
    clear HR
    go_upto_region 4 with fail
    obtain ⟨W8, hW8⟩ : ∃ W, w7.alloc (.cells #[.string ⟨#[]⟩, .string ⟨#[]⟩, .int .i64 0, .int .i64 0, .slice none 0 0, .slice none 0 0, .int .i64 0, .int .i64 0, .int .i64 0] 61) = W := ⟨_, rfl⟩
    have hb78 : Below w7.heap.size w7 W8 := by rw [← hW8]; exact (Below.refl _ _).alloc (Nat.le_refl _) _
    have kw8 : Blk W8 w7.heap.size #[.string ⟨#[]⟩, .string ⟨#[]⟩, .int .i64 0, .int .i64 0, .slice none 0 0, .slice none 0 0, .int .i64 0, .int .i64 0, .int .i64 0] 61 := by rw [← hW8]; exact Blk.new _ _ _
    rw [hW8]
    clear hW8
    have HL8 := Lib.hid (HL7.out.below hb78)
    have HKG8 := Lib.hid (HKG7.out.below hb78)
    have HMN8 := Lib.hid (Nms.below HMN7.out hb78)
    have HPN8 := Lib.hid (Pts.below HPN7.out hb78)
    have HKW := Lib.hid kw8
    obtain ⟨q0, q1, q2, q3, q4, q5, q6, q7, q8⟩ := kw8.cells9
    clear hb78 kw8 HL7 HKG7 HMN7 HPN7
    have x2 : W8.cell? ⟨W2.heap.size, 2, none⟩ = some (.int .i64 0) := HL8.out.ka.cell rfl
    have y2 : W8.frozen? ⟨W2.heap.size, 2, none⟩ = false := HL8.out.ka.free
    go_upto_region 14 with fail
    obtain ⟨W9, hW9⟩ : ∃ W, W8.setCell ⟨W2.heap.size, 2, none⟩ (.int .i64 3) = W := ⟨_, rfl⟩
    have hl9 : LSt w W0.heap.size W1.heap.size W2.heap.size #[.int .i64 cl, .int .i64 qn, .int .i64 kd, .int .i64 pt, .int .i64 sq, .int .i64 of, .int .i64 mx, .int .i64 gn, .string N, .string M, rv] (rsp cl qn 3 0 0 (.slice none 0 0)) W9 := by rw [← hW9]; exact HL8.out.set 2 (.int .i64 3)
    rw [hW9]
    have HL9 := Lib.hid hl9
    clear hl9 hW9 x2 y2
    have HFB := Lib.hid (HL9.out.fin (.int .i64 cl) (.int .i64 qn) (.int .i64 3) (.int .i64 0) (.int .i64 0) (.int .i64 0) (.slice none 0 0) (.slice none 0 0))
    have HFK := Lib.hid (HL9.out.kr.eight (.int .i64 cl) (.int .i64 qn) (.int .i64 3) (.int .i64 0) (.int .i64 0) (.int .i64 0) (.slice none 0 0) (.slice none 0 0))
    have HFP := Lib.hid (IsN.kb (IsN.nil (W2.heap.size + 1) W9) (eight_kb _ W1.heap.size (.int .i64 cl) (.int .i64 qn) (.int .i64 3) (.int .i64 0) (.int .i64 0) (.int .i64 0) (.slice none 0 0) (.slice none 0 0)) (by have := HL9.out.la; omega))
    have HZS : Hid (w.heap.size ≤ W2.heap.size + 1) := Lib.hid (by have := HL9.out.lq; have := HL9.out.lr; have := HL9.out.la; omega)
    obtain ⟨z0, z1, z2, z3, z4, z5, z6, z7⟩ := HL9.out.ka.cells8
    obtain ⟨x0, x1, x2, x3, x4, x5, x6, x7⟩ := HL9.out.kr.cells8
    obtain ⟨y0, y1, y2, y3, y4, y5, y6, y7⟩ := HL9.out.kr.free8
    go_wp2_with fail
    refine bodyPost_ret (ret_Answer HFK.out rfl) rfl ?_
    exact ⟨_, by rw [HX.out], by rw [HX.out]; exact IsN.mono HFP.out HZS.out, HFB.out⟩
  | turn tn tg tp tms =>
    obtain ⟨mv, rfl, hwm⟩ := hwv
    obtain ⟨wa, wc, rfl⟩ := hwm.form
    have HX : Hid (X = ⟨0, 0, ggen, Fk.own ⟨gnm, ggen, gparts, gmem, gpts⟩ M⟩) := Lib.hid HR.out
    obtain ⟨wm, hwl⟩ : ∃ n, tms.length = n := ⟨_, rfl⟩
    rw [hwl]
    clear hwm hwl HR
    go_upto_region 4 with fail
    obtain ⟨W8, hW8⟩ : ∃ W, w7.alloc (.cells #[.string ⟨#[116]⟩, .string tn, .int .i64 tg, .int .i64 tp, .slice wa wm wc, .slice none 0 0, .int .i64 0, .int .i64 0, .int .i64 0] 61) = W := ⟨_, rfl⟩
    have hb78 : Below w7.heap.size w7 W8 := by rw [← hW8]; exact (Below.refl _ _).alloc (Nat.le_refl _) _
    have kw8 : Blk W8 w7.heap.size #[.string ⟨#[116]⟩, .string tn, .int .i64 tg, .int .i64 tp, .slice wa wm wc, .slice none 0 0, .int .i64 0, .int .i64 0, .int .i64 0] 61 := by rw [← hW8]; exact Blk.new _ _ _
    rw [hW8]
    clear hW8
    have HL8 := Lib.hid (HL7.out.below hb78)
    have HKG8 := Lib.hid (HKG7.out.below hb78)
    have HMN8 := Lib.hid (Nms.below HMN7.out hb78)
    have HPN8 := Lib.hid (Pts.below HPN7.out hb78)
    have HKW := Lib.hid kw8
    obtain ⟨q0, q1, q2, q3, q4, q5, q6, q7, q8⟩ := kw8.cells9
    clear hb78 kw8 HL7 HKG7 HMN7 HPN7
    obtain ⟨c0, c1, c2, c3, c4⟩ := HKG8.out.cells5
    have d9 : W8.cell? ⟨W0.heap.size, 9, none⟩ = some (.string M) := HL8.out.kq.cell rfl
    have HST := Lib.hid (standing_any (.agg #[.string gnm, .int .i64 ggen, .int .i64 gparts, .slice ma gmem.length mc, .slice pa gpts.length pc]) ⟨gnm, ggen, gparts, gmem, gpts⟩ M W8 ⟨_, _, rfl, HMN8.out, HPN8.out⟩)
    go_upto_region 7 with fail
    go_wp2_with fail
    refine HST.out.mono ?_
    rintro e wy ⟨pv, rfl, hpv, hby⟩
    obtain ⟨va, vc, rfl⟩ := hpv.form
    obtain ⟨ln, hln⟩ : ∃ ln, (Fk.own ⟨gnm, ggen, gparts, gmem, gpts⟩ M).length = ln := ⟨_, rfl⟩
    rw [hln] at hpv ⊢
    have HLY := Lib.hid (HL8.out.below hby)
    have HPV := Lib.hid (hpv.mono (show W2.heap.size + 1 ≤ _ from HL8.out.ka.lt))
    have x5 : wy.cell? ⟨W2.heap.size, 5, none⟩ = some (.int .i64 0) := HLY.out.ka.cell rfl
    have x6 : wy.cell? ⟨W2.heap.size, 6, none⟩ = some (.slice none 0 0) := HLY.out.ka.cell rfl
    have y5 : wy.frozen? ⟨W2.heap.size, 5, none⟩ = false := HLY.out.ka.free
    have y6 : wy.frozen? ⟨W2.heap.size, 6, none⟩ = false := HLY.out.ka.free
    clear hby HST hpv hln
    go_upto_region 14 with fail
    obtain ⟨WA, hWA⟩ : ∃ W, (wy.setCell ⟨W2.heap.size, 5, none⟩ (.int .i64 ggen)).setCell ⟨W2.heap.size, 6, none⟩ (.slice va ln vc) = W := ⟨_, rfl⟩
    have hla : LSt w W0.heap.size W1.heap.size W2.heap.size #[.int .i64 cl, .int .i64 qn, .int .i64 kd, .int .i64 pt, .int .i64 sq, .int .i64 of, .int .i64 mx, .int .i64 gn, .string N, .string M, rv] (rsp cl qn 0 0 ggen (.slice va ln vc)) WA := by rw [← hWA]; exact (HLY.out.set 5 (.int .i64 ggen)).set 6 (.slice va ln vc)
    have hpa : IsN (W2.heap.size + 1) WA (.slice va ln vc) (Fk.own ⟨gnm, ggen, gparts, gmem, gpts⟩ M) := by rw [← hWA]; exact HPV.out.kb ((Kb.setCell _ _).trans (Kb.setCell _ _)) (Nat.lt_succ_self _)
    rw [hWA]
    have HLA := Lib.hid hla
    have HPA := Lib.hid hpa
    clear hla hpa hWA x5 x6 y5 y6
    have HFB := Lib.hid (HLA.out.fin (.int .i64 cl) (.int .i64 qn) (.int .i64 0) (.int .i64 0) (.int .i64 0) (.int .i64 ggen) (.slice va ln vc) (.slice none 0 0))
    have HFK := Lib.hid (HLA.out.kr.eight (.int .i64 cl) (.int .i64 qn) (.int .i64 0) (.int .i64 0) (.int .i64 0) (.int .i64 ggen) (.slice va ln vc) (.slice none 0 0))
    have HFP := Lib.hid (IsN.kb HPA.out (eight_kb _ W1.heap.size (.int .i64 cl) (.int .i64 qn) (.int .i64 0) (.int .i64 0) (.int .i64 0) (.int .i64 ggen) (.slice va ln vc) (.slice none 0 0)) (by have := HLA.out.la; omega))
    have HZS : Hid (w.heap.size ≤ W2.heap.size + 1) := Lib.hid (by have := HLA.out.lq; have := HLA.out.lr; have := HLA.out.la; omega)
    obtain ⟨z0, z1, z2, z3, z4, z5, z6, z7⟩ := HLA.out.ka.cells8
    obtain ⟨x0, x1, x2, x3, x4, x5, x6, x7⟩ := HLA.out.kr.cells8
    obtain ⟨y0, y1, y2, y3, y4, y5, y6, y7⟩ := HLA.out.kr.free8
    go_wp2_with fail
    refine bodyPost_ret (ret_Answer HFK.out rfl) rfl ?_
    exact ⟨_, by rw [HX.out], by rw [HX.out]; exact IsN.mono HFP.out HZS.out, HFB.out⟩
  | point pn pp po pg =>
    have hwv := hwv
    subst hwv
    have HX : Hid (X = ⟨0, po, pg, []⟩) := Lib.hid HR.out
    clear HR
    go_upto_region 4 with fail
    obtain ⟨W8, hW8⟩ : ∃ W, w7.alloc (.cells #[.string ⟨#[99]⟩, .string pn, .int .i64 pg, .int .i64 0, .slice none 0 0, .slice none 0 0, .int .i64 pp, .int .i64 po, .int .i64 0] 61) = W := ⟨_, rfl⟩
    have hb78 : Below w7.heap.size w7 W8 := by rw [← hW8]; exact (Below.refl _ _).alloc (Nat.le_refl _) _
    have kw8 : Blk W8 w7.heap.size #[.string ⟨#[99]⟩, .string pn, .int .i64 pg, .int .i64 0, .slice none 0 0, .slice none 0 0, .int .i64 pp, .int .i64 po, .int .i64 0] 61 := by rw [← hW8]; exact Blk.new _ _ _
    rw [hW8]
    clear hW8
    have HL8 := Lib.hid (HL7.out.below hb78)
    have HKG8 := Lib.hid (HKG7.out.below hb78)
    have HMN8 := Lib.hid (Nms.below HMN7.out hb78)
    have HPN8 := Lib.hid (Pts.below HPN7.out hb78)
    have HKW := Lib.hid kw8
    obtain ⟨q0, q1, q2, q3, q4, q5, q6, q7, q8⟩ := kw8.cells9
    clear hb78 kw8 HL7 HKG7 HMN7 HPN7
    have u2 : W8.drew.cell? ⟨w7.heap.size, 2, none⟩ = some (.int .i64 pg) := q2
    have u7 : W8.drew.cell? ⟨w7.heap.size, 7, none⟩ = some (.int .i64 po) := q7
    have x3 : W8.cell? ⟨W2.heap.size, 3, none⟩ = some (.int .i64 0) := HL8.out.ka.cell rfl
    have x5 : W8.cell? ⟨W2.heap.size, 5, none⟩ = some (.int .i64 0) := HL8.out.ka.cell rfl
    have y3 : W8.frozen? ⟨W2.heap.size, 3, none⟩ = false := HL8.out.ka.free
    have y5 : W8.frozen? ⟨W2.heap.size, 5, none⟩ = false := HL8.out.ka.free
    have z3 : W8.drew.cell? ⟨W2.heap.size, 3, none⟩ = some (.int .i64 0) := x3
    have z5 : W8.drew.cell? ⟨W2.heap.size, 5, none⟩ = some (.int .i64 0) := x5
    have v3 : W8.drew.frozen? ⟨W2.heap.size, 3, none⟩ = false := y3
    have v5 : W8.drew.frozen? ⟨W2.heap.size, 5, none⟩ = false := y5
    go_upto_region 9 with fail
    go_region_held3 (fun w' => w'.cell? ⟨w7.heap.size, 7, none⟩ = some (.int .i64 po) ∧ w'.cell? ⟨w7.heap.size, 2, none⟩ = some (.int .i64 pg)) (first | with_reducible exact ⟨u7, u2⟩ | exact ⟨cellD1 HBW.out u7, cellD1 HBW.out u2⟩ | exact ⟨cellD2 HBW.out HBW.out u7, cellD2 HBW.out HBW.out u2⟩ | go_keep | fail) (fail)
    all_goals
      obtain ⟨WA, hWA⟩ : ∃ W, ((W8.setCell ⟨W2.heap.size, 3, none⟩ (.int .i64 po)).setCell ⟨W2.heap.size, 5, none⟩ (.int .i64 pg)).drew = W := ⟨_, rfl⟩
      have hla : LSt w W0.heap.size W1.heap.size W2.heap.size #[.int .i64 cl, .int .i64 qn, .int .i64 kd, .int .i64 pt, .int .i64 sq, .int .i64 of, .int .i64 mx, .int .i64 gn, .string N, .string M, rv] (rsp cl qn 0 po pg (.slice none 0 0)) WA := by rw [← hWA]; exact ((HL8.out.set 3 (.int .i64 po)).set 5 (.int .i64 pg)).below ((Below.refl _ _).drew)
      rw [hWA]
      have HLA := Lib.hid hla
      clear hla hWA x3 x5 y3 y5 z3 z5 v3 v5 u2 u7
      go_upto_region 14 with fail
      have HFB := Lib.hid (HLA.out.fin (.int .i64 cl) (.int .i64 qn) (.int .i64 0) (.int .i64 po) (.int .i64 0) (.int .i64 pg) (.slice none 0 0) (.slice none 0 0))
      have HFK := Lib.hid (HLA.out.kr.eight (.int .i64 cl) (.int .i64 qn) (.int .i64 0) (.int .i64 po) (.int .i64 0) (.int .i64 pg) (.slice none 0 0) (.slice none 0 0))
      have HFP := Lib.hid (IsN.kb (IsN.nil (W2.heap.size + 1) WA) (eight_kb _ W1.heap.size (.int .i64 cl) (.int .i64 qn) (.int .i64 0) (.int .i64 po) (.int .i64 0) (.int .i64 pg) (.slice none 0 0) (.slice none 0 0)) (by have := HLA.out.la; omega))
      have HZS : Hid (w.heap.size ≤ W2.heap.size + 1) := Lib.hid (by have := HLA.out.lq; have := HLA.out.lr; have := HLA.out.la; omega)
      obtain ⟨z0, z1, z2, z3, z4, z5, z6, z7⟩ := HLA.out.ka.cells8
      obtain ⟨x0, x1, x2, x3, x4, x5, x6, x7⟩ := HLA.out.kr.cells8
      obtain ⟨y0, y1, y2, y3, y4, y5, y6, y7⟩ := HLA.out.kr.free8
      go_wp2_with fail
      refine bodyPost_ret (ret_Answer HFK.out rfl) rfl ?_
      exact ⟨_, by rw [HX.out], by rw [HX.out]; exact IsN.mono HFP.out HZS.out, HFB.out⟩
  | no c =>
    have hwv := hwv
    subst hwv
    have HR2 : Hid (X = if c = 0 ∧ kd = 3 then ⟨c, 0, ggen, Fk.own ⟨gnm, ggen, gparts, gmem, gpts⟩ M⟩ else ⟨c, 0, 0, []⟩) := Lib.hid HR.out
    clear HR
    go_upto_region 4 with fail
    obtain ⟨W8, hW8⟩ : ∃ W, w7.alloc (.cells #[.string ⟨#[110]⟩, .string ⟨#[]⟩, .int .i64 0, .int .i64 0, .slice none 0 0, .slice none 0 0, .int .i64 0, .int .i64 0, .int .i64 c] 61) = W := ⟨_, rfl⟩
    have hb78 : Below w7.heap.size w7 W8 := by rw [← hW8]; exact (Below.refl _ _).alloc (Nat.le_refl _) _
    have kw8 : Blk W8 w7.heap.size #[.string ⟨#[110]⟩, .string ⟨#[]⟩, .int .i64 0, .int .i64 0, .slice none 0 0, .slice none 0 0, .int .i64 0, .int .i64 0, .int .i64 c] 61 := by rw [← hW8]; exact Blk.new _ _ _
    rw [hW8]
    clear hW8
    have HL8 := Lib.hid (HL7.out.below hb78)
    have HKG8 := Lib.hid (HKG7.out.below hb78)
    have HMN8 := Lib.hid (Nms.below HMN7.out hb78)
    have HPN8 := Lib.hid (Pts.below HPN7.out hb78)
    have HKW := Lib.hid kw8
    obtain ⟨q0, q1, q2, q3, q4, q5, q6, q7, q8⟩ := kw8.cells9
    clear hb78 kw8 HL7 HKG7 HMN7 HPN7
    have x2 : W8.cell? ⟨W2.heap.size, 2, none⟩ = some (.int .i64 0) := HL8.out.ka.cell rfl
    have y2 : W8.frozen? ⟨W2.heap.size, 2, none⟩ = false := HL8.out.ka.free
    go_upto_region 12 with fail
    obtain ⟨W9, hW9⟩ : ∃ W, W8.setCell ⟨W2.heap.size, 2, none⟩ (.int .i64 c) = W := ⟨_, rfl⟩
    have hl9 : LSt w W0.heap.size W1.heap.size W2.heap.size #[.int .i64 cl, .int .i64 qn, .int .i64 kd, .int .i64 pt, .int .i64 sq, .int .i64 of, .int .i64 mx, .int .i64 gn, .string N, .string M, rv] (rsp cl qn c 0 0 (.slice none 0 0)) W9 := by rw [← hW9]; exact HL8.out.set 2 (.int .i64 c)
    have hb9 : Below w.heap.size W8 W9 := by rw [← hW9]; exact (Kb.setCell _ _).below HLB.out HL8.out.ka.lt
    have kg9 := HKG8.out.setOther (c := W2.heap.size) (i := 2) (.int .i64 c) HNE.out
    have kw9 := HKW.out.setOther (c := W2.heap.size) (i := 2) (.int .i64 c) HBW.out
    rw [hW9] at kg9 kw9
    rw [hW9]
    have HL9 := Lib.hid hl9
    have HMN9 := Lib.hid (HMN8.out.lowb hb9)
    have HPN9 := Lib.hid (HPN8.out.lowb hb9)
    have q8 : W9.cell? ⟨w7.heap.size, 8, none⟩ = some (.int .i64 c) := kw9.cell rfl
    have d2 : W9.cell? ⟨W0.heap.size, 2, none⟩ = some (.int .i64 kd) := hl9.kq.cell rfl
    obtain ⟨c0, c1, c2, c3, c4⟩ := kg9.cells5
    clear hl9 hb9 kg9 kw9 hW9 x2 y2
    by_cases h0 : c = 0
    · by_cases k3 : kd = 3
      · subst h0 k3
        have HX : Hid (X = ⟨0, 0, ggen, Fk.own ⟨gnm, ggen, gparts, gmem, gpts⟩ M⟩) := Lib.hid (by rw [HR2.out, if_pos ⟨rfl, rfl⟩])
        have d9 : W9.cell? ⟨W0.heap.size, 9, none⟩ = some (.string M) := HL9.out.kq.cell rfl
        have HST := Lib.hid (standing_any (.agg #[.string gnm, .int .i64 ggen, .int .i64 gparts, .slice ma gmem.length mc, .slice pa gpts.length pc]) ⟨gnm, ggen, gparts, gmem, gpts⟩ M W9 ⟨_, _, rfl, HMN9.out, HPN9.out⟩)
        go_upto_region 13 with fail
        go_wp2_with fail
        refine HST.out.mono ?_
        rintro e wy ⟨pv, rfl, hpv, hby⟩
        obtain ⟨va, vc, rfl⟩ := hpv.form
        obtain ⟨ln, hln⟩ : ∃ ln, (Fk.own ⟨gnm, ggen, gparts, gmem, gpts⟩ M).length = ln := ⟨_, rfl⟩
        rw [hln] at hpv ⊢
        have HLY := Lib.hid (HL9.out.below hby)
        have HPV := Lib.hid (hpv.mono (show W2.heap.size + 1 ≤ _ from HL9.out.ka.lt))
        have x5 : wy.cell? ⟨W2.heap.size, 5, none⟩ = some (.int .i64 0) := HLY.out.ka.cell rfl
        have x6 : wy.cell? ⟨W2.heap.size, 6, none⟩ = some (.slice none 0 0) := HLY.out.ka.cell rfl
        have y5 : wy.frozen? ⟨W2.heap.size, 5, none⟩ = false := HLY.out.ka.free
        have y6 : wy.frozen? ⟨W2.heap.size, 6, none⟩ = false := HLY.out.ka.free
        clear hby HST hpv hln
        go_upto_region 14 with fail
        obtain ⟨WA, hWA⟩ : ∃ W, (wy.setCell ⟨W2.heap.size, 5, none⟩ (.int .i64 ggen)).setCell ⟨W2.heap.size, 6, none⟩ (.slice va ln vc) = W := ⟨_, rfl⟩
        have hla : LSt w W0.heap.size W1.heap.size W2.heap.size #[.int .i64 cl, .int .i64 qn, .int .i64 3, .int .i64 pt, .int .i64 sq, .int .i64 of, .int .i64 mx, .int .i64 gn, .string N, .string M, rv] (rsp cl qn 0 0 ggen (.slice va ln vc)) WA := by rw [← hWA]; exact (HLY.out.set 5 (.int .i64 ggen)).set 6 (.slice va ln vc)
        have hpa : IsN (W2.heap.size + 1) WA (.slice va ln vc) (Fk.own ⟨gnm, ggen, gparts, gmem, gpts⟩ M) := by rw [← hWA]; exact HPV.out.kb ((Kb.setCell _ _).trans (Kb.setCell _ _)) (Nat.lt_succ_self _)
        rw [hWA]
        have HLA := Lib.hid hla
        have HPA := Lib.hid hpa
        clear hla hpa hWA x5 x6 y5 y6
        have HFB := Lib.hid (HLA.out.fin (.int .i64 cl) (.int .i64 qn) (.int .i64 0) (.int .i64 0) (.int .i64 0) (.int .i64 ggen) (.slice va ln vc) (.slice none 0 0))
        have HFK := Lib.hid (HLA.out.kr.eight (.int .i64 cl) (.int .i64 qn) (.int .i64 0) (.int .i64 0) (.int .i64 0) (.int .i64 ggen) (.slice va ln vc) (.slice none 0 0))
        have HFP := Lib.hid (IsN.kb HPA.out (eight_kb _ W1.heap.size (.int .i64 cl) (.int .i64 qn) (.int .i64 0) (.int .i64 0) (.int .i64 0) (.int .i64 ggen) (.slice va ln vc) (.slice none 0 0)) (by have := HLA.out.la; omega))
        have HZS : Hid (w.heap.size ≤ W2.heap.size + 1) := Lib.hid (by have := HLA.out.lq; have := HLA.out.lr; have := HLA.out.la; omega)
        obtain ⟨z0, z1, z2, z3, z4, z5, z6, z7⟩ := HLA.out.ka.cells8
        obtain ⟨x0, x1, x2, x3, x4, x5, x6, x7⟩ := HLA.out.kr.cells8
        obtain ⟨y0, y1, y2, y3, y4, y5, y6, y7⟩ := HLA.out.kr.free8
        go_wp2_with fail
        refine bodyPost_ret (ret_Answer HFK.out rfl) rfl ?_
        exact ⟨_, by rw [HX.out], by rw [HX.out]; exact IsN.mono HFP.out HZS.out, HFB.out⟩
      · subst h0
        have HX : Hid (X = ⟨0, 0, 0, []⟩) := Lib.hid (by rw [HR2.out, if_neg (fun h => k3 h.2)])
        go_upto_region 14 with fail
        have HFB := Lib.hid (HL9.out.fin (.int .i64 cl) (.int .i64 qn) (.int .i64 0) (.int .i64 0) (.int .i64 0) (.int .i64 0) (.slice none 0 0) (.slice none 0 0))
        have HFK := Lib.hid (HL9.out.kr.eight (.int .i64 cl) (.int .i64 qn) (.int .i64 0) (.int .i64 0) (.int .i64 0) (.int .i64 0) (.slice none 0 0) (.slice none 0 0))
        have HFP := Lib.hid (IsN.kb (IsN.nil (W2.heap.size + 1) W9) (eight_kb _ W1.heap.size (.int .i64 cl) (.int .i64 qn) (.int .i64 0) (.int .i64 0) (.int .i64 0) (.int .i64 0) (.slice none 0 0) (.slice none 0 0)) (by have := HL9.out.la; omega))
        have HZS : Hid (w.heap.size ≤ W2.heap.size + 1) := Lib.hid (by have := HL9.out.lq; have := HL9.out.lr; have := HL9.out.la; omega)
        obtain ⟨z0, z1, z2, z3, z4, z5, z6, z7⟩ := HL9.out.ka.cells8
        obtain ⟨x0, x1, x2, x3, x4, x5, x6, x7⟩ := HL9.out.kr.cells8
        obtain ⟨y0, y1, y2, y3, y4, y5, y6, y7⟩ := HL9.out.kr.free8
        go_wp2_with fail
        refine bodyPost_ret (ret_Answer HFK.out rfl) rfl ?_
        exact ⟨_, by rw [HX.out], by rw [HX.out]; exact IsN.mono HFP.out HZS.out, HFB.out⟩
    · have HX : Hid (X = ⟨c, 0, 0, []⟩) := Lib.hid (by rw [HR2.out, if_neg (fun h => h0 h.1)])
      go_upto_region 14 with fail
      have HFB := Lib.hid (HL9.out.fin (.int .i64 cl) (.int .i64 qn) (.int .i64 c) (.int .i64 0) (.int .i64 0) (.int .i64 0) (.slice none 0 0) (.slice none 0 0))
      have HFK := Lib.hid (HL9.out.kr.eight (.int .i64 cl) (.int .i64 qn) (.int .i64 c) (.int .i64 0) (.int .i64 0) (.int .i64 0) (.slice none 0 0) (.slice none 0 0))
      have HFP := Lib.hid (IsN.kb (IsN.nil (W2.heap.size + 1) W9) (eight_kb _ W1.heap.size (.int .i64 cl) (.int .i64 qn) (.int .i64 c) (.int .i64 0) (.int .i64 0) (.int .i64 0) (.slice none 0 0) (.slice none 0 0)) (by have := HL9.out.la; omega))
      have HZS : Hid (w.heap.size ≤ W2.heap.size + 1) := Lib.hid (by have := HL9.out.lq; have := HL9.out.lr; have := HL9.out.la; omega)
      obtain ⟨z0, z1, z2, z3, z4, z5, z6, z7⟩ := HL9.out.ka.cells8
      obtain ⟨x0, x1, x2, x3, x4, x5, x6, x7⟩ := HL9.out.kr.cells8
      obtain ⟨y0, y1, y2, y3, y4, y5, y6, y7⟩ := HL9.out.kr.free8
      go_wp2_with fail
      refine bodyPost_ret (ret_Answer HFK.out rfl) rfl ?_
      exact ⟨_, by rw [HX.out], by rw [HX.out]; exact IsN.mono HFP.out HZS.out, HFB.out⟩
end Go.Proofs.YtjccfilbihkfpaaGreatDoor
