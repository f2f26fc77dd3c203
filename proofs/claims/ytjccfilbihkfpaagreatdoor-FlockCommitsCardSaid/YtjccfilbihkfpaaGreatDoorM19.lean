import Derived.Test.YtjccfilbihkfpaaGreatDoorM18
import Derived.Deep.RegionHeld3
import Derived.Deep.DrawnRows

/- ANSWERS AS THEY LIE. -/
namespace Go.Proofs.YtjccfilbihkfpaaGreatDoor
open Go.RowKit

abbrev zero8 : Array Value := #[.int .i64 0, .int .i64 0, .int .i64 0, .int .i64 0, .int .i64 0, .int .i64 0, .slice none 0 0, .slice none 0 0]
abbrev rsp (cl qn co of gn : Int) (pv : Value) : Array Value := #[.int .i64 cl, .int .i64 qn, .int .i64 co, .int .i64 of, .int .i64 0, .int .i64 gn, pv, .slice none 0 0]
theorem eight_kb (W : World) (r : Nat) (v0 v1 v2 v3 v4 v5 v6 v7 : Value) : Kb r W ((((((((W.setCell ⟨r, 0, none⟩ v0).setCell ⟨r, 1, none⟩ v1).setCell ⟨r, 2, none⟩ v2).setCell ⟨r, 3, none⟩ v3).setCell ⟨r, 4, none⟩ v4).setCell ⟨r, 5, none⟩ v5).setCell ⟨r, 6, none⟩ v6).setCell ⟨r, 7, none⟩ v7) :=
  (((((((Kb.setCell W v0).trans (Kb.setCell _ v1)).trans (Kb.setCell _ v2)).trans (Kb.setCell _ v3)).trans (Kb.setCell _ v4)).trans (Kb.setCell _ v5)).trans (Kb.setCell _ v6)).trans (Kb.setCell _ v7)
theorem Blk.eight {w : World} {r : Nat} {a0 a1 a2 a3 a4 a5 a6 a7 : Value} {T : TypeId} (h : Blk w r #[a0, a1, a2, a3, a4, a5, a6, a7] T) (v0 v1 v2 v3 v4 v5 v6 v7 : Value) :
    Blk ((((((((w.setCell ⟨r, 0, none⟩ v0).setCell ⟨r, 1, none⟩ v1).setCell ⟨r, 2, none⟩ v2).setCell ⟨r, 3, none⟩ v3).setCell ⟨r, 4, none⟩ v4).setCell ⟨r, 5, none⟩ v5).setCell ⟨r, 6, none⟩ v6).setCell ⟨r, 7, none⟩ v7) r #[v0, v1, v2, v3, v4, v5, v6, v7] T := by
  have q0 : Blk (w.setCell ⟨r, 0, none⟩ v0) r #[v0, a1, a2, a3, a4, a5, a6, a7] T := h.set (i := 0) v0
  have q1 : Blk ((w.setCell ⟨r, 0, none⟩ v0).setCell ⟨r, 1, none⟩ v1) r #[v0, v1, a2, a3, a4, a5, a6, a7] T := q0.set (i := 1) v1
  have q2 : Blk (((w.setCell ⟨r, 0, none⟩ v0).setCell ⟨r, 1, none⟩ v1).setCell ⟨r, 2, none⟩ v2) r #[v0, v1, v2, a3, a4, a5, a6, a7] T := q1.set (i := 2) v2
  have q3 : Blk ((((w.setCell ⟨r, 0, none⟩ v0).setCell ⟨r, 1, none⟩ v1).setCell ⟨r, 2, none⟩ v2).setCell ⟨r, 3, none⟩ v3) r #[v0, v1, v2, v3, a4, a5, a6, a7] T := q2.set (i := 3) v3
  have q4 : Blk (((((w.setCell ⟨r, 0, none⟩ v0).setCell ⟨r, 1, none⟩ v1).setCell ⟨r, 2, none⟩ v2).setCell ⟨r, 3, none⟩ v3).setCell ⟨r, 4, none⟩ v4) r #[v0, v1, v2, v3, v4, a5, a6, a7] T := q3.set (i := 4) v4
  have q5 : Blk ((((((w.setCell ⟨r, 0, none⟩ v0).setCell ⟨r, 1, none⟩ v1).setCell ⟨r, 2, none⟩ v2).setCell ⟨r, 3, none⟩ v3).setCell ⟨r, 4, none⟩ v4).setCell ⟨r, 5, none⟩ v5) r #[v0, v1, v2, v3, v4, v5, a6, a7] T := q4.set (i := 5) v5
  have q6 : Blk (((((((w.setCell ⟨r, 0, none⟩ v0).setCell ⟨r, 1, none⟩ v1).setCell ⟨r, 2, none⟩ v2).setCell ⟨r, 3, none⟩ v3).setCell ⟨r, 4, none⟩ v4).setCell ⟨r, 5, none⟩ v5).setCell ⟨r, 6, none⟩ v6) r #[v0, v1, v2, v3, v4, v5, v6, a7] T := q5.set (i := 6) v6
  have q7 : Blk ((((((((w.setCell ⟨r, 0, none⟩ v0).setCell ⟨r, 1, none⟩ v1).setCell ⟨r, 2, none⟩ v2).setCell ⟨r, 3, none⟩ v3).setCell ⟨r, 4, none⟩ v4).setCell ⟨r, 5, none⟩ v5).setCell ⟨r, 6, none⟩ v6).setCell ⟨r, 7, none⟩ v7) r #[v0, v1, v2, v3, v4, v5, v6, v7] T := q6.set (i := 7) v7
  exact q7
theorem Blk.cells8 {w : World} {b : Nat} {a0 a1 a2 a3 a4 a5 a6 a7 : Value} {T : TypeId} (h : Blk w b #[a0, a1, a2, a3, a4, a5, a6, a7] T) : w.cell? ⟨b, 0, none⟩ = some a0 ∧ w.cell? ⟨b, 1, none⟩ = some a1 ∧ w.cell? ⟨b, 2, none⟩ = some a2 ∧ w.cell? ⟨b, 3, none⟩ = some a3 ∧ w.cell? ⟨b, 4, none⟩ = some a4 ∧ w.cell? ⟨b, 5, none⟩ = some a5 ∧ w.cell? ⟨b, 6, none⟩ = some a6 ∧ w.cell? ⟨b, 7, none⟩ = some a7 := ⟨h.cell rfl, h.cell rfl, h.cell rfl, h.cell rfl, h.cell rfl, h.cell rfl, h.cell rfl, h.cell rfl⟩
theorem Blk.free8 {w : World} {b : Nat} {cs : Array Value} {T : TypeId} (h : Blk w b cs T) : w.frozen? ⟨b, 0, none⟩ = false ∧ w.frozen? ⟨b, 1, none⟩ = false ∧ w.frozen? ⟨b, 2, none⟩ = false ∧ w.frozen? ⟨b, 3, none⟩ = false ∧ w.frozen? ⟨b, 4, none⟩ = false ∧ w.frozen? ⟨b, 5, none⟩ = false ∧ w.frozen? ⟨b, 6, none⟩ = false ∧ w.frozen? ⟨b, 7, none⟩ = false := ⟨h.free, h.free, h.free, h.free, h.free, h.free, h.free, h.free⟩
theorem undResp' : (Tryz.prog.underlying 39).map (fun d => match d with | .struct _ | .array _ _ => true | _ => false) = some true := by kernel_rfl
theorem sizeResp : (Tryz.prog.info? 39).map (·.size) = some 8 := by kernel_rfl
theorem undResp : ∃ d, Tryz.prog.underlying 39 = some d ∧ (match d with | .struct _ | .array _ _ => true | _ => false) = true := by
  have h := undResp'
  cases hd : Tryz.prog.underlying 39 with
  | none => rw [hd] at h; cases h
  | some d => rw [hd] at h; exact ⟨d, rfl, Option.some.inj h⟩
theorem ret_Look {W : World} {rb : Nat} {a0 a1 a2 a3 a4 a5 a6 a7 : Value} {tmps : Array Value} (hb : Blk W rb #[a0, a1, a2, a3, a4, a5, a6, a7] 39) (h2 : tmps.getD 4 undef = .pointer (some ⟨rb, 0, none⟩)) :
    (results Tryz.f20 tmps).run Tryz.prog W = .ok (.agg #[a0, a1, a2, a3, a4, a5, a6, a7]) W := by
  obtain ⟨d, hd, hs⟩ := undResp
  have hl := run_loadVar_row (P := Tryz.prog) W rb 39 39 #[a0, a1, a2, a3, a4, a5, a6, a7] (0, 0) d hb hd (by cases d <;> exact hs) sizeResp
  simp only [results, Tryz.results20]
  rw [Array.getD_eq_getD_getElem?] at h2
  simp [asAddr, hl, h2]
theorem ret_Answer {W : World} {rb : Nat} {a0 a1 a2 a3 a4 a5 a6 a7 : Value} {tmps : Array Value} (hb : Blk W rb #[a0, a1, a2, a3, a4, a5, a6, a7] 39) (h2 : tmps.getD 6 undef = .pointer (some ⟨rb, 0, none⟩)) :
    (results Tryz.f15 tmps).run Tryz.prog W = .ok (.agg #[a0, a1, a2, a3, a4, a5, a6, a7]) W := by
  obtain ⟨d, hd, hs⟩ := undResp
  have hl := run_loadVar_row (P := Tryz.prog) W rb 39 39 #[a0, a1, a2, a3, a4, a5, a6, a7] (0, 0) d hb hd (by cases d <;> exact hs) sizeResp
  simp only [results, Tryz.results15]
  rw [Array.getD_eq_getD_getElem?] at h2
  simp [asAddr, hl, h2]
/-- The boxes of a request, of the result, of the answer. -/
structure LSt (w : World) (bq br ba : Nat) (qc rc : Array Value) (wr : World) : Prop where
  low : Below w.heap.size w wr
  kq : Blk wr bq qc 34
  kr : Blk wr br zero8 39
  ka : Blk wr ba rc 39
  lq : w.heap.size ≤ bq
  lr : bq < br
  la : br < ba
section
variable {w wr w' : World} {bq br ba : Nat} {qc rc : Array Value}
theorem LSt.below (h : LSt w bq br ba qc rc wr) (b : Below wr.heap.size wr w') : LSt w bq br ba qc rc w' := ⟨h.low.trans (b.mono h.low.size), h.kq.below b, h.kr.below b, h.ka.below b, h.lq, h.lr, h.la⟩
theorem LSt.set (h : LSt w bq br ba qc rc wr) (i : Nat) (v : Value) : LSt w bq br ba qc (rc.setIfInBounds i v) (wr.setCell ⟨ba, i, none⟩ v) :=
  ⟨h.low.setCell (p := ⟨ba, i, none⟩) (by have := h.lq; have := h.lr; have := h.la; show w.heap.size ≤ ba; omega) v, h.kq.setOther v (by have := h.lr; have := h.la; omega), h.kr.setOther v (by have := h.la; omega), h.ka.set v, h.lq, h.lr, h.la⟩
theorem LSt.start (w wx : World) (hb : Below w.heap.size w wx) (qc rc : Array Value) : ∃ W1 W2 W3 : World, wx.alloc (.cells qc 34) = W1 ∧ W1.alloc (.cells zero8 39) = W2 ∧ W2.alloc (.cells rc 39) = W3 ∧
    Below wx.heap.size wx W2 ∧ Blk W2 wx.heap.size qc 34 ∧ LSt w wx.heap.size W1.heap.size W2.heap.size qc rc W3 := by
  have hs := hb.size
  have h1 := hb.alloc hb.size (.cells qc 34)
  have k1 := Blk.new wx qc 34
  have k2 := k1.alloc (.cells zero8 39)
  refine ⟨_, _, _, rfl, rfl, rfl, ((Below.refl _ _).alloc (Nat.le_refl _) _).alloc (by simp) _, k2, ⟨(h1.alloc h1.size _).alloc (by simp; omega) _, k2.alloc _, ?_, Blk.new _ _ _, hb.size, by simp, by simp⟩⟩
  exact (Blk.new (wx.alloc (.cells qc 34)) zero8 39).alloc _
theorem LSt.fin (h : LSt w bq br ba qc rc wr) (v0 v1 v2 v3 v4 v5 v6 v7 : Value) : Below w.heap.size w ((((((((wr.setCell ⟨br, 0, none⟩ v0).setCell ⟨br, 1, none⟩ v1).setCell ⟨br, 2, none⟩ v2).setCell ⟨br, 3, none⟩ v3).setCell ⟨br, 4, none⟩ v4).setCell ⟨br, 5, none⟩ v5).setCell ⟨br, 6, none⟩ v6).setCell ⟨br, 7, none⟩ v7) :=
  h.low.trans ((eight_kb wr br v0 v1 v2 v3 v4 v5 v6 v7).below (by have := h.lq; have := h.lr; omega) h.kr.lt)
end
theorem IsN.kb {z b : Nat} {w w' : World} {v : Value} {l : List Int} (h : IsN z w v l) (k : Kb b w w') (hb : b < z) : IsN z w' v l := by
  obtain ⟨gb, hg⟩ := h
  exact ⟨gb, hg.kb k fun e => by have := (hg.lt b e).1; omega⟩
theorem Nms.lowb {n : Nat} {w w' : World} {v : Value} {L : List ByteArray} (h : Nms (fun b => b < n) w v L) (hb : Below n w w') : Nms (fun b => b < n) w' v L := Rds.keep h hb.size fun b ha _ => ⟨hb.block b ha, ha⟩
theorem Pts.lowb {n : Nat} {w w' : World} {v : Value} {l : List (Int × Int)} (h : Pts (fun b => b < n) w v l) (hb : Below n w w') : Pts (fun b => b < n) w' v l := Rds.keep h hb.size fun b ha _ => ⟨hb.block b ha, ha⟩
def RspOut (w : World) (cl qn : Int) (t : Fk.T) (e : Ending) (w' : World) : Prop := ∃ pv, e = .returned (.agg (rsp cl qn t.code t.off t.gen pv)) ∧ IsN w.heap.size w' pv t.parts ∧ Below w.heap.size w w'
end Go.Proofs.YtjccfilbihkfpaaGreatDoor

/- THE CONTRACT OF Look. -/
namespace Go.Proofs.YtjccfilbihkfpaaGreatDoor
open Go.RowKit

set_option maxHeartbeats 4000000 in
set_option maxRecDepth 100000 in
theorem look_any {A : Nat → Prop} (v : Value) (L : List Fk.G) (q : Fk.Q) (rv : Value) (k : Int) (w : World) (h : GsR A w v L) (hG : Gk k L) (hk : k ≤ 1099511627776) :
    Calls Tryz.prog 20 #[v, qval q rv] w fun e w' => RspOut w q.client q.n (Fk.look L q) e w' := by
  obtain ⟨X, hX⟩ : ∃ X, Fk.look L q = X := ⟨_, rfl⟩
  rw [hX]
  have hgd := hG.gd hk q.group
  have hfd : ∀ wx, Below w.heap.size w wx → Calls Tryz.prog 32 #[v, .string q.group] wx fun e w' => FndOut (fun b => b < w.heap.size) wx (Fk.fndD L q.group) (Fk.fnd L q.group).isSome e w' := fun wx hb => find_any v L q.group wx (h.bound.below hb) (fun b hb' => Nat.lt_of_lt_of_le hb' hb.size) hG.small (hG.ok.mono q.group)
  have hR : X = if q.kind = 5 then (if Fk.beat (Fk.fndD L q.group) q = 31 then ⟨31, 0, 0, []⟩ else ⟨Fk.beat (Fk.fndD L q.group) q, 0, (Fk.fndD L q.group).gen, Fk.own (Fk.fndD L q.group) q.member⟩)
      else if q.kind = 7 then (match Fk.hit (Fk.cP q.part) (Fk.fndD L q.group).pts with
        | none => ⟨12, 0, 0, []⟩
        | some p => ⟨0, p.2, 0, []⟩)
      else ⟨1, 0, 0, []⟩ := by rw [← hX]; rfl
  obtain ⟨gg, hgg⟩ : ∃ gg, Fk.fndD L q.group = gg := ⟨_, rfl⟩
  obtain ⟨th, hth⟩ : ∃ th, (Fk.fnd L q.group).isSome = th := ⟨_, rfl⟩
  rw [hgg, hth] at hfd
  rw [hgg] at hgd hR
  obtain ⟨cl, qn, kd, pt, sq, of, mx, gn, N, M⟩ := q
  obtain ⟨av, cap, rfl⟩ := h.form
  simp only at hR hfd ⊢
  obtain ⟨m, hm⟩ : ∃ m, L.length = m := ⟨_, rfl⟩
  rw [hm] at hfd ⊢
  obtain ⟨W1, W2, W3, e1, e2, e3, hb2, kq2, hl3⟩ := LSt.start w w (Below.refl _ _) #[.int .i64 cl, .int .i64 qn, .int .i64 kd, .int .i64 pt, .int .i64 sq, .int .i64 of, .int .i64 mx, .int .i64 gn, .string N, .string M, rv] (rsp cl qn 1 0 0 (.slice none 0 0))
  have HFD := Lib.hid hfd
  have HGD := Lib.hid hgd
  have HR := Lib.hid hR
  have HL3 := Lib.hid hl3
  have d0 : W2.cell? ⟨w.heap.size, 0, none⟩ = some (.int .i64 cl) := kq2.cell rfl
  have d1 : W2.cell? ⟨w.heap.size, 1, none⟩ = some (.int .i64 qn) := kq2.cell rfl
  have d8 : W3.cell? ⟨w.heap.size, 8, none⟩ = some (.string N) := hl3.kq.cell rfl
  have E3 := Lib.hid e3
  clear hX hgg hth hm hfd hgd hR hl3 hb2 kq2 h hG hk e3
  go_enter Tryz.func20, Tryz.ntmps20
  go_upto_region 2 with fail
  rw [E3.out]
  clear E3
  go_wp2_with fail
  refine (HFD.out _ HL3.out.low).mono ?_
  rintro e w5 ⟨gv, rfl, ⟨mv, pv, rfl, hmn, hpn⟩, hb5⟩
  obtain ⟨gnm, ggen, gparts, gmem, gpts⟩ := gg
  obtain ⟨ma, mc, rfl⟩ := hmn.form
  obtain ⟨pa, pc, rfl⟩ := hpn.form
  simp only
  have HL5 := Lib.hid (HL3.out.below hb5)
  obtain ⟨W6, hW6⟩ : ∃ W, w5.alloc (.cells #[.string gnm, .int .i64 ggen, .int .i64 gparts, .slice ma gmem.length mc, .slice pa gpts.length pc] 44) = W := ⟨_, rfl⟩
  have hb56 : Below w5.heap.size w5 W6 := by rw [← hW6]; exact (Below.refl _ _).alloc (Nat.le_refl _) _
  have kg6 : Blk W6 w5.heap.size #[.string gnm, .int .i64 ggen, .int .i64 gparts, .slice ma gmem.length mc, .slice pa gpts.length pc] 44 := by rw [← hW6]; exact Blk.new _ _ _
  have HL6 := Lib.hid (HL5.out.below hb56)
  have HKG := Lib.hid kg6
  have HMN := Lib.hid (Nms.below hmn hb56)
  have HPN := Lib.hid (Pts.below hpn hb56)
  have HNE : Hid (w5.heap.size ≠ W2.heap.size ∧ w.heap.size ≠ W2.heap.size) := Lib.hid ⟨by have := HL5.out.ka.lt; omega, by have := HL5.out.lr; have := HL5.out.la; omega⟩
  have HLB : Hid (w.heap.size ≤ W2.heap.size) := Lib.hid (by have := HL5.out.lr; have := HL5.out.la; omega)
  obtain ⟨c0, c1, c2, c3, c4⟩ := kg6.cells5
  obtain ⟨d0, d1, d2, d3, d4, d5, d6, d7, d8, d9, d10⟩ := HL6.out.kq.cells11
  have x2 : W6.cell? ⟨W2.heap.size, 2, none⟩ = some (.int .i64 1) := HL6.out.ka.cell rfl
  have y2 : W6.frozen? ⟨W2.heap.size, 2, none⟩ = false := HL6.out.ka.free
  clear hmn hpn hb5 hb56 kg6 HFD
  by_cases k5 : kd = 5
  · subst k5
    have HBT := Lib.hid (beat_any (.agg #[.string gnm, .int .i64 ggen, .int .i64 gparts, .slice ma gmem.length mc, .slice pa gpts.length pc]) ⟨gnm, ggen, gparts, gmem, gpts⟩ ⟨cl, qn, 5, pt, sq, of, mx, gn, N, M⟩ rv W6 ⟨_, _, rfl, HMN.out, HPN.out⟩ HGD.out)
    obtain ⟨c, hc⟩ : ∃ c, Fk.beat ⟨gnm, ggen, gparts, gmem, gpts⟩ ⟨cl, qn, 5, pt, sq, of, mx, gn, N, M⟩ = c := ⟨_, rfl⟩
    rw [hc] at HBT
    have HR2 : Hid (X = if c = 31 then ⟨31, 0, 0, []⟩ else ⟨c, 0, ggen, Fk.own ⟨gnm, ggen, gparts, gmem, gpts⟩ M⟩) := Lib.hid (by rw [HR.out, if_pos rfl, hc])
    clear hc HR
    go_upto_region 5 with fail
    go_wp2_with fail
    refine HBT.out.mono ?_
    rintro e w7 ⟨rfl, hb7⟩
    have HL7 := Lib.hid (HL6.out.below hb7)
    have HKG7 := Lib.hid (HKG.out.below hb7)
    have HMN7 := Lib.hid (Nms.below HMN.out hb7)
    have HPN7 := Lib.hid (Pts.below HPN.out hb7)
    have x2 : w7.cell? ⟨W2.heap.size, 2, none⟩ = some (.int .i64 1) := HL7.out.ka.cell rfl
    have y2 : w7.frozen? ⟨W2.heap.size, 2, none⟩ = false := HL7.out.ka.free
    clear hb7 HBT
    go_upto_region 6 with fail
    obtain ⟨W8, hW8⟩ : ∃ W, w7.setCell ⟨W2.heap.size, 2, none⟩ (.int .i64 c) = W := ⟨_, rfl⟩
    have hl8 : LSt w w.heap.size W1.heap.size W2.heap.size #[.int .i64 cl, .int .i64 qn, .int .i64 5, .int .i64 pt, .int .i64 sq, .int .i64 of, .int .i64 mx, .int .i64 gn, .string N, .string M, rv] (rsp cl qn c 0 0 (.slice none 0 0)) W8 := by rw [← hW8]; exact HL7.out.set 2 (.int .i64 c)
    have hb8 : Below w.heap.size w7 W8 := by rw [← hW8]; exact (Kb.setCell _ _).below HLB.out HL7.out.ka.lt
    have kg8 := HKG7.out.setOther (c := W2.heap.size) (i := 2) (.int .i64 c) HNE.out.1
    rw [hW8] at kg8
    rw [hW8]
    have HL8 := Lib.hid hl8
    have HMN8 := Lib.hid (HMN7.out.lowb hb8)
    have HPN8 := Lib.hid (HPN7.out.lowb hb8)
    have HKG8 := Lib.hid kg8
    have x2 : W8.cell? ⟨W2.heap.size, 2, none⟩ = some (.int .i64 c) := hl8.ka.cell rfl
    have d9 : W8.cell? ⟨w.heap.size, 9, none⟩ = some (.string M) := hl8.kq.cell rfl
    obtain ⟨c0, c1, c2, c3, c4⟩ := kg8.cells5
    clear hl8 hb8 kg8 hW8
    by_cases hc : c = 31
    · subst hc
      have HX : Hid (X = ⟨31, 0, 0, []⟩) := Lib.hid (by rw [HR2.out, if_pos rfl])
      go_upto_region 13 with fail
      have HFB := Lib.hid (HL8.out.fin (.int .i64 cl) (.int .i64 qn) (.int .i64 31) (.int .i64 0) (.int .i64 0) (.int .i64 0) (.slice none 0 0) (.slice none 0 0))
      have HFK := Lib.hid (HL8.out.kr.eight (.int .i64 cl) (.int .i64 qn) (.int .i64 31) (.int .i64 0) (.int .i64 0) (.int .i64 0) (.slice none 0 0) (.slice none 0 0))
      have HFP := Lib.hid (IsN.kb (IsN.nil (W2.heap.size + 1) W8) (eight_kb _ W1.heap.size (.int .i64 cl) (.int .i64 qn) (.int .i64 31) (.int .i64 0) (.int .i64 0) (.int .i64 0) (.slice none 0 0) (.slice none 0 0)) (by have := HL8.out.la; omega))
      have HZS : Hid (w.heap.size ≤ W2.heap.size + 1) := Lib.hid (by have := HL8.out.lq; have := HL8.out.lr; have := HL8.out.la; omega)
      obtain ⟨z0, z1, z2, z3, z4, z5, z6, z7⟩ := HL8.out.ka.cells8
      obtain ⟨x0, x1, x2, x3, x4, x5, x6, x7⟩ := HL8.out.kr.cells8
      obtain ⟨y0, y1, y2, y3, y4, y5, y6, y7⟩ := HL8.out.kr.free8
      go_wp2_with fail
      refine bodyPost_ret (ret_Look HFK.out rfl) rfl ?_
      exact ⟨_, by rw [HX.out], by rw [HX.out]; exact IsN.mono HFP.out HZS.out, HFB.out⟩
    · have HX : Hid (X = ⟨c, 0, ggen, Fk.own ⟨gnm, ggen, gparts, gmem, gpts⟩ M⟩) := Lib.hid (by rw [HR2.out, if_neg hc])
      have HST := Lib.hid (standing_any (.agg #[.string gnm, .int .i64 ggen, .int .i64 gparts, .slice ma gmem.length mc, .slice pa gpts.length pc]) ⟨gnm, ggen, gparts, gmem, gpts⟩ M W8 ⟨_, _, rfl, HMN8.out, HPN8.out⟩)
      go_upto_region 7 with fail
      go_wp2_with fail
      refine HST.out.mono ?_
      rintro e w9 ⟨pv, rfl, hpv, hb9⟩
      obtain ⟨va, vc, rfl⟩ := hpv.form
      obtain ⟨ln, hln⟩ : ∃ ln, (Fk.own ⟨gnm, ggen, gparts, gmem, gpts⟩ M).length = ln := ⟨_, rfl⟩
      rw [hln] at hpv ⊢
      have HL9 := Lib.hid (HL8.out.below hb9)
      have HPV := Lib.hid (hpv.mono (show W2.heap.size + 1 ≤ _ from HL8.out.ka.lt))
      have x5 : w9.cell? ⟨W2.heap.size, 5, none⟩ = some (.int .i64 0) := HL9.out.ka.cell rfl
      have x6 : w9.cell? ⟨W2.heap.size, 6, none⟩ = some (.slice none 0 0) := HL9.out.ka.cell rfl
      have y5 : w9.frozen? ⟨W2.heap.size, 5, none⟩ = false := HL9.out.ka.free
      have y6 : w9.frozen? ⟨W2.heap.size, 6, none⟩ = false := HL9.out.ka.free
      clear hb9 HST hpv hln
      go_upto_region 13 with fail
      obtain ⟨WA, hWA⟩ : ∃ W, (w9.setCell ⟨W2.heap.size, 5, none⟩ (.int .i64 ggen)).setCell ⟨W2.heap.size, 6, none⟩ (.slice va ln vc) = W := ⟨_, rfl⟩
      have hla : LSt w w.heap.size W1.heap.size W2.heap.size #[.int .i64 cl, .int .i64 qn, .int .i64 5, .int .i64 pt, .int .i64 sq, .int .i64 of, .int .i64 mx, .int .i64 gn, .string N, .string M, rv] (rsp cl qn c 0 ggen (.slice va ln vc)) WA := by rw [← hWA]; exact (HL9.out.set 5 (.int .i64 ggen)).set 6 (.slice va ln vc)
      have hpa : IsN (W2.heap.size + 1) WA (.slice va ln vc) (Fk.own ⟨gnm, ggen, gparts, gmem, gpts⟩ M) := by rw [← hWA]; exact HPV.out.kb ((Kb.setCell _ _).trans (Kb.setCell _ _)) (Nat.lt_succ_self _)
      rw [hWA]
      have HLA := Lib.hid hla
      have HPA := Lib.hid hpa
      clear hla hpa hWA x5 x6 y5 y6
      have HFB := Lib.hid (HLA.out.fin (.int .i64 cl) (.int .i64 qn) (.int .i64 c) (.int .i64 0) (.int .i64 0) (.int .i64 ggen) (.slice va ln vc) (.slice none 0 0))
      have HFK := Lib.hid (HLA.out.kr.eight (.int .i64 cl) (.int .i64 qn) (.int .i64 c) (.int .i64 0) (.int .i64 0) (.int .i64 ggen) (.slice va ln vc) (.slice none 0 0))
      have HFP := Lib.hid (IsN.kb HPA.out (eight_kb _ W1.heap.size (.int .i64 cl) (.int .i64 qn) (.int .i64 c) (.int .i64 0) (.int .i64 0) (.int .i64 ggen) (.slice va ln vc) (.slice none 0 0)) (by have := HLA.out.la; omega))
      have HZS : Hid (w.heap.size ≤ W2.heap.size + 1) := Lib.hid (by have := HLA.out.lq; have := HLA.out.lr; have := HLA.out.la; omega)
      obtain ⟨z0, z1, z2, z3, z4, z5, z6, z7⟩ := HLA.out.ka.cells8
      obtain ⟨x0, x1, x2, x3, x4, x5, x6, x7⟩ := HLA.out.kr.cells8
      obtain ⟨y0, y1, y2, y3, y4, y5, y6, y7⟩ := HLA.out.kr.free8
      go_wp2_with fail
      refine bodyPost_ret (ret_Look HFK.out rfl) rfl ?_
      exact ⟨_, by rw [HX.out], by rw [HX.out]; exact IsN.mono HFP.out HZS.out, HFB.out⟩
  · by_cases k7 : kd = 7
    · subst k7
      have HFP := Lib.hid fun wx (h1 : Nms (fun b => b < w.heap.size) wx (.slice ma gmem.length mc) gmem) (h2 : Pts (fun b => b < w.heap.size) wx (.slice pa gpts.length pc) gpts) => findPoint_any (.agg #[.string gnm, .int .i64 ggen, .int .i64 gparts, .slice ma gmem.length mc, .slice pa gpts.length pc]) ⟨gnm, ggen, gparts, gmem, gpts⟩ pt wx ⟨_, _, rfl, h1, h2⟩ (by have := HGD.out.pts; simp only at this ⊢; omega) (HGD.out.pm pt)
      have HR2 : Hid (X = match Fk.hit (Fk.cP pt) gpts with
        | none => ⟨12, 0, 0, []⟩
        | some p => ⟨0, p.2, 0, []⟩) := Lib.hid (by rw [HR.out, if_neg (by decide), if_pos rfl])
      clear HR
      go_upto_region 10 with fail
      obtain ⟨W8, hW8⟩ : ∃ W, W6.setCell ⟨W2.heap.size, 2, none⟩ (.int .i64 12) = W := ⟨_, rfl⟩
      have hl8 : LSt w w.heap.size W1.heap.size W2.heap.size #[.int .i64 cl, .int .i64 qn, .int .i64 7, .int .i64 pt, .int .i64 sq, .int .i64 of, .int .i64 mx, .int .i64 gn, .string N, .string M, rv] (rsp cl qn 12 0 0 (.slice none 0 0)) W8 := by rw [← hW8]; exact HL6.out.set 2 (.int .i64 12)
      have hb8 : Below w.heap.size W6 W8 := by rw [← hW8]; exact (Kb.setCell _ _).below HLB.out HL6.out.ka.lt
      have kg8 := HKG.out.setOther (c := W2.heap.size) (i := 2) (.int .i64 12) HNE.out.1
      rw [hW8] at kg8
      rw [hW8]
      have HL8 := Lib.hid hl8
      have HMN8 := Lib.hid (HMN.out.lowb hb8)
      have HPN8 := Lib.hid (HPN.out.lowb hb8)
      have HKG8 := Lib.hid kg8
      have HFP := Lib.hid (HFP.out W8 HMN8.out HPN8.out)
      simp only at HFP
      have d3 : W8.cell? ⟨w.heap.size, 3, none⟩ = some (.int .i64 pt) := hl8.kq.cell rfl
      obtain ⟨c0, c1, c2, c3, c4⟩ := kg8.cells5
      obtain ⟨i, hi⟩ : ∃ i, Fk.low (Fk.cP pt) gpts = i := ⟨_, rfl⟩
      rw [hi] at HFP
      have HI := Lib.hid hi
      clear hl8 hb8 kg8 hW8 hi x2 y2
      cases hh : Fk.hit (Fk.cP pt) gpts with
      | none =>
        have HX : Hid (X = ⟨12, 0, 0, []⟩) := Lib.hid (by rw [HR2.out, hh])
        rw [hh] at HFP
        clear hh
        go_wp2_with fail
        refine HFP.out.mono ?_
        rintro e w9 ⟨rfl, hb9⟩
        have HL9 := Lib.hid (HL8.out.below hb9)
        clear hb9
        go_upto_region 13 with fail
        have HFB := Lib.hid (HL9.out.fin (.int .i64 cl) (.int .i64 qn) (.int .i64 12) (.int .i64 0) (.int .i64 0) (.int .i64 0) (.slice none 0 0) (.slice none 0 0))
        have HFK := Lib.hid (HL9.out.kr.eight (.int .i64 cl) (.int .i64 qn) (.int .i64 12) (.int .i64 0) (.int .i64 0) (.int .i64 0) (.slice none 0 0) (.slice none 0 0))
        have HFP := Lib.hid (IsN.kb (IsN.nil (W2.heap.size + 1) w9) (eight_kb _ W1.heap.size (.int .i64 cl) (.int .i64 qn) (.int .i64 12) (.int .i64 0) (.int .i64 0) (.int .i64 0) (.slice none 0 0) (.slice none 0 0)) (by have := HL9.out.la; omega))
        have HZS : Hid (w.heap.size ≤ W2.heap.size + 1) := Lib.hid (by have := HL9.out.lq; have := HL9.out.lr; have := HL9.out.la; omega)
        obtain ⟨z0, z1, z2, z3, z4, z5, z6, z7⟩ := HL9.out.ka.cells8
        obtain ⟨x0, x1, x2, x3, x4, x5, x6, x7⟩ := HL9.out.kr.cells8
        obtain ⟨y0, y1, y2, y3, y4, y5, y6, y7⟩ := HL9.out.kr.free8
        go_wp2_with fail
        refine bodyPost_ret (ret_Look HFK.out rfl) rfl ?_
        exact ⟨_, by rw [HX.out], by rw [HX.out]; exact IsN.mono HFP.out HZS.out, HFB.out⟩
      | some pp =>
        have HX : Hid (X = ⟨0, pp.2, 0, []⟩) := Lib.hid (by rw [HR2.out, hh])
        rw [hh] at HFP
        have hat := (Fk.hit_some hh).1
        rw [HI.out] at hat
        have HAT := Lib.hid hat
        clear hh hat
        go_wp2_with fail
        refine HFP.out.mono ?_
        rintro e w9 ⟨rfl, hb9⟩
        have HL9 := Lib.hid (HL8.out.below hb9)
        have HPN9 := HPN8.out.below hb9
        obtain ⟨pb, pp0, pc0, hps, hpA, hpb, hpc0, hpc1⟩ := HPN9.at HAT.out
        injection hps with hps1 hps2 hps3
        subst hps1
        have HPB : Hid (pb ≠ W2.heap.size) := Lib.hid (by have := HLB.out; omega)
        have hil := (List.getElem?_eq_some_iff.1 HAT.out).1
        obtain ⟨pn, hpn⟩ : ∃ n, gpts.length = n := ⟨_, rfl⟩
        rw [hpn] at hil
        have HKG9 := HKG8.out.below hb9
        rw [hpn] at HKG9 ⊢
        have c4 : w9.cell? ⟨w5.heap.size, 4, none⟩ = some (.slice (some ⟨pb, pp0, none⟩) pn pc) := HKG9.cell rfl
        have i0 : (0 : Int) ≤ (i : Int) := by omega
        have i1 : (i : Int) < (pn : Int) := by omega
        have c4 : w9.drew.cell? ⟨w5.heap.size, 4, none⟩ = some (.slice (some ⟨pb, pp0, none⟩) pn pc) := c4
        have p1 : w9.drew.cell? ⟨pb, pp0 + i * 2 + 1, none⟩ = some (.int .i64 pp.2) := hpc1
        have x2 : w9.cell? ⟨W2.heap.size, 2, none⟩ = some (.int .i64 12) := HL9.out.ka.cell rfl
        have x3 : w9.cell? ⟨W2.heap.size, 3, none⟩ = some (.int .i64 0) := HL9.out.ka.cell rfl
        have y2 : w9.frozen? ⟨W2.heap.size, 2, none⟩ = false := HL9.out.ka.free
        have y3 : w9.frozen? ⟨W2.heap.size, 3, none⟩ = false := HL9.out.ka.free
        have u2 : w9.drew.cell? ⟨W2.heap.size, 2, none⟩ = some (.int .i64 12) := x2
        have u3 : w9.drew.cell? ⟨W2.heap.size, 3, none⟩ = some (.int .i64 0) := x3
        have v2 : w9.drew.frozen? ⟨W2.heap.size, 2, none⟩ = false := y2
        have v3 : w9.drew.frozen? ⟨W2.heap.size, 3, none⟩ = false := y3
        clear hb9 HKG9 HPN9 hpc0 hpc1 hil
        go_upto_region 12 with fail
        go_region_held3 (fun w' => w'.cell? ⟨w5.heap.size, 4, none⟩ = some (.slice (some ⟨pb, pp0, none⟩) pn pc) ∧ w'.cell? ⟨pb, pp0 + i * 2 + 1, none⟩ = some (.int .i64 pp.2)) (first | with_reducible exact ⟨c4, p1⟩ | exact ⟨cellD1 HNE.out.1 c4, cellD1 HPB.out p1⟩ | exact ⟨cellD2 HNE.out.1 HNE.out.1 c4, cellD2 HPB.out HPB.out p1⟩ | go_keep | fail) (fail)
        all_goals
          obtain ⟨WA, hWA⟩ : ∃ W, ((w9.setCell ⟨W2.heap.size, 2, none⟩ (.int .i64 0)).setCell ⟨W2.heap.size, 3, none⟩ (.int .i64 pp.2)).drew = W := ⟨_, rfl⟩
          have hla : LSt w w.heap.size W1.heap.size W2.heap.size #[.int .i64 cl, .int .i64 qn, .int .i64 7, .int .i64 pt, .int .i64 sq, .int .i64 of, .int .i64 mx, .int .i64 gn, .string N, .string M, rv] (rsp cl qn 0 pp.2 0 (.slice none 0 0)) WA := by rw [← hWA]; exact ((HL9.out.set 2 (.int .i64 0)).set 3 (.int .i64 pp.2)).below ((Below.refl _ _).drew)
          rw [hWA]
          have HLA := Lib.hid hla
          clear hla hWA x2 x3 y2 y3 u2 u3 v2 v3
          go_upto_region 13 with fail
          have HFB := Lib.hid (HLA.out.fin (.int .i64 cl) (.int .i64 qn) (.int .i64 0) (.int .i64 pp.2) (.int .i64 0) (.int .i64 0) (.slice none 0 0) (.slice none 0 0))
          have HFK := Lib.hid (HLA.out.kr.eight (.int .i64 cl) (.int .i64 qn) (.int .i64 0) (.int .i64 pp.2) (.int .i64 0) (.int .i64 0) (.slice none 0 0) (.slice none 0 0))
          have HFP := Lib.hid (IsN.kb (IsN.nil (W2.heap.size + 1) WA) (eight_kb _ W1.heap.size (.int .i64 cl) (.int .i64 qn) (.int .i64 0) (.int .i64 pp.2) (.int .i64 0) (.int .i64 0) (.slice none 0 0) (.slice none 0 0)) (by have := HLA.out.la; omega))
          have HZS : Hid (w.heap.size ≤ W2.heap.size + 1) := Lib.hid (by have := HLA.out.lq; have := HLA.out.lr; have := HLA.out.la; omega)
          obtain ⟨z0, z1, z2, z3, z4, z5, z6, z7⟩ := HLA.out.ka.cells8
          obtain ⟨x0, x1, x2, x3, x4, x5, x6, x7⟩ := HLA.out.kr.cells8
          obtain ⟨y0, y1, y2, y3, y4, y5, y6, y7⟩ := HLA.out.kr.free8
          go_wp2_with fail
          refine bodyPost_ret (ret_Look HFK.out rfl) rfl ?_
          exact ⟨_, by rw [HX.out], by rw [HX.out]; exact IsN.mono HFP.out HZS.out, HFB.out⟩
    · have HX : Hid (X = ⟨1, 0, 0, []⟩) := Lib.hid (by rw [HR.out, if_neg k5, if_neg k7])
      clear x2 y2
      go_upto_region 13 with fail
      have HFB := Lib.hid (HL6.out.fin (.int .i64 cl) (.int .i64 qn) (.int .i64 1) (.int .i64 0) (.int .i64 0) (.int .i64 0) (.slice none 0 0) (.slice none 0 0))
      have HFK := Lib.hid (HL6.out.kr.eight (.int .i64 cl) (.int .i64 qn) (.int .i64 1) (.int .i64 0) (.int .i64 0) (.int .i64 0) (.slice none 0 0) (.slice none 0 0))
      have HFP := Lib.hid (IsN.kb (IsN.nil (W2.heap.size + 1) W6) (eight_kb _ W1.heap.size (.int .i64 cl) (.int .i64 qn) (.int .i64 1) (.int .i64 0) (.int .i64 0) (.int .i64 0) (.slice none 0 0) (.slice none 0 0)) (by have := HL6.out.la; omega))
      have HZS : Hid (w.heap.size ≤ W2.heap.size + 1) := Lib.hid (by have := HL6.out.lq; have := HL6.out.lr; have := HL6.out.la; omega)
      obtain ⟨z0, z1, z2, z3, z4, z5, z6, z7⟩ := HL6.out.ka.cells8
      obtain ⟨x0, x1, x2, x3, x4, x5, x6, x7⟩ := HL6.out.kr.cells8
      obtain ⟨y0, y1, y2, y3, y4, y5, y6, y7⟩ := HL6.out.kr.free8
      go_wp2_with fail
      refine bodyPost_ret (ret_Look HFK.out rfl) rfl ?_
      exact ⟨_, by rw [HX.out], by rw [HX.out]; exact IsN.mono HFP.out HZS.out, HFB.out⟩
end Go.Proofs.YtjccfilbihkfpaaGreatDoor
