/- THE CONTRACT OF crate.taken: a record is taken off a reader. -/
import Derived.Test.YthhlegfmikidpaaDoorDPack
import Derived.Test.YthhlegfmikidpaaDoorCDec
namespace Go.Proofs.YthhlegfmikidpaaDoor
open Go.RowKit

theorem int_len (u : St) : u.int.2.s.length ≤ u.s.length := by
  obtain ⟨s, bad⟩ := u
  cases bad with
  | true => exact Nat.le_refl _
  | false =>
    cases hr : Pl.rInt s with
    | none => simp [St.int, hr]
    | some p =>
      obtain ⟨n, r⟩ := p
      have e := (Pl.rInt_some hr).1
      simp [St.int, hr]
      rw [e]; simp
theorem text_len (most : Int) (u : St) : (u.text most).2.s.length ≤ u.s.length := by
  obtain ⟨s, bad⟩ := u
  cases bad with
  | true => exact Nat.le_refl _
  | false =>
    cases hr : Pl.rText most s with
    | none => simp [St.text, hr]
    | some p =>
      obtain ⟨t, r⟩ := p
      have e := (Pl.rText_some hr).1
      simp [St.text, hr]
      rw [e]; simp
theorem byte_len (c : UInt8) (u : St) : (u.byte c).s.length ≤ u.s.length := by
  obtain ⟨s, bad⟩ := u
  cases bad with
  | true => exact Nat.le_refl _
  | false =>
    cases hr : Pl.rByte c s with
    | none => simp [St.byte, hr]
    | some r =>
      have e := Pl.rByte_some hr
      simp [St.byte, hr]
      rw [e]; simp

/-- What is known while taken runs: the reader in block c stands at u; the record in block x holds cs; the result's block r holds nothing. -/
structure TS (w : World) (c x r : Nat) (u : St) (cs : Array Value) (W : World) : Prop where
  rd : Rd c W u
  bx : Blk W x cs 41
  br : Blk W r zeroR 41
  kb : Kb c w W
  lo : c < w.heap.size ∧ w.heap.size ≤ x ∧ w.heap.size ≤ r ∧ x ≠ r
theorem TS.call {w W W' : World} {c x r : Nat} {u u' : St} {cs : Array Value} (h : TS w c x r u cs W) (hr : Rd c W' u') (hk : Kb c W W') : TS w c x r u' cs W' :=
  ⟨hr, h.bx.kb hk (by have := h.lo; omega), h.br.kb hk (by have := h.lo; omega), h.kb.trans hk, h.lo⟩
theorem Kb.setNew {w W : World} {c x i : Nat} (h : Kb c w W) (hx : w.heap.size ≤ x) (v : Value) : Kb c w (W.setCell ⟨x, i, none⟩ v) :=
  ⟨h.os, h.tape, h.output, Nat.le_trans h.size (by simp [World.setCell]), fun k hk hn => (Below.heap_setCell W ⟨x, i, none⟩ v k (by show k ≠ x; omega)).trans (h.block k hk hn)⟩
theorem TS.store {w W : World} {c x r : Nat} {u : St} {cs : Array Value} (h : TS w c x r u cs W) (i : Nat) (v : Value) : TS w c x r u (cs.setIfInBounds i v) (W.setCell ⟨x, i, none⟩ v) :=
  ⟨h.rd.other (Kb.setCell W v) (by have := h.lo; omega), h.bx.set v, h.br.setOther v (by have := h.lo; omega), h.kb.setNew h.lo.2.1 v, h.lo⟩
theorem undR' : (Tryd.prog.underlying 41).map (fun d => match d with | .struct _ | .array _ _ => true | _ => false) = some true := by kernel_rfl
theorem sizeR : (Tryd.prog.info? 41).map (·.size) = some 4 := by kernel_rfl
theorem two_retR {fn : Func} {pp uu : Nat} {W : World} {rb : Nat} {a0 a1 a2 a3 n : Value} {tmps : Array Value} (hf : fn.results = #[.cell pp 41, .tmp uu]) (hb : Blk W rb #[a0, a1, a2, a3] 41) (h2 : tmps.getD pp undef = .pointer (some ⟨rb, 0, none⟩)) (h3 : tmps.getD uu undef = n) :
    (results fn tmps).run Tryd.prog W = .ok (.tuple #[.agg #[a0, a1, a2, a3], n]) W := by
  obtain ⟨d, hd, hs⟩ : ∃ d, Tryd.prog.underlying 41 = some d ∧ (match d with | .struct _ | .array _ _ => true | _ => false) = true := by
    have h := undR'
    cases hd : Tryd.prog.underlying 41 with
    | none => rw [hd] at h; cases h
    | some d => rw [hd] at h; exact ⟨d, rfl, Option.some.inj h⟩
  rw [results_cell_tmp (p := pp) (u := uu) (ty := 41) hf, h2, h3]
  have hl := run_loadVar_row (P := Tryd.prog) W rb 41 41 #[a0, a1, a2, a3] (0, 0) d hb hd (by cases d <;> exact hs) sizeR
  simp [asAddr, hl]
theorem Blk.four {w : World} {r : Nat} {a0 a1 a2 a3 : Value} {T : TypeId} (h : Blk w r #[a0, a1, a2, a3] T) (v0 v1 v2 v3 : Value) :
    Blk ((((w.setCell ⟨r, 0, none⟩ v0).setCell ⟨r, 1, none⟩ v1).setCell ⟨r, 2, none⟩ v2).setCell ⟨r, 3, none⟩ v3) r #[v0, v1, v2, v3] T :=
  (((h.set (i := 0) v0).set (i := 1) v1).set (i := 2) v2).set (i := 3) v3
/-- Whether the last number says yes or no. -/
def rightB (g : Int) : Bool := g == 0 || g == 1

set_option maxHeartbeats 2000000 in
set_option maxRecDepth 100000 in
theorem dtaken (c : Nat) (u : St) (w : World) (lb : Lb w) (hr : Rd c w u) (hc : 8 ≤ c) (hs : u.s.length ≤ 281474976710656) :
    Calls Tryd.prog 43 #[.pointer (some ⟨c, 0, none⟩)] w fun e w' => e = .returned (.tuple #[.agg #[.int .i64 (rdR u).1.off, .string ⟨(rdR u).1.key.toArray⟩, .string ⟨(rdR u).1.val.toArray⟩, .bool (rdR u).1.gone], .bool (rightB (rdR u).2.1)]) ∧ Rd c w' (rdR u).2.2 ∧ Kb c w w' := by
  obtain ⟨q0, e0⟩ : ∃ q, St.byte 108 u = q := ⟨_, rfl⟩
  obtain ⟨o, q1, e1⟩ : ∃ x q, St.int q0 = (x, q) := ⟨_, _, rfl⟩
  obtain ⟨ky, q2, e2⟩ : ∃ x q, St.text 16 q1 = (x, q) := ⟨_, _, rfl⟩
  obtain ⟨vl, q3, e3⟩ : ∃ x q, St.text 64 q2 = (x, q) := ⟨_, _, rfl⟩
  obtain ⟨g, q4, e4⟩ : ∃ x q, St.int q3 = (x, q) := ⟨_, _, rfl⟩
  obtain ⟨q5, e5⟩ : ∃ q, St.byte 101 q4 = q := ⟨_, rfl⟩
  have hrd : rdR u = (⟨o, ky, vl, g == 1⟩, g, q5) := by subst e0; simp [rdR, e1, e2, e3, e4, e5]
  rw [hrd]
  have l0 : q0.s.length ≤ 281474976710656 := Nat.le_trans (e0 ▸ byte_len 108 u) hs
  have l1 : q1.s.length ≤ 281474976710656 := by have h := int_len q0; rw [e1] at h; exact Nat.le_trans h l0
  have l2 : q2.s.length ≤ 281474976710656 := by have h := text_len 16 q1; rw [e2] at h; exact Nat.le_trans h l1
  have l3 : q3.s.length ≤ 281474976710656 := by have h := text_len 64 q2; rw [e3] at h; exact Nat.le_trans h l2
  have l4 : q4.s.length ≤ 281474976710656 := by have h := int_len q3; rw [e4] at h; exact Nat.le_trans h l3
  have hclt := hr.lt
  have hr0 := Blk.new w zeroR 41
  have hx0 := Blk.new (w.alloc (.cells zeroR 41)) zeroR 41
  have hal1 : Below w.heap.size w (w.alloc (.cells zeroR 41)) := (Below.refl _ _).alloc (Nat.le_refl _) _
  have hal2 : Below (w.alloc (.cells zeroR 41)).heap.size (w.alloc (.cells zeroR 41)) ((w.alloc (.cells zeroR 41)).alloc (.cells zeroR 41)) := (Below.refl _ _).alloc (Nat.le_refl _) _
  have es1 : (w.alloc (.cells zeroR 41)).heap.size = w.heap.size + 1 := by simp
  have hlow := hal1.trans (hal2.mono hal1.size)
  have hr1 := hr0.below hal2
  rw [es1] at hx0
  have HT : TS w c (w.heap.size + 1) w.heap.size u zeroR ((w.alloc (.cells zeroR 41)).alloc (.cells zeroR 41)) := ⟨hr.same hlow, hx0, hr1, Kb.of_below hlow, hclt, by omega, Nat.le_refl _, by omega⟩
  obtain ⟨W0, hW0⟩ : ∃ W0, (w.alloc (.cells zeroR 41)).alloc (.cells zeroR 41) = W0 := ⟨_, rfl⟩
  rw [hW0] at HT
  unfold zeroR at hW0
  have HWE := Lib.hid hW0
  have H0 := Lib.hid HT
  have HLB := Lib.hid lb
  clear hr0 hx0 hal1 hal2 es1 hlow hr1 HT hW0 hr lb hclt hrd
  go_enter Tryd.func43, Tryd.ntmps43
  go_wp2_with fail
  rw [HWE.out]
  refine (rd_open c u _ H0.out.rd hs).mono ?_
  rw [e0]
  rintro e w1 ⟨rfl, r1, k1⟩
  have H1 := Lib.hid (H0.out.call r1 k1)
  clear r1 k1 H0 e0
  have C := rd_int c q0 _ (HLB.out.kb hc H1.out.kb) H1.out.rd l0
  rw [e1] at C
  go_wp2_with fail
  refine C.mono ?_
  clear C e1
  rintro e w2 ⟨rfl, r2, k2⟩
  have H2 := Lib.hid (H1.out.call r2 k2)
  have f0 := H2.out.bx.free (i := 0)
  have c0 := H2.out.bx.cell (i := 0) rfl
  clear r2 k2 H1
  go_wp2_with fail
  have H3 : Hid (TS w c (w.heap.size + 1) w.heap.size q1 #[.int .i64 o, .string ⟨#[]⟩, .string ⟨#[]⟩, .bool false] (w2.setCell ⟨w.heap.size + 1, 0, none⟩ (.int .i64 o))) := H2.out.store 0 (.int .i64 o)
  clear f0 c0 H2
  have C := rd_text c q1 16 _ (HLB.out.kb hc H3.out.kb) H3.out.rd l1
  rw [e2] at C
  refine C.mono ?_
  clear C e2
  rintro e w3 ⟨rfl, r3, k3⟩
  have H4 := Lib.hid (H3.out.call r3 k3)
  have f1 := H4.out.bx.free (i := 1)
  have c1 := H4.out.bx.cell (i := 1) rfl
  clear r3 k3 H3
  go_wp2_with fail
  have H5 : Hid (TS w c (w.heap.size + 1) w.heap.size q2 #[.int .i64 o, .string ⟨ky.toArray⟩, .string ⟨#[]⟩, .bool false] (w3.setCell ⟨w.heap.size + 1, 1, none⟩ (.string ⟨ky.toArray⟩))) := H4.out.store 1 (.string ⟨ky.toArray⟩)
  clear f1 c1 H4
  have C := rd_text c q2 64 _ (HLB.out.kb hc H5.out.kb) H5.out.rd l2
  rw [e3] at C
  refine C.mono ?_
  clear C e3
  rintro e w4 ⟨rfl, r4, k4⟩
  have H6 := Lib.hid (H5.out.call r4 k4)
  have f2 := H6.out.bx.free (i := 2)
  have c2 := H6.out.bx.cell (i := 2) rfl
  clear r4 k4 H5
  go_wp2_with fail
  have H7 : Hid (TS w c (w.heap.size + 1) w.heap.size q3 #[.int .i64 o, .string ⟨ky.toArray⟩, .string ⟨vl.toArray⟩, .bool false] (w4.setCell ⟨w.heap.size + 1, 2, none⟩ (.string ⟨vl.toArray⟩))) := H6.out.store 2 (.string ⟨vl.toArray⟩)
  clear f2 c2 H6
  have C := rd_int c q3 _ (HLB.out.kb hc H7.out.kb) H7.out.rd l3
  rw [e4] at C
  refine C.mono ?_
  clear C e4
  rintro e w5 ⟨rfl, r5, k5⟩
  have H8 := Lib.hid (H7.out.call r5 k5)
  clear r5 k5 H7
  go_wp2_with fail
  refine (rd_close c q4 _ H8.out.rd l4).mono ?_
  rw [e5]
  rintro e w6 ⟨rfl, r6, k6⟩
  have H9 := Lib.hid (H8.out.call r6 k6)
  have f3 := H9.out.bx.free (i := 3)
  have c0 := H9.out.bx.cell (i := 0) rfl
  have c1 := H9.out.bx.cell (i := 1) rfl
  have c2 := H9.out.bx.cell (i := 2) rfl
  have c3 := H9.out.bx.cell (i := 3) rfl
  have r0 : World.cell? _ ⟨w.heap.size, 0, none⟩ = some (.int .i64 0) := H9.out.br.cell (i := 0) rfl
  have g0 := H9.out.br.free (i := 0)
  have r1 : World.cell? _ ⟨w.heap.size, 1, none⟩ = some (.string ⟨#[]⟩) := H9.out.br.cell (i := 1) rfl
  have g1 := H9.out.br.free (i := 1)
  have r2 : World.cell? _ ⟨w.heap.size, 2, none⟩ = some (.string ⟨#[]⟩) := H9.out.br.cell (i := 2) rfl
  have g2 := H9.out.br.free (i := 2)
  have r3 : World.cell? _ ⟨w.heap.size, 3, none⟩ = some (.bool false) := H9.out.br.cell (i := 3) rfl
  have g3 := H9.out.br.free (i := 3)
  have HA : Hid (TS w c (w.heap.size + 1) w.heap.size q5 #[.int .i64 o, .string ⟨ky.toArray⟩, .string ⟨vl.toArray⟩, .bool (g == 1)] (w6.setCell ⟨w.heap.size + 1, 3, none⟩ (.bool (g == 1)))) := H9.out.store 3 (.bool (g == 1))
  clear r6 k6 H8 e5 H9
  have fin : ∀ (v0 v1 v2 v3 : Value), Rd c (((((w6.setCell ⟨w.heap.size + 1, 3, none⟩ (.bool (g == 1))).setCell ⟨w.heap.size, 0, none⟩ v0).setCell ⟨w.heap.size, 1, none⟩ v1).setCell ⟨w.heap.size, 2, none⟩ v2).setCell ⟨w.heap.size, 3, none⟩ v3) q5 ∧ Kb c w (((((w6.setCell ⟨w.heap.size + 1, 3, none⟩ (.bool (g == 1))).setCell ⟨w.heap.size, 0, none⟩ v0).setCell ⟨w.heap.size, 1, none⟩ v1).setCell ⟨w.heap.size, 2, none⟩ v2).setCell ⟨w.heap.size, 3, none⟩ v3) := fun v0 v1 v2 v3 => by
    have hlo := HA.out.lo
    have hn : c ≠ w.heap.size := by omega
    exact ⟨(((HA.out.rd.other (Kb.setCell _ _) hn).other (Kb.setCell _ _) hn).other (Kb.setCell _ _) hn).other (Kb.setCell _ _) hn, (((HA.out.kb.setNew (Nat.le_refl _) v0).setNew (Nat.le_refl _) v1).setNew (Nat.le_refl _) v2).setNew (Nat.le_refl _) v3⟩
  have HFIN := Lib.hid fin
  have HBR : Hid (Blk (w6.setCell ⟨w.heap.size + 1, 3, none⟩ (.bool (g == 1))) w.heap.size #[.int .i64 0, .string ⟨#[]⟩, .string ⟨#[]⟩, .bool false] 41) := HA.out.br
  clear fin
  by_cases h0 : g = 0
  · have hr0 : rightB g = true := by subst h0; rfl
    have HRB := Lib.hid hr0
    have h1 : (g == 0) = true := beq_iff_eq.2 h0
    have H0' := Lib.hid h0
    clear h0 hr0
    go_wp2_with fail
    refine bodyPost_ret (two_retR rfl (HBR.out.four (.int .i64 o) (.string ⟨ky.toArray⟩) (.string ⟨vl.toArray⟩) (.bool (g == 1))) rfl rfl) rfl ⟨?_, (HFIN.out _ _ _ _).1, (HFIN.out _ _ _ _).2⟩
    rw [HRB.out]
    rfl
  · have h1 : (g == 0) = false := beq_eq_false_iff_ne.2 h0
    have hr0 : rightB g = (g == 1) := by unfold rightB; rw [h1]; rfl
    have HRB := Lib.hid hr0
    have H0' := Lib.hid h0
    clear h0 hr0
    go_wp2_with fail
    refine bodyPost_ret (two_retR rfl (HBR.out.four (.int .i64 o) (.string ⟨ky.toArray⟩) (.string ⟨vl.toArray⟩) (.bool (g == 1))) rfl rfl) rfl ⟨?_, (HFIN.out _ _ _ _).1, (HFIN.out _ _ _ _).2⟩
    rw [HRB.out]
    rfl
end Go.Proofs.YthhlegfmikidpaaDoor
