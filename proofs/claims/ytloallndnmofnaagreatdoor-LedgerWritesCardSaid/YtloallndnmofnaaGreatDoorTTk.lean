/- THE CONTRACT OF ledger.taken: a producer is taken off a reader. -/
import Derived.Test.YtloallndnmofnaaGreatDoorTEnc
import Derived.Test.YtloallndnmofnaaGreatDoorRemK
import Derived.Deep.DeepCutAuto
namespace Go.Proofs.YtloallndnmofnaaGreatDoor
open Go.RowKit
attribute [local go_sem ↓] Go.wp_at_zero Go.wp_at_succ

theorem undSn : (Tryz.prog.underlying 46).map (fun d => match d with | .struct _ | .array _ _ => true | _ => false) = some true := by kernel_rfl
theorem sizeSn : (Tryz.prog.info? 46).map (·.size) = some 2 := by kernel_rfl
theorem load_seen {W : World} {rb : Nat} {a0 a1 : Value} (hb : Blk W rb #[a0, a1] 46) : (loadVar 46 ⟨rb, 0, none⟩).run Tryz.prog W = .ok (.agg #[a0, a1]) W := by
  obtain ⟨d, hd, hs⟩ : ∃ d, Tryz.prog.underlying 46 = some d ∧ (match d with | .struct _ | .array _ _ => true | _ => false) = true := by
    have h := undSn
    cases hd : Tryz.prog.underlying 46 with
    | none => rw [hd] at h; cases h
    | some d => rw [hd] at h; exact ⟨d, rfl, Option.some.inj h⟩
  exact run_loadVar_row (P := Tryz.prog) W rb 46 46 #[a0, a1] (0, 0) d hb hd (by cases d <;> exact hs) sizeSn
theorem taken_ret {W : World} {rb : Nat} {a0 a1 : Value} {tmps : Array Value} (hb : Blk W rb #[a0, a1] 46) (h2 : tmps.getD 2 undef = .pointer (some ⟨rb, 0, none⟩)) :
    (results Tryz.f24 tmps).run Tryz.prog W = .ok (.agg #[a0, a1]) W := by
  have hl := load_seen hb
  simp only [results, Tryz.results24]
  rw [Array.getD_eq_getD_getElem?] at h2
  simp [asAddr, hl, h2]
abbrev zeroN : Array Value := #[.int .i64 0, .slice none 0 0]
/-- What is known while taken runs. -/
structure TK (w : World) (c x r : Nat) (u : St) (p : Int) (sv : Value) (gb : Option Nat) (L : List Ld.Sl) (W : World) : Prop where
  rd : Rd c W u
  bx : Blk W x #[.int .i64 p, sv] 46
  br : Blk W r zeroN 46
  sl : Sl W sv gb 40 3 L.length (L.flatMap three)
  kb : Kb c w W
  lo : c < w.heap.size ∧ w.heap.size ≤ x ∧ w.heap.size ≤ r ∧ x ≠ r
  far : ∀ k, gb = some k → w.heap.size ≤ k ∧ k ≠ x ∧ k ≠ r
section
variable {w W W' : World} {c x r : Nat} {u u' : St} {p : Int} {sv : Value} {gb : Option Nat} {L : List Ld.Sl}
theorem TK.call (h : TK w c x r u p sv gb L W) (hr : Rd c W' u') (hk : Kb c W W') : TK w c x r u' p sv gb L W' :=
  ⟨hr, h.bx.kb hk (by have := h.lo; omega), h.br.kb hk (by have := h.lo; omega), h.sl.same (fun k hk' => hk.block k (h.sl.lt k hk') (by have := h.far k hk'; have := h.lo; omega)), h.kb.trans hk, h.lo, h.far⟩
theorem kb_of {c : Nat} {w W wq : World} (h : Kb c W wq) (h1 : W.os = w.os) (h2 : W.tape = w.tape) (h3 : W.output = w.output) (h4 : W.heap = w.heap) : Kb c w wq :=
  ⟨h.os.trans h1, h.tape.trans h2, h.output.trans h3, by rw [← h4]; exact h.size, fun k hk hn => by rw [← h4]; exact h.block k (by rw [h4]; exact hk) hn⟩
theorem kb_to {c : Nat} {w W W' : World} (h : Kb c w W) (h1 : W'.os = W.os) (h2 : W'.tape = W.tape) (h3 : W'.output = W.output) (h4 : W'.heap = W.heap) : Kb c w W' :=
  ⟨h1.trans h.os, h2.trans h.tape, h3.trans h.output, by rw [h4]; exact h.size, fun k hk hn => by rw [h4]; exact h.block k hk hn⟩
theorem rd_to {c : Nat} {u : St} {W W' : World} (h : Rd c W u) (h4 : W'.heap = W.heap) : Rd c W' u := by
  unfold Rd Rdr at h ⊢
  rw [h4]
  exact h
theorem Kb.setNew {i : Nat} (h : Kb c w W) (hx : w.heap.size ≤ x) (v : Value) : Kb c w (W.setCell ⟨x, i, none⟩ v) :=
  ⟨h.os, h.tape, h.output, Nat.le_trans h.size (by simp [World.setCell]), fun k hk hn => (Below.heap_setCell W ⟨x, i, none⟩ v k (by show k ≠ x; omega)).trans (h.block k hk hn)⟩
theorem TK.num (h : TK w c x r u p sv gb L W) (n : Int) : TK w c x r u n sv gb L (W.setCell ⟨x, 0, none⟩ (.int .i64 n)) :=
  ⟨h.rd.other (Kb.setCell W _) (by have := h.lo; omega), h.bx.set (i := 0) _, h.br.setO _ _ (by show r ≠ x; have := h.lo; omega), h.sl.setCell _ _ (fun e => (h.far x e.symm).2.1 rfl), h.kb.setNew h.lo.2.1 _, h.lo, h.far⟩
/-- A slot more: made, appended, stored. -/
theorem TK.push {W1 w9 : World} {g q cap : Nat} {gb' : Option Nat} {s : Ld.Sl} (h : TK w c x r u p sv gb L W) (hb : RowKit.Below W.heap.size W W1) (hgr : W1.grownBy w9 gb) (hs : Sl w9 (.slice (some ⟨g, q, none⟩) (L.length + 1) cap) gb' 40 3 (L.length + 1) (L.flatMap three ++ three s)) (hgb : gb' = some g) (hn : gb' = gb ∨ W1.heap.size ≤ g) :
    TK w c x r u p (.slice (some ⟨g, q, none⟩) (L.length + 1) cap) gb' (L ++ [s]) (w9.setCell ⟨x, 1, none⟩ (.slice (some ⟨g, q, none⟩) (L.length + 1) cap)) ∧ w9.cell? ⟨x, 1, none⟩ = some sv ∧ w9.frozen? ⟨x, 1, none⟩ = false := by
  have hlo := h.lo
  have hsz := hb.size
  have hk := h.kb.size
  have hcl := h.rd.lt
  have hxl := h.bx.lt
  have hrl := h.br.lt
  have hne : ∀ k, k = c ∨ k = x ∨ k = r → some k ≠ gb := fun k hk' e => by have := h.far k e.symm; omega
  have hfar' : ∀ k, gb' = some k → w.heap.size ≤ k ∧ k ≠ x ∧ k ≠ r := fun k hk' => by
    rcases hn with hn | hn
    · exact h.far k (hn.symm.trans hk')
    · rw [hgb] at hk'
      injection hk' with hk'
      omega
  have hrd9 : Rd c w9 u := by
    have h1 : Rd c W1 u := h.rd.same hb
    exact (hgr.block c (by omega) (hne c (.inl rfl))).trans h1
  have hx9 : Blk w9 x #[.int .i64 p, sv] 46 := (h.bx.below hb).grown hgr (hne x (.inr (.inl rfl)))
  have hr9 : Blk w9 r zeroN 46 := (h.br.below hb).grown hgr (hne r (.inr (.inr rfl)))
  have hkb9 : Kb c w w9 := by
    have h1 : Kb c w W1 := h.kb.trans (Kb.of_below hb)
    exact ⟨hgr.os.trans h1.os, hgr.tape.trans h1.tape, hgr.output.trans h1.output, Nat.le_trans h1.size hgr.size, fun k hk' hn' => (hgr.block k (by have := h1.size; omega) (fun e => by have := h.far k e.symm; omega)).trans (h1.block k hk' hn')⟩
  refine ⟨⟨?_, hx9.set (i := 1) _, hr9.setO _ _ (by show r ≠ x; omega), ?_, hkb9.setNew hlo.2.1 _, hlo, hfar'⟩, hx9.cell (i := 1) rfl, hx9.free (i := 1)⟩
  · exact hrd9.other (Kb.setCell w9 _) (by omega)
  · rw [List.length_append, List.flatMap_append]
    have := hs.setCell (⟨x, 1, none⟩) (.slice (some ⟨g, q, none⟩) (L.length + 1) cap) (fun e => (hfar' x e.symm).2.1 rfl)
    simpa using this
end
/-- What taken leaves. -/
def Takn (w : World) (c : Nat) (x : Int × List Ld.Sl) (u' : St) (e : Ending) (w' : World) : Prop :=
  ∃ sv gb, e = .returned (.agg #[.int .i64 x.1, sv]) ∧ Sl w' sv gb 40 3 x.2.length (x.2.flatMap three) ∧ (∀ k, gb = some k → w.heap.size ≤ k) ∧ Rd c w' u' ∧ Kb c w w'
theorem tkS_more {n : Nat} {u : St} {L : List Ld.Sl} (hn : L.length < n) (hm : u.more = true) : Ld.tkSlots (n - L.length) u L = Ld.tkSlots (n - (L ++ [(Ld.tkSlot u).1]).length) (Ld.tkSlot u).2 (L ++ [(Ld.tkSlot u).1]) := by
  obtain ⟨k, hk⟩ : ∃ k, n - L.length = k + 1 := ⟨n - L.length - 1, by omega⟩
  rw [hk, show n - (L ++ [(Ld.tkSlot u).1]).length = k by rw [List.length_append, List.length_cons, List.length_nil]; omega]
  conv => lhs; unfold Ld.tkSlots
  rw [if_pos hm]
theorem tkS_over {n : Nat} {u : St} {L : List Ld.Sl} (h : ¬ L.length < n ∨ u.more = false) : Ld.tkSlots (n - L.length) u L = (L, u) := by
  cases hk : n - L.length with
  | zero => rfl
  | succ k =>
    rcases h with h | h
    · omega
    · unfold Ld.tkSlots
      rw [if_neg (by rw [h]; decide)]

theorem boolX {a b : Bool} (h : a = b) : Value.bool a = .bool b := by rw [h]
set_option maxHeartbeats 4000000 in
set_option maxRecDepth 100000 in
theorem dtaken (c : Nat) (u : St) (w : World) (lb : Lb w) (hr : Rd c w u) (hc : 8 ≤ c) (hs : u.s.length ≤ 281474976710656) :
    Calls Tryz.prog 24 #[.pointer (some ⟨c, 0, none⟩)] w (Takn w c (Ld.tkRow 5 u).1 (Ld.tkRow 5 u).2) := by
  obtain ⟨q0, e0⟩ : ∃ q, St.byte 108 u = q := ⟨_, rfl⟩
  obtain ⟨p, q1, e1⟩ : ∃ x q, St.int q0 = (x, q) := ⟨_, _, rfl⟩
  obtain ⟨Lf, qf, e2⟩ : ∃ x q, Ld.tkSlots 5 q1 [] = (x, q) := ⟨_, _, rfl⟩
  have hrd : Ld.tkRow 5 u = ((p, Lf), qf.byte 101) := by unfold Ld.tkRow; rw [e0, e1, e2]
  rw [hrd]
  have l0 : q0.s.length ≤ 281474976710656 := Nat.le_trans (e0 ▸ byte_len 108 u) hs
  have l1 : q1.s.length ≤ 281474976710656 := by have h := int_len q0; rw [e1] at h; exact Nat.le_trans h l0
  have hclt := hr.lt
  have hr0 := Blk.new w zeroN 46
  have hx0 := Blk.new (w.alloc (.cells zeroN 46)) zeroN 46
  have hal1 : Below w.heap.size w (w.alloc (.cells zeroN 46)) := (Below.refl _ _).alloc (Nat.le_refl _) _
  have hal2 : Below (w.alloc (.cells zeroN 46)).heap.size (w.alloc (.cells zeroN 46)) ((w.alloc (.cells zeroN 46)).alloc (.cells zeroN 46)) := (Below.refl _ _).alloc (Nat.le_refl _) _
  have es1 : (w.alloc (.cells zeroN 46)).heap.size = w.heap.size + 1 := by simp
  have hlow := hal1.trans (hal2.mono hal1.size)
  have hr1 := hr0.below hal2
  rw [es1] at hx0
  have HT : TK w c (w.heap.size + 1) w.heap.size u 0 (.slice none 0 0) none [] ((w.alloc (.cells zeroN 46)).alloc (.cells zeroN 46)) := ⟨hr.same hlow, hx0, hr1, ⟨rfl, .inl ⟨rfl, rfl, rfl⟩⟩, Kb.of_below hlow, ⟨hclt, by omega, Nat.le_refl _, by omega⟩, fun k h => by cases h⟩
  obtain ⟨W0, hW0⟩ : ∃ W0, (w.alloc (.cells zeroN 46)).alloc (.cells zeroN 46) = W0 := ⟨_, rfl⟩
  rw [hW0] at HT
  unfold zeroN at hW0
  have HWE := Lib.hid hW0
  have H0 := Lib.hid HT
  have HLB := Lib.hid lb
  have HE2 := Lib.hid e2
  obtain ⟨i0, hi0, hz0, hz1, hz2⟩ := infoSlot
  clear hr0 hx0 hal1 hal2 es1 hlow hr1 HT hW0 hr lb hclt hrd e2
  go_enter Tryz.func24, Tryz.ntmps24
  go_wp2_with fail
  rw [HWE.out]
  refine (rd_open c u _ H0.out.rd hs).mono ?_
  rw [e0]
  rintro e w1 ⟨rfl, r1, k1⟩
  have H1 := Lib.hid (H0.out.call r1 k1)
  clear r1 k1 H0 e0
  have C := rd_int c q0 _ (HLB.out.kb hc H1.out.kb) H1.out.rd l0
  rw [e1] at C
  go_wp2_with fail
  refine C.mono ?_
  clear C e1
  rintro e w2 ⟨rfl, r2, k2⟩
  have H2 := Lib.hid (H1.out.call r2 k2)
  have f0 := H2.out.bx.free (i := 0)
  have c0 := H2.out.bx.cell (i := 0) rfl
  clear r2 k2 H1
  have H3 : Hid (TK w c (w.heap.size + 1) w.heap.size q1 p (.slice none 0 0) none [] (w2.setCell ⟨w.heap.size + 1, 0, none⟩ (.int .i64 p))) := H2.out.num p
  go_wp2_with fail
  clear f0 c0 H2
  go_loopw [9] (fun _ wr => ∃ (u : St) (L : List Ld.Sl) (sv : Value) (gb : Option Nat), L.length ≤ 5 ∧ u.s.length ≤ 281474976710656 ∧ TK w c (w.heap.size + 1) w.heap.size u p sv gb L wr ∧ Ld.tkSlots (5 - L.length) u L = (Lf, qf)) (fun _ wr => 5 - sliceLen (wr.cell? ⟨w.heap.size + 1, 1, none⟩))
  case atStart => exact ⟨q1, [], _, none, by simp, l1, H3.out, HE2.out⟩
  case round =>
    obtain ⟨v, L, sv, gb, hL5, hvl, htk, hts⟩ := hrel
    have HT := Lib.hid htk
    have HTS := Lib.hid hts
    obtain ⟨ao, cp, hsv, -, -, -⟩ := Sl.make htk.sl
    obtain ⟨n, hn⟩ : ∃ n, L.length = n := ⟨_, rfl⟩
    rw [hn] at hsv hL5
    subst hsv
    have c1 : wr.cell? ⟨w.heap.size + 1, 1, none⟩ = some (.slice ao n cp) := htk.bx.cell (i := 1) rfl
    have f1 := htk.bx.free (i := 1)
    have HN := Lib.hid hn
    have HC1 := Lib.hid c1
    have hmr := Lib.hid (rd_more c v wr htk.rd)
    clear htk hts hn f1 H3 HE2
    obtain ⟨mo, hmo⟩ : ∃ b, v.more = b := ⟨_, rfl⟩
    rw [hmo] at hmr
    have HMO := Lib.hid hmo
    clear hmo
    go_upto_region 4 with fail
    go_cut [16] (fun s wx => s = .bool (mo && decide (n < 5)) ∧ wx = wr)
    case first =>
      cases mo with
      | false =>
        go_wp2_with fail
        refine hmr.out.mono ?_
        rintro e w' ⟨rfl, rfl⟩
        go_wp2_with fail
        go_meet
        case rel => exact ⟨rfl, rfl⟩
      | true =>
        go_wp2_with fail
        refine hmr.out.mono ?_
        rintro e w' ⟨rfl, rfl⟩
        go_wp2_with fail
        go_meet
        case rel => exact ⟨boolX (by simp; omega), rfl⟩
    case rest =>
      obtain ⟨rfl, hwc⟩ := hcut
      subst hwc
      clear c1
      by_cases hgo : mo = true ∧ n < 5
      · obtain ⟨rfl, hn5⟩ := hgo
        rw [decide_eq_true hn5]
        obtain ⟨v0, g0⟩ : ∃ q, St.byte 108 v = q := ⟨_, rfl⟩
        obtain ⟨z0, v1, g1⟩ : ∃ x q, St.int v0 = (x, q) := ⟨_, _, rfl⟩
        obtain ⟨z1, v2, g2⟩ : ∃ x q, St.int v1 = (x, q) := ⟨_, _, rfl⟩
        obtain ⟨z2, v3, g3⟩ : ∃ x q, St.int v2 = (x, q) := ⟨_, _, rfl⟩
        have m0 : v0.s.length ≤ 281474976710656 := Nat.le_trans (g0 ▸ byte_len 108 v) hvl
        have m1 : v1.s.length ≤ 281474976710656 := by have h := int_len v0; rw [g1] at h; exact Nat.le_trans h m0
        have m2 : v2.s.length ≤ 281474976710656 := by have h := int_len v1; rw [g2] at h; exact Nat.le_trans h m1
        have m3 : v3.s.length ≤ 281474976710656 := by have h := int_len v2; rw [g3] at h; exact Nat.le_trans h m2
        have m4 : (v3.byte 101).s.length ≤ 281474976710656 := Nat.le_trans (byte_len 101 v3) m3
        have htk : Ld.tkSlot v = (⟨z0, z1, z2⟩, v3.byte 101) := by unfold Ld.tkSlot; rw [g0, g1, g2, g3]
        have HTS2 : Hid (Ld.tkSlots (5 - (L ++ [(⟨z0, z1, z2⟩ : Ld.Sl)]).length) (v3.byte 101) (L ++ [(⟨z0, z1, z2⟩ : Ld.Sl)]) = (Lf, qf)) := by
          have := tkS_more (n := 5) (u := v) (L := L) (by rw [HN.out]; exact hn5) HMO.out
          rw [htk, HTS.out] at this
          exact this.symm
        have HOP := Lib.hid (rd_open c v wc HT.out.rd hvl)
        rw [g0] at HOP
        have HI1 : Hid (∀ W, Rd c W v0 → Kb c w W → Calls Tryz.prog 44 #[.pointer (some ⟨c, 0, none⟩)] W fun e w' => e = .returned (.int .i64 z0) ∧ Rd c w' v1 ∧ Kb c W w') := fun W h1 h2 => by
          have := rd_int c v0 W (HLB.out.kb hc h2) h1 m0
          rw [g1] at this
          exact this
        have HI2 : Hid (∀ W, Rd c W v1 → Kb c w W → Calls Tryz.prog 44 #[.pointer (some ⟨c, 0, none⟩)] W fun e w' => e = .returned (.int .i64 z1) ∧ Rd c w' v2 ∧ Kb c W w') := fun W h1 h2 => by
          have := rd_int c v1 W (HLB.out.kb hc h2) h1 m1
          rw [g2] at this
          exact this
        have HI3 : Hid (∀ W, Rd c W v2 → Kb c w W → Calls Tryz.prog 44 #[.pointer (some ⟨c, 0, none⟩)] W fun e w' => e = .returned (.int .i64 z2) ∧ Rd c w' v3 ∧ Kb c W w') := fun W h1 h2 => by
          have := rd_int c v2 W (HLB.out.kb hc h2) h1 m2
          rw [g3] at this
          exact this
        have HM3 := Lib.hid m3
        have HM4 := Lib.hid m4
        clear g0 g1 g2 g3 m0 m1 m2 m3 m4 htk HTS hmr
        go_wp2_with fail
        refine HOP.out.mono ?_
        rintro e w3 ⟨rfl, r3, k3⟩
        have T3 := Lib.hid (HT.out.call r3 k3)
        clear r3 k3 HOP HT
        obtain ⟨XS, hXS⟩ : ∃ XS, L.flatMap three = XS := ⟨_, rfl⟩
        have HXS := Lib.hid hXS
        clear hXS
        go_upto_region 6 with fail
        go_cut [29] (fun _ wx => ∃ sv' gb', TK w c (w.heap.size + 1) w.heap.size v3 p sv' gb' (L ++ [⟨z0, z1, z2⟩]) wx)
        case first =>
          have HAL : Hid (∀ W : World, RowKit.Below W.heap.size W (W.alloc (.cells #[.int .i64 z0, .int .i64 z1, .int .i64 z2] 40))) := fun W => (Below.refl _ _).alloc (Nat.le_refl _) _
          have HSLF : Hid (∀ W, TK w c (w.heap.size + 1) w.heap.size v3 p (.slice ao n cp) gb L W → Sl (W.alloc (.cells #[.int .i64 z0, .int .i64 z1, .int .i64 z2] 40)) (.slice ao n cp) gb 40 3 n XS) := fun W h => by
            have := h.sl.below (HAL.out W)
            rw [HN.out, HXS.out] at this
            exact this
          have HPUSH : Hid (∀ W w9 g q cap gb', TK w c (w.heap.size + 1) w.heap.size v3 p (.slice ao n cp) gb L W → Sl w9 (.slice (some ⟨g, q, none⟩) (n + 1) cap) gb' 40 3 (n + 1) (XS ++ three ⟨z0, z1, z2⟩) → (W.alloc (.cells #[.int .i64 z0, .int .i64 z1, .int .i64 z2] 40)).grownBy w9 gb → gb' = some g → (gb' = gb ∨ (W.alloc (.cells #[.int .i64 z0, .int .i64 z1, .int .i64 z2] 40)).heap.size ≤ g) → TK w c (w.heap.size + 1) w.heap.size v3 p (.slice (some ⟨g, q, none⟩) (n + 1) cap) gb' (L ++ [⟨z0, z1, z2⟩]) (w9.setCell ⟨w.heap.size + 1, 1, none⟩ (.slice (some ⟨g, q, none⟩) (n + 1) cap)) ∧ w9.cell? ⟨w.heap.size + 1, 1, none⟩ = some (.slice ao n cp) ∧ w9.frozen? ⟨w.heap.size + 1, 1, none⟩ = false) := fun W w9 g q cap gb' h hs hgr hgb hn' => by
            rw [← HXS.out, ← HN.out] at hs
            have := h.push (HAL.out W) hgr hs hgb hn'
            rw [HN.out] at this
            exact this
          have HONE : Hid (∀ u ∈ three ⟨z0, z1, z2⟩, u.oneCell' = true) := one_three1 _
          have HNW : Hid (∀ (W : World) j u, (three ⟨z0, z1, z2⟩)[j]? = some u → World.cell? (W.alloc (.cells #[.int .i64 z0, .int .i64 z1, .int .i64 z2] 40)) (Addr.add ⟨W.heap.size, 0, none⟩ j) = some u) := fun W => World.news_of_block (cs := #[.int .i64 z0, .int .i64 z1, .int .i64 z2]) (t := 40) (fr := (0, 0)) (heap_alloc_new W _)
          have HBY : Hid ((n + 1) * 24 ≤ 140737488355328) := by show _ ≤ _; omega
          have H63 : Hid (n + 1 ≤ 9223372036854775807) := by show _ ≤ _; omega
          have c3 := T3.out.bx.cell (i := 1) rfl
          have rr1 := T3.out.rd
          have kk1 := T3.out.kb
          go_region_law (first
              | (go_simp; go_at_call 44; refine (HI3.out _ (by exact rd_to rr3 rfl) (by exact kb_to kk3 rfl rfl rfl rfl)).mono ?_; rintro e wq6 ⟨rfl, ra, ka⟩; have T6 := Lib.hid (T5.out.call ra (kb_of ka rfl rfl rfl rfl)); have c6 := T6.out.bx.cell (i := 1) rfl; have c7 := bcell6 (HAL.out wq6) c6; clear ra ka)
              | (go_simp; go_at_call 44; refine (HI2.out _ (by exact rd_to rr2 rfl) (by exact kb_to kk2 rfl rfl rfl rfl)).mono ?_; rintro e wq5 ⟨rfl, ra, ka⟩; have T5 := Lib.hid (T4.out.call ra (kb_of ka rfl rfl rfl rfl)); have c5 := T5.out.bx.cell (i := 1) rfl; have rr3 := T5.out.rd; have kk3 := T5.out.kb; clear ra ka)
              | (go_simp; go_at_call 44; refine (HI1.out _ (by exact rd_to rr1 rfl) (by exact kb_to kk1 rfl rfl rfl rfl)).mono ?_; rintro e wq4 ⟨rfl, ra, ka⟩; have T4 := Lib.hid (T3.out.call ra (kb_of ka rfl rfl rfl rfl)); have c4 := T4.out.bx.cell (i := 1) rfl; have rr2 := T4.out.rd; have kk2 := T4.out.kb; clear ra ka)
              | (refine step_append_sl _ (by rfl) _ _ _ (by rfl) 40 i0 (.agg #[.int .i64 0, .int .i64 0, .int .i64 0]) 3 24 Tryz.underlying44 hi0 hz0 hz1 hz2 rfl (.slice ao n cp) gb n XS (by rfl) (HSLF.out wq6 T6.out) ⟨wq6.heap.size, 0, none⟩ 1 1 (three ⟨z0, z1, z2⟩) (by rfl) (by rfl) (HNW.out wq6) HONE.out (by decide) HBY.out H63.out ?_; intro g9 q9 cap9 w9 gb9 hown9 hgrow9 hgb9 hnew9; obtain ⟨hT9, c9, f9⟩ := HPUSH.out wq6 w9 g9 q9 cap9 gb9 T6.out hown9 hgrow9 hgb9 (hnew9.imp id (fun h => by simpa using h)); have HT9 := Lib.hid hT9; clear hT9 hown9 hgrow9 hgb9 hnew9)
              | fail)
          all_goals (go_wp2_with fail)
          all_goals go_meet
          all_goals exact ⟨_, _, HT9.out⟩
        case rest =>
          obtain ⟨sv', gb', ht6⟩ := hcut
          have T6 := Lib.hid ht6
          clear ht6
          go_wp2_with fail
          refine (rd_close c v3 _ T6.out.rd HM3.out).mono ?_
          rintro e w7 ⟨rfl, r7, k7⟩
          have T7 := Lib.hid (T6.out.call r7 k7)
          clear r7 k7 T6
          go_wp2_with fail
          go_roundw
          case rel => exact ⟨_, _, _, _, by rw [List.length_append, HN.out]; show n + 1 ≤ 5; omega, HM4.out, T7.out, HTS2.out⟩
          case measure =>
            obtain ⟨ao7, cp7, hsv7, -, -, -⟩ := Sl.make T7.out.sl
            have c7 : w7.cell? ⟨w.heap.size + 1, 1, none⟩ = some sv' := T7.out.bx.cell (i := 1) rfl
            rw [hsv7, List.length_append, HN.out] at c7
            rw [c7, HC1.out]
            simp only [sliceLen, List.length_cons, List.length_nil]
            omega
      · have hgo' : (mo && decide (n < 5)) = false := by
          rcases Bool.eq_false_or_eq_true mo with h | h
          · rw [h, decide_eq_false (fun h5 => hgo ⟨h, h5⟩)]; rfl
          · rw [h]; rfl
        rw [hgo']
        have hfin : (L, v) = (Lf, qf) := by
          rw [← HTS.out]
          refine (tkS_over ?_).symm
          rcases Bool.eq_false_or_eq_true mo with h | h
          · exact .inl (by rw [HN.out]; exact fun h5 => hgo ⟨h, h5⟩)
          · exact .inr (by rw [HMO.out]; exact h)
        injection hfin with hf1 hf2
        subst hf1 hf2
        clear hgo hgo' HTS HMO hmr HC1
        go_wp2_with fail
        refine (rd_close c v _ HT.out.rd hvl).mono ?_
        rintro e w7 ⟨rfl, r7, k7⟩
        have T7 := Lib.hid (HT.out.call r7 k7)
        have x0 := T7.out.bx.cell (i := 0) rfl
        have x1 := T7.out.bx.cell (i := 1) rfl
        have b0 := T7.out.br.cell (i := 0) rfl
        have b1 := T7.out.br.cell (i := 1) rfl
        have d0 := T7.out.br.free (i := 0)
        have d1 := T7.out.br.free (i := 1)
        clear r7 k7 HT
        go_wp2_with fail
        have hlo := T7.out.lo
        have hfar := T7.out.far
        refine bodyPost_ret (taken_ret ((T7.out.br.set (i := 0) _).set (i := 1) _) rfl) rfl ⟨_, gb, rfl, ?_, fun k hk => (hfar k hk).1, ?_, ?_⟩
        · exact (T7.out.sl.setCell _ _ (fun e => (hfar _ e.symm).2.2 rfl)).setCell _ _ (fun e => (hfar _ e.symm).2.2 rfl)
        · exact (T7.out.rd.other (Kb.setCell _ _) (by omega)).other (Kb.setCell _ _) (by omega)
        · exact (T7.out.kb.setNew (Nat.le_refl _) _).setNew (Nat.le_refl _) _
end Go.Proofs.YtloallndnmofnaaGreatDoor
