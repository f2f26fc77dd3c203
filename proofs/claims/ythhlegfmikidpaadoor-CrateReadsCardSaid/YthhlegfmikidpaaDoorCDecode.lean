/- THE CONTRACT OF the document's Decode. -/
import Derived.Test.YthhlegfmikidpaaDoorCSame
import Derived.Test.YthhlegfmikidpaaDoorCDecP
import Derived.Test.YthhlegfmikidpaaDoorRefText
import Derived.Laws.ResultCell
import Derived.Laws.Rows
namespace Go.Proofs.YthhlegfmikidpaaDoor
open Go.RowKit

/-- What is known while the document's Decode runs: the reader in block c stands at u; the batch in block b holds cs; blocks n and r hold nothing. -/
structure DS (s : ByteArray) (w : World) (c b n r : Nat) (u : St) (cs : Array Value) (W : World) : Prop where
  rd : Rs c W s u
  bb : Blk W b cs 24
  bn : Blk W n zeroB 24
  br : Blk W r zeroB 24
  low : Below w.heap.size w W
  lo : w.heap.size ≤ r ∧ w.heap.size ≤ n ∧ w.heap.size ≤ c ∧ w.heap.size ≤ b ∧ c ≠ b ∧ c ≠ n ∧ c ≠ r ∧ b ≠ n ∧ b ≠ r ∧ n ≠ r
theorem DS.call {s : ByteArray} {w W W' : World} {c b n r : Nat} {u u' : St} {cs : Array Value} (h : DS s w c b n r u cs W) (hr : Rs c W' s u') (hk : Kb c W W') : DS s w c b n r u' cs W' :=
  ⟨hr, h.bb.kb hk (fun e => h.lo.2.2.2.2.1 e.symm), h.bn.kb hk (fun e => h.lo.2.2.2.2.2.1 e.symm), h.br.kb hk (fun e => h.lo.2.2.2.2.2.2.1 e.symm), h.low.trans (hk.below h.lo.2.2.1 h.rd.lt), h.lo⟩
theorem DS.store {s : ByteArray} {w W : World} {c b n r : Nat} {u : St} {cs : Array Value} (h : DS s w c b n r u cs W) (i : Nat) (v : Value) : DS s w c b n r u (cs.setIfInBounds i v) (W.setCell ⟨b, i, none⟩ v) :=
  ⟨h.rd.other (Kb.setCell W v) h.lo.2.2.2.2.1, h.bb.set v, h.bn.setOther v (fun e => h.lo.2.2.2.2.2.2.2.1 e.symm), h.br.setOther v (fun e => h.lo.2.2.2.2.2.2.2.2.1 e.symm), h.low.setCell (p := ⟨b, i, none⟩) h.lo.2.2.2.1 v, h.lo⟩
theorem DS.below {s : ByteArray} {w W W' : World} {c b n r : Nat} {u : St} {cs : Array Value} (h : DS s w c b n r u cs W) (hb : Below W.heap.size W W') : DS s w c b n r u cs W' :=
  ⟨h.rd.same hb, h.bb.below hb, h.bn.below hb, h.br.below hb, h.low.trans (hb.mono h.low.size), h.lo⟩

theorem DS.aside {s : ByteArray} {w W W' : World} {c b n r x : Nat} {u : St} {cs : Array Value} (h : DS s w c b n r u cs W) (hk : Kb x W W') (h1 : x ≠ c) (h2 : x ≠ b) (h3 : x ≠ n) (h4 : x ≠ r) (h5 : w.heap.size ≤ x) : DS s w c b n r u cs W' :=
  ⟨h.rd.other hk (Ne.symm h1), h.bb.kb hk (Ne.symm h2), h.bn.kb hk (Ne.symm h3), h.br.kb hk (Ne.symm h4), h.low.trans ⟨hk.os, hk.tape, hk.output, hk.size, fun k hl => hk.block k (Nat.lt_of_lt_of_le hl h.low.size) (by omega)⟩, h.lo⟩
theorem DS.grown {s : ByteArray} {w W W' : World} {c b n r : Nat} {u : St} {cs : Array Value} {row : Option Nat} (h : DS s w c b n r u cs W) (hg : W.grownBy W' row) (hrow : ∀ k, row = some k → b + 1 ≤ k) (hb : w.heap.size + 3 ≤ b) (hc : c < b := by omega) (hn : n < b := by omega) (hr : r < b := by omega) : DS s w c b n r u cs W' := by
  have e : ∀ k, k ≤ b → k < W.heap.size → W'.heap[k]? = W.heap[k]? := fun k hk hl => hg.block k hl (fun e => by have := hrow k e.symm; omega)
  refine ⟨?_, ?_, ?_, ?_, ⟨hg.os.trans h.low.os, hg.tape.trans h.low.tape, hg.output.trans h.low.output, Nat.le_trans h.low.size hg.size, fun k hk => (e k (by omega) (Nat.lt_of_lt_of_le hk h.low.size)).trans (h.low.block k hk)⟩, h.lo⟩
  · obtain ⟨a, h1, h2, h3⟩ := h.rd
    exact ⟨a, h1, h2, (e c (by omega) h3.lt).trans h3⟩
  · exact (e b (Nat.le_refl _) h.bb.lt).trans h.bb
  · exact (e n (by omega) h.bn.lt).trans h.bn
  · exact (e r (by omega) h.br.lt).trans h.br
/-- What holds ahead of each record. -/
def Reads (s : ByteArray) (w : World) (b : Nat) (x0 x1 x2 x3 x4 : Int) (R : Option (List Pl.Rc × St)) (wr : World) : Prop :=
  ∃ (u : St) (acc : List Pl.Rc) (sv : Value), acc.length ≤ 9 ∧ DS s w (w.heap.size + 1 + 1) b (w.heap.size + 1) w.heap.size u #[.int .i64 x0, .int .i64 x1, .int .i64 x2, .int .i64 x3, .int .i64 x4, sv] wr ∧
    wr.ownsRow (b + 1) 41 4 sv acc.length (acc.flatMap cells4) ∧ loopR (9 - acc.length) u acc = R
theorem undB' : (Tryd.prog.underlying 24).map (fun d => match d with | .struct _ | .array _ _ => true | _ => false) = some true := by kernel_rfl
theorem sizeB : (Tryd.prog.info? 24).map (·.size) = some 6 := by kernel_rfl
theorem dec_ret {W : World} {rb : Nat} {a0 a1 a2 a3 a4 a5 n : Value} {tmps : Array Value} (hb : Blk W rb #[a0, a1, a2, a3, a4, a5] 24) (h2 : tmps.getD 2 undef = .pointer (some ⟨rb, 0, none⟩)) (h3 : tmps.getD 3 undef = n) :
    (results Tryd.f22 tmps).run Tryd.prog W = .ok (.tuple #[.agg #[a0, a1, a2, a3, a4, a5], n]) W := by
  obtain ⟨d, hd, hs⟩ : ∃ d, Tryd.prog.underlying 24 = some d ∧ (match d with | .struct _ | .array _ _ => true | _ => false) = true := by
    have h := undB'
    cases hd : Tryd.prog.underlying 24 with
    | none => rw [hd] at h; cases h
    | some d => rw [hd] at h; exact ⟨d, rfl, Option.some.inj h⟩
  rw [results_cell_tmp (p := 2) (u := 3) (ty := 24) rfl, h2, h3]
  have hl := run_loadVar_row (P := Tryd.prog) W rb 24 24 #[a0, a1, a2, a3, a4, a5] (0, 0) d hb hd (by cases d <;> exact hs) sizeB
  simp [asAddr, hl]
set_option maxHeartbeats 2000000 in
set_option maxRecDepth 100000 in
theorem rdecode (s : ByteArray) (w : World) (hs : s.size ≤ 281474976710656) :
    Calls Tryd.prog 22 #[.string s] w fun e w' => Below w.heap.size w w' ∧ DecOut (decB s.data.toList) e w' := by
  obtain ⟨D, hD⟩ : ∃ D, decB s.data.toList = D := ⟨_, rfl⟩
  rw [hD]
  have HDEC := Lib.hid hD
  clear hD
  have hr0 := Blk.new w zeroB 24
  have hn0 := Blk.new (w.alloc (.cells zeroB 24)) zeroB 24
  have hc0 := Blk.new ((w.alloc (.cells zeroB 24)).alloc (.cells zeroB 24)) #[.string s, .int .i64 0, .bool false] 69
  have hn1 := hn0.below ((Below.refl _ _).alloc (Nat.le_refl _) (.cells #[.string s, .int .i64 0, .bool false] 69))
  have hr1 := (hr0.below ((Below.refl _ _).alloc (Nat.le_refl _) (.cells zeroB 24))).below ((Below.refl _ _).alloc (Nat.le_refl _) (.cells #[.string s, .int .i64 0, .bool false] 69))
  have hlow : Below w.heap.size w (((w.alloc (.cells zeroB 24)).alloc (.cells zeroB 24)).alloc (.cells #[.string s, .int .i64 0, .bool false] 69)) := (((Below.refl _ _).alloc (Nat.le_refl _) _).alloc (by simp) _).alloc (by simp; omega) _
  have es1 : (w.alloc (.cells zeroB 24)).heap.size = w.heap.size + 1 := by simp
  have es2 : ((w.alloc (.cells zeroB 24)).alloc (.cells zeroB 24)).heap.size = w.heap.size + 1 + 1 := by simp
  rw [es1] at hn1
  rw [es2] at hc0
  have hsz : (((w.alloc (.cells zeroB 24)).alloc (.cells zeroB 24)).alloc (.cells #[.string s, .int .i64 0, .bool false] 69)).heap.size = w.heap.size + 3 := by simp
  obtain ⟨W0, hW0⟩ : ∃ W0, ((w.alloc (.cells zeroB 24)).alloc (.cells zeroB 24)).alloc (.cells #[.string s, .int .i64 0, .bool false] 69) = W0 := ⟨_, rfl⟩
  rw [hW0] at hc0 hn1 hr1 hlow hsz
  have hrs : Rs (w.heap.size + 1 + 1) W0 s ⟨s.data.toList, false⟩ := ⟨0, Nat.zero_le _, rfl, hc0⟩
  have HRS := Lib.hid hrs
  have HN1 := Lib.hid hn1
  have HR1 := Lib.hid hr1
  have HLOW := Lib.hid hlow
  have HSZ := Lib.hid hsz
  have HWE := Lib.hid hW0
  clear hr0 hn0 hc0 hn1 hr1 hlow es1 es2 hsz hW0 hrs
  go_enter Tryd.func22, Tryd.ntmps22
  go_wp2_with fail
  have hwe := HWE.out
  unfold zeroB at hwe
  rw [hwe]
  refine (rf_open (w.heap.size + 1 + 1) s _ _ HRS.out hs).mono ?_
  rintro e w1 ⟨rfl, r1, k1⟩
  clear hwe
  -- BEHIND Open
  go_wp2_with fail
  have hb1 := Blk.new w1 zeroB 24
  have hnew : Below w1.heap.size w1 (w1.alloc (.cells zeroB 24)) := (Below.refl _ _).alloc (Nat.le_refl _) _
  have D1 : DS s w (w.heap.size + 1 + 1) w1.heap.size (w.heap.size + 1) w.heap.size (St.byte 108 ⟨s.data.toList, false⟩) zeroB (w1.alloc (.cells zeroB 24)) := by
    have h1 := k1.size
    have h2 := HSZ.out
    have h3 : w.heap.size + 3 ≤ w1.heap.size := by omega
    exact ⟨r1.same hnew, hb1, (HN1.out.kb k1 (by omega)).below hnew, (HR1.out.kb k1 (by omega)).below hnew, (HLOW.out.trans (k1.below (by omega) (by omega))).trans (hnew.mono (by omega)), by omega, by omega, by omega, by omega, by omega, by omega, by omega, by omega, by omega, by omega⟩
  obtain ⟨W1, hW1⟩ : ∃ W1, w1.alloc (.cells zeroB 24) = W1 := ⟨_, rfl⟩
  rw [hW1] at D1
  have HW1E := Lib.hid hW1
  obtain ⟨b, hbe⟩ : ∃ b, w1.heap.size = b := ⟨_, rfl⟩
  rw [hbe] at D1 ⊢
  have hwe := HW1E.out
  unfold zeroB at hwe
  rw [hwe]
  obtain ⟨u0, hu0⟩ : ∃ u, St.byte 108 ⟨s.data.toList, false⟩ = u := ⟨_, rfl⟩
  rw [hu0] at D1
  have HU0 := Lib.hid hu0
  have HCB : Hid (w.heap.size + 3 ≤ b) := by have h1 := k1.size; have h2 := HSZ.out; show _ ≤ b; omega
  have HD1 := Lib.hid D1
  clear hwe hW1 hbe hnew hb1 r1 k1 D1 hu0 HW1E HRS HN1 HR1 HLOW HSZ HWE
  obtain ⟨x0, u1, hx0⟩ : ∃ x u', St.int u0 = (x, u') := ⟨_, _, rfl⟩
  have R0 := rf_int (w.heap.size + 1 + 1) s u0 _ HD1.out.rd hs
  rw [hx0] at R0
  have HX0 := Lib.hid hx0
  refine R0.mono ?_
  clear R0 hx0
  rintro e v0 ⟨rfl, r0, k0⟩
  have HE0 := Lib.hid (HD1.out.call r0 k0)
  have g0 := HE0.out.bb.free (i := 0)
  have c0 := HE0.out.bb.cell (i := 0) rfl
  clear r0 k0 HD1
  go_wp2_with fail
  have HF0 : Hid (DS s w (w.heap.size + 1 + 1) b (w.heap.size + 1) w.heap.size u1 #[.int .i64 x0, .int .i64 0, .int .i64 0, .int .i64 0, .int .i64 0, .slice none 0 0] (v0.setCell ⟨b, 0, none⟩ (.int .i64 x0))) := HE0.out.store 0 (.int .i64 x0)
  clear g0 c0 HE0
  obtain ⟨x1, u2, hx1⟩ : ∃ x u', St.int u1 = (x, u') := ⟨_, _, rfl⟩
  have R1 := rf_int (w.heap.size + 1 + 1) s u1 _ HF0.out.rd hs
  rw [hx1] at R1
  have HX1 := Lib.hid hx1
  refine R1.mono ?_
  clear R1 hx1
  rintro e v1 ⟨rfl, r1, k1⟩
  have HE1 := Lib.hid (HF0.out.call r1 k1)
  have g1 := HE1.out.bb.free (i := 1)
  have c1 := HE1.out.bb.cell (i := 1) rfl
  clear r1 k1 HF0
  go_wp2_with fail
  have HF1 : Hid (DS s w (w.heap.size + 1 + 1) b (w.heap.size + 1) w.heap.size u2 #[.int .i64 x0, .int .i64 x1, .int .i64 0, .int .i64 0, .int .i64 0, .slice none 0 0] (v1.setCell ⟨b, 1, none⟩ (.int .i64 x1))) := HE1.out.store 1 (.int .i64 x1)
  clear g1 c1 HE1
  obtain ⟨x2, u3, hx2⟩ : ∃ x u', St.int u2 = (x, u') := ⟨_, _, rfl⟩
  have R2 := rf_int (w.heap.size + 1 + 1) s u2 _ HF1.out.rd hs
  rw [hx2] at R2
  have HX2 := Lib.hid hx2
  refine R2.mono ?_
  clear R2 hx2
  rintro e v2 ⟨rfl, r2, k2⟩
  have HE2 := Lib.hid (HF1.out.call r2 k2)
  have g2 := HE2.out.bb.free (i := 2)
  have c2 := HE2.out.bb.cell (i := 2) rfl
  clear r2 k2 HF1
  go_wp2_with fail
  have HF2 : Hid (DS s w (w.heap.size + 1 + 1) b (w.heap.size + 1) w.heap.size u3 #[.int .i64 x0, .int .i64 x1, .int .i64 x2, .int .i64 0, .int .i64 0, .slice none 0 0] (v2.setCell ⟨b, 2, none⟩ (.int .i64 x2))) := HE2.out.store 2 (.int .i64 x2)
  clear g2 c2 HE2
  obtain ⟨x3, u4, hx3⟩ : ∃ x u', St.int u3 = (x, u') := ⟨_, _, rfl⟩
  have R3 := rf_int (w.heap.size + 1 + 1) s u3 _ HF2.out.rd hs
  rw [hx3] at R3
  have HX3 := Lib.hid hx3
  refine R3.mono ?_
  clear R3 hx3
  rintro e v3 ⟨rfl, r3, k3⟩
  have HE3 := Lib.hid (HF2.out.call r3 k3)
  have g3 := HE3.out.bb.free (i := 3)
  have c3 := HE3.out.bb.cell (i := 3) rfl
  clear r3 k3 HF2
  go_wp2_with fail
  have HF3 : Hid (DS s w (w.heap.size + 1 + 1) b (w.heap.size + 1) w.heap.size u4 #[.int .i64 x0, .int .i64 x1, .int .i64 x2, .int .i64 x3, .int .i64 0, .slice none 0 0] (v3.setCell ⟨b, 3, none⟩ (.int .i64 x3))) := HE3.out.store 3 (.int .i64 x3)
  clear g3 c3 HE3
  obtain ⟨x4, u5, hx4⟩ : ∃ x u', St.int u4 = (x, u') := ⟨_, _, rfl⟩
  have R4 := rf_int (w.heap.size + 1 + 1) s u4 _ HF3.out.rd hs
  rw [hx4] at R4
  have HX4 := Lib.hid hx4
  refine R4.mono ?_
  clear R4 hx4
  rintro e v4 ⟨rfl, r4, k4⟩
  have HE4 := Lib.hid (HF3.out.call r4 k4)
  have g4 := HE4.out.bb.free (i := 4)
  have c4 := HE4.out.bb.cell (i := 4) rfl
  clear r4 k4 HF3
  go_wp2_with fail
  have HF4 : Hid (DS s w (w.heap.size + 1 + 1) b (w.heap.size + 1) w.heap.size u5 #[.int .i64 x0, .int .i64 x1, .int .i64 x2, .int .i64 x3, .int .i64 x4, .slice none 0 0] (v4.setCell ⟨b, 4, none⟩ (.int .i64 x4))) := HE4.out.store 4 (.int .i64 x4)
  clear g4 c4 HE4
  obtain ⟨R, hR⟩ : ∃ R, loopR 9 u5 [] = R := ⟨_, rfl⟩
  have HR := Lib.hid hR
  clear hR
  obtain ⟨W5, hW5⟩ : ∃ W5, v4.setCell ⟨b, 4, none⟩ (.int .i64 x4) = W5 := ⟨_, rfl⟩
  rw [hW5] at HF4 ⊢
  clear hW5
  go_loopw [8] (fun _ wr => Reads s w b x0 x1 x2 x3 x4 R wr) (fun _ wr => 9 - sliceLen (wr.cell? ⟨b, 5, none⟩))
  case atStart => exact ⟨u5, [], .slice none 0 0, by simp, HF4.out, World.ownsRow_nil _ _ _ _, HR.out⟩
  case round =>
    obtain ⟨u, acc, sv, hacc, hD, hown, hloop⟩ := hrel
    obtain ⟨a, cap, rfl⟩ : ∃ a cap, sv = .slice a acc.length cap := by
      rcases hown.2 with ⟨rfl, h⟩ | ⟨g, cap, cur, rfl, -⟩
      · exact ⟨none, 0, by rw [h]⟩
      · exact ⟨_, cap, rfl⟩
    have HD := Lib.hid hD
    have HO := Lib.hid hown
    have HL := Lib.hid hloop
    clear hD hown hloop
    have RM := rf_more (w.heap.size + 1 + 1) s u _ HD.out.rd hs
    cases hm : u.more with
    | false =>
      rw [hm] at RM
      have HM := Lib.hid hm
      clear hm
      have HOV := Lib.hid (loop_over HL.out (Or.inr HM.out))
      go_wp2_with fail
      refine RM.mono ?_
      clear RM
      rintro e y1 ⟨rfl, by1⟩
      have HE := Lib.hid (HD.out.below by1)
      have HO1 := Lib.hid (own_below HO.out by1)
      clear by1 HD HO
      go_wp2_with fail
      refine (rf_close (w.heap.size + 1 + 1) s u _ HE.out.rd hs).mono ?_
      rintro e y2 ⟨rfl, r2, k2⟩
      have HE2 := Lib.hid (HE.out.call r2 k2)
      have HO2 := Lib.hid (own_kb HO1.out k2 (by have := HCB.out; omega))
      clear r2 k2 HE HO1
      go_wp2_with fail
      refine (rf_done (w.heap.size + 1 + 1) s _ _ HE2.out.rd hs).mono ?_
      rintro e y3 ⟨rfl, by3⟩
      have HE3 := Lib.hid (HE2.out.below by3)
      have HO3 := Lib.hid (own_below HO2.out by3)
      clear by3 HE2 HO2
      obtain ⟨d, hd⟩ : ∃ d, (St.byte 101 u).done = d := ⟨_, rfl⟩
      rw [hd]
      have HDN := Lib.hid hd
      clear hd
      by_cases hd0 : d = 0
      · subst hd0
        have b0 := HE3.out.bb.cell (i := 0) rfl
        have b1 := HE3.out.bb.cell (i := 1) rfl
        have b2 := HE3.out.bb.cell (i := 2) rfl
        have b3 := HE3.out.bb.cell (i := 3) rfl
        have b4 := HE3.out.bb.cell (i := 4) rfl
        have b5 := HE3.out.bb.cell (i := 5) rfl
        go_wp2_with fail
        refine (rgood x0 x1 x2 x3 x4 acc _ _ (own_recs HO3.out) (by omega) (int_64' HX1.out) (int_64' HX0.out)).mono ?_
        rintro e y4 ⟨rfl, by4⟩
        have HE4 := Lib.hid (HE3.out.below by4)
        have HO4 := Lib.hid (own_below HO3.out by4)
        clear by4 b0 b1 b2 b3 b4 b5 HE3 HO3
        cases hgd : Pl.goodB ⟨x0, x1, x2, x3, x4, acc⟩ with
        | false =>
          have HGD := Lib.hid hgd
          clear hgd
          have n0 : World.cell? _ ⟨w.heap.size + 1, 0, none⟩ = some (.int .i64 0) := HE4.out.bn.cell (i := 0) rfl
          have n1 : World.cell? _ ⟨w.heap.size + 1, 1, none⟩ = some (.int .i64 0) := HE4.out.bn.cell (i := 1) rfl
          have n2 : World.cell? _ ⟨w.heap.size + 1, 2, none⟩ = some (.int .i64 0) := HE4.out.bn.cell (i := 2) rfl
          have n3 : World.cell? _ ⟨w.heap.size + 1, 3, none⟩ = some (.int .i64 0) := HE4.out.bn.cell (i := 3) rfl
          have n4 : World.cell? _ ⟨w.heap.size + 1, 4, none⟩ = some (.int .i64 0) := HE4.out.bn.cell (i := 4) rfl
          have n5 : World.cell? _ ⟨w.heap.size + 1, 5, none⟩ = some (.slice none 0 0) := HE4.out.bn.cell (i := 5) rfl
          have r0 : World.cell? _ ⟨w.heap.size, 0, none⟩ = some (.int .i64 0) := HE4.out.br.cell (i := 0) rfl
          have f0 := HE4.out.br.free (i := 0)
          have r1 : World.cell? _ ⟨w.heap.size, 1, none⟩ = some (.int .i64 0) := HE4.out.br.cell (i := 1) rfl
          have f1 := HE4.out.br.free (i := 1)
          have r2 : World.cell? _ ⟨w.heap.size, 2, none⟩ = some (.int .i64 0) := HE4.out.br.cell (i := 2) rfl
          have f2 := HE4.out.br.free (i := 2)
          have r3 : World.cell? _ ⟨w.heap.size, 3, none⟩ = some (.int .i64 0) := HE4.out.br.cell (i := 3) rfl
          have f3 := HE4.out.br.free (i := 3)
          have r4 : World.cell? _ ⟨w.heap.size, 4, none⟩ = some (.int .i64 0) := HE4.out.br.cell (i := 4) rfl
          have f4 := HE4.out.br.free (i := 4)
          have r5 : World.cell? _ ⟨w.heap.size, 5, none⟩ = some (.slice none 0 0) := HE4.out.br.cell (i := 5) rfl
          have f5 := HE4.out.br.free (i := 5)
          go_wp2_with fail
          refine bodyPost_ret (dec_ret (Blk.six (a0 := .int .i64 0) (a1 := .int .i64 0) (a2 := .int .i64 0) (a3 := .int .i64 0) (a4 := .int .i64 0) (a5 := .slice none 0 0) HE4.out.br (.int .i64 0) (.int .i64 0) (.int .i64 0) (.int .i64 0) (.int .i64 0) (.slice none 0 0)) rfl rfl) rfl ⟨((((((HE4.out.low.setCell (p := ⟨w.heap.size, 0, none⟩) (Nat.le_refl _) (.int .i64 0)).setCell (p := ⟨w.heap.size, 1, none⟩) (Nat.le_refl _) (.int .i64 0)).setCell (p := ⟨w.heap.size, 2, none⟩) (Nat.le_refl _) (.int .i64 0)).setCell (p := ⟨w.heap.size, 3, none⟩) (Nat.le_refl _) (.int .i64 0)).setCell (p := ⟨w.heap.size, 4, none⟩) (Nat.le_refl _) (.int .i64 0)).setCell (p := ⟨w.heap.size, 5, none⟩) (Nat.le_refl _) (.slice none 0 0)), ?_⟩
          rw [show D = none from ?_]
          · rfl
          · rw [← HDEC.out, dec_of HU0.out HX0.out HX1.out HX2.out HX3.out HX4.out, HR.out, HOV.out]
            exact if_neg (fun h => by rw [HGD.out] at h; exact absurd h.2 (by decide))
        | true =>
          have HGD := Lib.hid hgd
          clear hgd
          have b0 := HE4.out.bb.cell (i := 0) rfl
          have b1 := HE4.out.bb.cell (i := 1) rfl
          have b2 := HE4.out.bb.cell (i := 2) rfl
          have b3 := HE4.out.bb.cell (i := 3) rfl
          have b4 := HE4.out.bb.cell (i := 4) rfl
          have b5 := HE4.out.bb.cell (i := 5) rfl
          have r0 : World.cell? _ ⟨w.heap.size, 0, none⟩ = some (.int .i64 0) := HE4.out.br.cell (i := 0) rfl
          have f0 := HE4.out.br.free (i := 0)
          have r1 : World.cell? _ ⟨w.heap.size, 1, none⟩ = some (.int .i64 0) := HE4.out.br.cell (i := 1) rfl
          have f1 := HE4.out.br.free (i := 1)
          have r2 : World.cell? _ ⟨w.heap.size, 2, none⟩ = some (.int .i64 0) := HE4.out.br.cell (i := 2) rfl
          have f2 := HE4.out.br.free (i := 2)
          have r3 : World.cell? _ ⟨w.heap.size, 3, none⟩ = some (.int .i64 0) := HE4.out.br.cell (i := 3) rfl
          have f3 := HE4.out.br.free (i := 3)
          have r4 : World.cell? _ ⟨w.heap.size, 4, none⟩ = some (.int .i64 0) := HE4.out.br.cell (i := 4) rfl
          have f4 := HE4.out.br.free (i := 4)
          have r5 : World.cell? _ ⟨w.heap.size, 5, none⟩ = some (.slice none 0 0) := HE4.out.br.cell (i := 5) rfl
          have f5 := HE4.out.br.free (i := 5)
          go_wp2_with fail
          refine bodyPost_ret (dec_ret (Blk.six (a0 := .int .i64 0) (a1 := .int .i64 0) (a2 := .int .i64 0) (a3 := .int .i64 0) (a4 := .int .i64 0) (a5 := .slice none 0 0) HE4.out.br (.int .i64 x0) (.int .i64 x1) (.int .i64 x2) (.int .i64 x3) (.int .i64 x4) (.slice a acc.length cap)) rfl rfl) rfl ⟨((((((HE4.out.low.setCell (p := ⟨w.heap.size, 0, none⟩) (Nat.le_refl _) (.int .i64 x0)).setCell (p := ⟨w.heap.size, 1, none⟩) (Nat.le_refl _) (.int .i64 x1)).setCell (p := ⟨w.heap.size, 2, none⟩) (Nat.le_refl _) (.int .i64 x2)).setCell (p := ⟨w.heap.size, 3, none⟩) (Nat.le_refl _) (.int .i64 x3)).setCell (p := ⟨w.heap.size, 4, none⟩) (Nat.le_refl _) (.int .i64 x4)).setCell (p := ⟨w.heap.size, 5, none⟩) (Nat.le_refl _) (.slice a acc.length cap)), ?_⟩
          rw [show D = some ⟨x0, x1, x2, x3, x4, acc⟩ from ?_]
          · exact ⟨.slice a acc.length cap, own_recs (own_kb (own_kb (own_kb (own_kb (own_kb (own_kb HO4.out (Kb.setCell _ _) (by have := HCB.out; omega)) (Kb.setCell _ _) (by have := HCB.out; omega)) (Kb.setCell _ _) (by have := HCB.out; omega)) (Kb.setCell _ _) (by have := HCB.out; omega)) (Kb.setCell _ _) (by have := HCB.out; omega)) (Kb.setCell _ _) (by have := HCB.out; omega)), rfl⟩
          · rw [← HDEC.out, dec_of HU0.out HX0.out HX1.out HX2.out HX3.out HX4.out, HR.out, HOV.out]
            exact if_pos ⟨HDN.out, HGD.out⟩
      · have hdn : (d == 0) = false := beq_eq_false_iff_ne.2 hd0
        have n0 : World.cell? _ ⟨w.heap.size + 1, 0, none⟩ = some (.int .i64 0) := HE3.out.bn.cell (i := 0) rfl
        have n1 : World.cell? _ ⟨w.heap.size + 1, 1, none⟩ = some (.int .i64 0) := HE3.out.bn.cell (i := 1) rfl
        have n2 : World.cell? _ ⟨w.heap.size + 1, 2, none⟩ = some (.int .i64 0) := HE3.out.bn.cell (i := 2) rfl
        have n3 : World.cell? _ ⟨w.heap.size + 1, 3, none⟩ = some (.int .i64 0) := HE3.out.bn.cell (i := 3) rfl
        have n4 : World.cell? _ ⟨w.heap.size + 1, 4, none⟩ = some (.int .i64 0) := HE3.out.bn.cell (i := 4) rfl
        have n5 : World.cell? _ ⟨w.heap.size + 1, 5, none⟩ = some (.slice none 0 0) := HE3.out.bn.cell (i := 5) rfl
        have r0 : World.cell? _ ⟨w.heap.size, 0, none⟩ = some (.int .i64 0) := HE3.out.br.cell (i := 0) rfl
        have f0 := HE3.out.br.free (i := 0)
        have r1 : World.cell? _ ⟨w.heap.size, 1, none⟩ = some (.int .i64 0) := HE3.out.br.cell (i := 1) rfl
        have f1 := HE3.out.br.free (i := 1)
        have r2 : World.cell? _ ⟨w.heap.size, 2, none⟩ = some (.int .i64 0) := HE3.out.br.cell (i := 2) rfl
        have f2 := HE3.out.br.free (i := 2)
        have r3 : World.cell? _ ⟨w.heap.size, 3, none⟩ = some (.int .i64 0) := HE3.out.br.cell (i := 3) rfl
        have f3 := HE3.out.br.free (i := 3)
        have r4 : World.cell? _ ⟨w.heap.size, 4, none⟩ = some (.int .i64 0) := HE3.out.br.cell (i := 4) rfl
        have f4 := HE3.out.br.free (i := 4)
        have r5 : World.cell? _ ⟨w.heap.size, 5, none⟩ = some (.slice none 0 0) := HE3.out.br.cell (i := 5) rfl
        have f5 := HE3.out.br.free (i := 5)
        go_wp2_with fail
        refine bodyPost_ret (dec_ret (Blk.six (a0 := .int .i64 0) (a1 := .int .i64 0) (a2 := .int .i64 0) (a3 := .int .i64 0) (a4 := .int .i64 0) (a5 := .slice none 0 0) HE3.out.br (.int .i64 0) (.int .i64 0) (.int .i64 0) (.int .i64 0) (.int .i64 0) (.slice none 0 0)) rfl rfl) rfl ⟨((((((HE3.out.low.setCell (p := ⟨w.heap.size, 0, none⟩) (Nat.le_refl _) (.int .i64 0)).setCell (p := ⟨w.heap.size, 1, none⟩) (Nat.le_refl _) (.int .i64 0)).setCell (p := ⟨w.heap.size, 2, none⟩) (Nat.le_refl _) (.int .i64 0)).setCell (p := ⟨w.heap.size, 3, none⟩) (Nat.le_refl _) (.int .i64 0)).setCell (p := ⟨w.heap.size, 4, none⟩) (Nat.le_refl _) (.int .i64 0)).setCell (p := ⟨w.heap.size, 5, none⟩) (Nat.le_refl _) (.slice none 0 0)), ?_⟩
        rw [show D = none from ?_]
        · rfl
        · rw [← HDEC.out, dec_of HU0.out HX0.out HX1.out HX2.out HX3.out HX4.out, HR.out, HOV.out]
          exact if_neg (fun h => hd0 (HDN.out.symm.trans h.1))
    | true =>
      rw [hm] at RM
      have HM := Lib.hid hm
      clear hm
      by_cases h9 : acc.length < 9
      · go_wp2_with fail
        refine RM.mono ?_
        clear RM
        rintro e y1 ⟨rfl, by1⟩
        have HE := Lib.hid (HD.out.below by1)
        have HO1 := Lib.hid (own_below HO.out by1)
        have c5 := HE.out.bb.cell (i := 5) rfl
        clear by1
        go_wp2_with fail
        refine (rf_open (w.heap.size + 1 + 1) s u _ HE.out.rd hs).mono ?_
        rintro e y2 ⟨rfl, r2, k2⟩
        have HE2 := Lib.hid (HE.out.call r2 k2)
        have HO2 := Lib.hid (own_kb HO1.out k2 (by have := HCB.out; omega))
        clear c5 r2 k2 HE HO1
        go_wp2_with fail
        have hxb := Blk.new y2 zeroR 41
        have hnew : Below y2.heap.size y2 (y2.alloc (.cells zeroR 41)) := (Below.refl _ _).alloc (Nat.le_refl _) _
        have E3 := HE2.out.below hnew
        have O3 := own_below HO2.out hnew
        have HNX := Lib.hid (fun k hk => (HO2.out.lt k hk).2)
        have HXL : Hid (w.heap.size + 3 ≤ y2.heap.size ∧ b < y2.heap.size) := by
          have h1 := HE2.out.bb.lt
          have h2 := HCB.out
          show _ ∧ _
          omega
        obtain ⟨Y3, hY3⟩ : ∃ Y3, y2.alloc (.cells zeroR 41) = Y3 := ⟨_, rfl⟩
        rw [hY3] at hxb E3 O3
        have HYE := Lib.hid hY3
        obtain ⟨xb, hxe⟩ : ∃ xb, y2.heap.size = xb := ⟨_, rfl⟩
        rw [hxe] at hxb HNX HXL ⊢
        have hye := HYE.out
        unfold zeroR at hye
        rw [hye]
        obtain ⟨q0, hq0⟩ : ∃ q, St.byte 108 u = q := ⟨_, rfl⟩
        rw [hq0] at E3
        have HQ0 := Lib.hid hq0
        have HE3 := Lib.hid E3
        have HO3 := Lib.hid O3
        have HB3 := Lib.hid hxb
        clear hye hY3 hxe hnew hxb E3 O3 hq0 HYE HE2 HO2
        obtain ⟨o, q1, ho⟩ : ∃ x u', St.int q0 = (x, u') := ⟨_, _, rfl⟩
        have C0 := rf_int (w.heap.size + 1 + 1) s q0 _ HE3.out.rd hs
        rw [ho] at C0
        have Ho := Lib.hid ho
        refine C0.mono ?_
        clear C0 ho
        rintro e z0 ⟨rfl, zr0, zk0⟩
        have HP0 := Lib.hid (HE3.out.call zr0 zk0)
        have HS0 := Lib.hid (own_kb HO3.out zk0 (by have := HCB.out; omega))
        have HT0 := Lib.hid (HB3.out.kb zk0 (by have := HXL.out; omega))
        clear zr0 zk0 HE3 HO3 HB3
        have zc0 := HT0.out.cell (i := 0) rfl
        have zf0 := HT0.out.free (i := 0)
        go_wp2_with fail
        have HP0' : Hid (DS s w (w.heap.size + 1 + 1) b (w.heap.size + 1) w.heap.size q1 #[.int .i64 x0, .int .i64 x1, .int .i64 x2, .int .i64 x3, .int .i64 x4, .slice a acc.length cap] (z0.setCell ⟨xb, 0, none⟩ (.int .i64 o))) := HP0.out.aside (Kb.setCell _ _) (by have := HXL.out; omega) (by have := HXL.out; omega) (by have := HXL.out; omega) (by have := HXL.out; omega) (by have := HXL.out; omega)
        have HS0' : Hid ((z0.setCell ⟨xb, 0, none⟩ (.int .i64 o)).ownsRow (b + 1) 41 4 (.slice a acc.length cap) acc.length (acc.flatMap cells4)) := own_kb2 HS0.out (Kb.setCell _ _) (fun k hk => Nat.ne_of_lt (HNX.out k hk))
        have HT0' : Hid (Blk (z0.setCell ⟨xb, 0, none⟩ (.int .i64 o)) xb #[.int .i64 o, .string ⟨#[]⟩, .string ⟨#[]⟩, .bool false] 41) := HT0.out.set _
        clear zc0 zf0 HP0 HS0 HT0
        obtain ⟨ky, q2, hky⟩ : ∃ x u', St.text 16 q1 = (x, u') := ⟨_, _, rfl⟩
        have C1 := rf_text (w.heap.size + 1 + 1) s q1 16 (by decide) _ HP0'.out.rd hs
        rw [hky] at C1
        have Hky := Lib.hid hky
        refine C1.mono ?_
        clear C1 hky
        rintro e z1 ⟨rfl, zr1, zk1⟩
        have HP1 := Lib.hid (HP0'.out.call zr1 zk1)
        have HS1 := Lib.hid (own_kb HS0'.out zk1 (by have := HCB.out; omega))
        have HT1 := Lib.hid (HT0'.out.kb zk1 (by have := HXL.out; omega))
        clear zr1 zk1 HP0' HS0' HT0'
        have zc1 := HT1.out.cell (i := 1) rfl
        have zf1 := HT1.out.free (i := 1)
        go_wp2_with fail
        have HP1' : Hid (DS s w (w.heap.size + 1 + 1) b (w.heap.size + 1) w.heap.size q2 #[.int .i64 x0, .int .i64 x1, .int .i64 x2, .int .i64 x3, .int .i64 x4, .slice a acc.length cap] (z1.setCell ⟨xb, 1, none⟩ (.string ⟨ky.toArray⟩))) := HP1.out.aside (Kb.setCell _ _) (by have := HXL.out; omega) (by have := HXL.out; omega) (by have := HXL.out; omega) (by have := HXL.out; omega) (by have := HXL.out; omega)
        have HS1' : Hid ((z1.setCell ⟨xb, 1, none⟩ (.string ⟨ky.toArray⟩)).ownsRow (b + 1) 41 4 (.slice a acc.length cap) acc.length (acc.flatMap cells4)) := own_kb2 HS1.out (Kb.setCell _ _) (fun k hk => Nat.ne_of_lt (HNX.out k hk))
        have HT1' : Hid (Blk (z1.setCell ⟨xb, 1, none⟩ (.string ⟨ky.toArray⟩)) xb #[.int .i64 o, .string ⟨ky.toArray⟩, .string ⟨#[]⟩, .bool false] 41) := HT1.out.set _
        clear zc1 zf1 HP1 HS1 HT1
        obtain ⟨vl, q3, hvl⟩ : ∃ x u', St.text 64 q2 = (x, u') := ⟨_, _, rfl⟩
        have C2 := rf_text (w.heap.size + 1 + 1) s q2 64 (by decide) _ HP1'.out.rd hs
        rw [hvl] at C2
        have Hvl := Lib.hid hvl
        refine C2.mono ?_
        clear C2 hvl
        rintro e z2 ⟨rfl, zr2, zk2⟩
        have HP2 := Lib.hid (HP1'.out.call zr2 zk2)
        have HS2 := Lib.hid (own_kb HS1'.out zk2 (by have := HCB.out; omega))
        have HT2 := Lib.hid (HT1'.out.kb zk2 (by have := HXL.out; omega))
        clear zr2 zk2 HP1' HS1' HT1'
        have zc2 := HT2.out.cell (i := 2) rfl
        have zf2 := HT2.out.free (i := 2)
        go_wp2_with fail
        have HP2' : Hid (DS s w (w.heap.size + 1 + 1) b (w.heap.size + 1) w.heap.size q3 #[.int .i64 x0, .int .i64 x1, .int .i64 x2, .int .i64 x3, .int .i64 x4, .slice a acc.length cap] (z2.setCell ⟨xb, 2, none⟩ (.string ⟨vl.toArray⟩))) := HP2.out.aside (Kb.setCell _ _) (by have := HXL.out; omega) (by have := HXL.out; omega) (by have := HXL.out; omega) (by have := HXL.out; omega) (by have := HXL.out; omega)
        have HS2' : Hid ((z2.setCell ⟨xb, 2, none⟩ (.string ⟨vl.toArray⟩)).ownsRow (b + 1) 41 4 (.slice a acc.length cap) acc.length (acc.flatMap cells4)) := own_kb2 HS2.out (Kb.setCell _ _) (fun k hk => Nat.ne_of_lt (HNX.out k hk))
        have HT2' : Hid (Blk (z2.setCell ⟨xb, 2, none⟩ (.string ⟨vl.toArray⟩)) xb #[.int .i64 o, .string ⟨ky.toArray⟩, .string ⟨vl.toArray⟩, .bool false] 41) := HT2.out.set _
        clear zc2 zf2 HP2 HS2 HT2
        obtain ⟨g, q4, hg⟩ : ∃ x u', St.int q3 = (x, u') := ⟨_, _, rfl⟩
        have C3 := rf_int (w.heap.size + 1 + 1) s q3 _ HP2'.out.rd hs
        rw [hg] at C3
        have Hg := Lib.hid hg
        refine C3.mono ?_
        clear C3 hg
        rintro e z3 ⟨rfl, zr3, zk3⟩
        have HP3 := Lib.hid (HP2'.out.call zr3 zk3)
        have HS3 := Lib.hid (own_kb HS2'.out zk3 (by have := HCB.out; omega))
        have HT3 := Lib.hid (HT2'.out.kb zk3 (by have := HXL.out; omega))
        clear zr3 zk3 HP2' HS2' HT2'
        go_wp2_with fail
        refine (rf_close (w.heap.size + 1 + 1) s q4 _ HP3.out.rd hs).mono ?_
        rintro e z4 ⟨rfl, zr4, zk4⟩
        have HP4 := Lib.hid (HP3.out.call zr4 zk4)
        have HS4 := Lib.hid (own_kb HS3.out zk4 (by have := HCB.out; omega))
        have HT4 := Lib.hid (HT3.out.kb zk4 (by have := HXL.out; omega))
        have zc4 := HT4.out.cell (i := 3) rfl
        have zf4 := HT4.out.free (i := 3)
        clear zr4 zk4 HP3 HS3 HT3
        have HP9 := Lib.hid (HP4.out.aside (x := xb) (Kb.setCell z4 (.bool (g == 1)) (o := 3)) (by have := HXL.out; omega) (by have := HXL.out; omega) (by have := HXL.out; omega) (by have := HXL.out; omega) (by have := HXL.out; omega))
        have HS9 := Lib.hid (own_kb2 HS4.out (Kb.setCell (b := xb) (o := 3) z4 (.bool (g == 1))) (fun k hk => Nat.ne_of_lt (HNX.out k hk)))
        have HT9 : Hid (Blk (z4.setCell ⟨xb, 3, none⟩ (.bool (g == 1))) xb #[.int .i64 o, .string ⟨ky.toArray⟩, .string ⟨vl.toArray⟩, .bool (g == 1)] 41) := HT4.out.set (i := 3) (.bool (g == 1))
        obtain ⟨Y9, hY9⟩ : ∃ Y, z4.setCell ⟨xb, 3, none⟩ (.bool (g == 1)) = Y := ⟨_, rfl⟩
        rw [hY9] at HP9 HS9 HT9
        clear HP4 HS4 HT4
        by_cases hg0 : g < 0
        · have n0 : World.cell? _ ⟨w.heap.size + 1, 0, none⟩ = some (.int .i64 0) := HP9.out.bn.cell (i := 0) rfl
          have n1 : World.cell? _ ⟨w.heap.size + 1, 1, none⟩ = some (.int .i64 0) := HP9.out.bn.cell (i := 1) rfl
          have n2 : World.cell? _ ⟨w.heap.size + 1, 2, none⟩ = some (.int .i64 0) := HP9.out.bn.cell (i := 2) rfl
          have n3 : World.cell? _ ⟨w.heap.size + 1, 3, none⟩ = some (.int .i64 0) := HP9.out.bn.cell (i := 3) rfl
          have n4 : World.cell? _ ⟨w.heap.size + 1, 4, none⟩ = some (.int .i64 0) := HP9.out.bn.cell (i := 4) rfl
          have n5 : World.cell? _ ⟨w.heap.size + 1, 5, none⟩ = some (.slice none 0 0) := HP9.out.bn.cell (i := 5) rfl
          have r0 : World.cell? _ ⟨w.heap.size, 0, none⟩ = some (.int .i64 0) := HP9.out.br.cell (i := 0) rfl
          have f0 := HP9.out.br.free (i := 0)
          have r1 : World.cell? _ ⟨w.heap.size, 1, none⟩ = some (.int .i64 0) := HP9.out.br.cell (i := 1) rfl
          have f1 := HP9.out.br.free (i := 1)
          have r2 : World.cell? _ ⟨w.heap.size, 2, none⟩ = some (.int .i64 0) := HP9.out.br.cell (i := 2) rfl
          have f2 := HP9.out.br.free (i := 2)
          have r3 : World.cell? _ ⟨w.heap.size, 3, none⟩ = some (.int .i64 0) := HP9.out.br.cell (i := 3) rfl
          have f3 := HP9.out.br.free (i := 3)
          have r4 : World.cell? _ ⟨w.heap.size, 4, none⟩ = some (.int .i64 0) := HP9.out.br.cell (i := 4) rfl
          have f4 := HP9.out.br.free (i := 4)
          have r5 : World.cell? _ ⟨w.heap.size, 5, none⟩ = some (.slice none 0 0) := HP9.out.br.cell (i := 5) rfl
          have f5 := HP9.out.br.free (i := 5)
          go_wp2_with fail
          refine bodyPost_ret (dec_ret (Blk.six (a0 := .int .i64 0) (a1 := .int .i64 0) (a2 := .int .i64 0) (a3 := .int .i64 0) (a4 := .int .i64 0) (a5 := .slice none 0 0) HP9.out.br (.int .i64 0) (.int .i64 0) (.int .i64 0) (.int .i64 0) (.int .i64 0) (.slice none 0 0)) rfl rfl) rfl ⟨((((((HP9.out.low.setCell (p := ⟨w.heap.size, 0, none⟩) (Nat.le_refl _) (.int .i64 0)).setCell (p := ⟨w.heap.size, 1, none⟩) (Nat.le_refl _) (.int .i64 0)).setCell (p := ⟨w.heap.size, 2, none⟩) (Nat.le_refl _) (.int .i64 0)).setCell (p := ⟨w.heap.size, 3, none⟩) (Nat.le_refl _) (.int .i64 0)).setCell (p := ⟨w.heap.size, 4, none⟩) (Nat.le_refl _) (.int .i64 0)).setCell (p := ⟨w.heap.size, 5, none⟩) (Nat.le_refl _) (.slice none 0 0)), ?_⟩
          rw [show D = none from ?_]
          · rfl
          · rw [← HDEC.out, dec_of HU0.out HX0.out HX1.out HX2.out HX3.out HX4.out, HR.out, ← show none = R from ?_]
            have h1 := loop_step HL.out h9 HM.out (rdR_of HQ0.out Ho.out Hky.out Hvl.out Hg.out)
            rw [if_pos (by omega)] at h1
            exact h1
        · by_cases hg1 : 1 < g
          · have n0 : World.cell? _ ⟨w.heap.size + 1, 0, none⟩ = some (.int .i64 0) := HP9.out.bn.cell (i := 0) rfl
            have n1 : World.cell? _ ⟨w.heap.size + 1, 1, none⟩ = some (.int .i64 0) := HP9.out.bn.cell (i := 1) rfl
            have n2 : World.cell? _ ⟨w.heap.size + 1, 2, none⟩ = some (.int .i64 0) := HP9.out.bn.cell (i := 2) rfl
            have n3 : World.cell? _ ⟨w.heap.size + 1, 3, none⟩ = some (.int .i64 0) := HP9.out.bn.cell (i := 3) rfl
            have n4 : World.cell? _ ⟨w.heap.size + 1, 4, none⟩ = some (.int .i64 0) := HP9.out.bn.cell (i := 4) rfl
            have n5 : World.cell? _ ⟨w.heap.size + 1, 5, none⟩ = some (.slice none 0 0) := HP9.out.bn.cell (i := 5) rfl
            have r0 : World.cell? _ ⟨w.heap.size, 0, none⟩ = some (.int .i64 0) := HP9.out.br.cell (i := 0) rfl
            have f0 := HP9.out.br.free (i := 0)
            have r1 : World.cell? _ ⟨w.heap.size, 1, none⟩ = some (.int .i64 0) := HP9.out.br.cell (i := 1) rfl
            have f1 := HP9.out.br.free (i := 1)
            have r2 : World.cell? _ ⟨w.heap.size, 2, none⟩ = some (.int .i64 0) := HP9.out.br.cell (i := 2) rfl
            have f2 := HP9.out.br.free (i := 2)
            have r3 : World.cell? _ ⟨w.heap.size, 3, none⟩ = some (.int .i64 0) := HP9.out.br.cell (i := 3) rfl
            have f3 := HP9.out.br.free (i := 3)
            have r4 : World.cell? _ ⟨w.heap.size, 4, none⟩ = some (.int .i64 0) := HP9.out.br.cell (i := 4) rfl
            have f4 := HP9.out.br.free (i := 4)
            have r5 : World.cell? _ ⟨w.heap.size, 5, none⟩ = some (.slice none 0 0) := HP9.out.br.cell (i := 5) rfl
            have f5 := HP9.out.br.free (i := 5)
            go_wp2_with fail
            refine bodyPost_ret (dec_ret (Blk.six (a0 := .int .i64 0) (a1 := .int .i64 0) (a2 := .int .i64 0) (a3 := .int .i64 0) (a4 := .int .i64 0) (a5 := .slice none 0 0) HP9.out.br (.int .i64 0) (.int .i64 0) (.int .i64 0) (.int .i64 0) (.int .i64 0) (.slice none 0 0)) rfl rfl) rfl ⟨((((((HP9.out.low.setCell (p := ⟨w.heap.size, 0, none⟩) (Nat.le_refl _) (.int .i64 0)).setCell (p := ⟨w.heap.size, 1, none⟩) (Nat.le_refl _) (.int .i64 0)).setCell (p := ⟨w.heap.size, 2, none⟩) (Nat.le_refl _) (.int .i64 0)).setCell (p := ⟨w.heap.size, 3, none⟩) (Nat.le_refl _) (.int .i64 0)).setCell (p := ⟨w.heap.size, 4, none⟩) (Nat.le_refl _) (.int .i64 0)).setCell (p := ⟨w.heap.size, 5, none⟩) (Nat.le_refl _) (.slice none 0 0)), ?_⟩
            rw [show D = none from ?_]
            · rfl
            · rw [← HDEC.out, dec_of HU0.out HX0.out HX1.out HX2.out HX3.out HX4.out, HR.out, ← show none = R from ?_]
              have h1 := loop_step HL.out h9 HM.out (rdR_of HQ0.out Ho.out Hky.out Hvl.out Hg.out)
              rw [if_pos (by omega)] at h1
              exact h1
          · have t0 := HT9.out.cell (i := 0) rfl
            have t1 := HT9.out.cell (i := 1) rfl
            have t2 := HT9.out.cell (i := 2) rfl
            have t3 := HT9.out.cell (i := 3) rfl
            have t5 := HP9.out.bb.cell (i := 5) rfl
            have tf := HP9.out.bb.free (i := 5)
            obtain ⟨i0, hi, hz0, hz1, hz2⟩ := infoRec
            go_wp2_with (at_builtin; refine wpList_append_own _ rfl _ _ 22 rfl (b + 1) 41 i0 (.agg zeroR) 4 48 Tryd.underlying22 hi hz0 hz1 hz2 rfl (by decide) _ _ _ rfl (HS9.out.alloc _) ⟨Y9.heap.size, 0, none⟩ 1 1 [.int .i64 o, .string ⟨ky.toArray⟩, .string ⟨vl.toArray⟩, .bool (g == 1)] rfl rfl ?c1 ?c2 ?c3 ?c4 ?c5 ?_)
            case c1 =>
              intro j u hj
              have hbk := Blk.new Y9 #[.int .i64 o, .string ⟨ky.toArray⟩, .string ⟨vl.toArray⟩, .bool (g == 1)] 41
              match j, hj with
              | 0, hj => obtain rfl := Option.some.inj hj; exact hbk.cell (i := 0) rfl
              | 1, hj => obtain rfl := Option.some.inj hj; exact hbk.cell (i := 1) rfl
              | 2, hj => obtain rfl := Option.some.inj hj; exact hbk.cell (i := 2) rfl
              | 3, hj => obtain rfl := Option.some.inj hj; exact hbk.cell (i := 3) rfl
              | j + 4, hj => simp at hj
            case c2 =>
              intro u hu
              simp only [List.mem_cons, List.not_mem_nil, or_false] at hu
              rcases hu with rfl | rfl | rfl | rfl <;> rfl
            case c3 => unfold maxLen; omega
            case c4 => omega
            case c5 => have := HP9.out.bb.lt; simp; omega
            intro v' w9 hown9 hgrow9 _
            have hal : Below Y9.heap.size Y9 (Y9.alloc (.cells #[.int .i64 o, .string ⟨ky.toArray⟩, .string ⟨vl.toArray⟩, .bool (g == 1)] 41)) := (Below.refl _ _).alloc (Nat.le_refl _) _
            have HPA := Lib.hid ((HP9.out.below hal).grown hgrow9 (fun k hk => (HS9.out.lt k hk).1) HCB.out (by have := HCB.out; omega) (by have := HCB.out; omega) (by have := HCB.out; omega))
            obtain ⟨a', cap', rfl⟩ : ∃ a' cap', v' = .slice a' (acc.length + 1) cap' := by
              rcases hown9.2 with ⟨rfl, h⟩ | ⟨g', cap', cur, rfl, -⟩
              · exact absurd h (by omega)
              · exact ⟨_, cap', rfl⟩
            have HSA := Lib.hid hown9
            have s5 := HPA.out.bb.cell (i := 5) rfl
            have sf := HPA.out.bb.free (i := 5)
            clear hown9 hgrow9 hal t0 t1 t2 t3 t5 tf
            go_wp2_with fail
            go_roundw
            case rel =>
              refine ⟨St.byte 101 q4, acc ++ [⟨o, ky, vl, g == 1⟩], .slice a' (acc.length + 1) cap', by simp; omega, HPA.out.store 5 _, ?_, ?_⟩
              · have e1 : (acc ++ [(⟨o, ky, vl, g == 1⟩ : Pl.Rc)]).length = acc.length + 1 := by simp
                have e2 : (acc ++ [(⟨o, ky, vl, g == 1⟩ : Pl.Rc)]).flatMap cells4 = acc.flatMap cells4 ++ [.int .i64 o, .string ⟨ky.toArray⟩, .string ⟨vl.toArray⟩, .bool (g == 1)] := by simp [cells4]
                rw [e1, e2]
                exact own_kb HSA.out (Kb.setCell _ _) (Nat.lt_succ_self _)
              · have h1 := loop_step HL.out h9 HM.out (rdR_of HQ0.out Ho.out Hky.out Hvl.out Hg.out)
                rw [if_neg (by omega)] at h1
                rw [show (acc ++ [(⟨o, ky, vl, g == 1⟩ : Pl.Rc)]).length = acc.length + 1 by simp]
                exact h1
            case measure =>
              rw [(HPA.out.store 5 (.slice a' (acc.length + 1) cap')).bb.cell (i := 5) rfl, HD.out.bb.cell (i := 5) rfl]
              show 9 - (acc.length + 1) < 9 - acc.length
              omega
      · have HOV := Lib.hid (loop_over HL.out (Or.inl h9))
        go_wp2_with fail
        refine RM.mono ?_
        clear RM
        rintro e y1 ⟨rfl, by1⟩
        have HE := Lib.hid (HD.out.below by1)
        have HO1 := Lib.hid (own_below HO.out by1)
        clear by1 HD HO
        have c5 := HE.out.bb.cell (i := 5) rfl
        have h9' : decide ((acc.length : Int) < 9) = false := decide_eq_false (by omega)
        go_wp2_with fail
        refine (rf_close (w.heap.size + 1 + 1) s u _ HE.out.rd hs).mono ?_
        rintro e y2 ⟨rfl, r2, k2⟩
        have HE2 := Lib.hid (HE.out.call r2 k2)
        have HO2 := Lib.hid (own_kb HO1.out k2 (by have := HCB.out; omega))
        clear r2 k2 HE HO1
        go_wp2_with fail
        refine (rf_done (w.heap.size + 1 + 1) s _ _ HE2.out.rd hs).mono ?_
        rintro e y3 ⟨rfl, by3⟩
        have HE3 := Lib.hid (HE2.out.below by3)
        have HO3 := Lib.hid (own_below HO2.out by3)
        clear by3 HE2 HO2
        obtain ⟨d, hd⟩ : ∃ d, (St.byte 101 u).done = d := ⟨_, rfl⟩
        rw [hd]
        have HDN := Lib.hid hd
        clear hd
        by_cases hd0 : d = 0
        · subst hd0
          have b0 := HE3.out.bb.cell (i := 0) rfl
          have b1 := HE3.out.bb.cell (i := 1) rfl
          have b2 := HE3.out.bb.cell (i := 2) rfl
          have b3 := HE3.out.bb.cell (i := 3) rfl
          have b4 := HE3.out.bb.cell (i := 4) rfl
          have b5 := HE3.out.bb.cell (i := 5) rfl
          go_wp2_with fail
          refine (rgood x0 x1 x2 x3 x4 acc _ _ (own_recs HO3.out) (by omega) (int_64' HX1.out) (int_64' HX0.out)).mono ?_
          rintro e y4 ⟨rfl, by4⟩
          have HE4 := Lib.hid (HE3.out.below by4)
          have HO4 := Lib.hid (own_below HO3.out by4)
          clear by4 b0 b1 b2 b3 b4 b5 HE3 HO3
          cases hgd : Pl.goodB ⟨x0, x1, x2, x3, x4, acc⟩ with
          | false =>
            have HGD := Lib.hid hgd
            clear hgd
            have n0 : World.cell? _ ⟨w.heap.size + 1, 0, none⟩ = some (.int .i64 0) := HE4.out.bn.cell (i := 0) rfl
            have n1 : World.cell? _ ⟨w.heap.size + 1, 1, none⟩ = some (.int .i64 0) := HE4.out.bn.cell (i := 1) rfl
            have n2 : World.cell? _ ⟨w.heap.size + 1, 2, none⟩ = some (.int .i64 0) := HE4.out.bn.cell (i := 2) rfl
            have n3 : World.cell? _ ⟨w.heap.size + 1, 3, none⟩ = some (.int .i64 0) := HE4.out.bn.cell (i := 3) rfl
            have n4 : World.cell? _ ⟨w.heap.size + 1, 4, none⟩ = some (.int .i64 0) := HE4.out.bn.cell (i := 4) rfl
            have n5 : World.cell? _ ⟨w.heap.size + 1, 5, none⟩ = some (.slice none 0 0) := HE4.out.bn.cell (i := 5) rfl
            have r0 : World.cell? _ ⟨w.heap.size, 0, none⟩ = some (.int .i64 0) := HE4.out.br.cell (i := 0) rfl
            have f0 := HE4.out.br.free (i := 0)
            have r1 : World.cell? _ ⟨w.heap.size, 1, none⟩ = some (.int .i64 0) := HE4.out.br.cell (i := 1) rfl
            have f1 := HE4.out.br.free (i := 1)
            have r2 : World.cell? _ ⟨w.heap.size, 2, none⟩ = some (.int .i64 0) := HE4.out.br.cell (i := 2) rfl
            have f2 := HE4.out.br.free (i := 2)
            have r3 : World.cell? _ ⟨w.heap.size, 3, none⟩ = some (.int .i64 0) := HE4.out.br.cell (i := 3) rfl
            have f3 := HE4.out.br.free (i := 3)
            have r4 : World.cell? _ ⟨w.heap.size, 4, none⟩ = some (.int .i64 0) := HE4.out.br.cell (i := 4) rfl
            have f4 := HE4.out.br.free (i := 4)
            have r5 : World.cell? _ ⟨w.heap.size, 5, none⟩ = some (.slice none 0 0) := HE4.out.br.cell (i := 5) rfl
            have f5 := HE4.out.br.free (i := 5)
            go_wp2_with fail
            refine bodyPost_ret (dec_ret (Blk.six (a0 := .int .i64 0) (a1 := .int .i64 0) (a2 := .int .i64 0) (a3 := .int .i64 0) (a4 := .int .i64 0) (a5 := .slice none 0 0) HE4.out.br (.int .i64 0) (.int .i64 0) (.int .i64 0) (.int .i64 0) (.int .i64 0) (.slice none 0 0)) rfl rfl) rfl ⟨((((((HE4.out.low.setCell (p := ⟨w.heap.size, 0, none⟩) (Nat.le_refl _) (.int .i64 0)).setCell (p := ⟨w.heap.size, 1, none⟩) (Nat.le_refl _) (.int .i64 0)).setCell (p := ⟨w.heap.size, 2, none⟩) (Nat.le_refl _) (.int .i64 0)).setCell (p := ⟨w.heap.size, 3, none⟩) (Nat.le_refl _) (.int .i64 0)).setCell (p := ⟨w.heap.size, 4, none⟩) (Nat.le_refl _) (.int .i64 0)).setCell (p := ⟨w.heap.size, 5, none⟩) (Nat.le_refl _) (.slice none 0 0)), ?_⟩
            rw [show D = none from ?_]
            · rfl
            · rw [← HDEC.out, dec_of HU0.out HX0.out HX1.out HX2.out HX3.out HX4.out, HR.out, HOV.out]
              exact if_neg (fun h => by rw [HGD.out] at h; exact absurd h.2 (by decide))
          | true =>
            have HGD := Lib.hid hgd
            clear hgd
            have b0 := HE4.out.bb.cell (i := 0) rfl
            have b1 := HE4.out.bb.cell (i := 1) rfl
            have b2 := HE4.out.bb.cell (i := 2) rfl
            have b3 := HE4.out.bb.cell (i := 3) rfl
            have b4 := HE4.out.bb.cell (i := 4) rfl
            have b5 := HE4.out.bb.cell (i := 5) rfl
            have r0 : World.cell? _ ⟨w.heap.size, 0, none⟩ = some (.int .i64 0) := HE4.out.br.cell (i := 0) rfl
            have f0 := HE4.out.br.free (i := 0)
            have r1 : World.cell? _ ⟨w.heap.size, 1, none⟩ = some (.int .i64 0) := HE4.out.br.cell (i := 1) rfl
            have f1 := HE4.out.br.free (i := 1)
            have r2 : World.cell? _ ⟨w.heap.size, 2, none⟩ = some (.int .i64 0) := HE4.out.br.cell (i := 2) rfl
            have f2 := HE4.out.br.free (i := 2)
            have r3 : World.cell? _ ⟨w.heap.size, 3, none⟩ = some (.int .i64 0) := HE4.out.br.cell (i := 3) rfl
            have f3 := HE4.out.br.free (i := 3)
            have r4 : World.cell? _ ⟨w.heap.size, 4, none⟩ = some (.int .i64 0) := HE4.out.br.cell (i := 4) rfl
            have f4 := HE4.out.br.free (i := 4)
            have r5 : World.cell? _ ⟨w.heap.size, 5, none⟩ = some (.slice none 0 0) := HE4.out.br.cell (i := 5) rfl
            have f5 := HE4.out.br.free (i := 5)
            go_wp2_with fail
            refine bodyPost_ret (dec_ret (Blk.six (a0 := .int .i64 0) (a1 := .int .i64 0) (a2 := .int .i64 0) (a3 := .int .i64 0) (a4 := .int .i64 0) (a5 := .slice none 0 0) HE4.out.br (.int .i64 x0) (.int .i64 x1) (.int .i64 x2) (.int .i64 x3) (.int .i64 x4) (.slice a acc.length cap)) rfl rfl) rfl ⟨((((((HE4.out.low.setCell (p := ⟨w.heap.size, 0, none⟩) (Nat.le_refl _) (.int .i64 x0)).setCell (p := ⟨w.heap.size, 1, none⟩) (Nat.le_refl _) (.int .i64 x1)).setCell (p := ⟨w.heap.size, 2, none⟩) (Nat.le_refl _) (.int .i64 x2)).setCell (p := ⟨w.heap.size, 3, none⟩) (Nat.le_refl _) (.int .i64 x3)).setCell (p := ⟨w.heap.size, 4, none⟩) (Nat.le_refl _) (.int .i64 x4)).setCell (p := ⟨w.heap.size, 5, none⟩) (Nat.le_refl _) (.slice a acc.length cap)), ?_⟩
            rw [show D = some ⟨x0, x1, x2, x3, x4, acc⟩ from ?_]
            · exact ⟨.slice a acc.length cap, own_recs (own_kb (own_kb (own_kb (own_kb (own_kb (own_kb HO4.out (Kb.setCell _ _) (by have := HCB.out; omega)) (Kb.setCell _ _) (by have := HCB.out; omega)) (Kb.setCell _ _) (by have := HCB.out; omega)) (Kb.setCell _ _) (by have := HCB.out; omega)) (Kb.setCell _ _) (by have := HCB.out; omega)) (Kb.setCell _ _) (by have := HCB.out; omega)), rfl⟩
            · rw [← HDEC.out, dec_of HU0.out HX0.out HX1.out HX2.out HX3.out HX4.out, HR.out, HOV.out]
              exact if_pos ⟨HDN.out, HGD.out⟩
        · have hdn : (d == 0) = false := beq_eq_false_iff_ne.2 hd0
          have n0 : World.cell? _ ⟨w.heap.size + 1, 0, none⟩ = some (.int .i64 0) := HE3.out.bn.cell (i := 0) rfl
          have n1 : World.cell? _ ⟨w.heap.size + 1, 1, none⟩ = some (.int .i64 0) := HE3.out.bn.cell (i := 1) rfl
          have n2 : World.cell? _ ⟨w.heap.size + 1, 2, none⟩ = some (.int .i64 0) := HE3.out.bn.cell (i := 2) rfl
          have n3 : World.cell? _ ⟨w.heap.size + 1, 3, none⟩ = some (.int .i64 0) := HE3.out.bn.cell (i := 3) rfl
          have n4 : World.cell? _ ⟨w.heap.size + 1, 4, none⟩ = some (.int .i64 0) := HE3.out.bn.cell (i := 4) rfl
          have n5 : World.cell? _ ⟨w.heap.size + 1, 5, none⟩ = some (.slice none 0 0) := HE3.out.bn.cell (i := 5) rfl
          have r0 : World.cell? _ ⟨w.heap.size, 0, none⟩ = some (.int .i64 0) := HE3.out.br.cell (i := 0) rfl
          have f0 := HE3.out.br.free (i := 0)
          have r1 : World.cell? _ ⟨w.heap.size, 1, none⟩ = some (.int .i64 0) := HE3.out.br.cell (i := 1) rfl
          have f1 := HE3.out.br.free (i := 1)
          have r2 : World.cell? _ ⟨w.heap.size, 2, none⟩ = some (.int .i64 0) := HE3.out.br.cell (i := 2) rfl
          have f2 := HE3.out.br.free (i := 2)
          have r3 : World.cell? _ ⟨w.heap.size, 3, none⟩ = some (.int .i64 0) := HE3.out.br.cell (i := 3) rfl
          have f3 := HE3.out.br.free (i := 3)
          have r4 : World.cell? _ ⟨w.heap.size, 4, none⟩ = some (.int .i64 0) := HE3.out.br.cell (i := 4) rfl
          have f4 := HE3.out.br.free (i := 4)
          have r5 : World.cell? _ ⟨w.heap.size, 5, none⟩ = some (.slice none 0 0) := HE3.out.br.cell (i := 5) rfl
          have f5 := HE3.out.br.free (i := 5)
          go_wp2_with fail
          refine bodyPost_ret (dec_ret (Blk.six (a0 := .int .i64 0) (a1 := .int .i64 0) (a2 := .int .i64 0) (a3 := .int .i64 0) (a4 := .int .i64 0) (a5 := .slice none 0 0) HE3.out.br (.int .i64 0) (.int .i64 0) (.int .i64 0) (.int .i64 0) (.int .i64 0) (.slice none 0 0)) rfl rfl) rfl ⟨((((((HE3.out.low.setCell (p := ⟨w.heap.size, 0, none⟩) (Nat.le_refl _) (.int .i64 0)).setCell (p := ⟨w.heap.size, 1, none⟩) (Nat.le_refl _) (.int .i64 0)).setCell (p := ⟨w.heap.size, 2, none⟩) (Nat.le_refl _) (.int .i64 0)).setCell (p := ⟨w.heap.size, 3, none⟩) (Nat.le_refl _) (.int .i64 0)).setCell (p := ⟨w.heap.size, 4, none⟩) (Nat.le_refl _) (.int .i64 0)).setCell (p := ⟨w.heap.size, 5, none⟩) (Nat.le_refl _) (.slice none 0 0)), ?_⟩
          rw [show D = none from ?_]
          · rfl
          · rw [← HDEC.out, dec_of HU0.out HX0.out HX1.out HX2.out HX3.out HX4.out, HR.out, HOV.out]
            exact if_neg (fun h => hd0 (HDN.out.symm.trans h.1))
