/- THE CONTRACT OF lose. -/
import Derived.Test.YtmkinnheoejphaaGreatDoorPnO
namespace Go.Proofs.YtmkinnheoejphaaGreatDoor
open Go.RowKit

/-- What a plan's places do not hold is as it was. -/
structure Mut (z : Nat) (lab : Lab) (w w' : World) : Prop where
  os : w'.os = w.os
  tape : w'.tape = w.tape
  output : w'.output = w.output
  size : w.heap.size ≤ w'.heap.size
  block : ∀ b, b < w.heap.size → (z ≤ b → lab b ≠ .ps ∧ ∀ k, lab b ≠ .ch k) → w'.heap[b]? = w.heap[b]?
theorem Mut.refl (z : Nat) (lab : Lab) (w : World) : Mut z lab w w := ⟨rfl, rfl, rfl, Nat.le_refl _, fun _ _ _ => rfl⟩
theorem Mut.trans {z : Nat} {lab lab' : Lab} {w w1 w2 : World} (h : Mut z lab w w1) (k : Mut z lab' w1 w2) (hl : ∀ b, b < w.heap.size → lab' b = lab b) : Mut z lab w w2 :=
  ⟨k.os.trans h.os, k.tape.trans h.tape, k.output.trans h.output, Nat.le_trans h.size k.size, fun b hb hn => (k.block b (Nat.lt_of_lt_of_le hb h.size) (fun hz => by rw [hl b hb]; exact hn hz)).trans (h.block b hb hn)⟩
theorem Mut.low {z : Nat} {lab : Lab} {w w' : World} (h : Mut z lab w w') (hz : z ≤ w.heap.size) : Below z w w' := ⟨h.os, h.tape, h.output, h.size, fun b hb => h.block b (Nat.lt_of_lt_of_le hb hz) (fun e => absurd e (Nat.not_le_of_lt hb))⟩
theorem Mut.of_below {z : Nat} {lab : Lab} {w w' : World} (h : Below w.heap.size w w') : Mut z lab w w' := ⟨h.os, h.tape, h.output, h.size, fun b hb _ => h.block b hb⟩
theorem Mut.of_grown {z : Nat} {lab : Lab} {w w' : World} {r : Option Nat} (h : w.grownBy w' r) (hr : ∀ b, r = some b → z ≤ b ∧ (lab b = .ps ∨ ∃ k, lab b = .ch k)) : Mut z lab w w' :=
  ⟨h.os, h.tape, h.output, h.size, fun b hb hn => h.block b hb (fun e => by
    obtain ⟨h1, h2⟩ := hr b e.symm
    obtain ⟨n1, n2⟩ := hn h1
    rcases h2 with h2 | ⟨k, h2⟩
    · exact n1 h2
    · exact n2 k h2)⟩
theorem PsE.put2 {z : Nat} {lab : Lab} {w : World} {g p n cap k : Nat} {F : List PE} {e : PE} (h : PsE z lab w (.slice (some ⟨g, p, none⟩) n cap) (some g) F) (hn : F.length = n) (he : F[k]? = some e) (m : Int) :
    PsE z lab (w.setCell ⟨g, p + k * 3 + 2, none⟩ (.int .i64 m)) (.slice (some ⟨g, p, none⟩) n cap) (some g) (F.set k ⟨⟨e.x.ep, e.x.ch, m⟩, e.cv⟩) := by
  subst hn
  have hkl := (List.getElem?_eq_some_iff.1 he).1
  have hk : Kb g w (w.setCell ⟨g, p + k * 3 + 2, none⟩ (.int .i64 m)) := Kb.setCell _ _
  have r3 := Sl.set h.1.1 (j := k * 3 + 2) (by omega) (.int .i64 m)
  rw [flat_put2 he m] at r3
  simp only [← Nat.add_assoc] at r3
  refine ⟨⟨by rw [List.length_set]; exact r3, h.1.2⟩, h.2.1, fun j x hx => ?_⟩
  have hch : ∀ (c : PE), F[j]? = some c → ChO z lab (w.setCell ⟨g, p + k * 3 + 2, none⟩ (.int .i64 m)) j c.cv c.x.ch := fun c hc =>
    (h.2.2 j c hc).keep fun b hl _ hb => ⟨hk.block b hl (fun e => by subst e; rw [h.2.1 b rfl] at hb; cases hb), hb⟩
  rw [List.getElem?_set] at hx
  split at hx
  · rename_i hij
    subst hij
    simp only [Option.some.injEq] at hx
    subst hx
    exact hch e he
  · exact hch x hx
/-- A place's chain is another. -/
theorem PsE.chain {z : Nat} {lab : Lab} {w w1 : World} {g p n cap k : Nat} {F : List PE} {e : PE} {cb cb' : Option Nat} {cv : Value} {l : List Int} (h : PsE z lab w (.slice (some ⟨g, p, none⟩) n cap) (some g) F) (hn : F.length = n) (he : F[k]? = some e)
    (hcb : ∀ b, cb = some b → lab b = .ch k ∧ z ≤ b ∧ b < w.heap.size) (hg : w.grownBy w1 cb) (hch : NsO z w1 cv cb' l) (hcb' : ∀ b, cb' = some b → cb = some b ∨ w.heap.size ≤ b) :
    w1.cell? ⟨g, p + k * 3 + 1, none⟩ = some e.cv ∧ w1.frozen? ⟨g, p + k * 3 + 1, none⟩ = false ∧
    PsE z (relab lab w.heap.size (.ch k)) (w1.setCell ⟨g, p + k * 3 + 1, none⟩ cv) (.slice (some ⟨g, p, none⟩) n cap) (some g) (F.set k ⟨⟨e.x.ep, l, e.x.le⟩, cv⟩) ∧ Mut z lab w (w1.setCell ⟨g, p + k * 3 + 1, none⟩ cv) := by
  subst hn
  have hkl := (List.getElem?_eq_some_iff.1 he).1
  have hgl := h.1.lt g rfl
  have hgn := h.2.1 g rfl
  have row1 := h.1.grown hg (fun b e1 e2 => by cases e1; rw [(hcb g e2).1] at hgn; cases hgn)
  obtain ⟨c0, c1, c2⟩ := pe_cells he
  have hk : Kb g w1 (w1.setCell ⟨g, p + k * 3 + 1, none⟩ cv) := Kb.setCell _ _
  have r3 := Sl.set row1.1 (j := k * 3 + 1) (by omega) cv
  rw [flat_put1 he l cv] at r3
  simp only [← Nat.add_assoc] at r3
  have m1 : Mut z lab w w1 := Mut.of_grown hg fun b e => ⟨(hcb b e).2.1, .inr ⟨k, (hcb b e).1⟩⟩
  have m2 : Mut z lab w1 (w1.setCell ⟨g, p + k * 3 + 1, none⟩ cv) := Mut.of_grown (grow_set _ _ _ _) fun b e => by cases e; exact ⟨hgl.1, .inl hgn⟩
  refine ⟨Sl.cell row1.1 rfl _ _ c1, Sl.frozen row1.1 rfl _, ?_, m1.trans m2 fun _ _ => rfl⟩
  exact PsE.mut (e' := ⟨⟨e.x.ep, l, e.x.le⟩, cv⟩) h he (fun b e => ⟨(hcb b e).1, (hcb b e).2.2⟩) hg (Nat.le_trans hgl.1 (Nat.le_of_lt hgl.2)) hch hcb' hk ⟨r3, h.1.2⟩
def LosOut (w : World) (z : Nat) (lab : Lab) (v : Value) (gb : Option Nat) (E : List PE) (k : Nat) (n : Int) (x : Pn.Pt) (e : Ending) (w' : World) : Prop :=
  e = .returned (.bool (Pn.loseB n x)) ∧ Mut z lab w w' ∧ ∃ lab' F, (∀ b, b < w.heap.size → lab' b = lab b) ∧ PsE z lab' w' v gb F ∧ F.map PE.x = (E.map PE.x).set k (Pn.lose n x)
set_option maxHeartbeats 4000000 in
set_option maxRecDepth 100000 in
theorem lose_any {z : Nat} {lab : Lab} {g p m cap k : Nat} {E : List PE} {x : PE} (n : Int) (w : World) (h : PsE z lab w (.slice (some ⟨g, p, none⟩) m cap) (some g) E) (hm : E.length = m) (he : E[k]? = some x) (hl : x.x.ch.length ≤ 64) :
    Calls Tryz.prog 28 #[.pointer (some ⟨g, p + k * 3, none⟩), .int .i64 n] w fun e w' => LosOut w z lab (.slice (some ⟨g, p, none⟩) m cap) (some g) E k n x.x e w' := by
  obtain ⟨⟨xe, xc, xl⟩, cv⟩ := x
  have hgl := h.1.lt g rfl
  have hgn := h.2.1 g rfl
  obtain ⟨c0, c1, c2⟩ := pe_cells he
  simp only at c0 c1 c2 hl
  have d1 : w.cell? ⟨g, p + k * 3 + 1, none⟩ = some cv := Sl.cell h.1.1 rfl _ _ c1
  have d2 : w.cell? ⟨g, p + k * 3 + 2, none⟩ = some (.int .i64 xl) := Sl.cell h.1.1 rfl _ _ c2
  have f2 : w.frozen? ⟨g, p + k * 3 + 2, none⟩ = false := Sl.frozen h.1.1 rfl _
  have hch := h.2.2 k _ he
  simp only at hch
  have HIX := Lib.hid (index_any cv xc n w hch.ns hl)
  have hself : (E.map PE.x).set k ⟨xe, xc, xl⟩ = E.map PE.x := set_same (by rw [List.getElem?_map, he]; rfl)
  have HSELF := Lib.hid hself
  have HH := Lib.hid h
  have HM := Lib.hid hm
  have HE := Lib.hid he
  have HGL := Lib.hid hgl
  have HGN := Lib.hid hgn
  have HCH := Lib.hid hch
  obtain ⟨B, hB⟩ : ∃ B, xc.contains n = B := ⟨_, rfl⟩
  have HBB := Lib.hid hB
  obtain ⟨D, hD⟩ : ∃ D, Pn.ixI xc n = D := ⟨_, rfl⟩
  rw [hD] at HIX
  have HD : Hid (D = if B = true then (xc.idxOf n : Int) else -1) := Lib.hid (by rw [← hD, ← hB]; rfl)
  have HLB : Hid (Pn.loseB n ⟨xe, xc, xl⟩ = (xl == n || (B && decide (xc.length ≠ 1)))) := Lib.hid (by rw [← hB]; rfl)
  have HLO : Hid (Pn.lose n ⟨xe, xc, xl⟩ = if xl = n then ⟨xe, xc, 0⟩ else if B = true ∧ xc.length ≠ 1 then ⟨xe, Pn.wo xc n, xl⟩ else ⟨xe, xc, xl⟩) := Lib.hid (by rw [← hB]; rfl)
  clear h hm he hch hself hgl hgn c0 c1 c2 hB hD
  obtain ⟨ca, cc, hcv⟩ := HCH.out.ns.form
  subst hcv
  obtain ⟨N, hN⟩ : ∃ N, xc.length = N := ⟨_, rfl⟩
  have HN := Lib.hid hN
  rw [hN] at HLB HLO HIX d1 hl
  clear hN
  go_enter Tryz.func28, Tryz.ntmps28
  by_cases hx : xl = n
  · have HT : Hid (Pn.loseB n ⟨xe, xc, xl⟩ = true) := Lib.hid (by rw [HLB.out]; simp [hx])
    have HF : Hid (Pn.lose n ⟨xe, xc, xl⟩ = ⟨xe, xc, 0⟩) := Lib.hid (by rw [HLO.out, if_pos hx])
    subst hx
    go_wp2_with fail
    go_ret
    refine ⟨by rw [HT.out]; rfl, Mut.of_grown (grow_set _ _ _ _) fun b e => by cases e; exact ⟨HGL.out.1, .inl HGN.out⟩, lab, _, fun _ _ => rfl, HH.out.put2 HM.out HE.out 0, ?_⟩
    rw [List.map_set, HF.out]
  have hne : (xl == n) = false := by simp [hx]
  have HLB2 : Hid (Pn.loseB n ⟨xe, xc, xl⟩ = (B && decide (N ≠ 1))) := Lib.hid (by rw [HLB.out, hne]; rfl)
  have HLO2 : Hid (Pn.lose n ⟨xe, xc, xl⟩ = if B = true ∧ N ≠ 1 then ⟨xe, Pn.wo xc n, xl⟩ else ⟨xe, xc, xl⟩) := Lib.hid (by rw [HLO.out, if_neg hx])
  clear HLB HLO hx
  go_wp2_with fail
  refine HIX.out.mono ?_
  rintro e w1 ⟨rfl, rfl⟩
  clear HIX
  cases B with
  | false =>
    have hd : D = -1 := by have := HD.out; simpa using this
    have HT : Hid (Pn.loseB n ⟨xe, xc, xl⟩ = false) := Lib.hid (by rw [HLB2.out]; rfl)
    have HF : Hid (Pn.lose n ⟨xe, xc, xl⟩ = ⟨xe, xc, xl⟩) := Lib.hid (by rw [HLO2.out, if_neg (by simp)])
    subst hd
    go_wp2_with fail
    go_ret
    exact ⟨by rw [HT.out]; rfl, Mut.refl _ _ _, lab, E, fun _ _ => rfl, HH.out, by rw [HF.out, HSELF.out]⟩
  | true =>
    obtain ⟨i, hi⟩ : ∃ i, xc.idxOf n = i := ⟨_, rfl⟩
    have hd : D = (i : Int) := by have := HD.out; rw [hi] at this; simpa using this
    have HI := Lib.hid hi
    have hiN : i < N := by
      rw [← hi, ← HN.out]
      exact List.idxOf_lt_length_iff.2 (by have := HBB.out; simpa using this)
    subst hd
    clear hi HD
    have i0 : (0 : Int) ≤ (i : Int) := by omega
    have i1 : ¬ ((i : Int) < 0) := by omega
    by_cases h1 : N = 1
    · have HT : Hid (Pn.loseB n ⟨xe, xc, xl⟩ = false) := Lib.hid (by rw [HLB2.out]; simp [h1])
      have HF : Hid (Pn.lose n ⟨xe, xc, xl⟩ = ⟨xe, xc, xl⟩) := Lib.hid (by rw [HLO2.out, if_neg (by simp [h1])])
      subst h1
      go_wp2_with fail
      go_ret
      exact ⟨by rw [HT.out]; rfl, Mut.refl _ _ _, lab, E, fun _ _ => rfl, HH.out, by rw [HF.out, HSELF.out]⟩
    · have HT : Hid (Pn.loseB n ⟨xe, xc, xl⟩ = true) := Lib.hid (by rw [HLB2.out]; simp [h1])
      have HF : Hid (Pn.lose n ⟨xe, xc, xl⟩ = ⟨xe, Pn.wo xc n, xl⟩) := Lib.hid (by rw [HLO2.out, if_pos ⟨rfl, h1⟩])
      have hn1 : ((N : Int) == 1) = false := by simp; omega
      have hcase : ∃ c q, ca = some ⟨c, q, none⟩ ∧ N ≤ cc ∧ (lab c = .ch k ∧ z ≤ c ∧ c < w1.heap.size) ∧ Sl w1 (.slice (some ⟨c, q, none⟩) N cc) (some c) 3 1 N (xc.map (Value.int .i64)) := by
        obtain ⟨cb, hw, hlab⟩ := HCH.out
        obtain ⟨ao', cap', ev2, hle, hpos, -⟩ := Sl.make hw.1
        obtain ⟨c, q, hc1, hc2⟩ := hpos (by rw [HN.out]; omega)
        injection ev2 with e1 e2 e3
        rw [hc1] at e1
        subst e1 hc2 e3
        have := hw.lt c rfl
        refine ⟨c, q, rfl, by rw [← HN.out]; exact hle, ⟨hlab c rfl, this⟩, ?_⟩
        have h2 := hw.1
        rw [HN.out] at h2
        exact h2
      obtain ⟨c, q, rfl, hNc, hcl, hsl⟩ := hcase
      have hdl := delete_less (j := i + 1) hsl hNc i (by omega) (by omega) (by omega) (ns_one xc)
      rw [show ((i + 1 : Nat) : Int) = (i : Int) + 1 by omega, show N - (i + 1 - i) = N - 1 by omega, ← List.map_take, ← List.map_drop, ← List.map_append] at hdl
      have HDL := Lib.hid hdl
      have HCL := Lib.hid hcl
      clear hdl hsl hcl
      go_wp2_with fail
      refine HDL.out.mono ?_
      rintro e w2 ⟨rfl, hs2, hg2⟩
      have hwl : (Pn.wo xc n).length = N - 1 := by
        unfold Pn.wo
        rw [HI.out, List.length_append, List.length_take, List.length_drop, HN.out]
        omega
      have hns : NsO z w2 (.slice (some ⟨c, q, none⟩) (N - 1) cc) (some c) (Pn.wo xc n) := ⟨by
        rw [hwl]
        unfold Pn.wo
        rw [HI.out]
        exact hs2, fun b e => by cases e; exact HCL.out.2.1⟩
      obtain ⟨e1, e2, e3, e4⟩ := HH.out.chain HM.out HE.out (cb := some c) (fun b e => by cases e; exact HCL.out) hg2 hns (fun b e => .inl e)
      simp only at e1 e3
      have HFIN := Lib.hid e3
      have HMU := Lib.hid e4
      clear e3 e4 hns hs2 hg2 d1 d2 f2
      go_wp2_with fail
      go_ret
      refine ⟨by rw [HT.out]; rfl, HMU.out, _, _, fun b hb => relab_lt hb, HFIN.out, ?_⟩
      rw [List.map_set, HF.out]
end Go.Proofs.YtmkinnheoejphaaGreatDoor
