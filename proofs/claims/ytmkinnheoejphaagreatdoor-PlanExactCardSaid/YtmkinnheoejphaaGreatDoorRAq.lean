/- WHAT THE DOCUMENT's Apply KEEPS: its boxes, the plan's own memory, the list of what is turned. -/
import Derived.Test.YtmkinnheoejphaaGreatDoorPnS2
import Derived.Test.YtmkinnheoejphaaGreatDoorRPx
namespace Go.Proofs.YtmkinnheoejphaaGreatDoor
open Go.RowKit

/-- While the document's Apply goes on. lvB is what out's box has for the lives. -/
structure Aq (w : World) (b1 b2 b3 b4 z : Nat) (pc : Array Value) (x : Pn.Ev) (nodes copies : Int) (lab : Lab) (sv : Value) (g : Nat) (F : List PE) (lvB lv : Value) (gl : Option Nat) (q : List (Int × Int)) (tv : Value) (gt : Option Nat) (t : List Nat) (wx : World) : Prop where
  low : Below w.heap.size w wx
  lo : w.heap.size < b1 ∧ b1 < b2 ∧ b2 < b3 ∧ b3 < z ∧ z ≤ b4
  k0 : Blk wx w.heap.size pc 25
  k1 : Blk wx b1 (evC x) 27
  k2 : Blk wx b2 zeroC 25
  k3 : Blk wx b3 zeroC 25
  k4 : Blk wx b4 #[.int .i64 nodes, .int .i64 copies, sv, lvB] 25
  row : PsE z lab wx sv (some g) F
  lvs : Wz z wx lv gl 55 2 q.length (lcs q)
  ll : ∀ b, gl = some b → lab b = .lv
  tns : NsO z wx tv gt (Pn.nums t)
  tl : ∀ b, gt = some b → lab b = .no
  nb : lab b4 = .no
  ng : gt ≠ some b4
theorem pe_put3 {F : List PE} {k : Nat} (y : Pn.Pt) (cv : Value) (h : k < F.length) : (((F.flatMap PE.cells).set (k * 3) (.int .i64 y.ep)).set (k * 3 + 1) cv).set (k * 3 + 2) (.int .i64 y.le) = (F.set k ⟨y, cv⟩).flatMap PE.cells := flat_put F k ⟨y, cv⟩ h
/-- Three stores into a place. -/
def st3 (w : World) (g o : Nat) (y : Pn.Pt) (cv : Value) : World := ((w.setCell ⟨g, o, none⟩ (.int .i64 y.ep)).setCell ⟨g, o + 1, none⟩ cv).setCell ⟨g, o + 2, none⟩ (.int .i64 y.le)
theorem st3_kb (w : World) (g o : Nat) (y : Pn.Pt) (cv : Value) : Kb g w (st3 w g o y cv) := ((Kb.setCell w _).trans (Kb.setCell _ _)).trans (Kb.setCell _ _)
/-- A place is another: its chain's block may have grown before, or it is new. -/
theorem PsE.store3 {z : Nat} {lab : Lab} {w w1 : World} {g p n cap k : Nat} {F : List PE} {e : PE} {cb cb' : Option Nat} {cv : Value} {y : Pn.Pt} (h : PsE z lab w (.slice (some ⟨g, p, none⟩) n cap) (some g) F) (hn : F.length = n) (he : F[k]? = some e)
    (hcb : ∀ b, cb = some b → lab b = .ch k ∧ z ≤ b ∧ b < w.heap.size) (hg : w.grownBy w1 cb) (hch : NsO z w1 cv cb' y.ch) (hcb' : ∀ b, cb' = some b → (cb = some b ∨ lab b = .ch k ∧ b < w.heap.size) ∨ w.heap.size ≤ b) :
    PsE z (relab lab w.heap.size (.ch k)) (st3 w1 g (p + k * 3) y cv) (.slice (some ⟨g, p, none⟩) n cap) (some g) (F.set k ⟨y, cv⟩) ∧ Mut z lab w (st3 w1 g (p + k * 3) y cv) := by
  subst hn
  have hkl := (List.getElem?_eq_some_iff.1 he).1
  have hgl := h.1.lt g rfl
  have hgn := h.2.1 g rfl
  have hs1 := hg.size
  have row1 := h.1.grown hg (fun b e1 e2 => by cases e1; rw [(hcb g e2).1] at hgn; cases hgn)
  have hk := st3_kb w1 g (p + k * 3) y cv
  have r0 := Sl.set row1.1 (j := k * 3) (by omega) (.int .i64 y.ep)
  have r1 := Sl.set r0 (j := k * 3 + 1) (by omega) cv
  have r3 := Sl.set r1 (j := k * 3 + 2) (by omega) (.int .i64 y.le)
  rw [pe_put3 y cv hkl] at r3
  simp only [← Nat.add_assoc] at r3
  have m1 : Mut z lab w w1 := Mut.of_grown hg fun b e => ⟨(hcb b e).2.1, .inr ⟨k, (hcb b e).1⟩⟩
  have m2 : Mut z lab w1 (st3 w1 g (p + k * 3) y cv) := ⟨hk.os, hk.tape, hk.output, hk.size, fun b hb hnn => hk.block b hb (fun e2 => by subst e2; exact (hnn hgl.1).1 hgn)⟩
  refine ⟨⟨⟨by rw [List.length_set]; exact r3, h.1.2⟩, fun b hb => ?_, fun j x hx => ?_⟩, m1.trans m2 fun _ _ => rfl⟩
  · cases hb
    rw [relab_lt hgl.2]; exact hgn
  · rw [List.getElem?_set] at hx
    split at hx
    · rename_i hkj
      subst hkj
      injection hx with hx
      subst hx
      refine ⟨cb', Wz.kb hch hk (fun e2 => ?_), fun b hb => ?_⟩
      · rcases hcb' g e2 with (e3 | e3) | e3
        · rw [(hcb g e3).1] at hgn; cases hgn
        · rw [e3.1] at hgn; cases hgn
        · omega
      · rcases hcb' b hb with (e3 | e3) | e3
        · rw [relab_lt (hcb b e3).2.2]; exact (hcb b e3).1
        · rw [relab_lt e3.2]; exact e3.1
        · rw [relab_ge e3]
    · rename_i hkj
      refine (h.2.2 j x hx).keep fun b hl _ hb => ⟨?_, ?_⟩
      · rw [hk.block b (by omega) (fun e2 => by subst e2; rw [hb] at hgn; cases hgn), hg.block b hl (fun e2 => by rw [(hcb b e2.symm).1] at hb; injection hb with hb; exact hkj hb)]
      · rw [relab_lt hl]; exact hb
section
variable {w wx wy wB : World} {b1 b2 b3 b4 z g : Nat} {pc : Array Value} {x : Pn.Ev} {nodes copies : Int} {lab lab' : Lab} {sv lv lvB tv : Value} {F F' : List PE} {gl gt : Option Nat} {q : List (Int × Int)} {t : List Nat}
theorem Aq.zle (h : Aq w b1 b2 b3 b4 z pc x nodes copies lab sv g F lvB lv gl q tv gt t wx) : z ≤ wx.heap.size := by have := h.row.1.lt g rfl; omega
/-- The places are others. -/
theorem Aq.mut (h : Aq w b1 b2 b3 b4 z pc x nodes copies lab sv g F lvB lv gl q tv gt t wx) (m : Mut z lab wx wy) (hl : ∀ b, b < wx.heap.size → lab' b = lab b) (row : PsE z lab' wy sv (some g) F') : Aq w b1 b2 b3 b4 z pc x nodes copies lab' sv g F' lvB lv gl q tv gt t wy := by
  have hlo := h.lo
  have hz := h.zle
  refine ⟨h.low.trans ((m.low hz).mono (by omega)), h.lo, h.k0.mut m (by omega), h.k1.mut m (by omega), h.k2.mut m (by omega), h.k3.mut m (by omega), (m.block b4 h.k4.lt fun _ => by rw [h.nb]; exact ⟨(fun e => by cases e), fun k e => by cases e⟩).trans h.k4, row, ⟨h.lvs.1.same fun b e => m.block b (h.lvs.lt b e).2 fun _ => ?_, h.lvs.2⟩, fun b e => ?_, ⟨h.tns.1.same fun b e => m.block b (h.tns.lt b e).2 fun _ => ?_, h.tns.2⟩, fun b e => ?_, (hl b4 h.k4.lt).trans h.nb, h.ng⟩
  · rw [h.ll b e]
    exact ⟨(fun e => by cases e), fun k e => by cases e⟩
  · rw [hl b (h.lvs.lt b e).2]
    exact h.ll b e
  · rw [h.tl b e]
    exact ⟨(fun e => by cases e), fun k e => by cases e⟩
  · rw [hl b (h.tns.lt b e).2]
    exact h.tl b e
theorem Aq.below (h : Aq w b1 b2 b3 b4 z pc x nodes copies lab sv g F lvB lv gl q tv gt t wx) (m : Below wx.heap.size wx wy) : Aq w b1 b2 b3 b4 z pc x nodes copies lab sv g F lvB lv gl q tv gt t wy :=
  h.mut (Mut.of_below m) (fun _ _ => rfl) (h.row.keep fun b hl _ _ => ⟨m.block b hl, rfl⟩)
/-- Another block than the places' is other: the places stay. -/
theorem PsE.other {r : Option Nat} (h : PsE z lab wx sv (some g) F) (hg : wx.grownBy wy r) (hr : ∀ b, r = some b → lab b = .lv ∨ lab b = .no) (hl : ∀ b, b < wx.heap.size → lab' b = lab b) : PsE z lab' wy sv (some g) F :=
  h.keep fun b hlt _ hb => ⟨hg.block b hlt (fun e => by
    rcases hr b e.symm with h1 | h1 <;> rw [h1] at hb <;> rcases hb with hb | ⟨k, hb⟩ <;> cases hb), hl b hlt⟩
/-- The list of lives is another. -/
theorem Aq.lived {lv' : Value} {gl' : Option Nat} {q' : List (Int × Int)} (h : Aq w b1 b2 b3 b4 z pc x nodes copies lab sv g F lvB lv gl q tv gt t wx) (hB : Below wx.heap.size wx wB) (hg : wB.grownBy wy gl) (hw : Sl wy lv' gl' 55 2 q'.length (lcs q')) (hn : gl' = gl ∨ ∃ g, gl' = some g ∧ wB.heap.size ≤ g) :
    Aq w b1 b2 b3 b4 z pc x nodes copies (relab lab wx.heap.size .lv) sv g F lvB lv' gl' q' tv gt t wy := by
  have hlo := h.lo
  have hz := h.zle
  have hBs := hB.size
  have hg2 := grown_after hB hg
  have hgl := fun b (e : gl = some b) => h.lvs.lt b e
  have far : ∀ b, b < z → gl ≠ some b := fun b hb e => by have := hgl b e; omega
  refine ⟨Below.appended h.low hg2 (fun b e => by have := hgl b e; omega) h.low.size, h.lo, h.k0.grown hg2 (far _ (by omega)).symm, h.k1.grown hg2 (far _ (by omega)).symm, h.k2.grown hg2 (far _ (by omega)).symm, h.k3.grown hg2 (far _ (by omega)).symm, h.k4.grown hg2 (fun e => by have h1 := h.ll b4 e.symm; rw [h.nb] at h1; cases h1), h.row.other hg2 (fun b e => .inl (h.ll b e)) (fun b hb => relab_lt hb), ⟨hw, fun b e => ?_⟩, fun b e => ?_, ⟨h.tns.1.same fun b e => hg2.block b (h.tns.lt b e).2 (fun e2 => ?_), h.tns.2⟩, fun b e => ?_, (relab_lt h.k4.lt).trans h.nb, h.ng⟩
  · rcases hn with hn | ⟨g', hn, h4⟩
    · exact h.lvs.2 b (hn ▸ e)
    · rw [hn] at e; cases e; omega
  · rcases hn with hn | ⟨g', hn, h4⟩
    · rw [relab_lt (hgl b (hn ▸ e)).2]; exact h.ll b (hn ▸ e)
    · rw [hn] at e; cases e; exact relab_ge (by omega)
  · have h1 := h.tl b e
    rw [h.ll b e2.symm] at h1
    cases h1
  · rw [relab_lt (h.tns.lt b e).2]
    exact h.tl b e
/-- One more is turned. -/
theorem Aq.told {tv' : Value} {gt' : Option Nat} {t' : List Nat} (h : Aq w b1 b2 b3 b4 z pc x nodes copies lab sv g F lvB lv gl q tv gt t wx) (hB : Below wx.heap.size wx wB) (hg : wB.grownBy wy gt) (hw : Sl wy tv' gt' 3 1 (Pn.nums t').length ((Pn.nums t').map (Value.int .i64))) (hn : gt' = gt ∨ ∃ g, gt' = some g ∧ wB.heap.size ≤ g) :
    Aq w b1 b2 b3 b4 z pc x nodes copies (relab lab wx.heap.size .no) sv g F lvB lv gl q tv' gt' t' wy := by
  have hlo := h.lo
  have hz := h.zle
  have hBs := hB.size
  have hg2 := grown_after hB hg
  have hgl := fun b (e : gt = some b) => h.tns.lt b e
  have far : ∀ b, b < z → gt ≠ some b := fun b hb e => by have := hgl b e; omega
  refine ⟨Below.appended h.low hg2 (fun b e => by have := hgl b e; omega) h.low.size, h.lo, h.k0.grown hg2 (far _ (by omega)).symm, h.k1.grown hg2 (far _ (by omega)).symm, h.k2.grown hg2 (far _ (by omega)).symm, h.k3.grown hg2 (far _ (by omega)).symm, h.k4.grown hg2 (fun e => h.ng e.symm), h.row.other hg2 (fun b e => .inr (h.tl b e)) (fun b hb => relab_lt hb), ⟨h.lvs.1.same fun b e => hg2.block b (h.lvs.lt b e).2 (fun e2 => ?_), h.lvs.2⟩, fun b e => ?_, ⟨hw, fun b e => ?_⟩, fun b e => ?_, (relab_lt h.k4.lt).trans h.nb, fun e => ?_⟩
  · have h1 := h.ll b e
    rw [h.tl b e2.symm] at h1
    cases h1
  · rw [relab_lt (h.lvs.lt b e).2]
    exact h.ll b e
  · rcases hn with hn | ⟨g', hn, h4⟩
    · exact h.tns.2 b (hn ▸ e)
    · rw [hn] at e; cases e; omega
  · rcases hn with hn | ⟨g', hn, h4⟩
    · rw [relab_lt (hgl b (hn ▸ e)).2]; exact h.tl b (hn ▸ e)
    · rw [hn] at e; cases e; exact relab_ge (by omega)
  · have := h.k4.lt
    rcases hn with hn | ⟨g', hn, h4⟩
    · exact h.ng (hn ▸ e)
    · rw [hn] at e; cases e; omega
/-- Out's box is written. -/
theorem Aq.box4 (h : Aq w b1 b2 b3 b4 z pc x nodes copies lab sv g F lvB lv gl q tv gt t wx) (v : Value) : Aq w b1 b2 b3 b4 z pc x nodes copies lab sv g F v lv gl q tv gt t (wx.setCell ⟨b4, 3, none⟩ v) := by
  have hlo := h.lo
  have hk : Kb b4 wx (wx.setCell ⟨b4, 3, none⟩ v) := Kb.setCell _ _
  exact ⟨h.low.trans (hk.below (by omega) h.k4.lt), h.lo, h.k0.kb hk (by omega), h.k1.kb hk (by omega), h.k2.kb hk (by omega), h.k3.kb hk (by omega), h.k4.set (i := 3) v, h.row.keep fun b hl _ hr => ⟨hk.block b hl (fun e => by
    subst e
    rw [h.nb] at hr
    rcases hr with hr | ⟨k, hr⟩ <;> cases hr), rfl⟩, h.lvs.kb hk (fun e => by have h1 := h.ll _ e; rw [h.nb] at h1; cases h1), h.ll, Wz.kb h.tns hk h.ng, h.tl, h.nb, h.ng⟩
/-- A new epoch. -/
theorem Aq.rose {p n' cap' k : Nat} {e : PE} (m : Int) (h : Aq w b1 b2 b3 b4 z pc x nodes copies lab (.slice (some ⟨g, p, none⟩) n' cap') g F lvB lv gl q tv gt t wx) (hn : F.length = n') (he : F[k]? = some e) :
    (wx.cell? ⟨g, p + k * 3, none⟩ = some (.int .i64 e.x.ep) ∧ wx.frozen? ⟨g, p + k * 3, none⟩ = false) ∧
    Aq w b1 b2 b3 b4 z pc x nodes copies lab (.slice (some ⟨g, p, none⟩) n' cap') g (F.set k ⟨⟨m, e.x.ch, e.x.le⟩, e.cv⟩) lvB lv gl q tv gt t (wx.setCell ⟨g, p + k * 3, none⟩ (.int .i64 m)) := by
  have hgl := h.row.1.lt g rfl
  have hgn := h.row.2.1 g rfl
  obtain ⟨d0, d1, d2⟩ := pe_cells he
  exact ⟨⟨Sl.cell h.row.1.1 rfl _ _ d0, Sl.frozen h.row.1.1 rfl _⟩, h.mut (Mut.of_grown (grow_set _ _ _ _) fun b e2 => by cases e2; exact ⟨hgl.1, .inl hgn⟩) (fun _ _ => rfl) (h.row.put0 hn he m)⟩
/-- A learner. -/
theorem Aq.learn {p n' cap' k : Nat} {e : PE} (m : Int) (h : Aq w b1 b2 b3 b4 z pc x nodes copies lab (.slice (some ⟨g, p, none⟩) n' cap') g F lvB lv gl q tv gt t wx) (hn : F.length = n') (he : F[k]? = some e) :
    (wx.cell? ⟨g, p + k * 3 + 2, none⟩ = some (.int .i64 e.x.le) ∧ wx.frozen? ⟨g, p + k * 3 + 2, none⟩ = false) ∧
    Aq w b1 b2 b3 b4 z pc x nodes copies lab (.slice (some ⟨g, p, none⟩) n' cap') g (F.set k ⟨⟨e.x.ep, e.x.ch, m⟩, e.cv⟩) lvB lv gl q tv gt t (wx.setCell ⟨g, p + k * 3 + 2, none⟩ (.int .i64 m)) := by
  have hgl := h.row.1.lt g rfl
  have hgn := h.row.2.1 g rfl
  obtain ⟨d0, d1, d2⟩ := pe_cells he
  exact ⟨⟨Sl.cell h.row.1.1 rfl _ _ d2, Sl.frozen h.row.1.1 rfl _⟩, h.mut (Mut.of_grown (grow_set _ _ _ _) fun b e2 => by cases e2; exact ⟨hgl.1, .inl hgn⟩) (fun _ _ => rfl) (h.row.put2 hn he m)⟩
theorem Aq.learn2 {p n' cap' k : Nat} {e : PE} (m : Int) (h : Aq w b1 b2 b3 b4 z pc x nodes copies lab (.slice (some ⟨g, p, none⟩) n' cap') g F lvB lv gl q tv gt t wx) (hn : F.length = n') (he : F[k]? = some e) :
    (wx.cell? ⟨g, p + k * 3 + 2, none⟩ = some (.int .i64 e.x.le) ∧ wx.frozen? ⟨g, p + k * 3 + 2, none⟩ = false) ∧
    ∃ W, wx.setCell ⟨g, p + k * 3 + 2, none⟩ (.int .i64 m) = W ∧ Aq w b1 b2 b3 b4 z pc x nodes copies lab (.slice (some ⟨g, p, none⟩) n' cap') g (F.set k ⟨⟨e.x.ep, e.x.ch, m⟩, e.cv⟩) lvB lv gl q tv gt t W :=
  let h2 := h.learn m hn he
  ⟨h2.1, _, rfl, h2.2⟩
/-- A place's three cells. -/
theorem Aq.at3 {p n' cap' k : Nat} {e : PE} (h : Aq w b1 b2 b3 b4 z pc x nodes copies lab (.slice (some ⟨g, p, none⟩) n' cap') g F lvB lv gl q tv gt t wx) (he : F[k]? = some e) :
    wx.cell? ⟨g, p + k * 3, none⟩ = some (.int .i64 e.x.ep) ∧ wx.cell? ⟨g, p + k * 3 + 1, none⟩ = some e.cv ∧ wx.cell? ⟨g, p + k * 3 + 2, none⟩ = some (.int .i64 e.x.le) := by
  obtain ⟨d0, d1, d2⟩ := pe_cells he
  exact ⟨Sl.cell h.row.1.1 rfl _ _ d0, Sl.cell h.row.1.1 rfl _ _ d1, Sl.cell h.row.1.1 rfl _ _ d2⟩
theorem Aq.free {p n' cap' o : Nat} (h : Aq w b1 b2 b3 b4 z pc x nodes copies lab (.slice (some ⟨g, p, none⟩) n' cap') g F lvB lv gl q tv gt t wx) : wx.frozen? ⟨g, o, none⟩ = false := Sl.frozen h.row.1.1 rfl _
/-- A place is another. -/
theorem Aq.put3 {p n' cap' k : Nat} {e : PE} {cb cb' : Option Nat} {cv : Value} {y : Pn.Pt} (h : Aq w b1 b2 b3 b4 z pc x nodes copies lab (.slice (some ⟨g, p, none⟩) n' cap') g F lvB lv gl q tv gt t wx) (hn : F.length = n') (he : F[k]? = some e)
    (hcb : ∀ b, cb = some b → lab b = .ch k ∧ z ≤ b ∧ b < wx.heap.size) (hg : wx.grownBy wB cb) (hch : NsO z wB cv cb' y.ch) (hcb' : ∀ b, cb' = some b → (cb = some b ∨ lab b = .ch k ∧ b < wx.heap.size) ∨ wx.heap.size ≤ b) :
    Aq w b1 b2 b3 b4 z pc x nodes copies (relab lab wx.heap.size (.ch k)) (.slice (some ⟨g, p, none⟩) n' cap') g (F.set k ⟨y, cv⟩) lvB lv gl q tv gt t (st3 wB g (p + k * 3) y cv) := by
  obtain ⟨h1, h2⟩ := h.row.store3 hn he hcb hg hch hcb'
  exact h.mut h2 (fun b hb => relab_lt hb) h1
/-- A place more, and out's box knows it. -/
theorem Aq.push {v' cv : Value} {gb' cb : Option Nat} {y : Pn.Pt} {wA w' : World} (h : Aq w b1 b2 b3 b4 z pc x nodes copies lab sv g F lvB lv gl q tv gt t wx) (hA : Below wx.heap.size wx wA) (hc : NsO wx.heap.size wA cv cb y.ch) (hB : Below wA.heap.size wA wB)
    (h1 : Sl w' v' gb' 49 3 (F.length + 1) (F.flatMap PE.cells ++ PE.cells ⟨y, cv⟩)) (h2 : wB.grownBy w' (some g)) (h3 : gb' = some g ∨ ∃ g', gb' = some g' ∧ wB.heap.size ≤ g') :
    (w'.cell? ⟨b4, 2, none⟩ = some sv ∧ w'.frozen? ⟨b4, 2, none⟩ = false) ∧
    ∃ lab2 g2, Aq w b1 b2 b3 b4 z pc x nodes copies lab2 v' g2 (F ++ [⟨y, cv⟩]) lvB lv gl q tv gt t (w'.setCell ⟨b4, 2, none⟩ v') := by
  have hlo := h.lo
  have hz := h.zle
  have hAs := hA.size
  have hBs := hB.size
  have hgl := h.row.1.lt g rfl
  have hgn := h.row.2.1 g rfl
  have hAB : Below wx.heap.size wx wB := hA.trans (hB.mono hAs)
  have hg : wx.grownBy w' (some g) := grown_after hAB h2
  have hgs := hg.size
  have row := PsE.push h.row hz hA hc hB h1 h2 h3
  have hk : Kb b4 w' (w'.setCell ⟨b4, 2, none⟩ v') := Kb.setCell _ _
  have far : ∀ b, b < z → (some g : Option Nat) ≠ some b := fun b hb e => by cases e; omega
  have hgb : g ≠ b4 := fun e => by subst e; rw [h.nb] at hgn; cases hgn
  have k4 := h.k4.grown hg (fun e => by cases e; exact hgb rfl)
  have hk4l := h.k4.lt
  have low : Below w.heap.size w w' := Below.appended h.low hg (fun b e => by cases e; omega) h.low.size
  have hgl' : ∀ b, gl = some b → z ≤ b ∧ b < wx.heap.size := fun b e => h.lvs.lt b e
  have hgt' : ∀ b, gt = some b → z ≤ b ∧ b < wx.heap.size := fun b e => h.tns.lt b e
  obtain ⟨g2, hg2⟩ : ∃ g2, gb' = some g2 := by
    rcases h3 with h3 | ⟨g', h3, -⟩
    · exact ⟨g, h3⟩
    · exact ⟨g', h3⟩
  subst hg2
  refine ⟨⟨k4.cell rfl, k4.free⟩, relab (relab lab wx.heap.size (.ch F.length)) wB.heap.size .ps, g2, ⟨low.trans (hk.below (by omega) k4.lt), h.lo, (h.k0.grown hg (far _ (by omega)).symm).kb hk (by omega), (h.k1.grown hg (far _ (by omega)).symm).kb hk (by omega), (h.k2.grown hg (far _ (by omega)).symm).kb hk (by omega), (h.k3.grown hg (far _ (by omega)).symm).kb hk (by omega), k4.set (i := 2) v', row.keep fun b hl _ hr => ⟨hk.block b hl (fun e => ?_), rfl⟩, ?_, fun b e => ?_, ?_, fun b e => ?_, ?_, h.ng⟩⟩
  · subst e
    rw [relab_lt (by omega), relab_lt hk4l, h.nb] at hr
    rcases hr with hr | ⟨k, hr⟩ <;> cases hr
  · refine Wz.kb ⟨h.lvs.1.same fun b e => hg.block b (hgl' b e).2 (fun e2 => ?_), h.lvs.2⟩ hk (fun e => by have h1 := h.ll _ e; rw [h.nb] at h1; cases h1)
    have e3 := h.ll b e
    injection e2 with e2
    subst e2
    rw [hgn] at e3
    cases e3
  · have := hgl' b e
    rw [relab_lt (by omega), relab_lt this.2]
    exact h.ll b e
  · refine Wz.kb ⟨h.tns.1.same fun b e => hg.block b (hgt' b e).2 (fun e2 => ?_), h.tns.2⟩ hk h.ng
    have e3 := h.tl b e
    injection e2 with e2
    subst e2
    rw [hgn] at e3
    cases e3
  · have := hgt' b e
    rw [relab_lt (by omega), relab_lt this.2]
    exact h.tl b e
  · rw [relab_lt (by omega), relab_lt hk4l]
    exact h.nb
/-- What is answered, once the answer's box is filled. -/
theorem Aq.fin (h : Aq w b1 b2 b3 b4 z pc x nodes copies lab sv g F lv lv gl q tv gt t wx) (hk : Kb b2 wx wy) : Below w.heap.size w wy ∧ PlO w.heap.size wy (plv ⟨nodes, copies, F.map PE.x, q⟩ sv lv) ⟨nodes, copies, F.map PE.x, q⟩ ∧ NsO w.heap.size wy tv gt (Pn.nums t) := by
  have hlo := h.lo
  have hk2 := h.k2.lt
  refine ⟨h.low.trans (hk.below (by omega) hk2), ⟨lab, sv, lv, rfl, ⟨some g, F, rfl, (h.row.keep fun b hl hb _ => ⟨hk.block b hl (by omega), rfl⟩).mono (by omega)⟩, ⟨gl, (h.lvs.kb hk (fun e => by have := h.lvs.2 _ e; omega)).mono (by omega), h.ll⟩⟩, (Wz.kb h.tns hk (fun e => by have := h.tns.2 _ e; omega)).mono (by omega)⟩
theorem Aq.plr (h : Aq w b1 b2 b3 b4 z pc x nodes copies lab sv g F lvB lv gl q tv gt t wx) : PsR (fun b => z ≤ b) wx sv (F.map PE.x) := (show PsO z lab wx sv (F.map PE.x) from ⟨some g, F, rfl, h.row⟩).rd
/-- A new list of lives, not out's yet. -/
theorem Aq.fresh {lv' : Value} {gl' : Option Nat} {q' : List (Int × Int)} (h : Aq w b1 b2 b3 b4 z pc x nodes copies lab sv g F lvB lv gl q tv gt t wx) (hB : Below wx.heap.size wx wy) (hw : Wz wx.heap.size wy lv' gl' 55 2 q'.length (lcs q')) :
    Aq w b1 b2 b3 b4 z pc x nodes copies (relab lab wx.heap.size .lv) sv g F lvB lv' gl' q' tv gt t wy := by
  have hz := h.zle
  have hb := h.below hB
  exact ⟨hb.low, hb.lo, hb.k0, hb.k1, hb.k2, hb.k3, hb.k4, h.row.keep fun b hl _ _ => ⟨hB.block b hl, relab_lt hl⟩, hw.mono hz, fun b e => relab_ge (hw.2 b e), hb.tns, fun b e => (relab_lt (h.tns.lt b e).2).trans (h.tl b e), (relab_lt h.k4.lt).trans h.nb, h.ng⟩
end
theorem Aq.start {w we w5 : World} {b1 b2 b3 g p m cap : Nat} {pc : Array Value} {x : Pn.Ev} {nodes copies : Int} {lab : Lab} {sv lv : Value} {parts : List Pn.Pt} {lives : List (Int × Int)}
    (hlow : Below w.heap.size w we) (hlo : w.heap.size < b1 ∧ b1 < b2 ∧ b2 < b3) (k0 : Blk we w.heap.size pc 25) (k1 : Blk we b1 (evC x) 27) (k2 : Blk we b2 zeroC 25) (k3 : Blk we b3 zeroC 25)
    (h5 : Below we.heap.size we w5) (hs : sv = .slice (some ⟨g, p, none⟩) m cap) (hm : 0 < parts.length) (hp : PlS we.heap.size lab w5 sv lv ⟨nodes, copies, parts, lives⟩) :
    ∃ F gl, F.map PE.x = parts ∧ Aq w b1 b2 b3 w5.heap.size we.heap.size pc x nodes copies (relab lab w5.heap.size .no) sv g F lv lv gl lives (.slice (some ⟨(w5.alloc (.cells #[.int .i64 nodes, .int .i64 copies, sv, lv] 25)).heap.size, 0, none⟩) 0 0) (some (w5.alloc (.cells #[.int .i64 nodes, .int .i64 copies, sv, lv] 25)).heap.size) []
      ((w5.alloc (.cells #[.int .i64 nodes, .int .i64 copies, sv, lv] 25)).alloc (.cells #[] 3)) := by
  obtain ⟨⟨gb, F, hF, hrow⟩, gl, hlv, hll⟩ := hp
  simp only at hF hlv
  have hgb : gb = some g := by
    obtain ⟨ao', cap', ev2, -, hpos, -⟩ := Sl.make hrow.1.1
    obtain ⟨g', p', e1, e2⟩ := hpos (by have := congrArg List.length hF; rw [List.length_map] at this; omega)
    rw [hs] at ev2
    injection ev2 with e3 e4 e5
    rw [e1] at e3
    injection e3 with e3
    injection e3 with e3 e6
    rw [e2, e3]
  subst hgb
  obtain ⟨W6, hW6⟩ : ∃ W, w5.alloc (.cells #[.int .i64 nodes, .int .i64 copies, sv, lv] 25) = W := ⟨_, rfl⟩
  have hb6 : Below w5.heap.size w5 W6 := by rw [← hW6]; exact (Below.refl _ _).alloc (Nat.le_refl _) _
  have k6 : Blk W6 w5.heap.size #[.int .i64 nodes, .int .i64 copies, sv, lv] 25 := by rw [← hW6]; exact Blk.new _ _ _
  rw [hW6]
  have hb7 : Below W6.heap.size W6 (W6.alloc (.cells #[] 3)) := (Below.refl _ _).alloc (Nat.le_refl _) _
  have hb : Below w5.heap.size w5 (W6.alloc (.cells #[] 3)) := hb6.trans (hb7.mono hb6.size)
  have he : Below we.heap.size we (W6.alloc (.cells #[] 3)) := h5.trans (hb.mono h5.size)
  have h5s := h5.size
  have h6s := k6.lt
  have k3l := k3.lt
  refine ⟨F, gl, hF, ⟨hlow.trans (he.mono hlow.size), ⟨hlo.1, hlo.2.1, hlo.2.2, k3l, h5s⟩, k0.below he, k1.below he, k2.below he, k3.below he, k6.below hb7, hrow.keep fun b hl _ _ => ⟨hb.block b hl, relab_lt hl⟩, hlv.below hb, fun b e => (relab_lt (hlv.lt b e).2).trans (hll b e), ?_, fun b e => ?_, relab_ge (Nat.le_refl _), fun e => ?_⟩⟩
  · exact Wz.empty W6 _ _ (by omega)
  · cases e
    exact relab_ge (by omega)
  · injection e with e
    omega
section
variable {w wx wy wB : World} {b1 b2 b3 b4 z g : Nat} {pc : Array Value} {x : Pn.Ev} {nodes copies : Int} {lab : Lab} {sv lv lvB tv : Value} {F : List PE} {gl gt : Option Nat} {q : List (Int × Int)} {t : List Nat}
/-- A life more in the list. -/
theorem Aq.lpush {lv' : Value} {gl' : Option Nat} {k : Nat} {a b : Int} (h : Aq w b1 b2 b3 b4 z pc x nodes copies lab sv g F lvB lv gl q tv gt t wx) (hk : q.length = k) (hB : Below wx.heap.size wx wB) (hw : Sl wy lv' gl' 55 2 (k + 1) (lcs q ++ [.int .i64 a, .int .i64 b])) (hg : wB.grownBy wy gl) (hn : gl' = gl ∨ ∃ g, gl' = some g ∧ wB.heap.size ≤ g) :
    Aq w b1 b2 b3 b4 z pc x nodes copies (relab lab wx.heap.size .lv) sv g F lvB lv' gl' (q ++ [(a, b)]) tv gt t wy := by
  refine h.lived hB hg ?_ hn
  have e : lcs (q ++ [(a, b)]) = lcs q ++ [.int .i64 a, .int .i64 b] := by simp [lcs, List.flatMap_append]
  rw [e, List.length_append, List.length_singleton, hk]
  exact hw
/-- A place more in what is turned. -/
theorem Aq.tpush {tv' : Value} {gt' : Option Nat} {k j : Nat} (h : Aq w b1 b2 b3 b4 z pc x nodes copies lab sv g F lvB lv gl q tv gt t wx) (hk : (Pn.nums t).length = k) (hB : Below wx.heap.size wx wB) (hw : Sl wy tv' gt' 3 1 (k + 1) ((Pn.nums t).map (Value.int .i64) ++ [.int .i64 (j : Int)])) (hg : wB.grownBy wy gt) (hn : gt' = gt ∨ ∃ g, gt' = some g ∧ wB.heap.size ≤ g) :
    Aq w b1 b2 b3 b4 z pc x nodes copies (relab lab wx.heap.size .no) sv g F lvB lv gl q tv' gt' (t ++ [j]) wy := by
  refine h.told hB hg ?_ hn
  have e : Pn.nums (t ++ [j]) = Pn.nums t ++ [(j : Int)] := by simp [Pn.nums]
  rw [e, List.length_append, List.length_singleton, hk, List.map_append]
  exact hw
end
theorem Pn.put1_of (n m : Int) (Q : List (Int × Int)) (D : Bool) (qa qb : Int) : Pn.put1 n m (Q, D) (qa, qb) = (if qa ≠ n then (if (!D && decide (n ≤ qa)) = true then Q ++ [(n, m)] else Q) ++ [(qa, qb)] else (if (!D && decide (n ≤ qa)) = true then Q ++ [(n, m)] else Q), D || (!D && decide (n ≤ qa))) := by
  unfold Pn.put1
  cases D <;> by_cases h1 : n ≤ qa <;> by_cases h2 : qa = n <;> simp [h1, h2]
theorem Lvs.cells {A : Nat → Prop} {w : World} {b p n cap j : Nat} {l : List (Int × Int)} {q : Int × Int} (h : Lvs A w (.slice (some ⟨b, p, none⟩) n cap) l) (hj : l[j]? = some q) : w.cell? ⟨b, p + j * 2, none⟩ = some (.int .i64 q.1) ∧ w.cell? ⟨b, p + j * 2 + 1, none⟩ = some (.int .i64 q.2) := by
  obtain ⟨b', p', cap', e, -, -, h0, h1⟩ := h.at hj
  injection e with e1 e2 e3
  injection e1 with e1
  injection e1 with e4 e5
  subst e4 e5
  exact ⟨h0, h1⟩
theorem grown_none {w w' : World} (h : Below w.heap.size w w') : w.grownBy w' none := ⟨h.os, h.tape, h.output, h.size, fun b hb _ => h.block b hb⟩
theorem grown_then {w w1 w2 : World} {r : Option Nat} (h : w.grownBy w1 r) (k : Below w.heap.size w1 w2) : w.grownBy w2 r :=
  ⟨k.os.trans h.os, k.tape.trans h.tape, k.output.trans h.output, Nat.le_trans h.size k.size, fun b hb hr => (k.block b hb).trans (h.block b hb hr)⟩
section
variable {w wx wy wB : World} {b1 b2 b3 b4 z g : Nat} {pc : Array Value} {x : Pn.Ev} {nodes copies : Int} {lab : Lab} {sv lv lvB tv : Value} {F : List PE} {gl gt : Option Nat} {q : List (Int × Int)} {t : List Nat}
/-- A place's chain has grown: what is read before the place is stored. -/
theorem Aq.grew {p n' cap' k : Nat} {e : PE} {cb : Option Nat} (h : Aq w b1 b2 b3 b4 z pc x nodes copies lab (.slice (some ⟨g, p, none⟩) n' cap') g F lvB lv gl q tv gt t wx) (hg : wx.grownBy wB cb) (hcb : ∀ b, cb = some b → lab b = .ch k ∧ z ≤ b ∧ b < wx.heap.size) (he : F[k]? = some e) :
    Blk wB b1 (evC x) 27 ∧ Blk wB b4 #[.int .i64 nodes, .int .i64 copies, .slice (some ⟨g, p, none⟩) n' cap', lvB] 25 ∧ (∀ o, wB.frozen? ⟨g, o, none⟩ = false) ∧
    wB.cell? ⟨g, p + k * 3, none⟩ = some (.int .i64 e.x.ep) ∧ wB.cell? ⟨g, p + k * 3 + 1, none⟩ = some e.cv ∧ wB.cell? ⟨g, p + k * 3 + 2, none⟩ = some (.int .i64 e.x.le) := by
  have hlo := h.lo
  have hgn := h.row.2.1 g rfl
  have row1 := h.row.1.grown hg (fun b e1 e2 => by cases e1; rw [(hcb g e2).1] at hgn; cases hgn)
  obtain ⟨d0, d1, d2⟩ := pe_cells he
  refine ⟨h.k1.grown hg (fun e => by have := hcb _ e.symm; omega), h.k4.grown hg (fun e => by have h1 := (hcb _ e.symm).1; rw [h.nb] at h1; cases h1), fun o => Sl.frozen row1.1 rfl _, Sl.cell row1.1 rfl _ _ d0, Sl.cell row1.1 rfl _ _ d1, Sl.cell row1.1 rfl _ _ d2⟩
end
theorem map_next {F : List PE} {parts : List Pn.Pt} {i : Nat} {x : Pn.Pt} {f : Pn.Pt → Pn.Pt} (cv : Value) (h : F.map PE.x = (parts.take i).map f ++ parts.drop i) (hx : parts[i]? = some x) : (F.set i ⟨f x, cv⟩).map PE.x = (parts.take (i + 1)).map f ++ parts.drop (i + 1) := by
  obtain ⟨hlt, hxe⟩ := List.getElem?_eq_some_iff.1 hx
  rw [List.map_set, h, List.take_add_one, hx, List.drop_eq_getElem_cons hlt]
  have e : ((parts.take i).map f).length = i := by rw [List.length_map, List.length_take]; omega
  rw [List.set_append_right _ _ (by omega), e, Nat.sub_self, List.set_cons_zero]
  simp
theorem map_same {F : List PE} {parts : List Pn.Pt} {i : Nat} {x : Pn.Pt} {f : Pn.Pt → Pn.Pt} (h : F.map PE.x = (parts.take i).map f ++ parts.drop i) (hx : parts[i]? = some x) (hf : f x = x) : F.map PE.x = (parts.take (i + 1)).map f ++ parts.drop (i + 1) := by
  obtain ⟨hlt, hxe⟩ := List.getElem?_eq_some_iff.1 hx
  rw [h, List.take_add_one, hx, List.drop_eq_getElem_cons hlt]
  simp [hf, hxe]
theorem map_at {F : List PE} {parts : List Pn.Pt} {i : Nat} {e : PE} {f : Pn.Pt → Pn.Pt} (h : F.map PE.x = (parts.take i).map f ++ parts.drop i) (he : F[i]? = some e) : parts[i]? = some e.x := by
  have h1 : (F.map PE.x)[i]? = some e.x := by rw [List.getElem?_map, he]; rfl
  rw [h] at h1
  by_cases hlt : i < parts.length
  · have e2 : ((parts.take i).map f).length = i := by rw [List.length_map, List.length_take]; omega
    rw [List.getElem?_append_right (by omega), e2, Nat.sub_self, List.getElem?_drop, Nat.add_zero] at h1
    exact h1
  · have hlen : ((parts.take i).map f ++ parts.drop i).length = parts.length := by rw [List.length_append, List.length_map, List.length_take, List.length_drop]; omega
    have := (List.getElem?_eq_some_iff.1 h1).1
    omega
/-- The last loop is entered. -/
def Mid (w : World) (b1 b2 b3 b4 z : Nat) (pc : Array Value) (x : Pn.Ev) (p : Pn.P) (sg sp m sc : Nat) (tv : Value) (wx : World) : Prop :=
  ∃ (lab : Lab) (F : List PE) (lv : Value) (gl : Option Nat) (q : List (Int × Int)) (gt : Option Nat) (t : List Nat), Aq w b1 b2 b3 b4 z pc x p.nodes p.copies lab (.slice (some ⟨sg, sp, none⟩) m sc) sg F lv lv gl q tv gt t wx ∧ F.length = m ∧ (t.length ≤ m ∧ ∀ k ∈ t, k < m) ∧ (∀ e ∈ F, 0 ≤ e.x.ep ∧ e.x.ep ≤ 1073741824) ∧ Pn.apply p x = Pn.fin p (F.map PE.x) q t
theorem rapply_ret {W : World} {rb : Nat} {a0 a1 a2 a3 t n : Value} {tmps : Array Value} (hb : Blk W rb #[a0, a1, a2, a3] 25) (h2 : tmps.getD 4 undef = .pointer (some ⟨rb, 0, none⟩)) (h3 : tmps.getD 5 undef = t) (h4 : tmps.getD 6 undef = n) :
    (results Tryz.f8 tmps).run Tryz.prog W = .ok (.tuple #[.agg #[a0, a1, a2, a3], t, n]) W := by
  obtain ⟨d, hd, hs⟩ := undPlan
  rw [results_cell_tmp2 (p := 4) (u := 5) (v := 6) (ty := 25) rfl, h2, h3, h4]
  have hl := run_loadVar_row (P := Tryz.prog) W rb 25 25 #[a0, a1, a2, a3] (0, 0) d hb hd (by cases d <;> exact hs) sizePlan
  simp [asAddr, hl]
/-- The answer of no plan. -/
theorem rbad_ret {w wx : World} {b2 : Nat} {c : Int} {R : Pn.R} {tmps : Array Value} (low : Below w.heap.size w wx) (hlo : w.heap.size < b2) (k2 : Blk wx b2 zeroC 25) (hr : R = .bad c)
    (h4 : tmps.getD 4 undef = .pointer (some ⟨b2, 0, none⟩)) (h5 : tmps.getD 5 undef = .slice none 0 0) (h6 : tmps.getD 6 undef = .int .i64 c) :
    bodyPost Tryz.prog Tryz.f8 (fun e w' => AplOut w R e w') .ret ⟨tmps, []⟩ ((((wx.setCell ⟨b2, 0, none⟩ (.int .i64 0)).setCell ⟨b2, 1, none⟩ (.int .i64 0)).setCell ⟨b2, 2, none⟩ (.slice none 0 0)).setCell ⟨b2, 3, none⟩ (.slice none 0 0)) := by
  refine bodyPost_ret (rapply_ret (Blk.four k2 _ _ _ _) h4 h5 h6) rfl ?_
  rw [hr]
  exact ⟨low.trans ((four_kb _ _ _ _ _ _).below (by omega) k2.lt), rfl⟩
/-- A list of one number is made, and the answer's box is filled. -/
theorem Aq.made {w wx wy : World} {b1 b2 b3 b4 z g : Nat} {pc : Array Value} {x : Pn.Ev} {nodes copies : Int} {lab : Lab} {sv lv tv : Value} {F : List PE} {gl gt : Option Nat} {q : List (Int × Int)} {t : List Nat} {m : Nat} (h : Aq w b1 b2 b3 b4 z pc x nodes copies lab sv g F lv lv gl q tv gt t wx) (hk : Kb b2 wx wy) (k7 : Blk wy wx.heap.size #[.int .i64 (m : Int)] 3) :
    Below w.heap.size w wy ∧ PlO w.heap.size wy (plv ⟨nodes, copies, F.map PE.x, q⟩ sv lv) ⟨nodes, copies, F.map PE.x, q⟩ ∧ NsO w.heap.size wy (.slice (some ⟨wx.heap.size, 0, none⟩) 1 1) (some wx.heap.size) (Pn.nums [m]) := by
  obtain ⟨h1, h2, -⟩ := h.fin hk
  have hlo := h.lo
  have hz := h.zle
  exact ⟨h1, h2, ⟨⟨rfl, .inr ⟨_, 0, 1, _, rfl, rfl, k7, Nat.le_refl _, by simp, rfl⟩⟩, fun b e => by cases e; omega⟩⟩
theorem rmade_ret {w W : World} {b2 : Nat} {nodes copies : Int} {sv lv : Value} {parts : List Pn.Pt} {lives : List (Int × Int)} {a m : Nat} {R : Pn.R} {tmps : Array Value} (h : MadeAt w W b2 nodes copies sv lv parts lives a m)
    (h4 : tmps.getD 4 undef = .pointer (some ⟨b2, 0, none⟩)) (h5 : tmps.getD 5 undef = .slice (some ⟨a, 0, none⟩) 1 1) (h6 : tmps.getD 6 undef = .int .i64 0) (hr : R = .ok ⟨nodes, copies, parts, lives⟩ [m]) :
    bodyPost Tryz.prog Tryz.f8 (fun e w' => AplOut w R e w') .ret ⟨tmps, []⟩ W := by
  refine bodyPost_ret (rapply_ret h.blk h4 h5 h6) rfl ?_
  rw [hr]
  exact ⟨h.low, _, _, _, rfl, h.plo, h.nso⟩
end Go.Proofs.YtmkinnheoejphaaGreatDoor
