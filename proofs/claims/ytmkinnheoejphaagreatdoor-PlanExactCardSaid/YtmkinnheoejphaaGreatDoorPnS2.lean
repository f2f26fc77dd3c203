/- WHAT Apply's LAST TWO ARMS NEED: a place more, a learner. -/
import Derived.Test.YtmkinnheoejphaaGreatDoorPnS
import Derived.Test.YtmkinnheoejphaaGreatDoorPnL
namespace Go.Proofs.YtmkinnheoejphaaGreatDoor
open Go.RowKit

theorem far4 {w : World} {b c o : Nat} {v0 v1 v2 v3 x : Value} (h : b ≠ c) (k : w.cell? ⟨b, o, none⟩ = some x) : ((((w.setCell ⟨c, 0, none⟩ v0).setCell ⟨c, 1, none⟩ v1).setCell ⟨c, 2, none⟩ v2).setCell ⟨c, 3, none⟩ v3).cell? ⟨b, o, none⟩ = some x := by
  rw [cell_far h, cell_far h, cell_far h, cell_far h]
  exact k
theorem far4d {w : World} {b c o : Nat} {v0 v1 v2 v3 x : Value} (h : b ≠ c) (k : w.cell? ⟨b, o, none⟩ = some x) : ((((w.setCell ⟨c, 0, none⟩ v0).setCell ⟨c, 1, none⟩ v1).setCell ⟨c, 2, none⟩ v2).setCell ⟨c, 3, none⟩ v3).drew.cell? ⟨b, o, none⟩ = some x := by
  have e : ∀ W : World, W.drew.cell? ⟨b, o, none⟩ = W.cell? ⟨b, o, none⟩ := fun _ => rfl
  rw [e]
  exact far4 h k
theorem farA {w : World} {b o : Nat} {ob : Obj} {x : Value} (k : w.cell? ⟨b, o, none⟩ = some x) : (w.alloc ob).drew.cell? ⟨b, o, none⟩ = some x := by
  rw [← k]
  exact Below.cell (p := ⟨b, o, none⟩) (((Below.refl w.heap.size w).alloc (Nat.le_refl _) ob).drew) (block_lt_of_cell k)
section
variable {w wx wy wA wB w' : World} {b1 b2 z g : Nat} {x : Pn.Ev} {nodes copies : Int} {lab : Lab} {sv lv tv : Value} {F : List PE} {gl : Option Nat} {q : List (Int × Int)} {t : List Nat}
/-- A place more, and the plan's box knows it. -/
theorem Ap.push {v' cv : Value} {gb' cb : Option Nat} {y : Pn.Pt} (h : Ap w b1 b2 z x nodes copies lab sv g F lv gl q wx) (hA : Below wx.heap.size wx wA) (hc : NsO wx.heap.size wA cv cb y.ch) (hB : Below wA.heap.size wA wB)
    (h1 : Sl w' v' gb' 49 3 (F.length + 1) (F.flatMap PE.cells ++ PE.cells ⟨y, cv⟩)) (h2 : wB.grownBy w' (some g)) (h3 : gb' = some g ∨ ∃ g', gb' = some g' ∧ wB.heap.size ≤ g') :
    (w'.cell? ⟨w.heap.size, 2, none⟩ = some sv ∧ w'.frozen? ⟨w.heap.size, 2, none⟩ = false) ∧
    ∃ lab2 g2, Ap w b1 b2 z x nodes copies lab2 v' g2 (F ++ [⟨y, cv⟩]) lv gl q (w'.setCell ⟨w.heap.size, 2, none⟩ v') := by
  have hlo := h.lo
  have hz := h.zle
  have hAs := hA.size
  have hBs := hB.size
  have hgl := h.row.1.lt g rfl
  have hgn := h.row.2.1 g rfl
  have hAB : Below wx.heap.size wx wB := hA.trans (hB.mono hAs)
  have hg : wx.grownBy w' (some g) := grown_after hAB h2
  have hgs := hg.size
  have row := PsE.push h.row hz hA hc hB h1 h2 h3
  have hk : Kb w.heap.size w' (w'.setCell ⟨w.heap.size, 2, none⟩ v') := Kb.setCell _ _
  have k1 := h.k1.grown hg (fun e => by cases e; omega)
  have k2 := h.k2.grown hg (fun e => by cases e; omega)
  have k3 := h.k3.grown hg (fun e => by cases e; omega)
  have low : Below w.heap.size w w' := Below.appended h.low hg (fun b e => by cases e; omega) h.low.size
  have hgl' : ∀ b, gl = some b → z ≤ b ∧ b < wx.heap.size := fun b e => h.lvs.lt b e
  obtain ⟨g2, hg2⟩ : ∃ g2, gb' = some g2 := by
    rcases h3 with h3 | ⟨g', h3, -⟩
    · exact ⟨g, h3⟩
    · exact ⟨g', h3⟩
  subst hg2
  refine ⟨⟨k1.cell rfl, k1.free⟩, relab (relab lab wx.heap.size (.ch F.length)) wB.heap.size .ps, g2, ⟨low.trans (hk.below (Nat.le_refl _) k1.lt), h.lo, k1.set (i := 2) v', k2.kb hk (by omega), k3.kb hk (by omega), row.keep fun b hl hb _ => ⟨hk.block b hl (by omega), rfl⟩, ?_, fun b e => ?_⟩⟩
  · refine Wz.kb ⟨h.lvs.1.same fun b e => hg.block b (hgl' b e).2 (fun e2 => ?_), h.lvs.2⟩ hk (fun e => by have := h.lvs.2 _ e; omega)
    have e3 := h.ll b e
    injection e2 with e2
    subst e2
    rw [hgn] at e3
    cases e3
  · have := hgl' b e
    rw [relab_lt (by omega), relab_lt this.2]
    exact h.ll b e
/-- A list of one number is made, and the answer's box is filled. -/
theorem Ap.made {m : Nat} (h : Ap w b1 b2 z x nodes copies lab sv g F lv gl q wx) (hk : Kb b2 wx wy) (k7 : Blk wy wx.heap.size #[.int .i64 (m : Int)] 3) :
    Below w.heap.size w wy ∧ PlO w.heap.size wy (plv ⟨nodes, copies, F.map PE.x, q⟩ sv lv) ⟨nodes, copies, F.map PE.x, q⟩ ∧ NsO w.heap.size wy (.slice (some ⟨wx.heap.size, 0, none⟩) 1 1) (some wx.heap.size) (Pn.nums [m]) := by
  have hlo := h.lo
  have hk3 := h.k3.lt
  have hz := h.zle
  refine ⟨h.low.trans (hk.below (by omega) hk3), ⟨lab, sv, lv, rfl, ⟨some g, F, rfl, (h.row.keep fun b hl hb _ => ⟨hk.block b hl (by omega), rfl⟩).mono (by omega)⟩, ⟨gl, (h.lvs.kb hk (fun e => by have := h.lvs.2 _ e; omega)).mono (by omega), h.ll⟩⟩, ⟨rfl, .inr ⟨_, 0, 1, _, rfl, rfl, k7, Nat.le_refl _, by simp, rfl⟩⟩, fun b e => by cases e; omega⟩
theorem Blk.drew {w : World} {b : Nat} {cs : Array Value} {T : TypeId} (h : Blk w b cs T) : Blk w.drew b cs T := h
theorem Kb.drew {b : Nat} {w w' : World} (h : Kb b w w') : Kb b w w'.drew := ⟨h.os, h.tape, h.output, h.size, h.block⟩
theorem Kb.alloc {b : Nat} {w w' : World} (h : Kb b w w') (o : Obj) : Kb b w (w'.alloc o) := h.trans (Kb.of_below ((Below.refl _ _).alloc (Nat.le_refl _) o))
theorem Blk.four' {w : World} {r c : Nat} {cs : Array Value} {T : TypeId} (h : Blk w r cs T) (hn : r ≠ c) (v0 v1 v2 v3 : Value) :
    Blk ((((w.setCell ⟨c, 0, none⟩ v0).setCell ⟨c, 1, none⟩ v1).setCell ⟨c, 2, none⟩ v2).setCell ⟨c, 3, none⟩ v3) r cs T := (((h.setOther v0 hn).setOther v1 hn).setOther v2 hn).setOther v3 hn
theorem four_size (w : World) (c : Nat) (v0 v1 v2 v3 : Value) : ((((w.setCell ⟨c, 0, none⟩ v0).setCell ⟨c, 1, none⟩ v1).setCell ⟨c, 2, none⟩ v2).setCell ⟨c, 3, none⟩ v3).heap.size = w.heap.size := by simp [World.setCell]
/-- A world in which the answer of EvCreate lies. -/
structure MadeAt (w W : World) (b2 : Nat) (nodes copies : Int) (sv lv : Value) (parts : List Pn.Pt) (lives : List (Int × Int)) (a m : Nat) : Prop where
  blk : Blk W b2 #[.int .i64 nodes, .int .i64 copies, sv, lv] 25
  low : Below w.heap.size w W
  plo : PlO w.heap.size W (plv ⟨nodes, copies, parts, lives⟩ sv lv) ⟨nodes, copies, parts, lives⟩
  nso : NsO w.heap.size W (.slice (some ⟨a, 0, none⟩) 1 1) (some a) (Pn.nums [m])
theorem MadeAt.ret {w W : World} {b2 : Nat} {nodes copies : Int} {sv lv : Value} {parts : List Pn.Pt} {lives : List (Int × Int)} {a m : Nat} {R : Pn.R} {tmps : Array Value} (h : MadeAt w W b2 nodes copies sv lv parts lives a m)
    (h4 : tmps.getD 4 undef = .pointer (some ⟨b2, 0, none⟩)) (h5 : tmps.getD 5 undef = .slice (some ⟨a, 0, none⟩) 1 1) (h6 : tmps.getD 6 undef = .int .i64 0) (hr : R = .ok ⟨nodes, copies, parts, lives⟩ [m]) :
    bodyPost Tryz.prog Tryz.f7 (fun e w' => AplOut w R e w') .ret ⟨tmps, []⟩ W := by
  refine bodyPost_ret (apply_ret h.blk h4 h5 h6) rfl ?_
  rw [hr]
  exact ⟨h.low, _, _, _, rfl, h.plo, h.nso⟩
/-- A place's learner is told. -/
theorem Ap.learn {p n' cap' k : Nat} {e : PE} (nd : Int) (h : Ap w b1 b2 z x nodes copies lab (.slice (some ⟨g, p, none⟩) n' cap') g F lv gl q wx) (hn : F.length = n') (he : F[k]? = some e) :
    (wx.cell? ⟨g, p + k * 3 + 2, none⟩ = some (.int .i64 e.x.le) ∧ wx.frozen? ⟨g, p + k * 3 + 2, none⟩ = false) ∧
    Ap w b1 b2 z x nodes copies lab (.slice (some ⟨g, p, none⟩) n' cap') g (F.set k ⟨⟨e.x.ep, e.x.ch, nd⟩, e.cv⟩) lv gl q (wx.setCell ⟨g, p + k * 3 + 2, none⟩ (.int .i64 nd)) ∧
    (Tl z lab wx tv t → Tl z lab (wx.setCell ⟨g, p + k * 3 + 2, none⟩ (.int .i64 nd)) tv t) := by
  have hgl := h.row.1.lt g rfl
  have hgn := h.row.2.1 g rfl
  obtain ⟨d0, d1, d2⟩ := pe_cells he
  have m2 : Mut z lab wx (wx.setCell ⟨g, p + k * 3 + 2, none⟩ (.int .i64 nd)) := Mut.of_grown (grow_set _ _ _ _) fun b e2 => by cases e2; exact ⟨hgl.1, .inl hgn⟩
  exact ⟨⟨Sl.cell h.row.1.1 rfl _ _ d2, Sl.frozen h.row.1.1 rfl _⟩, h.mut m2 (fun _ _ => rfl) (h.row.put2 hn he nd), fun ht => ht.mut m2 fun _ _ => rfl⟩
theorem Ap.learn2 {p n' cap' k : Nat} {e : PE} (nd : Int) (h : Ap w b1 b2 z x nodes copies lab (.slice (some ⟨g, p, none⟩) n' cap') g F lv gl q wx) (hn : F.length = n') (he : F[k]? = some e) (ht : Tl z lab wx tv t) :
    (wx.cell? ⟨g, p + k * 3 + 2, none⟩ = some (.int .i64 e.x.le) ∧ wx.frozen? ⟨g, p + k * 3 + 2, none⟩ = false) ∧
    ∃ W, wx.setCell ⟨g, p + k * 3 + 2, none⟩ (.int .i64 nd) = W ∧ Ap w b1 b2 z x nodes copies lab (.slice (some ⟨g, p, none⟩) n' cap') g (F.set k ⟨⟨e.x.ep, e.x.ch, nd⟩, e.cv⟩) lv gl q W ∧ Tl z lab W tv t :=
  let h2 := h.learn (tv := tv) (t := t) nd hn he
  ⟨h2.1, _, rfl, h2.2.1, h2.2.2 ht⟩
end
end Go.Proofs.YtmkinnheoejphaaGreatDoor
