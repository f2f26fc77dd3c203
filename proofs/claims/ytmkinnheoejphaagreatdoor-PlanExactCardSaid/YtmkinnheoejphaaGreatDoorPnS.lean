/- WHAT Apply NEEDS: its end, its state. -/
import Derived.Test.YtmkinnheoejphaaGreatDoorPnR
import Derived.Test.YtmkinnheoejphaaGreatDoorPnJ
import Derived.Test.YtmkinnheoejphaaGreatDoorPnH
import Derived.Test.YtmkinnheoejphaaGreatDoorPnF
namespace Go.Proofs.YtmkinnheoejphaaGreatDoor
open Go.RowKit

theorem results_cell_tmp2 {fn : Func} {p u v : Tmp} {ty : TypeId} (h : fn.results = #[.cell p ty, .tmp u, .tmp v]) (tmps : Array Value) (P : Program) (w : World) :
    (results fn tmps).run P w =
      ((asAddr (tmps.getD p undef)).run P w).andThen fun a w₁ => ((loadVar ty a).run P w₁).andThen fun x w₂ => .ok (.tuple #[x, tmps.getD u undef, tmps.getD v undef]) w₂ := by
  simp only [results, h]
  simp [Sem.run_bind, Result.andThen]
theorem apply_ret {W : World} {rb : Nat} {a0 a1 a2 a3 t n : Value} {tmps : Array Value} (hb : Blk W rb #[a0, a1, a2, a3] 25) (h2 : tmps.getD 4 undef = .pointer (some ⟨rb, 0, none⟩)) (h3 : tmps.getD 5 undef = t) (h4 : tmps.getD 6 undef = n) :
    (results Tryz.f7 tmps).run Tryz.prog W = .ok (.tuple #[.agg #[a0, a1, a2, a3], t, n]) W := by
  obtain ⟨d, hd, hs⟩ := undPlan
  rw [results_cell_tmp2 (p := 4) (u := 5) (v := 6) (ty := 25) rfl, h2, h3, h4]
  have hl := run_loadVar_row (P := Tryz.prog) W rb 25 25 #[a0, a1, a2, a3] (0, 0) d hb hd (by cases d <;> exact hs) sizePlan
  simp [asAddr, hl]
/-- What Apply answers. -/
def AplOut (w : World) (r : Pn.R) (e : Ending) (w' : World) : Prop := Below w.heap.size w w' ∧ match r with
  | .bad c => e = .returned (.tuple #[.agg #[.int .i64 0, .int .i64 0, .slice none 0 0, .slice none 0 0], .slice none 0 0, .int .i64 c])
  | .ok q t => ∃ pv tv gt, e = .returned (.tuple #[pv, tv, .int .i64 0]) ∧ PlO w.heap.size w' pv q ∧ NsO w.heap.size w' tv gt (Pn.nums t)
def evC (x : Pn.Ev) : Array Value := #[.int .i64 x.kind, .int .i64 x.node, .int .i64 x.part, .int .i64 x.n]
def zeroC : Array Value := #[.int .i64 0, .int .i64 0, .slice none 0 0, .slice none 0 0]
/-- While Apply goes on: the boxes, the plan's memory. -/
structure Ap (w : World) (b1 b2 z : Nat) (x : Pn.Ev) (nodes copies : Int) (lab : Lab) (sv : Value) (g : Nat) (F : List PE) (lv : Value) (gl : Option Nat) (q : List (Int × Int)) (wx : World) : Prop where
  low : Below w.heap.size w wx
  lo : w.heap.size < b1 ∧ b1 < b2 ∧ b2 < z
  k1 : Blk wx w.heap.size #[.int .i64 nodes, .int .i64 copies, sv, lv] 25
  k2 : Blk wx b1 (evC x) 27
  k3 : Blk wx b2 zeroC 25
  row : PsE z lab wx sv (some g) F
  lvs : Wz z wx lv gl 55 2 q.length (lcs q)
  ll : ∀ b, gl = some b → lab b = .lv
/-- A list of the call's own beside it. -/
def Tl (z : Nat) (lab : Lab) (w : World) (v : Value) (t : List Nat) : Prop := ∃ gt, NsO z w v gt (Pn.nums t) ∧ ∀ b, gt = some b → lab b = .no
section
variable {w wx wy : World} {b1 b2 z g : Nat} {x : Pn.Ev} {nodes copies : Int} {lab lab' : Lab} {sv lv tv : Value} {F F' : List PE} {gl : Option Nat} {q : List (Int × Int)} {t : List Nat}
theorem Blk.mut {c : Nat} {cs : Array Value} {T : TypeId} (h : Blk wx c cs T) (m : Mut z lab wx wy) (hc : c < z) : Blk wy c cs T := (m.block c h.lt fun e => absurd e (Nat.not_le_of_lt hc)).trans h
theorem Ap.zle (h : Ap w b1 b2 z x nodes copies lab sv g F lv gl q wx) : z ≤ wx.heap.size := by have := h.row.1.lt g rfl; omega
/-- The places are others. -/
theorem Ap.mut (h : Ap w b1 b2 z x nodes copies lab sv g F lv gl q wx) (m : Mut z lab wx wy) (hl : ∀ b, b < wx.heap.size → lab' b = lab b) (row : PsE z lab' wy sv (some g) F') : Ap w b1 b2 z x nodes copies lab' sv g F' lv gl q wy := by
  have hlo := h.lo
  have hz := h.zle
  refine ⟨h.low.trans ((m.low hz).mono (by omega)), h.lo, h.k1.mut m (by omega), h.k2.mut m (by omega), h.k3.mut m (by omega), row, ⟨h.lvs.1.same fun b e => m.block b (h.lvs.lt b e).2 fun _ => ?_, h.lvs.2⟩, fun b e => ?_⟩
  · rw [h.ll b e]
    exact ⟨(fun e => by cases e), fun k e => by cases e⟩
  · rw [hl b (h.lvs.lt b e).2]
    exact h.ll b e
theorem Tl.mut (h : Tl z lab wx tv t) (m : Mut z lab wx wy) (hl : ∀ b, b < wx.heap.size → lab' b = lab b) : Tl z lab' wy tv t := by
  obtain ⟨gt, h1, h2⟩ := h
  refine ⟨gt, ⟨h1.1.same fun b e => m.block b (h1.lt b e).2 fun _ => ?_, h1.2⟩, fun b e => ?_⟩
  · rw [h2 b e]
    exact ⟨(fun e => by cases e), fun k e => by cases e⟩
  · rw [hl b (h1.lt b e).2]
    exact h2 b e
theorem Ap.below (h : Ap w b1 b2 z x nodes copies lab sv g F lv gl q wx) (m : Below wx.heap.size wx wy) : Ap w b1 b2 z x nodes copies lab sv g F lv gl q wy :=
  h.mut (Mut.of_below m) (fun _ _ => rfl) (h.row.keep fun b hl _ _ => ⟨m.block b hl, rfl⟩)
theorem Tl.below (h : Tl z lab wx tv t) (m : Below wx.heap.size wx wy) : Tl z lab wy tv t := h.mut (Mut.of_below m) fun _ _ => rfl
/-- rise's answer is no. -/
theorem Ap.top (h : Ap w b1 b2 z x nodes copies lab sv g F lv gl q wx) (m : wx.grownBy wy (some g)) : Below w.heap.size w wy ∧ Blk wy b2 zeroC 25 := by
  have mm : Mut z lab wx wy := Mut.of_grown m fun b e => by cases e; exact ⟨(h.row.1.lt g rfl).1, .inl (h.row.2.1 g rfl)⟩
  have hlo := h.lo
  exact ⟨h.low.trans ((mm.low h.zle).mono (by omega)), h.k3.mut mm (by omega)⟩
theorem Ap.rose (h : Ap w b1 b2 z x nodes copies lab sv g F lv gl q wx) (m : wx.grownBy wy (some g)) (row : PsE z lab wy sv (some g) F') : Ap w b1 b2 z x nodes copies lab sv g F' lv gl q wy :=
  h.mut (Mut.of_grown m fun b e => by cases e; exact ⟨(h.row.1.lt g rfl).1, .inl (h.row.2.1 g rfl)⟩) (fun _ _ => rfl) row
theorem Tl.rose (ht : Tl z lab wx tv t) (h : Ap w b1 b2 z x nodes copies lab sv g F lv gl q wx) (m : wx.grownBy wy (some g)) : Tl z lab wy tv t :=
  ht.mut (Mut.of_grown m fun b e => by cases e; exact ⟨(h.row.1.lt g rfl).1, .inl (h.row.2.1 g rfl)⟩) fun _ _ => rfl
theorem Tl.apart (ht : Tl z lab wx tv t) (h : Ap w b1 b2 z x nodes copies lab sv g F lv gl q wx) : Ns (fun b => some g ≠ some b) wx tv (Pn.nums t) := by
  obtain ⟨gt, h1, h2⟩ := ht
  refine Rds.of_sl h1.1 fun b e e2 => ?_
  injection e2 with e2
  subst e2
  have := h2 _ e
  rw [h.row.2.1 _ rfl] at this
  cases this
/-- What lies in the boxes at the end, when a plan is answered. -/
theorem Ap.fin (h : Ap w b1 b2 z x nodes copies lab sv g F lv gl q wx) (ht : Tl z lab wx tv t) (hk : Kb b2 wx wy) : Below w.heap.size w wy ∧ PlO w.heap.size wy (plv ⟨nodes, copies, F.map PE.x, q⟩ sv lv) ⟨nodes, copies, F.map PE.x, q⟩ ∧ ∃ gt, NsO w.heap.size wy tv gt (Pn.nums t) := by
  have hlo := h.lo
  have hk3 := h.k3.lt
  obtain ⟨gt, h1, h2⟩ := ht
  refine ⟨h.low.trans (hk.below (by omega) hk3), ⟨lab, sv, lv, rfl, ⟨some g, F, rfl, (h.row.keep fun b hl hb _ => ⟨hk.block b hl (by omega), rfl⟩).mono (by omega)⟩, ⟨gl, (h.lvs.kb hk (fun e => by have := h.lvs.2 _ e; omega)).mono (by omega), h.ll⟩⟩, gt, (Wz.kb h1 hk (fun e => by have := h1.2 _ e; omega)).mono (by omega)⟩
/-- The lives are others, and the plan's box knows it. -/
theorem Ap.lived {v' : Value} {gl' : Option Nat} {q' : List (Int × Int)} (h : Ap w b1 b2 z x nodes copies lab sv g F lv gl q wx) (hg : wx.grownBy wy gl) (hw : Wz z wy v' gl' 55 2 q'.length (lcs q')) (hn : ∀ b, gl' = some b → gl = some b ∨ wx.heap.size ≤ b) :
    wy.cell? ⟨w.heap.size, 3, none⟩ = some lv ∧ wy.frozen? ⟨w.heap.size, 3, none⟩ = false ∧ Ap w b1 b2 z x nodes copies (relab lab wx.heap.size .lv) sv g F v' gl' q' (wy.setCell ⟨w.heap.size, 3, none⟩ v') := by
  have hlo := h.lo
  have hz := h.zle
  have hk : Kb w.heap.size wy (wy.setCell ⟨w.heap.size, 3, none⟩ v') := Kb.setCell _ _
  have hgl := fun b (e : gl = some b) => h.lvs.lt b e
  have k1 := h.k1.grown hg (fun e => by have := hgl _ e.symm; omega)
  have k2 := h.k2.grown hg (fun e => by have := hgl _ e.symm; omega)
  have k3 := h.k3.grown hg (fun e => by have := hgl _ e.symm; omega)
  have low := Below.appended h.low hg (fun b e => by have := hgl b e; omega) h.low.size
  refine ⟨k1.cell rfl, k1.free, low.trans (hk.below (Nat.le_refl _) k1.lt), h.lo, k1.set (i := 3) v', k2.kb hk (by omega), k3.kb hk (by omega), h.row.keep fun b hl hb hr => ⟨?_, relab_lt hl⟩, hw.kb hk (fun e => by have := hw.2 _ e; omega), fun b e => ?_⟩
  · rw [hk.block b (by have := hg.size; omega) (by omega), hg.block b hl (fun e => by
      rw [h.ll b e.symm] at hr
      rcases hr with hr | ⟨k, hr⟩ <;> cases hr)]
  · rcases hn b e with e2 | e2
    · rw [relab_lt (hgl b e2).2]
      exact h.ll b e2
    · exact relab_ge e2
/-- A list of the call's own is made. -/
theorem Ap.told {gt : Option Nat} (h : Ap w b1 b2 z x nodes copies lab sv g F lv gl q wx) (hb : Below wx.heap.size wx wy) (hn : NsO wx.heap.size wy tv gt (Pn.nums t)) :
    Ap w b1 b2 z x nodes copies (relab lab wx.heap.size .no) sv g F lv gl q wy ∧ Tl z (relab lab wx.heap.size .no) wy tv t :=
  ⟨h.mut (Mut.of_below hb) (fun _ hl => relab_lt hl) (h.row.keep fun b hl _ _ => ⟨hb.block b hl, relab_lt hl⟩), gt, hn.mono h.zle, fun b e => relab_ge (hn.2 b e)⟩
/-- A node more in a chain, and no learner: the place's two stores. -/
theorem Ap.ready {wB w' : World} {p n' cap' k : Nat} {e : PE} {cb gb' : Option Nat} {v' : Value} {nd : Int} (h : Ap w b1 b2 z x nodes copies lab (.slice (some ⟨g, p, none⟩) n' cap') g F lv gl q wx) (hn : F.length = n') (he : F[k]? = some e)
    (hB : Below wx.heap.size wx wB) (hc : NsO z wx e.cv cb e.x.ch) (hcl : ∀ b, cb = some b → lab b = .ch k) (h1 : Sl w' v' gb' 3 1 (e.x.ch.length + 1) (e.x.ch.map (Value.int .i64) ++ [.int .i64 nd])) (h2 : wB.grownBy w' cb) (h3 : gb' = cb ∨ ∃ g, gb' = some g ∧ wB.heap.size ≤ g) :
    (w'.cell? ⟨g, p + k * 3 + 1, none⟩ = some e.cv ∧ w'.frozen? ⟨g, p + k * 3 + 1, none⟩ = false) ∧
    ((w'.setCell ⟨g, p + k * 3 + 1, none⟩ v').cell? ⟨g, p + k * 3 + 2, none⟩ = some (.int .i64 e.x.le) ∧ (w'.setCell ⟨g, p + k * 3 + 1, none⟩ v').frozen? ⟨g, p + k * 3 + 2, none⟩ = false) ∧
    Ap w b1 b2 z x nodes copies (relab lab wx.heap.size (.ch k)) (.slice (some ⟨g, p, none⟩) n' cap') g (F.set k ⟨⟨e.x.ep, e.x.ch ++ [nd], 0⟩, v'⟩) lv gl q ((w'.setCell ⟨g, p + k * 3 + 1, none⟩ v').setCell ⟨g, p + k * 3 + 2, none⟩ (.int .i64 0)) ∧
    (Tl z lab wx tv t → Tl z (relab lab wx.heap.size (.ch k)) ((w'.setCell ⟨g, p + k * 3 + 1, none⟩ v').setCell ⟨g, p + k * 3 + 2, none⟩ (.int .i64 0)) tv t) := by
  have hz := h.zle
  have hsB := hB.size
  have hgl := h.row.1.lt g rfl
  have hgn := h.row.2.1 g rfl
  have hg := grown_after hB h2
  have hch : NsO z w' v' gb' (e.x.ch ++ [nd]) := by
    refine ⟨?_, fun b e2 => ?_⟩
    · rw [List.length_append, List.map_append]
      exact h1
    · rcases h3 with h3 | ⟨g', h3, h4⟩
      · rw [h3] at e2; exact hc.2 b e2
      · rw [h3] at e2; injection e2 with e2; omega
  obtain ⟨c1, c2, c3, c4⟩ := h.row.chain hn he (fun b e2 => ⟨hcl b e2, hc.lt b e2⟩) hg hch (fun b e2 => by
    rcases h3 with h3 | ⟨g', h3, h4⟩
    · rw [h3] at e2; exact .inl e2
    · rw [h3] at e2; injection e2 with e2; exact .inr (by omega))
  have hkl := (List.getElem?_eq_some_iff.1 he).1
  have he2 : (F.set k ⟨⟨e.x.ep, e.x.ch ++ [nd], e.x.le⟩, v'⟩)[k]? = some ⟨⟨e.x.ep, e.x.ch ++ [nd], e.x.le⟩, v'⟩ := by
    rw [List.getElem?_set]
    simp [hkl]
  have hp := c3.put2 (by rw [List.length_set]; exact hn) he2 0
  rw [List.set_set] at hp
  obtain ⟨d0, d1, d2⟩ := pe_cells he2
  have m2 : Mut z (relab lab wx.heap.size (.ch k)) (w'.setCell ⟨g, p + k * 3 + 1, none⟩ v') ((w'.setCell ⟨g, p + k * 3 + 1, none⟩ v').setCell ⟨g, p + k * 3 + 2, none⟩ (.int .i64 0)) := Mut.of_grown (grow_set _ _ _ _) fun b e2 => by cases e2; exact ⟨hgl.1, .inl (by rw [relab_lt hgl.2]; exact hgn)⟩
  have m := c4.trans m2 fun b hb => relab_lt hb
  exact ⟨⟨c1, c2⟩, ⟨Sl.cell c3.1.1 rfl _ _ d2, Sl.frozen c3.1.1 rfl _⟩, h.mut m (fun b hb => relab_lt hb) hp, fun ht => ht.mut m fun b hb => relab_lt hb⟩
theorem Ap.psr (h : Ap w b1 b2 z x nodes copies lab sv g F lv gl q wx) : PsR (fun b => z ≤ b) wx sv (F.map PE.x) := (show PsO z lab wx sv (F.map PE.x) from ⟨some g, F, rfl, h.row⟩).rd
theorem Ap.plr (h : Ap w b1 b2 z x nodes copies lab sv g F lv gl q wx) : PlR (fun b => z ≤ b) wx (.agg #[.int .i64 nodes, .int .i64 copies, sv, lv]) ⟨nodes, copies, F.map PE.x, q⟩ :=
  ⟨sv, lv, rfl, (show PsO z lab wx sv (F.map PE.x) from ⟨some g, F, rfl, h.row⟩).rd, h.lvs.rd⟩
end
end Go.Proofs.YtmkinnheoejphaaGreatDoor
