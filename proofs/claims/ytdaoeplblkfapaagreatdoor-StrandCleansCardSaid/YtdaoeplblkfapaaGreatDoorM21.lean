import Derived.Test.YtdaoeplblkfapaaGreatDoorM20
import Derived.Test.YtdaoeplblkfapaaGreatDoorM19
import Derived.Test.YtdaoeplblkfapaaGreatDoorM08
import Derived.Test.YtdaoeplblkfapaaGreatDoorM09
import Derived.Shelf.RegionOpen
import Derived.OwnWalkIn
import Derived.TacticsInMore
import Derived.LoopNIn
import Derived.LoopIn
import Derived.Lib.QuietBelow
import Derived.RangeFuncBox
import Derived.Test.YtdaoeplblkfapaaGreatDoorM15

/- PLAIN MATHEMATICS OF READING ON: the batches that end behind an offset, their records. -/
namespace Go.Proofs.YtdaoeplblkfapaaGreatDoor

/-- The batches that end behind an offset, segment by segment. -/
def seqF (G : List Sg) (off : Int) : List Pl.Bt := G.flatMap fun g => g.l.drop (upN g.l off)
theorem upN_zero {l : List Pl.Bt} {off : Int} (h : ∀ b ∈ l, off < bend b) : upN l off = 0 := by
  unfold upN
  cases l with
  | nil => rfl
  | cons b l =>
    have := h b List.mem_cons_self
    rw [List.takeWhile_cons, if_neg (by simp; omega)]
    rfl
theorem seqF_low {G : List Sg} {off : Int} (h : ∀ b ∈ fla G, off < bend b) : seqF G off = fla G := by
  induction G with
  | nil => rfl
  | cons g G ih =>
    have e : fla (g :: G) = g.l ++ fla G := rfl
    rw [e] at h ⊢
    rw [← ih fun b hb => h b (List.mem_append.2 (.inr hb))]
    show g.l.drop (upN g.l off) ++ _ = _
    rw [upN_zero fun b hb => h b (List.mem_append.2 (.inl hb)), List.drop_zero]
    rfl
theorem Log.pos {G : List Sg} (h : Log G) : ∀ b ∈ fla G, (-1 : Int) < bend b := fun b hb => by have := good_bend (h.good b hb); omega
theorem upN_le (l : List Pl.Bt) (off : Int) : upN l off ≤ l.length := by
  have h := List.takeWhile_prefix (p := fun b : Pl.Bt => decide (bend b ≤ off)) (l := l)
  exact h.length_le
theorem seqF_sub (G : List Sg) (off : Int) : ∀ b ∈ seqF G off, b ∈ fla G := fun b hb => by
  obtain ⟨g, hg, hb⟩ := List.mem_flatMap.1 hb
  exact List.mem_flatMap.2 ⟨g, hg, List.mem_of_mem_drop hb⟩
theorem seqF_len (G : List Sg) (off : Int) : (seqF G off).length ≤ (fla G).length := by
  induction G with
  | nil => exact Nat.le_refl _
  | cons g G ih =>
    show (g.l.drop (upN g.l off) ++ seqF G off).length ≤ (g.l ++ fla G).length
    rw [List.length_append, List.length_append, List.length_drop]
    omega
def rcs (l : List Pl.Bt) : List Pl.Rc := l.flatMap Pl.Bt.recs
theorem rcs_append (l m : List Pl.Bt) : rcs (l ++ m) = rcs l ++ rcs m := by simp [rcs]
theorem rcs_one (b : Pl.Bt) : rcs [b] = b.recs := by simp [rcs]
def fromF (off : Int) (l : List Pl.Rc) : List Pl.Rc := l.filter fun r => decide (off ≤ r.off)
theorem fromF_append (off : Int) (l m : List Pl.Rc) : fromF off (l ++ m) = fromF off l ++ fromF off m := by simp [fromF]
theorem fromF_none {off : Int} {l : List Pl.Rc} (h : ∀ r ∈ l, r.off < off) : fromF off l = [] := by
  unfold fromF
  rw [List.filter_eq_nil_iff]
  intro r hr
  have := h r hr
  simp
  omega
theorem fromF_all {off : Int} {l : List Pl.Rc} (h : ∀ r ∈ l, off ≤ r.off) : fromF off l = l := by
  unfold fromF
  rw [List.filter_eq_self]
  intro r hr
  have := h r hr
  simp
  omega
theorem rise_pair {l : List Pl.Rc} {a b : Int} (h : Pl.riseB l a b = true) : l.Pairwise fun r s => r.off < s.off := by
  induction l generalizing a with
  | nil => exact List.Pairwise.nil
  | cons x l ih =>
    obtain ⟨-, -, -, h4⟩ := Pl.riseB_cons.1 h
    exact List.pairwise_cons.2 ⟨fun r hr => (Pl.rise_mem h4 r hr).2.1, ih h4⟩
theorem good_rise {b : Pl.Bt} (h : Pl.goodB b = true) : Pl.riseB b.recs (b.base - 1) (bend b) = true := (Pl.goodB_iff.1 h).2.2.2.2.2.2
theorem rcs_rise : ∀ {l : List Pl.Bt} {x : Int}, Chain x l → (rcs l).Pairwise (fun r s => r.off < s.off) ∧ ∀ r ∈ rcs l, x ≤ r.off
  | [], _, _ => ⟨List.Pairwise.nil, fun r hr => by cases hr⟩
  | b :: l, x, h => by
    obtain ⟨h1, h2, h3⟩ := h
    obtain ⟨i1, i2⟩ := rcs_rise h3
    have hr := good_rise h1
    have hb := good_bend h1
    show (b.recs ++ rcs l).Pairwise _ ∧ ∀ r ∈ b.recs ++ rcs l, _
    refine ⟨List.pairwise_append.2 ⟨rise_pair hr, i1, fun r hr' s hs => ?_⟩, fun r hr' => ?_⟩
    · have := (Pl.rise_mem hr r hr').2.2
      have := i2 s hs
      omega
    · rcases List.mem_append.1 hr' with hr' | hr'
      · have := (Pl.rise_mem hr r hr').2.1; omega
      · have := i2 r hr'; omega
theorem rcs_seqF {G : List Sg} (hg : ∀ b ∈ fla G, Pl.goodB b = true) (off : Int) : fromF off (rcs (seqF G off)) = fromF off (rcs (fla G)) := by
  induction G with
  | nil => rfl
  | cons g G ih =>
    have e : fla (g :: G) = g.l ++ fla G := rfl
    rw [e] at hg ⊢
    show fromF off (rcs (g.l.drop (upN g.l off) ++ seqF G off)) = _
    rw [rcs_append, rcs_append, fromF_append, fromF_append, ih fun b hb => hg b (List.mem_append.2 (.inr hb))]
    congr 1
    conv => rhs; rw [← List.take_append_drop (upN g.l off) g.l, rcs_append, fromF_append]
    rw [fromF_none (l := rcs (g.l.take (upN g.l off))), List.nil_append]
    intro r hr
    obtain ⟨b, hb, hrb⟩ := List.mem_flatMap.1 hr
    rw [take_upN] at hb
    have h1 := List.all_eq_true.1 (List.all_takeWhile (p := fun b : Pl.Bt => decide (bend b ≤ off)) (l := g.l)) b hb
    have h2 := (Pl.rise_mem (good_rise (hg b (List.mem_append.2 (.inl ((List.takeWhile_prefix _).subset hb))))) r hrb).2.2
    simp at h1
    omega
/-- What is read behind a record is what stands behind it. -/
theorem fromF_behind {A B : List Pl.Rc} {r : Pl.Rc} (h : (A ++ r :: B).Pairwise fun r s => r.off < s.off) : fromF (r.off + 1) (A ++ r :: B) = B := by
  rw [List.pairwise_append, List.pairwise_cons] at h
  obtain ⟨-, ⟨h2, -⟩, h3⟩ := h
  rw [fromF_append, fromF_none (fun s hs => by have := h3 s hs r List.mem_cons_self; omega), List.nil_append]
  show fromF (r.off + 1) (r :: B) = B
  have : fromF (r.off + 1) (r :: B) = fromF (r.off + 1) B := by unfold fromF; rw [List.filter_cons, if_neg (by simp; omega)]
  rw [this]
  exact fromF_all fun s hs => by have := h2 s hs; omega
end Go.Proofs.YtdaoeplblkfapaaGreatDoor

/- WHAT A ROUND OF A GOING KEEPS: all cells but the consumer's own: its box, the block of the slice in it, and those that Ex names. -/
namespace Go.Proofs.YtdaoeplblkfapaaGreatDoor
open Go.RowKit

/-- The block of the slice in the box g. -/
def bk (w : World) (g : Nat) : Option Nat :=
  match w.cell? ⟨g, 0, none⟩ with
  | some (.slice (some a) _ _) => some a.block
  | _ => none
theorem bk_same {w w' : World} {g : Nat} (h : w'.cell? ⟨g, 0, none⟩ = w.cell? ⟨g, 0, none⟩) : bk w' g = bk w g := by unfold bk; rw [h]
structure Kp (g : Nat) (Ex : Nat → Prop) (W W' : World) : Prop where
  size : W.heap.size ≤ W'.heap.size
  own : bk W' g = bk W g ∨ ∃ k, bk W' g = some k ∧ W.heap.size ≤ k ∧ k < W'.heap.size
  box : (∃ v, W.cell? ⟨g, 0, none⟩ = some v) → ∃ v, W'.cell? ⟨g, 0, none⟩ = some v
  same : ∀ (b : Nat) (o : Obj), W.heap[b]? = some o → o.isCells = true → ¬ Ex b → b ≠ g → some b ≠ bk W g → W'.heap[b]? = some o
/-- A block that is not the consumer's own. -/
def Nown (g : Nat) (Ex : Nat → Prop) (W : World) (b : Nat) : Prop := ¬ Ex b ∧ b ≠ g ∧ some b ≠ bk W g
section
variable {g : Nat} {Ex : Nat → Prop} {A B C W W' : World}
theorem Kp.refl (g : Nat) (Ex : Nat → Prop) (W : World) : Kp g Ex W W := ⟨Nat.le_refl _, .inl rfl, id, fun _ _ h _ _ _ _ => h⟩
theorem Kp.nown (k : Kp g Ex W W') {b : Nat} (hl : b < W.heap.size) (h : Nown g Ex W b) : Nown g Ex W' b := by
  refine ⟨h.1, h.2.1, ?_⟩
  rcases k.own with e | ⟨j, e, hj⟩
  · rw [e]; exact h.2.2
  · rw [e]; intro e'; cases e'; omega
theorem Kp.lt (k : Kp g Ex W W') (h : ∀ j, bk W g = some j → j < W.heap.size) : ∀ j, bk W' g = some j → j < W'.heap.size := fun j hj => by
  rcases k.own with e | ⟨i, e, -, hi⟩
  · rw [e] at hj; exact Nat.lt_of_lt_of_le (h j hj) k.size
  · rw [e] at hj; cases hj; exact hi
theorem Kp.trans (h : Kp g Ex A B) (k : Kp g Ex B C) : Kp g Ex A C := by
  refine ⟨Nat.le_trans h.size k.size, ?_, fun hv => k.box (h.box hv), fun b o hb hc h1 h2 h3 => ?_⟩
  · rcases k.own with e | ⟨j, e, hj, hj2⟩
    · rw [e]
      exact h.own.imp id fun ⟨j, e, h1, h2⟩ => ⟨j, e, h1, Nat.lt_of_lt_of_le h2 k.size⟩
    · exact .inr ⟨j, e, Nat.le_trans h.size hj, hj2⟩
  · exact k.same b o (h.same b o hb hc h1 h2 h3) hc h1 h2 (h.nown (lt_of_block hb) ⟨h1, h2, h3⟩).2.2
theorem Kp.below (hg : g < W.heap.size) (h : Below W.heap.size W W') : Kp g Ex W W' :=
  ⟨h.size, .inl (bk_same (h.cell (p := ⟨g, 0, none⟩) hg)), fun ⟨v, hv⟩ => ⟨v, (h.cell (p := ⟨g, 0, none⟩) hg).trans hv⟩, fun b o hb _ _ _ _ => by rw [h.block b (lt_of_block hb)]; exact hb⟩
theorem Kp.book {n l : Nat} (hn : g < n) {o : Obj} (o' : Obj) (hl : n ≤ l) (h : W.heap[l]? = some o) (hc : o.isCells = false) : Kp g Ex W (W.putObj l o') := by
  have e : (W.putObj l o').cell? ⟨g, 0, none⟩ = W.cell? ⟨g, 0, none⟩ := World.cell?_of_block (World.putObj_heap_other (by show g ≠ l; omega))
  refine ⟨by simp, .inl (bk_same e), fun ⟨v, hv⟩ => ⟨v, e.trans hv⟩, fun b u hb hu _ _ _ => ?_⟩
  rw [World.putObj_heap_other]
  · exact hb
  · rintro rfl; rw [h] at hb; cases hb; rw [hc] at hu; cases hu
theorem Kp.cell (k : Kp g Ex W W') {b i : Nat} {v : Value} (h : W.cell? ⟨b, i, none⟩ = some v) (hn : Nown g Ex W b) : W'.cell? ⟨b, i, none⟩ = some v := by
  obtain ⟨o, ho, hc⟩ := cells_of_cell h
  rw [World.cell?_of_block (w := W)]
  · exact h
  · show W'.heap[b]? = W.heap[b]?
    rw [k.same b o ho hc hn.1 hn.2.1 hn.2.2]
    exact ho.symm
theorem Kp.rds (k : Kp g Ex W W') {u : Value} {size m : Nat} {xs : List Value} {Q Q' : Nat → Prop} (h : Rds Q W u size m xs) (_hs : 0 < size) (hQ : ∀ b, Q b → b < W.heap.size → Nown g Ex W b ∧ Q' b) : Rds Q' W' u size m xs := by
  refine ⟨h.1, ?_⟩
  rcases h.2 with h2 | ⟨ad, cap, rfl, h2⟩
  · exact .inl h2
  · refine .inr ⟨ad, cap, rfl, fun h0 => ?_⟩
    obtain ⟨b, p, rfl, ha, hb, hc⟩ := h2 h0
    obtain ⟨n1, n2⟩ := hQ b ha hb
    exact ⟨b, p, rfl, n2, Nat.lt_of_lt_of_le hb k.size, fun j x hj => k.cell (hc j x hj) n1⟩
theorem Kp.bts (k : Kp g Ex W W') {u : Value} {L : List (Pl.Bt × Value)} {Q Q' : Nat → Prop} (h : BtIn Q W u L) (hQ : ∀ b, Q b → b < W.heap.size → Nown g Ex W b ∧ Q' b) : BtIn Q' W' u L :=
  ⟨k.rds h.1 (by decide) hQ, fun p hp => k.rds (h.2 p hp) (by decide) hQ⟩
theorem Nown.below (hg : g < W.heap.size) (h : Below W.heap.size W W') {b : Nat} (hn : Nown g Ex W b) : Nown g Ex W' b :=
  ⟨hn.1, hn.2.1, by rw [bk_same (h.cell (p := ⟨g, 0, none⟩) hg)]; exact hn.2.2⟩
theorem Nown.fresh (hg : g < W.heap.size) (hex : ∀ b, Ex b → b < W.heap.size) (hbk : ∀ k, bk W g = some k → k < W.heap.size) (h : Below W.heap.size W W') {b : Nat} (hb : W.heap.size ≤ b) : Nown g Ex W' b :=
  ⟨fun h1 => by have := hex b h1; omega, by omega, by rw [bk_same (h.cell (p := ⟨g, 0, none⟩) hg)]; intro e; have := hbk b e.symm; omega⟩
end
/-- What is known of an element when it comes: the batches, and it behind them, begin those that are gone over; its records aren't the consumer's. -/
def Comes (lo : Nat) (G : List Sg) (off : Int) (g : Nat) (Ex : Nat → Prop) (pre : List (Pl.Bt × Value)) (x : Pl.Bt × Value) (W : World) : Prop :=
  (∃ ys, pre.map (·.1) ++ x.1 :: ys = seqF G off) ∧ RcIn (fun b => Nown g Ex W b ∧ lo ≤ b ∧ b < W.heap.size) W x.2 x.1.recs ∧ ∃ v, W.cell? ⟨g, 0, none⟩ = some v
/-- A turn of a block that is no cells. -/
theorem Kp.turn {g : Nat} {Ex : Nat → Prop} {W W' : World} {row : Option Nat} {v : Value} (h3 : W.cell? ⟨g, 0, none⟩ = some v) (hg : W.grownBy W' row) (hr : ∀ r, row = some r → ∃ o : Obj, W.heap[r]? = some o ∧ o.isCells = false) : Kp g Ex W W' := by
  refine ⟨hg.size, .inl ?_, fun _ => ⟨v, cell_kept h3 hg hr⟩, fun b o hb hc _ _ _ => ?_⟩
  · exact bk_same ((cell_kept h3 hg hr).trans h3.symm)
  · refine (hg.block b (lt_of_block hb) fun e => ?_).trans hb
    obtain ⟨o', ho', hc'⟩ := hr b e.symm
    rw [hb] at ho'
    cases ho'
    rw [hc] at hc'
    cases hc'
theorem comes_own {lo : Nat} {G : List Sg} {off : Int} {g : Nat} {Ex : Nat → Prop} (B : Nat) (pre : List (Pl.Bt × Value)) : OwnFrom B (Comes lo G off g Ex pre) := by
  rintro x W W' row ⟨h1, h2, v, h3⟩ hg hr
  have hk : Kp g Ex W W' := Kp.turn h3 hg fun r e => (hr r e).2
  exact ⟨h1, hk.rds h2 (by decide) fun b hb hl => ⟨hb.1, hk.nown hl hb.1, hb.2.1, Nat.lt_of_lt_of_le hl hg.size⟩, v, cell_kept h3 hg fun r e => (hr r e).2⟩
end Go.Proofs.YtdaoeplblkfapaaGreatDoor

/- THE GOING over a strand's batches: the contract of the function that Batches returns. -/
namespace Go.Proofs.YtdaoeplblkfapaaGreatDoor
open Go.RowKit Go.Shelf
attribute [local go_sem] Oper.semAt_some

/-- What lies when a going begins: the strand, and where its batches lie; nothing of it is the consumer's. -/
structure Goes (W : World) (s bs bo : Nat) (off : Int) (h : Hs) (X : List Sx) (v : Value) (gb : Option Nat) (g : Nat) (Ex : Nat → Prop) (A : Nat → Prop) : Prop where
  lies : Lies W s h X v gb A
  cs : W.cell? ⟨bs, 0, none⟩ = some (.pointer (some ⟨s, 0, none⟩))
  co : W.cell? ⟨bo, 0, none⟩ = some (.int .i64 off)
  no : Nown g Ex W bo
  own : ∀ b, Os s gb X b → Nown g Ex W b
  recs : ∀ b, b < W.heap.size → A b → Nown g Ex W b
  box : ∃ u, W.cell? ⟨g, 0, none⟩ = some u
  bkl : ∀ k, bk W g = some k → k < W.heap.size
  exl : ∀ b, Ex b → b < W.heap.size
  chs : Chs (X.map Sx.sg)
  small : X.length ≤ 1048576 ∧ (∀ x ∈ X, x.L.length ≤ 1048576)
theorem Goes.below {W W' : World} {s bs bo : Nat} {off : Int} {h : Hs} {X : List Sx} {v : Value} {gb : Option Nat} {g : Nat} {Ex A : Nat → Prop} (k : Goes W s bs bo off h X v gb g Ex A) (b : Below W.heap.size W W') (hbs : bs < W.heap.size) (hbo : bo < W.heap.size) : Goes W' s bs bo off h X v gb g Ex (fun x => A x ∧ x < W.heap.size) := by
  obtain ⟨u, hu⟩ := k.box
  have hg : g < W.heap.size := block_lt_of_cell hu
  refine ⟨(k.lies.keep (Nat.le_refl _) (fun _ _ => rfl) fun b hb hl => ⟨rfl, hb, hl⟩).below b, (b.cell (p := ⟨bs, 0, none⟩) hbs).trans k.cs, (b.cell (p := ⟨bo, 0, none⟩) hbo).trans k.co, k.no.below hg b, fun x hx => (k.own x hx).below hg b, fun x _ hx => (k.recs x hx.2 hx.1).below hg b, ⟨u, (b.cell (p := ⟨g, 0, none⟩) hg).trans hu⟩, fun x hx => ?_, fun x hx => Nat.lt_of_lt_of_le (k.exl x hx) b.size, k.chs, k.small⟩
  rw [bk_same (b.cell (p := ⟨g, 0, none⟩) hg)] at hx
  exact Nat.lt_of_lt_of_le (k.bkl x hx) b.size
theorem seqF_snoc {G : List Sg} {i : Nat} {x : Sg} (h : G[i]? = some x) (off : Int) : seqF (G.take (i + 1)) off = seqF (G.take i) off ++ x.l.drop (upN x.l off) := by
  have hl := (List.getElem?_eq_some_iff.1 h).1
  rw [List.take_succ_eq_append_getElem hl]
  rw [List.getElem?_eq_getElem hl] at h
  rw [Option.some.inj h]
  simp [seqF]
theorem seqF_split {G : List Sg} {i : Nat} {x : Sg} (h : G[i]? = some x) (off : Int) : seqF (G.take i) off ++ (x.l.drop (upN x.l off) ++ seqF (G.drop (i + 1)) off) = seqF G off := by
  conv => rhs; rw [← List.take_append_drop (i + 1) G]
  rw [show seqF (G.take (i + 1) ++ G.drop (i + 1)) off = seqF (G.take (i + 1)) off ++ seqF (G.drop (i + 1)) off from List.flatMap_append, seqF_snoc h, List.append_assoc]
theorem take_next {α : Type} {l : List α} {q : Nat} {b : α} (h : l[q]? = some b) : l.take (q + 1) = l.take q ++ [b] := by
  have hl := (List.getElem?_eq_some_iff.1 h).1
  rw [List.take_succ_eq_append_getElem hl]
  rw [List.getElem?_eq_getElem hl] at h
  rw [Option.some.inj h]
theorem drop_at {α : Type} {l : List α} {q : Nat} {b : α} (h : l[q]? = some b) : l.drop q = b :: l.drop (q + 1) := by
  have hl := (List.getElem?_eq_some_iff.1 h).1
  rw [List.drop_eq_getElem_cons hl]
  rw [List.getElem?_eq_getElem hl] at h
  rw [Option.some.inj h]

set_option maxRecDepth 100000 in
set_option maxHeartbeats 4000000 in
theorem goes_any (n lo : Nat) (hn : 1 ≤ n) (l s bs bo : Nat) (off : Int) (h : Hs) (X : List Sx) (v : Value) (gb : Option Nat) (g : Nat) (Ex A : Nat → Prop) (W : World) (J Jx : List (Pl.Bt × Value) → World → Prop)
    (k : Goes W s bs bo off h X v gb g Ex A) (hlo : lo ≤ W.heap.size) (hJ : AbidesFrom W.heap.size J)
    (hY : ∀ pre x V, J pre V → Comes lo (X.map Sx.sg) off g Ex pre x V → YieldAt Fence.wide (n - 1) Tryz.prog l #[bv x] V fun e V' => (e = .returned (.bool true) ∧ J (pre ++ [x]) V' ∧ Kp g Ex V V') ∨ (e = .returned (.bool false) ∧ Jx (pre ++ [x]) V'))
    (h0 : J [] W) :
    CallsIn Fence.wide n Tryz.prog 115 #[.func (.yield l) #[] #[], .pointer (some ⟨bs, 0, none⟩), .pointer (some ⟨bo, 0, none⟩)] W fun e W' => (∃ v, e = .returned v) ∧
      ((∃ xs, xs.map (·.1) = seqF (X.map Sx.sg) off ∧ J xs W') ∨ (∃ pre, (∃ ys, pre.map (·.1) ++ ys = seqF (X.map Sx.sg) off) ∧ Jx pre W')) := by
  obtain ⟨N, hN⟩ : ∃ N, X.length = N := ⟨_, rfl⟩
  have hXN : N ≤ 1048576 := by rw [← hN]; exact k.small.1
  have cs := k.cs
  have c4 : W.cell? ⟨s, 4, none⟩ = some v := k.lies.head.cell rfl
  have HC := Lib.hid (cloneSg v N (X.flatMap sc3) W (by rw [← hN]; exact Rds.of_sl (A := fun _ => True) k.lies.segs fun _ _ => trivial) (sc3_one k.lies) hXN)
  have HK := Lib.hid k
  have HN := Lib.hid hN
  have HY := Lib.hid hY
  have HJB : Hid (∀ pre V V', W.heap.size ≤ V.heap.size → J pre V → Below V.heap.size V V' → J pre V') := Lib.hid fun pre V V' _ hj hb => hJ pre V V' none hj ⟨hb.os, hb.tape, hb.output, hb.size, fun k hk _ => hb.block k hk⟩ (fun r e => by cases e)
  have H0 := Lib.hid h0
  obtain ⟨va, vc, rfl⟩ := k.lies.segs.form
  rw [hN] at c4 HC
  clear k hN hY hJ h0
  refine callsIn_of_wp Tryz.func115 rfl trivial ?_ rfl
  simp only [Tryz.ntmps115, List.size_toArray, List.length_cons, List.length_nil, Nat.reduceAdd, Nat.reduceSub, Array.replicate_succ, Array.replicate_zero, List.push_toArray, List.append_toArray, List.nil_append, List.cons_append]
  gi_wp2_with fail
  refine ⟨trivial, (callsIn_wide.2 HC.out).mono ?_⟩
  rintro e w1 ⟨v1, gb1, rfl, hs1, hn1, hb1⟩
  obtain ⟨u1, hu1⟩ := HK.out.box
  have hgW : g < W.heap.size := block_lt_of_cell hu1
  have hJ1 : J [] w1 := HJB.out [] W w1 (Nat.le_refl _) H0.out hb1
  obtain ⟨xa, xc, hxv⟩ := hs1.form
  subst hxv
  have hlists : ∀ x ∈ X, BtIn (Nown g Ex w1) w1 x.lv x.L := fun x hx => by
    have h1 := HK.out.lies.list hx
    have h2 : BtIn (Nown g Ex W) W x.lv x.L := by
      have key : ∀ b, (A b ∨ x.lb = some b) → b < W.heap.size → W.heap[b]? = W.heap[b]? ∧ Nown g Ex W b := fun b hb hl => ⟨rfl, hb.elim (HK.out.recs b hl) fun e => HK.out.own b (.inr (.inr ⟨x, hx, e⟩))⟩
      exact ⟨Rds.keep h1.1 (Nat.le_refl _) key, All.keep h1.2 (Nat.le_refl _) key⟩
    exact (h2.below hb1).mono fun b hb => hb.below hgW hb1
  have hco : w1.cell? ⟨bo, 0, none⟩ = some (.int .i64 off) := (hb1.cell (p := ⟨bo, 0, none⟩) (block_lt_of_cell HK.out.co)).trans HK.out.co
  have hno : Nown g Ex w1 bo := HK.out.no.below hgW hb1
  have hcb : ∀ b, gb1 = some b → Nown g Ex w1 b := fun b hb => Nown.fresh hgW HK.out.exl HK.out.bkl hb1 (hn1 b hb)
  have hg1 : g < w1.heap.size := Nat.lt_of_lt_of_le hgW hb1.size
  have hW1 := hb1.size
  have HL := Lib.hid hlists
  have HBOX : Hid (∃ v, w1.cell? ⟨g, 0, none⟩ = some v) := Lib.hid ⟨u1, (hb1.cell (p := ⟨g, 0, none⟩) hgW).trans hu1⟩
  have HBKL : Hid (∀ j, bk w1 g = some j → j < w1.heap.size) := Lib.hid fun j hj => by
    rw [bk_same (hb1.cell (p := ⟨g, 0, none⟩) hgW)] at hj
    exact Nat.lt_of_lt_of_le (HK.out.bkl j hj) hW1
  have HCO := Lib.hid hco
  have HNO := Lib.hid hno
  have HCB := Lib.hid hcb
  have HS1 := Lib.hid hs1
  have HJ1 := Lib.hid hJ1
  clear hs1 hn1 hb1 hu1 hJ1 hlists hco hno hcb c4 cs HC H0
  gi_wp2_with fail
  gi_loopw [16] (fun iv wr => ∃ (i : Nat) (pre : List (Pl.Bt × Value)), i ≤ N ∧ iv = .int .i64 i ∧ pre.map (·.1) = seqF ((X.map Sx.sg).take i) off ∧ J pre wr ∧ Kp g Ex w1 wr) (fun iv _ => N - (intOf iv).toNat)
  case atStart => exact ⟨0, [], Nat.zero_le _, rfl, rfl, HJ1.out, Kp.refl _ _ _⟩
  case round =>
    obtain ⟨i, pre, hi, rfl, hpre, hJr, hkp⟩ := hrel
    by_cases hlt : i < N
    · obtain ⟨x, hx⟩ : ∃ x, X[i]? = some x := ⟨_, List.getElem?_eq_getElem (by rw [HN.out]; exact hlt)⟩
      have hxm := List.mem_of_getElem? hx
      have hsx := HS1.out
      rcases hsx.2 with ⟨-, -, hz⟩ | ⟨cb, p, cap, cur, hcb, hv, hcur, -⟩
      · omega
      · injection hv with e1 e2 e3
        subst e1 e3
        have hn := HCB.out cb hcb
        have key : ∀ r u, r < 3 → (sc3 x)[r]? = some u → wr.cell? ⟨cb, p + i * 3 + r, none⟩ = some u := fun r u hr hu => by
          have h1 := hsx.cell rfl (i * 3 + r) u (by rw [flat_at sc3 3 sc3_length X i x hx r hr]; exact hu)
          rw [← Nat.add_assoc] at h1
          exact hkp.cell h1 hn
        have q0 : wr.cell? ⟨cb, p + i * 3, none⟩ = some (.int .i64 x.first) := key 0 _ (by decide) rfl
        have q1 : wr.cell? ⟨cb, p + i * 3 + 1, none⟩ = some (.int .i64 ((frs x.bts).length : Nat)) := key 1 _ (by decide) rfl
        have q2 : wr.cell? ⟨cb, p + i * 3 + 2, none⟩ = some x.lv := key 2 _ (by decide) rfl
        have hch : Chain x.first x.bts := HK.out.chs x.sg (List.mem_map.2 ⟨x, hxm, rfl⟩)
        have hLx := HK.out.small.2 x hxm
        have hxl := HL.out x hxm
        have hform := (HK.out.lies.lists x hxm).2
        have hgi : (X.map Sx.sg)[i]? = some x.sg := by rw [List.getElem?_map, hx]; rfl
        have HGI := Lib.hid hgi
        have hco2 := hkp.cell HCO.out HNO.out
        obtain ⟨y, hy⟩ : ∃ y, (frs x.bts).length = y := ⟨_, rfl⟩
        obtain ⟨F, hF⟩ : ∃ F, x.first = F := ⟨_, rfl⟩
        obtain ⟨lv, hlv⟩ : ∃ lv, x.lv = lv := ⟨_, rfl⟩
        obtain ⟨L, hL⟩ : ∃ L, x.L = L := ⟨_, rfl⟩
        have hbt : x.bts = L.map (·.1) := by rw [← hL]; rfl
        obtain ⟨u, hu⟩ : ∃ u, upN (L.map (·.1)) off = u := ⟨_, rfl⟩
        have hule : u ≤ L.length := by rw [← hu]; have := upN_le (L.map (·.1)) off; rw [List.length_map] at this; exact this
        rw [hF] at q0 hch
        rw [hy] at q1
        rw [hlv] at q2 hxl hform
        rw [hL] at hxl hform hLx
        rw [hbt] at hch
        obtain ⟨W2, hW2⟩ : ∃ W2, wr.alloc (.cells #[.int .i64 F, .int .i64 y, lv] 119) = W2 := ⟨_, rfl⟩
        have hb2 : Below wr.heap.size wr W2 := by rw [← hW2]; exact (Below.refl _ _).alloc (Nat.le_refl _) _
        have hg2 : Blk W2 wr.heap.size #[.int .i64 F, .int .i64 y, lv] 119 := by rw [← hW2]; exact Blk.new _ _ _
        have hgr : g < wr.heap.size := Nat.lt_of_lt_of_le hg1 hkp.size
        have hkp2 : Kp g Ex w1 W2 := hkp.trans (Kp.below hgr hb2)
        have hJ2 : J pre W2 := HJB.out pre wr W2 (Nat.le_trans hW1 hkp.size) hJr hb2
        have p0 : W2.cell? ⟨wr.heap.size, 0, none⟩ = some (.int .i64 F) := hg2.cell rfl
        have p1 : W2.cell? ⟨wr.heap.size, 1, none⟩ = some (.int .i64 y) := hg2.cell rfl
        have p2 : W2.cell? ⟨wr.heap.size, 2, none⟩ = some lv := hg2.cell rfl
        have co2 : W2.cell? ⟨bo, 0, none⟩ = some (.int .i64 off) := hkp2.cell HCO.out HNO.out
        have hxl2 : BtIn (fun _ => True) W2 lv L := hkp2.bts hxl fun b hb _ => ⟨hb, trivial⟩
        have HU : ∀ wx, Below W2.heap.size W2 wx → Calls Tryz.prog 96 #[.agg #[.int .i64 F, .int .i64 y, lv], .int .i64 off] wx fun e w' => e = .returned (.int .i64 (u : Nat)) ∧ Below wx.heap.size wx w' := fun wx hbx => by
          rw [← hu]; exact upto_any F y off lv L wx (hxl2.below hbx) hch hLx
        have k0 : ∀ d os, _ := cell_regrown p0
        have k1 : ∀ d os, _ := cell_regrown p1
        have k2 : ∀ d os, _ := cell_regrown p2
        have k3 : ∀ d os, _ := cell_regrown co2
        have HUP := Lib.hid fun d os => Calls.regrown_of (HU _ (below_regrown W2 d os))
        have HPRE := Lib.hid hpre
        have HKP2 := Lib.hid hkp2
        have HJ2 := Lib.hid hJ2
        have HXL := Lib.hid hxl
        have HCH := Lib.hid hch
        have HBT := Lib.hid hbt
        have HUU := Lib.hid hu
        have HW2 := Lib.hid hW2
        have HW2S := Lib.hid (Nat.le_trans (Nat.le_trans hW1 hkp.size) hb2.size)
        rcases hform with ⟨hv0, -, hl0⟩ | ⟨lb, lp, lcap, lcur, -, hv1, -, hlc, -⟩
        · subst hv0
          obtain rfl : u = 0 := by omega
          clear hpre hJr hkp hx hxm hsx hcur hn key hch hLx hxl hgi hco2 hy hF hlv hL hbt hu hule hb2 hg2 hgr hkp2 hJ2 p0 p1 p2 co2 hxl2 HU hW2
          gi_wp2_with fail
          rw [HW2.out]
          refine wpIn_wide.2 ?_
          refine wp_region_quiet_below (by kernel_rfl) (by kernel_rfl) ?_
          repeat (go_big_quiet_step ((go_at_call 96; with_reducible exact HUP.out _ _)))
          refine wpQuiet_nil ?_
          intro w3 hw3
          obtain ⟨⟨dq, osq⟩, hw3'⟩ := hw3
          have hb3 : Below W2.heap.size W2 w3 := by rw [hw3']; exact below_regrown W2 dq osq
          have hkp3 := HKP2.out.trans (Kp.below (Nat.lt_of_lt_of_le hg1 HKP2.out.size) hb3)
          have hj3 := HJB.out pre W2 w3 HW2S.out HJ2.out hb3
          have HKP3 := Lib.hid hkp3
          have HJ3 := Lib.hid hj3
          have hL0 : L = [] := List.eq_nil_of_length_eq_zero hl0
          have hnx : seqF ((X.map Sx.sg).take (i + 1)) off = seqF ((X.map Sx.sg).take i) off := by
            rw [seqF_snoc HGI.out, show x.sg.l = x.bts from rfl, HBT.out, hL0]
            simp
          have HNX := Lib.hid hnx
          clear hw3' hb3 hkp3 hj3 k0 k1 k2 k3 HUP hL0 hnx
          go_wp2_with fail
          gi_wp2_with fail
          gi_loopw [27] (fun jv wz => jv = .int .i64 0 ∧ J pre wz ∧ Kp g Ex w1 wz) (fun _ _ => 0)
          case atStart => exact ⟨rfl, HJ3.out, HKP3.out⟩
          case round =>
            obtain ⟨rfl, hj4, hkp4⟩ := hrel
            gi_wp2_with fail
            go_roundw
            case rel => exact ⟨i + 1, pre, by omega, by go_num, by rw [HNX.out]; exact HPRE.out, hj4, hkp4⟩
            case measure => simp [intOf]; omega
        · subst hv1
          obtain ⟨M, hM⟩ : ∃ M, L.length = M := ⟨_, rfl⟩
          have i0 : (0 : Int) ≤ (u : Int) := by omega
          have i1 : (u : Int) ≤ (M : Int) := by omega
          have i2 : (M : Int) ≤ (lcap : Int) := by omega
          have i3 : M ≤ lcap := by omega
          rw [hM] at p2 k2 HUP hule
          have hMs : M ≤ 1048576 := by rw [← hM]; exact hLx
          have HM := Lib.hid hM
          clear hpre hJr hkp hx hxm hsx hcur hn key hch hLx hxl hgi hco2 hy hF hlv hL hbt hu hb2 hg2 hgr hkp2 hJ2 p0 p1 p2 co2 hxl2 HU hM hlc hW2
          rw [HM.out] at q2 HW2
          gi_wp2_with fail
          rw [HW2.out]
          refine wpIn_wide.2 ?_
          refine wp_region_quiet_below (by kernel_rfl) (by kernel_rfl) ?_
          repeat (go_big_quiet_step ((go_at_call 96; with_reducible exact HUP.out _ _)))
          refine wpQuiet_nil ?_
          intro w3 hw3
          obtain ⟨⟨dq, osq⟩, hw3'⟩ := hw3
          have hb3 : Below W2.heap.size W2 w3 := by rw [hw3']; exact below_regrown W2 dq osq
          have hkp3 := HKP2.out.trans (Kp.below (Nat.lt_of_lt_of_le hg1 HKP2.out.size) hb3)
          have hj3 := HJB.out pre W2 w3 HW2S.out HJ2.out hb3
          have HKP3 := Lib.hid hkp3
          have HJ3 := Lib.hid hj3
          obtain ⟨ad, had⟩ : ∃ ad : Option Addr, (if lcap = u then some ⟨lb, lp, none⟩ else some ⟨lb, lp + u * 6, none⟩) = ad := ⟨_, rfl⟩
          rw [had]
          have HAD : Hid (u < M → ad = some ⟨lb, lp + u * 6, none⟩) := Lib.hid fun h => by rw [← had, if_neg (by omega)]
          have HSP := Lib.hid (seqF_split HGI.out off)
          have HNX := Lib.hid (seqF_snoc HGI.out off)
          rw [show x.sg.l = x.bts from rfl, HBT.out, HUU.out] at HSP HNX
          clear hw3' hb3 hkp3 hj3 k0 k1 k2 k3 HUP had
          go_wp2_with fail
          gi_wp2_with fail
          gi_loopw [27] (fun jv wz => ∃ (q : Nat) (pre' : List (Pl.Bt × Value)), q ≤ M - u ∧ jv = .int .i64 q ∧ pre'.map (·.1) = seqF ((X.map Sx.sg).take i) off ++ ((L.map (·.1)).drop u).take q ∧ J pre' wz ∧ Kp g Ex w1 wz) (fun jv _ => (M - u) - (intOf jv).toNat)
          case atStart => exact ⟨0, pre, Nat.zero_le _, rfl, by rw [List.take_zero, List.append_nil]; exact HPRE.out, HJ3.out, HKP3.out⟩
          case round =>
            obtain ⟨q, pre', hq, rfl, hpre', hjz, hkz⟩ := hrel
            by_cases hqlt : q < M - u
            · obtain rfl := HAD.out (by omega)
              obtain ⟨⟨⟨base, count, prod, seq, time, recs⟩, rv0⟩, hLq⟩ : ∃ p, L[u + q]? = some p := ⟨_, List.getElem?_eq_getElem (by rw [HM.out]; omega)⟩
              have hbz : BtIn (fun _ => True) _ _ L := hkz.bts HXL.out fun b hb _ => ⟨hb, trivial⟩
              obtain ⟨gg, oo, cc, hvv, -, hgl, d0, d1, d2, d3, d4, d5, hrc⟩ := hbz.get hLq
              injection hvv with hv1 hv2 hv3
              injection hv1 with hv1
              injection hv1 with hv4 hv5
              subst hv4 hv5
              rw [Nat.add_mul, ← Nat.add_assoc] at d0 d1 d2 d3 d4 d5
              have hgood := HCH.out.good _ (List.mem_map.2 ⟨_, List.mem_of_getElem? hLq, rfl⟩)
              have hrl := (Pl.enc_short hgood).2.2
              obtain ⟨ra, rcap, hra⟩ := hrc.slice
              subst hra
              have hb6 := (Below.refl wr.heap.size wr).alloc (Nat.le_refl _) (.cells #[.int .i64 base, .int .i64 count, .int .i64 prod, .int .i64 seq, .int .i64 time, .slice ra recs.length rcap] 34)
              have hcl := cloned_any (A := fun _ => True) (⟨base, count, prod, seq, time, recs⟩, .slice ra recs.length rcap) _ (hrc.below hb6) (by show recs.length ≤ _; simp only at hrl; omega)
              obtain ⟨rl, hrlen⟩ : ∃ rl, recs.length = rl := ⟨_, rfl⟩
              simp only [bv] at hcl
              rw [hrlen] at d5 hcl hb6
              have HCL := Lib.hid hcl
              have HB6 := Lib.hid hb6
              have HJZ := Lib.hid hjz
              have HKZ := Lib.hid hkz
              have HPZ := Lib.hid hpre'
              have HLQ := Lib.hid hLq
              have j1 : (0 : Int) ≤ (q : Int) := by omega
              have j2 : (q : Int) < ((M - u : Nat) : Int) := by omega
              clear hbz hgl hrc hgood hrl hb6 hcl hjz hkz hpre' hLq hv2 hv3
              gi_wp2_with fail
              refine ⟨trivial, (callsIn_wide.2 HCL.out).mono ?_⟩
              rintro e w7 ⟨rv, rfl, hr7, hb7⟩
              have hbz7 := HB6.out.trans (hb7.mono HB6.out.size)
              have hgz : g < wr.heap.size := Nat.lt_of_lt_of_le hg1 HKZ.out.size
              have hk7 := HKZ.out.trans (Kp.below hgz hbz7)
              have hj7 := HJB.out pre' wr w7 (Nat.le_trans hW1 HKZ.out.size) HJZ.out hbz7
              have hcm : Comes lo (X.map Sx.sg) off g Ex pre' (⟨base, count, prod, seq, time, recs⟩, rv) w7 := by
                refine ⟨⟨((L.map (·.1)).drop u).drop (q + 1) ++ seqF ((X.map Sx.sg).drop (i + 1)) off, ?_⟩, ?_, ?_⟩
                · rw [HPZ.out, ← HSP.out, List.append_assoc]
                  congr 1
                  have h1 : ((L.map (·.1)).drop u)[q]? = some ⟨base, count, prod, seq, time, recs⟩ := by rw [List.getElem?_drop, List.getElem?_map, HLQ.out]; rfl
                  conv => rhs; rw [← List.take_append_drop q ((L.map (·.1)).drop u), drop_at h1]
                  simp
                · refine Rds.keep hr7 (Nat.le_refl _) fun b hb hl => ⟨rfl, ?_, ?_, hl⟩
                  · change _ ≤ b at hb
                    refine Nown.fresh hgz (fun b hb => Nat.lt_of_lt_of_le (HK.out.exl b hb) (Nat.le_trans hW1 HKZ.out.size)) (HKZ.out.lt HBKL.out) hbz7 (by have := HB6.out.size; omega)
                  · change _ ≤ b at hb
                    have := HB6.out.size
                    have := HKZ.out.size
                    omega
                · exact (Kp.below (Ex := Ex) hgz hbz7).box (HKZ.out.box HBOX.out)
              obtain ⟨fn, tmps, assign, body, hyy, hR⟩ := HY.out pre' _ w7 hj7 hcm
              have HK7 := Lib.hid hk7
              simp only [bv] at hyy
              clear hr7 hb7 hbz7 hgz hk7 hj7 hcm
              gi_wp2_with fail
              refine hR.mono ?_
              rintro e w9 (⟨rfl, hj9, hk9⟩ | ⟨rfl, hjx⟩)
              · have HJ9 := Lib.hid hj9
                have HK9 := Lib.hid (HK7.out.trans hk9)
                have hsn : Hid ((pre' ++ [((⟨base, count, prod, seq, time, recs⟩ : Pl.Bt), rv)]).map (·.1) = seqF ((X.map Sx.sg).take i) off ++ ((L.map (·.1)).drop u).take (q + 1)) := Lib.hid (by
                  have h1 : ((L.map (·.1)).drop u)[q]? = some ⟨base, count, prod, seq, time, recs⟩ := by rw [List.getElem?_drop, List.getElem?_map, HLQ.out]; rfl
                  rw [take_next h1, List.map_append, HPZ.out, List.append_assoc]
                  rfl)
                clear hj9 hk9
                gi_wp2_with fail
                go_roundw
                case rel => exact ⟨q + 1, _, by omega, by go_num, hsn.out, HJ9.out, HK9.out⟩
                case measure => simp [intOf]; omega
              · have HF := Lib.hid hjx
                have hsn : Hid (∃ ys, (pre' ++ [((⟨base, count, prod, seq, time, recs⟩ : Pl.Bt), rv)]).map (·.1) ++ ys = seqF (X.map Sx.sg) off) := Lib.hid ⟨((L.map (·.1)).drop u).drop (q + 1) ++ seqF ((X.map Sx.sg).drop (i + 1)) off, by
                  have h1 : ((L.map (·.1)).drop u)[q]? = some ⟨base, count, prod, seq, time, recs⟩ := by rw [List.getElem?_drop, List.getElem?_map, HLQ.out]; rfl
                  rw [← HSP.out, List.map_append, HPZ.out]
                  conv => rhs; rw [← List.take_append_drop q ((L.map (·.1)).drop u), drop_at h1]
                  simp⟩
                clear hjx
                gi_wp2_with fail
                refine bodyPost_ret (results_none rfl _ _ _) rfl ?_
                exact ⟨⟨_, rfl⟩, .inr ⟨_, hsn.out, HF.out⟩⟩
            · obtain rfl : q = M - u := by omega
              have HJZ := Lib.hid hjz
              have HKZ := Lib.hid hkz
              have hfin : Hid (pre'.map (·.1) = seqF ((X.map Sx.sg).take (i + 1)) off) := Lib.hid (by
                rw [hpre', HNX.out, List.take_of_length_le (l := (L.map (·.1)).drop u) (by rw [List.length_drop, List.length_map, HM.out]; exact Nat.le_refl _)])
              clear hjz hkz hpre'
              gi_wp2_with fail
              go_roundw
              case rel => exact ⟨i + 1, pre', by omega, by go_num, hfin.out, HJZ.out, HKZ.out⟩
              case measure => simp [intOf]; omega
    · obtain rfl : i = N := by omega
      have HJS := Lib.hid hJr
      have hfin : Hid (pre.map (·.1) = seqF (X.map Sx.sg) off) := Lib.hid (by rw [hpre, List.take_of_length_le (by rw [List.length_map, HN.out]; exact Nat.le_refl _)])
      clear hJr hkp hpre
      gi_wp2_with fail
      go_end0
      exact ⟨⟨_, rfl⟩, .inl ⟨_, hfin.out, HJS.out⟩⟩
/-- The going as a range over a function. -/
theorem gives_any {lo s bs bo : Nat} {off : Int} {h : Hs} {X : List Sx} {v : Value} {gb : Option Nat} {g : Nat} {Ex A : Nat → Prop} {w : World} (n : Nat) (hn : 1 ≤ n) (k : Goes w s bs bo off h X v gb g Ex A) (hlo : lo ≤ w.heap.size) :
    Gives Fence.wide n Tryz.prog 115 #[.pointer (some ⟨bs, 0, none⟩), .pointer (some ⟨bo, 0, none⟩)] (fun x => #[bv x]) (Kp g Ex) (Comes lo (X.map Sx.sg) off g Ex) (fun xs => xs.map (·.1) = seqF (X.map Sx.sg) off) (fun pre => ∃ ys, pre.map (·.1) ++ ys = seqF (X.map Sx.sg) off) w :=
  fun l J Jx W hW hJ _ hY h0 => goes_any n lo hn l s bs bo off h X v gb g Ex _ W J Jx (k.below hW (block_lt_of_cell k.cs) (block_lt_of_cell k.co)) (Nat.le_trans hlo hW.size) hJ hY h0
end Go.Proofs.YtdaoeplblkfapaaGreatDoor

/- THE CONTRACT of the law's 'all': a strand's batches, in a slice of memory of its own. -/
namespace Go.Proofs.YtdaoeplblkfapaaGreatDoor
open Go.RowKit Go.Shelf
attribute [local go_sem] Oper.semAt_some

theorem run_equalIn_func_nil {P : Program} (w : World) (d : Nat) (t : TypeId) {a : Array TypeId} {b : Array TypeId} {c : Bool} (fn : Fn) (x y : Array Value) (h : P.underlying t = some (.func a b c)) : (Op.equalIn (d + 1) t (.func fn x y) .nilFunc).run P w = .ok false w := by
  simp [Op.equalIn, run_underlying h]
theorem run_eql_func_nil {P : Program} (w : World) (t : TypeId) {a : Array TypeId} {b : Array TypeId} {c : Bool} (fn : Fn) (x y : Array Value) (h : P.underlying t = some (.func a b c)) : (binOp .eql t (.func fn x y) .nilFunc).run P w = .ok (.bool false) w := by
  have e : (Op.equal t (.func fn x y) .nilFunc).run P w = .ok false w := run_equalIn_func_nil w 9999 t fn x y h
  simp only [binOp]
  simp [e]
/-- An append to such a slice, inside a fence. -/
theorem wpListIn_append_sl {F : Fence} {d : Nat} {P : Program} {w : World} {ops : Array Oper} {rest : List Oper} {o : Oper} {a : Act} {Q : Exit → Act → World → Prop} (hgd : o.guard = none) (s x : Operand) (t : TypeId)
    (ho : o.op = .call { callee := .builtin .append, args := #[s, x], argTypes := #[t, t] })
    (e : TypeId) (i : TypeInfo) (z : Value) (size bytes : Nat) (ht : P.underlying t = some (.slice e)) (hi : P.info? e = some i) (hz : i.zero = some z)
    (hsize : i.size = size) (hby : i.bytes = bytes) (hzs : z.cells.size = size)
    (v : Value) (gb : Option Nat) (n : Nat) (xs : List Value) (hs : a.eval s = v) (hown : Sl w v gb e size n xs)
    (ad : Addr) (m c : Nat) (news : List Value) (hx : a.eval x = .slice (some ad) m c) (hl : news.length = m * size) (hnews : ∀ j u, news[j]? = some u → w.cell? (ad.add j) = some u) (h1 : ∀ u ∈ news, u.oneCell' = true)
    (h0 : 0 < m) (hbytes : (n + m) * bytes ≤ 140737488355328) (hsmall : n + m ≤ 9223372036854775807)
    (h : ∀ g p cap w' gb', Sl w' (.slice (some ⟨g, p, none⟩) (n + m) cap) gb' e size (n + m) (xs ++ news) → w.grownBy w' gb → gb' = some g → (gb' = gb ∨ w.heap.size ≤ g) → wpListIn F d P ops Q rest (a.put o.dst (.slice (some ⟨g, p, none⟩) (n + m) cap)) w') : wpListIn F d P ops Q (o :: rest) a w := by
  refine wpListIn_plain hgd fun K hK => ?_
  obtain ⟨g, p, cap, w', gb', hr, h2, h3, h4, h5⟩ := run_append_sl (P := P) w t o.type e i z size bytes ht hi hz hsize hby hzs v gb n xs hown ad m c news hl hnews h1 h0 hbytes hsmall
  unfold Oper.wpIn
  refine ⟨by simp [Oper.about, ho, resolve, Target.leads, Sem.run_pure], ?_⟩
  rw [Oper.semAt_plain F _ _ (by rw [ho]; intro c hc'; cases hc')]
  simp [execOp, ho, resolve, invoke, builtin, hs, hx, hr, Result.andThen]
  exact hK _ _ (h g p cap w' gb' h2 h3 h4 h5)
/-- A box that holds a slice: its block. -/
theorem bk_box {w : World} {g : Nat} {v : Value} {T : TypeId} {gb : Option Nat} {e size n : Nat} {xs : List Value} (hb : Blk w g #[v] T) (h : Sl w v gb e size n xs) : bk w g = gb := by
  have c : w.cell? ⟨g, 0, none⟩ = some v := hb.cell rfl
  unfold bk
  rw [c]
  rcases h.2 with ⟨rfl, rfl, -⟩ | ⟨k, p, cap, cur, rfl, rfl, -⟩ <;> rfl
/-- While 'all' goes on. -/
structure Al (w : World) (g : Nat) (pre : List (Pl.Bt × Value)) (v : Value) (gb : Option Nat) (W : World) : Prop where
  low : Below w.heap.size w W
  box : Blk W g #[v] 29
  row : Sl W v gb 34 6 pre.length (pre.flatMap bc6)
  gbl : ∀ k, gb = some k → w.heap.size ≤ k ∧ k ≠ g
  gl : w.heap.size ≤ g
  recs : All (fun k => w.heap.size ≤ k ∧ k ≠ g ∧ gb ≠ some k) W pre
theorem turn_block {W W' : World} {row : Option Nat} {b : Nat} {o : Obj} (h : W.heap[b]? = some o) (hc : o.isCells = true) (hg : W.grownBy W' row) (hr : ∀ r, row = some r → ∃ o : Obj, W.heap[r]? = some o ∧ o.isCells = false) : W'.heap[b]? = W.heap[b]? :=
  hg.block b (lt_of_block h) fun e => by
    obtain ⟨o', ho', hc'⟩ := hr b e.symm
    rw [h] at ho'
    cases ho'
    rw [hc] at hc'
    cases hc'
theorem Sl.cells {W : World} {gb : Option Nat} {e size n : Nat} {v : Value} {xs : List Value} (h : Sl W v gb e size n xs) {b : Nat} (hb : gb = some b) : ∃ o : Obj, W.heap[b]? = some o ∧ o.isCells = true := by
  rcases h.2 with ⟨-, e, -⟩ | ⟨k, p, cap, cur, e, -, h4, -⟩
  · rw [e] at hb; cases hb
  · rw [e] at hb; cases hb
    exact ⟨_, h4, rfl⟩
theorem Rds.turn {Q : Nat → Prop} {W W' : World} {row : Option Nat} {u : Value} {size m : Nat} {xs : List Value} (h : Rds Q W u size m xs) (hg : W.grownBy W' row) (hr : ∀ r, row = some r → ∃ o : Obj, W.heap[r]? = some o ∧ o.isCells = false) : Rds Q W' u size m xs := by
  refine ⟨h.1, ?_⟩
  rcases h.2 with h2 | ⟨ad, cap, e, h2⟩
  · exact .inl h2
  · refine .inr ⟨ad, cap, e, fun h0 => ?_⟩
    obtain ⟨b, q, rfl, ha, hb, hc⟩ := h2 h0
    exact ⟨b, q, rfl, ha, Nat.lt_of_lt_of_le hb hg.size, fun j x hj => cell_kept (hc j x hj) hg hr⟩
theorem Al.turn {w W W' : World} {g B : Nat} {pre : List (Pl.Bt × Value)} {v : Value} {gb : Option Nat} {row : Option Nat} (h : Al w g pre v gb W) (hg : W.grownBy W' row) (hB : w.heap.size ≤ B) (hr : ∀ r, row = some r → B ≤ r ∧ ∃ o : Obj, W.heap[r]? = some o ∧ o.isCells = false) : Al w g pre v gb W' := by
  have hr2 := fun r e => (hr r e).2
  refine ⟨h.low.grown hg h.low.size fun k e => Nat.le_trans hB (hr k e).1, h.box.same (turn_block h.box rfl hg hr2), h.row.same fun b hb => ?_, h.gbl, h.gl, fun p hp => Rds.turn (h.recs p hp) hg hr2⟩
  obtain ⟨o, ho, hc⟩ := h.row.cells hb
  exact turn_block ho hc hg hr2
theorem Al.below {w W W' : World} {g : Nat} {pre : List (Pl.Bt × Value)} {v : Value} {gb : Option Nat} (h : Al w g pre v gb W) (b : Below W.heap.size W W') : Al w g pre v gb W' :=
  ⟨h.low.trans (b.mono h.low.size), h.box.below b, h.row.same fun k hk => b.block k (h.row.lt k hk), h.gbl, h.gl, h.recs.below b⟩
theorem Comes.below {lo : Nat} {G : List Sg} {off : Int} {g : Nat} {Ex : Nat → Prop} {pre : List (Pl.Bt × Value)} {x : Pl.Bt × Value} {W W' : World} (h : Comes lo G off g Ex pre x W) (b : Below W.heap.size W W') : Comes lo G off g Ex pre x W' := by
  obtain ⟨h1, h2, v, h3⟩ := h
  have hg : g < W.heap.size := block_lt_of_cell h3
  exact ⟨h1, Rds.keep h2 b.size fun k hk hl => ⟨b.block k hl, hk.1.below hg b, hk.2.1, Nat.lt_of_lt_of_le hl b.size⟩, v, (b.cell (p := ⟨g, 0, none⟩) hg).trans h3⟩
theorem Comes.len {lo : Nat} {G : List Sg} {off : Int} {g : Nat} {Ex : Nat → Prop} {pre : List (Pl.Bt × Value)} {x : Pl.Bt × Value} {W : World} (h : Comes lo G off g Ex pre x W) : pre.length + 1 ≤ (fla G).length := by
  obtain ⟨⟨ys, h1⟩, -⟩ := h
  have := congrArg List.length h1
  have h2 := seqF_len G off
  simp at this
  omega
/-- A batch more in the box's slice. -/
theorem Al.more {w W w2 : World} {g : Nat} {pre : List (Pl.Bt × Value)} {x : Pl.Bt × Value} {v v' : Value} {gb gb' : Option Nat} {lo k' : Nat} {G : List Sg} {off : Int} (h : Al w g pre v gb W) (hc : Comes lo G off g (fun _ => False) pre x W) (hlo : w.heap.size ≤ lo)
    (hr : Sl w2 v' gb' 34 6 (pre.length + 1) (pre.flatMap bc6 ++ bc6 x)) (o : Obj) (hg : (W.alloc o).grownBy w2 gb) (hgb : gb' = some k') (hn : gb' = gb ∨ (W.alloc o).heap.size ≤ k') :
    Al w g (pre ++ [x]) v' gb' (w2.setCell ⟨g, 0, none⟩ v') ∧ Kp g (fun _ => False) W (w2.setCell ⟨g, 0, none⟩ v') ∧ w2.cell? ⟨g, 0, none⟩ = some v ∧ w2.frozen? ⟨g, 0, none⟩ = false := by
  have hb1 : Below W.heap.size W (W.alloc o) := (Below.refl _ _).alloc (Nat.le_refl _) _
  have h1 := h.below hb1
  have hs1 : (W.alloc o).heap.size = W.heap.size + 1 := by simp
  have hgn : some g ≠ gb := fun e => (h.gbl g e.symm).2 rfl
  have hbox2 : Blk w2 g #[v] 29 := h1.box.grown hg hgn
  have hsz2 : (w2.setCell ⟨g, 0, none⟩ v').heap.size = w2.heap.size := by simp [World.setCell]
  have hgbs : ∀ k, gb = some k → k < W.heap.size := fun k hk => h.row.lt k hk
  have hnew : ∀ k, gb' = some k → gb = some k ∨ W.heap.size < k := fun k hk => by
    rcases hn with e | e
    · exact .inl (e ▸ hk)
    · rw [hgb] at hk; cases hk; exact .inr (by omega)
  have hgW : g < W.heap.size := h.box.lt
  have hgb' : ∀ k, gb' = some k → w.heap.size ≤ k ∧ k ≠ g := fun k hk => by
    rcases hnew k hk with e | e
    · exact h.gbl k e
    · have := h.low.size; exact ⟨by omega, by omega⟩
  -- blocks that are neither the box nor the slice's
  have hoth : ∀ k, k < W.heap.size → k ≠ g → gb ≠ some k → (w2.setCell ⟨g, 0, none⟩ v').heap[k]? = W.heap[k]? := fun k hl h2 h3 =>
    (Below.heap_setCell _ _ _ _ h2).trans ((hg.block k (by omega) fun e => h3 e.symm).trans (hb1.block k hl))
  have hbk : bk W g = gb := bk_box h.box h.row
  have hbk2 : bk (w2.setCell ⟨g, 0, none⟩ v') g = gb' := bk_box (hbox2.set (i := 0) v') (hr.same fun k hk => Below.heap_setCell _ _ _ _ (hgb' k hk).2)
  refine ⟨⟨?_, hbox2.set (i := 0) v', ?_, hgb', h.gl, ?_⟩, ⟨by have := hg.size; omega, ?_, fun _ => ⟨v', (hbox2.set (i := 0) v').cell rfl⟩, fun b u hb hu _ h2 h3 => ?_⟩, hbox2.cell rfl, hbox2.free⟩
  · exact (h1.low.grown hg h1.low.size fun k hk => (h.gbl k hk).1).setCell (p := ⟨g, 0, none⟩) h.gl _
  · rw [List.length_append, flat_snoc6]
    exact hr.same fun k hk => Below.heap_setCell _ _ _ _ (hgb' k hk).2
  · intro p hp
    rcases List.mem_append.1 hp with hp | hp
    · refine Rds.keep (h.recs p hp) (by have := hg.size; omega) fun k hk hl => ⟨hoth k hl hk.2.1 hk.2.2, hk.1, hk.2.1, fun e => ?_⟩
      rcases hnew k e with e2 | e2
      · exact hk.2.2 e2
      · omega
    · rw [List.mem_singleton.1 hp]
      refine Rds.keep hc.2.1 (by have := hg.size; omega) fun k hk hl => ?_
      obtain ⟨⟨-, n2, n3⟩, n4, -⟩ := hk
      rw [hbk] at n3
      refine ⟨hoth k hl n2 fun e => n3 e.symm, by omega, n2, fun e => ?_⟩
      rcases hnew k e with e2 | e2
      · exact n3 e2.symm
      · omega
  · rw [hbk, hbk2]
    rcases hn with e | e
    · exact .inl e
    · exact .inr ⟨k', hgb, by omega, by rw [hsz2]; exact hr.lt k' hgb⟩
  · rw [hbk] at h3
    exact (hoth b (lt_of_block hb) h2 fun e => h3 e.symm).trans hb
end Go.Proofs.YtdaoeplblkfapaaGreatDoor
