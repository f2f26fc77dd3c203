import Derived.Test.YtdaoeplblkfapaaGreatDoorM37

/- A list of batches that is made anew, and one batch more, in whatever order they come up. -/
namespace Go.Proofs.YtdaoeplblkfapaaGreatDoor
open Go.RowKit

/-- The list l as it is being made, the records r of the batch b, and the batch in a block n of its own. -/
structure Rg (w0 cur : World) (b : Pl.Bt) (l : Option (Value × Option Nat × Nat × List Value)) (r n : Option Value) : Prop where
  bel : Below w0.heap.size w0 cur
  lst : ∀ v gb m xs, l = some (v, gb, m, xs) → Sl cur v gb 34 6 m xs ∧ ∀ k, gb = some k → w0.heap.size ≤ k
  rcs : ∀ rv, r = some rv → RcIn (fun j => w0.heap.size ≤ j ∧ ∀ v gb m xs, l = some (v, gb, m, xs) → gb ≠ some j) cur rv b.recs
  one : ∀ rv nv, r = some rv → n = some nv → Rds (fun j => w0.heap.size ≤ j ∧ ∀ v gb m xs, l = some (v, gb, m, xs) → gb ≠ some j) cur nv 6 1 (bc6 (b, rv))
section
variable {w0 cur w' : World} {b : Pl.Bt} {l : Option (Value × Option Nat × Nat × List Value)} {r n : Option Value} {v v' rv : Value} {gb gb' : Option Nat} {m m' : Nat} {xs xs' : List Value}
theorem Rg.start (w0 : World) (b : Pl.Bt) : Rg w0 w0.drew b none none none :=
  ⟨(Below.refl _ _).drew, (by intro _ _ _ _ h; cases h), (by intro _ h; cases h), (by intro _ _ h; cases h)⟩
theorem Rg.below (h : Rg w0 cur b l r n) (hb : Below cur.heap.size cur w') : Rg w0 w' b l r n :=
  ⟨h.bel.trans (hb.mono h.bel.size), fun v gb m xs e => ⟨(h.lst v gb m xs e).1.below hb, (h.lst v gb m xs e).2⟩, fun rv e => Rds.below (h.rcs rv e) hb, fun rv nv e1 e2 => (h.one rv nv e1 e2).below hb⟩
theorem Rg.alloc (h : Rg w0 cur b l r n) (o : Obj) : Rg w0 (cur.alloc o) b l r n := h.below ((Below.refl _ _).alloc (Nat.le_refl _) o)
theorem Rg.empty (h : Rg w0 cur b none r n) : Rg w0 (cur.alloc (.cells #[] 34)) b (some (.slice (some ⟨cur.heap.size, 0, none⟩) 0 0, some cur.heap.size, 0, [])) r n := by
  have h1 := h.alloc (.cells #[] 34)
  have hb : Below cur.heap.size cur (cur.alloc (.cells #[] 34)) := (Below.refl _ _).alloc (Nat.le_refl _) _
  refine ⟨h1.bel, fun v gb m xs e => ?_, fun rv e => ?_, fun rv nv e1 e2 => ?_⟩
  · cases e
    exact ⟨Sl.empty cur _ _, fun k hk => by cases hk; exact h.bel.size⟩
  · exact Rds.keep (h.rcs rv e) hb.size fun j hj hl => ⟨hb.block j hl, hj.1, fun v gb m xs e => by cases e; intro e; cases e; omega⟩
  · exact Rds.keep (h.one rv nv e1 e2) hb.size fun j hj hl => ⟨hb.block j hl, hj.1, fun v gb m xs e => by cases e; intro e; cases e; omega⟩
theorem Rg.made (h : Rg w0 cur b l none n) (hr : RcIn (fun k => cur.heap.size ≤ k) w' rv b.recs) (hb : Below cur.heap.size cur w') : Rg w0 w' b l (some rv) none := by
  have h1 := h.below hb
  refine ⟨h1.bel, h1.lst, fun rv' e => ?_, fun _ _ _ e => by cases e⟩
  cases e
  exact Rds.mono hr fun j hj => ⟨Nat.le_trans h.bel.size hj, fun v gb m xs e e2 => by have := (h.lst v gb m xs e).1.lt j e2; omega⟩
theorem Rg.box (h : Rg w0 cur b l (some rv) none) (cs : Array Value) (hcs : cs = (bc6 (b, rv)).toArray) : Rg w0 (cur.alloc (.cells cs 34)) b l (some rv) (some (.slice (some ⟨cur.heap.size, 0, none⟩) 1 1)) := by
  subst hcs
  have h1 := h.alloc (.cells (bc6 (b, rv)).toArray 34)
  refine ⟨h1.bel, h1.lst, h1.rcs, fun rv' nv e1 e2 => ?_⟩
  cases e1
  cases e2
  exact (Rds.lit (w := cur) rfl (bc6 (b, rv)) 34 6 1 rfl).mono fun j hj => ⟨by rw [hj]; exact h.bel.size, fun v gb m xs e e2 => by have := (h.lst v gb m xs e).1.lt j e2; omega⟩
theorem Rg.grow (h : Rg w0 cur b (some (v, gb, m, xs)) r n) (hs : Sl w' v' gb' 34 6 m' xs') (hg : cur.grownBy w' gb) (hgb : gb' = gb ∨ ∃ g, gb' = some g ∧ cur.heap.size ≤ g) : Rg w0 w' b (some (v', gb', m', xs')) r n := by
  obtain ⟨h1, h2⟩ := h.lst _ _ _ _ rfl
  have hk : ∀ j, w0.heap.size ≤ j ∧ (∀ v1 gb1 m1 xs1, some (v, gb, m, xs) = some (v1, gb1, m1, xs1) → gb1 ≠ some j) → j < cur.heap.size → w'.heap[j]? = cur.heap[j]? ∧ (w0.heap.size ≤ j ∧ ∀ v1 gb1 m1 xs1, some (v', gb', m', xs') = some (v1, gb1, m1, xs1) → gb1 ≠ some j) := fun j hj hl => by
    have hne := hj.2 _ _ _ _ rfl
    refine ⟨hg.block j hl fun e => hne e.symm, hj.1, fun v1 gb1 m1 xs1 e e2 => ?_⟩
    cases e
    rcases hgb with rfl | ⟨g, rfl, hgl⟩
    · exact hne e2
    · cases e2; omega
  have hx := below_appended h.bel hg h2 hgb h.bel.size
  refine ⟨hx.1, fun v1 gb1 m1 xs1 e => ?_, fun rv e => Rds.keep (h.rcs rv e) hg.size hk, fun rv nv e1 e2 => Rds.keep (h.one rv nv e1 e2) hg.size hk⟩
  cases e
  exact ⟨hs, hx.2⟩
theorem Rg.sl (h : Rg w0 cur b (some (v, gb, m, xs)) r n) : Sl cur v gb 34 6 m xs := (h.lst _ _ _ _ rfl).1
theorem Rg.out {M : List (Pl.Bt × Value)} {A : Nat → Prop} {k : Nat} (h : Rg w0 cur b (some (v, gb, k, M.flatMap bc6 ++ bc6 (b, rv))) (some rv) n) (hk : k = M.length + 1) (hM : All A w0 M) : BtIn (fun _ => True) cur v (M ++ [(b, rv)]) := by
  subst hk
  refine ⟨?_, fun p hp => ?_⟩
  · have := Rds.of_sl (A := fun _ => True) h.sl fun _ _ => trivial
    rw [List.length_append, List.flatMap_append]
    simpa using this
  · rcases List.mem_append.1 hp with hp | hp
    · exact Rds.keep (hM p hp) h.bel.size fun j _ hl => ⟨h.bel.block j hl, trivial⟩
    · obtain rfl := List.mem_singleton.1 hp
      exact Rds.mono (h.rcs rv rfl) fun _ _ => trivial
end
section
variable {P : Program} {w : World}
theorem wpList_append_rdw {A : Nat → Prop} {ops : Array Oper} {rest : List Oper} {o : Oper} {a : Act} {Q : Exit → Act → World → Prop} (hw : Region.wanted o (yielded ops a.tmps) = true) (s x : Operand) (t : TypeId)
    (ho : o.op = .call { callee := .builtin .append, args := #[s, x], argTypes := #[t, t] })
    (e : TypeId) (i : TypeInfo) (z : Value) (size bytes : Nat) (ht : P.underlying t = some (.slice e)) (hi : P.info? e = some i) (hz : i.zero = some z)
    (hsize : i.size = size) (hby : i.bytes = bytes) (hzs : z.cells.size = size)
    (v : Value) (gb : Option Nat) (n : Nat) (xs : List Value) (hs : a.eval s = v) (hown : Sl w v gb e size n xs)
    (u : Value) (m : Nat) (news : List Value) (hx : a.eval x = u) (hsrc : Rds A w u size m news) (h1 : ∀ u ∈ news, u.oneCell' = true)
    (hbytes : (n + m) * bytes ≤ 140737488355328) (hsmall : n + m ≤ 9223372036854775807)
    (h : ∀ v' w' gb', Sl w' v' gb' e size (n + m) (xs ++ news) → w.grownBy w' gb → (gb' = gb ∨ ∃ g, gb' = some g ∧ w.heap.size ≤ g) → wpList P ops Q rest (a.put o.dst v') w') : wpList P ops Q (o :: rest) a w := by
  unfold wpList
  rw [if_pos hw]
  left
  have := step_append_rdw (P := P) (E := False) (ops := ops) (o := o) (a := a) (K := wpList P ops Q rest) (Q := Q) hw s x t ho e i z size bytes ht hi hz hsize hby hzs v gb n xs hs hown u m news hx hsrc h1 hbytes hsmall h
  rwa [if_pos hw] at this
end
end Go.Proofs.YtdaoeplblkfapaaGreatDoor
