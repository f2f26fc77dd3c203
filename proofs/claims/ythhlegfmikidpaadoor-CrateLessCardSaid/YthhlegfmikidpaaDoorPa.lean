/- What the laws carry: the batches that lie in blocks of the call's own. -/
import Derived.Test.YthhlegfmikidpaaDoorShortWalk
import Derived.Laws.Bits64
namespace Go.Proofs.YthhlegfmikidpaaDoor
open Go.RowKit

structure PA (w : World) (bs : List (Nat × Array Value)) (W : World) : Prop where
  low : Below w.heap.size w W
  blk : ∀ (k b : Nat) (cs : Array Value), bs[k]? = some (b, cs) → w.heap.size ≤ b ∧ Blk W b cs 24
theorem PA.below {w W W' : World} {bs : List (Nat × Array Value)} (h : PA w bs W) (hb : Below W.heap.size W W') : PA w bs W' :=
  ⟨h.low.trans (hb.mono h.low.size), fun k b cs hk => ⟨(h.blk k b cs hk).1, (h.blk k b cs hk).2.below hb⟩⟩
theorem PA.cell {w W : World} {bs : List (Nat × Array Value)} (h : PA w bs W) {k b i : Nat} {cs : Array Value} {x : Value} (hk : bs[k]? = some (b, cs)) (hi : cs[i]? = some x) : W.cell? ⟨b, i, none⟩ = some x := (h.blk k b cs hk).2.cell hi
theorem PA.free {w W : World} {bs : List (Nat × Array Value)} (h : PA w bs W) {k b i : Nat} {cs : Array Value} (hk : bs[k]? = some (b, cs)) : W.frozen? ⟨b, i, none⟩ = false := (h.blk k b cs hk).2.free
theorem PA.lb {w W : World} {bs : List (Nat × Array Value)} (h : PA w bs W) (lb : Lb w) : Lb W := lb.below lb.size h.low
theorem PA.nil (w : World) : PA w [] w := ⟨Below.refl _ _, fun k b cs hk => by simp at hk⟩
theorem PA.more {w W : World} {bs : List (Nat × Array Value)} (h : PA w bs W) (cs : Array Value) : PA w (bs ++ [(W.heap.size, cs)]) (W.alloc (.cells cs 24)) := by
  have hb : Below W.heap.size W (W.alloc (.cells cs 24)) := (Below.refl _ _).alloc (Nat.le_refl _) _
  have h2 := h.below hb
  refine ⟨h2.low, fun k b c hk => ?_⟩
  by_cases hkl : k < bs.length
  · rw [List.getElem?_append_left hkl] at hk
    exact h2.blk k b c hk
  · rw [List.getElem?_append_right (by omega)] at hk
    have hk0 : k - bs.length = 0 := by have := (List.getElem?_eq_some_iff.1 hk).1; simp at this; omega
    rw [hk0] at hk
    obtain ⟨rfl, rfl⟩ := Prod.mk.inj (Option.some.inj hk)
    exact ⟨h.low.size, Blk.new _ _ _⟩
theorem pa1 (w : World) (A : Array Value) : PA w [(w.heap.size, A)] (w.alloc (.cells A 24)) := (PA.nil w).more A
theorem pa2 (w : World) (A B : Array Value) : PA w [(w.heap.size, A), (w.heap.size + 1, B)] ((w.alloc (.cells A 24)).alloc (.cells B 24)) := by
  have h := (pa1 w A).more B
  rw [show (w.alloc (.cells A 24)).heap.size = w.heap.size + 1 by simp] at h
  exact h
theorem pa3 (w : World) (A B C : Array Value) : PA w [(w.heap.size, A), (w.heap.size + 1, B), (w.heap.size + 1 + 1, C)] (((w.alloc (.cells A 24)).alloc (.cells B 24)).alloc (.cells C 24)) := by
  have h := (pa2 w A B).more C
  rw [show ((w.alloc (.cells A 24)).alloc (.cells B 24)).heap.size = w.heap.size + 1 + 1 by simp] at h
  exact h
/-- A batch's cells. -/
def cellsB (b : Pl.Bt) (v : Value) : Array Value := #[.int .i64 b.base, .int .i64 b.count, .int .i64 b.prod, .int .i64 b.seq, .int .i64 b.time, v]
theorem Come.slice {b : Pl.Bt} {v : Value} {w : World} (h : Come b v w) : ∃ a cap, v = .slice a b.recs.length cap := by
  obtain ⟨a, cap, rfl, -⟩ := h.recs
  exact ⟨a, cap, rfl⟩
theorem PA.lt {w W : World} {bs : List (Nat × Array Value)} (h : PA w bs W) : ∀ (k b : Nat) (cs : Array Value), bs[k]? = some (b, cs) → b < W.heap.size := fun k b cs hk => (h.blk k b cs hk).2.lt
theorem PA.grown {w W W' : World} {bs : List (Nat × Array Value)} {base : Nat} {row : Option Nat} (h : PA w bs W) (hg : W.grownBy W' row) (hrow : ∀ k, row = some k → base ≤ k) (hlt : ∀ (k b : Nat) (cs : Array Value), bs[k]? = some (b, cs) → b < base) (hb : w.heap.size ≤ base) : PA w bs W' := by
  have e : ∀ k, k < base → k < W.heap.size → W'.heap[k]? = W.heap[k]? := fun k hk hl => hg.block k hl (fun e => by have := hrow k e.symm; omega)
  exact ⟨⟨hg.os.trans h.low.os, hg.tape.trans h.low.tape, hg.output.trans h.low.output, Nat.le_trans h.low.size hg.size, fun k hk => (e k (by omega) (Nat.lt_of_lt_of_le hk h.low.size)).trans (h.low.block k hk)⟩,
    fun k b cs hk => ⟨(h.blk k b cs hk).1, (e b (hlt k b cs hk) (h.blk k b cs hk).2.lt).trans (h.blk k b cs hk).2⟩⟩
/-- A slice of records that can be appended. -/
def RSrc (u : Value) (ls : List Pl.Rc) (w : World) : Prop :=
  (u = .slice none 0 0 ∧ ls = []) ∨ ∃ ad cap, u = .slice (some ad) ls.length cap ∧ ∀ j x, (ls.flatMap cells4)[j]? = some x → w.cell? (ad.add j) = some x
theorem RSrc.below {u : Value} {ls : List Pl.Rc} {w w' : World} (h : RSrc u ls w) (hb : Below w.heap.size w w') : RSrc u ls w' := by
  rcases h with h | ⟨ad, cap, rfl, hc⟩
  · exact Or.inl h
  · exact Or.inr ⟨ad, cap, rfl, fun j x hj => (hb.cell (block_lt_of_cell (hc j x hj))).trans (hc j x hj)⟩
theorem rsrc_of {x : Option Addr} {m cap : Nat} {ls : List Pl.Rc} {w : World} (h : Recs (.slice x m cap) ls w) (hs : (Value.slice x m cap) = .slice none 0 0 ∨ ∃ ad m' cap', (Value.slice x m cap) = .slice (some ad) m' cap') : RSrc (.slice x m cap) ls w := by
  have h' := h
  obtain ⟨a, cp, he, hc⟩ := h'
  injection he with e1 e2 e3
  subst e1 e2 e3
  rcases hs with hs | ⟨ad, m', cap', hs⟩
  · refine Or.inl ⟨hs, ?_⟩
    injection hs with _ h2 _
    exact List.length_eq_zero_iff.1 h2
  · injection hs with e1 e2 e3
    subst e1
    refine Or.inr ⟨ad, cap, rfl, fun j y hj => ?_⟩
    by_cases hl : ls = []
    · subst hl; simp at hj
    · have h0 : 0 < ls.length := List.length_pos_iff.2 hl
      obtain ⟨b, off, e, -⟩ := hc 0 _ (List.getElem?_eq_getElem h0)
      obtain rfl := Option.some.inj e
      rw [add_plain]
      exact h.at j y hj
theorem wpList_append_recs {w : World} {ops : Array Oper} {rest : List Oper} {o : Oper} {a : Act} {Q : Exit → Act → World → Prop} (hgd : o.guard = none) (s x : Operand)
    (ho : o.op = .call { callee := .builtin .append, args := #[s, x], argTypes := #[22, 22] })
    (base : Nat) (v : Value) (n : Nat) (xs : List Value) (hs : a.eval s = v) (hown : w.ownsRow base 41 4 v n xs)
    (u : Value) (ls : List Pl.Rc) (hx : a.eval x = u) (hsrc : RSrc u ls w) (hn : n ≤ 1000) (hl : ls.length ≤ 1000) (hbase : base ≤ w.heap.size)
    (h : ∀ v' w', w'.ownsRow base 41 4 v' (n + ls.length) (xs ++ ls.flatMap cells4) → w.grownBy w' v.ownBlock → wpList Tryd.prog ops Q rest (a.put o.dst v') w') : wpList Tryd.prog ops Q (o :: rest) a w := by
  obtain ⟨i0, hi, hz0, hz1, hz2⟩ := infoRec
  rcases hsrc with ⟨rfl, rfl⟩ | ⟨ad, cap, rfl, hc⟩
  · refine wpList_append_own_none hgd s x 22 ho base 41 i0 4 Tryd.underlying22 hi v n xs hs hown hx (h v w ?_ ⟨rfl, rfl, rfl, Nat.le_refl _, fun _ _ _ => rfl⟩)
    simpa using hown
  · refine wpList_append_own w hgd s x 22 ho base 41 i0 (.agg zeroR) 4 48 Tryd.underlying22 hi hz0 hz1 hz2 rfl (by decide) v n xs hs hown ad ls.length cap (ls.flatMap cells4) hx (flat4_len ls) hc (flat4_one ls) ?_ ?_ hbase fun v' w' h1 h2 _ => h v' w' h1 h2
    · unfold maxLen; omega
    · omega
theorem xor_ne (z : Int) : bits BinOp.xor IntKind.i64 z 1 ≠ z := by
  intro h
  obtain ⟨x, hx⟩ : ∃ x, BitVec.ofInt 64 z = x := ⟨_, rfl⟩
  have h1 : IntKind.i64.wrap (((x ^^^ BitVec.ofInt 64 1).toNat : Nat) : Int) = z := by rw [← hx]; exact h
  rw [IntWalk.i64_left] at h1
  have h2 : x = x ^^^ BitVec.ofInt 64 1 := by
    apply BitVec.eq_of_toNat_eq
    rw [← hx, BitVec.toNat_ofInt, hx]
    have h3 := (x ^^^ BitVec.ofInt 64 1).isLt
    unfold wrap64 at h1
    have e : ((2 : Nat) ^ 64) = 18446744073709551616 := by decide
    rw [e] at h3 ⊢
    omega
  have h4 := congrArg (fun y => x ^^^ y) h2
  simp only [← BitVec.xor_assoc, BitVec.xor_self, BitVec.zero_xor] at h4
  exact absurd h4 (by decide)
end Go.Proofs.YthhlegfmikidpaaDoor
