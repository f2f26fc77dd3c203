/- Blocks that are known whole; a slice of records that a call has built. -/
import Derived.Test.YtfapigccdbpepaaCRecs
import Derived.Laws.ResultCell
import Derived.Laws.Rows
import Derived.OwnWalk
namespace Go.Proofs.Ytfapigccdbpepaa
open Go.RowKit

/-- A block that is known whole. -/
def Blk (w : World) (b : Nat) (cs : Array Value) (T : TypeId) : Prop := w.heap[b]? = some (.cells cs T (0, 0))
theorem Blk.lt {w : World} {b : Nat} {cs : Array Value} {T : TypeId} (h : Blk w b cs T) : b < w.heap.size := lt_of_block h
theorem Blk.kb {w w' : World} {b c : Nat} {cs : Array Value} {T : TypeId} (h : Blk w b cs T) (hk : Kb c w w') (hn : b ≠ c) : Blk w' b cs T := by
  unfold Blk at h ⊢
  rw [hk.block b (lt_of_block h) hn]
  exact h
theorem Blk.below {w w' : World} {b : Nat} {cs : Array Value} {T : TypeId} (h : Blk w b cs T) (hb : Below w.heap.size w w') : Blk w' b cs T := by
  unfold Blk at h ⊢
  rw [hb.block b (lt_of_block h)]
  exact h
theorem Blk.cell {w : World} {b i : Nat} {cs : Array Value} {T : TypeId} {x : Value} (h : Blk w b cs T) (hx : cs[i]? = some x) : w.cell? ⟨b, i, none⟩ = some x := by
  unfold Blk at h
  unfold World.cell?
  rw [h]
  exact hx
theorem Blk.free {w : World} {b i : Nat} {cs : Array Value} {T : TypeId} (h : Blk w b cs T) : w.frozen? ⟨b, i, none⟩ = false := by
  unfold Blk at h
  simp [World.frozen?, h]
theorem Blk.new (w : World) (cs : Array Value) (T : TypeId) : Blk (w.alloc (.cells cs T)) w.heap.size cs T := heap_alloc_new w _
theorem Blk.set {w : World} {b i : Nat} {cs : Array Value} {T : TypeId} (h : Blk w b cs T) (v : Value) : Blk (w.setCell ⟨b, i, none⟩ v) b (cs.setIfInBounds i v) T := by
  have hlt := h.lt
  unfold Blk at h ⊢
  have h' : w.heap[b] = .cells cs T (0, 0) := by simpa [Array.getElem?_eq_getElem hlt] using h
  show (w.heap.modify b _)[b]? = _
  rw [Array.getElem?_eq_getElem (by simpa using hlt), Array.getElem_modify_self, h']
  rfl
theorem Blk.setOther {w : World} {b c i : Nat} {cs : Array Value} {T : TypeId} (h : Blk w b cs T) (v : Value) (hn : b ≠ c) : Blk (w.setCell ⟨c, i, none⟩ v) b cs T := h.kb (Kb.setCell w v) hn

def zeroB : Array Value := #[.int .i64 0, .int .i64 0, .int .i64 0, .int .i64 0, .int .i64 0, .slice none 0 0]
theorem size_list (a : List UInt8) : (⟨a.toArray⟩ : ByteArray).size = a.length := by show a.toArray.size = _; simp
theorem cells_five (w : World) (x0 x1 x2 x3 x4 : Value) (T : TypeId) : (w.alloc (.cells #[x0, x1, x2, x3, x4] T)).cell? ⟨w.heap.size, 0, none⟩ = some x0 ∧ (w.alloc (.cells #[x0, x1, x2, x3, x4] T)).cell? ⟨w.heap.size, 1, none⟩ = some x1 ∧ (w.alloc (.cells #[x0, x1, x2, x3, x4] T)).cell? ⟨w.heap.size, 2, none⟩ = some x2 ∧ (w.alloc (.cells #[x0, x1, x2, x3, x4] T)).cell? ⟨w.heap.size, 3, none⟩ = some x3 ∧ (w.alloc (.cells #[x0, x1, x2, x3, x4] T)).cell? ⟨w.heap.size, 4, none⟩ = some x4 := by
  have h := heap_alloc_new w (.cells #[x0, x1, x2, x3, x4] T)
  refine ⟨?_, ?_, ?_, ?_, ?_⟩ <;> (unfold World.cell?; rw [h]; rfl)
theorem cells_four (w : World) (x0 x1 x2 x3 : Value) (T : TypeId) : (w.alloc (.cells #[x0, x1, x2, x3] T)).cell? ⟨w.heap.size, 0, none⟩ = some x0 ∧ (w.alloc (.cells #[x0, x1, x2, x3] T)).cell? ⟨w.heap.size, 1, none⟩ = some x1 ∧ (w.alloc (.cells #[x0, x1, x2, x3] T)).cell? ⟨w.heap.size, 2, none⟩ = some x2 ∧ (w.alloc (.cells #[x0, x1, x2, x3] T)).cell? ⟨w.heap.size, 3, none⟩ = some x3 := by
  have h := heap_alloc_new w (.cells #[x0, x1, x2, x3] T)
  refine ⟨?_, ?_, ?_, ?_⟩ <;> (unfold World.cell?; rw [h]; rfl)
theorem cells_six' (w : World) (x0 x1 x2 x3 x4 x5 : Value) (T : TypeId) : ∀ i x, [x0, x1, x2, x3, x4, x5][i]? = some x → (w.alloc (.cells #[x0, x1, x2, x3, x4, x5] T)).cell? ⟨w.heap.size, i, none⟩ = some x := by
  have h := heap_alloc_new w (.cells #[x0, x1, x2, x3, x4, x5] T)
  intro i x hx
  unfold World.cell?
  rw [h]
  show (#[x0, x1, x2, x3, x4, x5] : Array Value)[i]? = some x
  rw [← hx, ← List.getElem?_toArray]

def zeroR : Array Value := #[.int .i64 0, .string ⟨#[]⟩, .string ⟨#[]⟩, .bool false]
theorem infoRec' : (Try.prog.info? 44).map (fun i => (i.zero, i.size, i.bytes)) = some (some (.agg zeroR), 4, 48) := by kernel_rfl
theorem infoRec : ∃ i, Try.prog.info? 44 = some i ∧ i.zero = some (.agg zeroR) ∧ i.size = 4 ∧ i.bytes = 48 := by
  have h := infoRec'
  cases hi : Try.prog.info? 44 with
  | none => rw [hi] at h; cases h
  | some i =>
    rw [hi] at h
    simp only [Option.map_some, Option.some.injEq, Prod.mk.injEq] at h
    exact ⟨i, rfl, h.1, h.2.1, h.2.2⟩
theorem own_kb2 {w w' : World} {base n size c : Nat} {e : TypeId} {v : Value} {xs : List Value} (h : w.ownsRow base e size v n xs) (hk : Kb c w w') (hne : ∀ k, v.ownBlock = some k → k ≠ c) : w'.ownsRow base e size v n xs :=
  h.kept (row := some c) ⟨hk.os, hk.tape, hk.output, hk.size, fun k hl hn => hk.block k hl (fun e => hn (by rw [e]))⟩ (Or.inr fun e => hne c e rfl)
def sliceLen : Option Value → Nat
  | some (.slice _ n _) => n
  | _ => 0
def cells4 (x : Pl.Rc) : List Value := [.int .i64 x.off, .string ⟨x.key.toArray⟩, .string ⟨x.val.toArray⟩, .bool x.gone]
theorem own_below {w w' : World} {base n size : Nat} {e : TypeId} {v : Value} {xs : List Value} (h : w.ownsRow base e size v n xs) (hb : Below w.heap.size w w') : w'.ownsRow base e size v n xs :=
  h.kept (row := none) ⟨hb.os, hb.tape, hb.output, hb.size, fun k hk _ => hb.block k hk⟩ (by cases v.ownBlock <;> simp)
theorem own_kb {w w' : World} {base n size c : Nat} {e : TypeId} {v : Value} {xs : List Value} (h : w.ownsRow base e size v n xs) (hk : Kb c w w') (hc : c < base) : w'.ownsRow base e size v n xs :=
  h.kept (row := some c) ⟨hk.os, hk.tape, hk.output, hk.size, fun k hl hn => hk.block k hl (fun e => hn (by rw [e]))⟩ (Or.inr fun e => by have := (h.lt c e).1; omega)

theorem flat4 : ∀ (acc : List Pl.Rc) (j : Nat) (x : Pl.Rc), acc[j]? = some x → ∀ i, i < 4 → (acc.flatMap cells4)[j * 4 + i]? = (cells4 x)[i]?
  | [], j, x, h, _, _ => by simp at h
  | y :: acc, 0, x, h, i, hi => by
    simp at h
    subst h
    rw [List.flatMap_cons, List.getElem?_append_left (by simp [cells4]; omega)]
    simp
  | y :: acc, j + 1, x, h, i, hi => by
    simp at h
    rw [List.flatMap_cons, List.getElem?_append_right (by simp [cells4]; omega)]
    rw [← flat4 acc j x h i hi]
    congr 1
    simp [cells4]
    omega
theorem own_recs {w : World} {base : Nat} {sv : Value} {acc : List Pl.Rc} {e : TypeId} (h : w.ownsRow base e 4 sv acc.length (acc.flatMap cells4)) : Recs sv acc w := by
  rcases h.2 with ⟨rfl, h0⟩ | ⟨g, cap, cur, rfl, -, hg, -, -, -, ht⟩
  · refine ⟨none, 0, by rw [h0], fun j x hj => ?_⟩
    have := List.length_eq_zero_iff.1 h0
    subst this
    simp at hj
  · refine ⟨_, cap, rfl, fun j x hj => ⟨g, 0, rfl, lt_of_block hg, ?_⟩⟩
    have hjl : j < acc.length := (List.getElem?_eq_some_iff.1 hj).1
    have key : ∀ i v, i < 4 → (cells4 x)[i]? = some v → w.cell? ⟨g, 0 + j * 4 + i, none⟩ = some v := by
      intro i v hi hv
      have h1 := flat4 acc j x hj i hi
      rw [← ht, List.getElem?_take_of_lt (by omega), hv] at h1
      refine Blk.cell hg ?_
      rw [Nat.zero_add]
      rw [← Array.getElem?_toList]
      exact h1
    exact ⟨key 0 _ (by decide) rfl, key 1 _ (by decide) rfl, key 2 _ (by decide) rfl, key 3 _ (by decide) rfl⟩
theorem Blk.six {w : World} {r : Nat} {a0 a1 a2 a3 a4 a5 : Value} {T : TypeId} (h : Blk w r #[a0, a1, a2, a3, a4, a5] T) (v0 v1 v2 v3 v4 v5 : Value) :
    Blk ((((((w.setCell ⟨r, 0, none⟩ v0).setCell ⟨r, 1, none⟩ v1).setCell ⟨r, 2, none⟩ v2).setCell ⟨r, 3, none⟩ v3).setCell ⟨r, 4, none⟩ v4).setCell ⟨r, 5, none⟩ v5) r #[v0, v1, v2, v3, v4, v5] T :=
  (((((h.set (i := 0) v0).set (i := 1) v1).set (i := 2) v2).set (i := 3) v3).set (i := 4) v4).set (i := 5) v5
end Go.Proofs.Ytfapigccdbpepaa
