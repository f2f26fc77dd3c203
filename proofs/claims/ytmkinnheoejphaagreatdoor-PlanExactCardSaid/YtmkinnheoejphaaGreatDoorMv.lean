/- What a call leaves as it was (Moved), and blocks that are known whole. -/
import Derived.Test.YtmkinnheoejphaaGreatDoorBk
import Derived.OneCell
import Derived.Laws.AppendOwn
import Derived.Lib.AppendStr
namespace Go.Proofs.YtmkinnheoejphaaGreatDoor
open Go.RowKit

/-- But for the blocks of B the world is as it was; the blocks of B' are of B, or new. -/
structure Moved (B B' : Nat → Prop) (w w' : World) : Prop where
  os : w'.os = w.os
  tape : w'.tape = w.tape
  output : w'.output = w.output
  size : w.heap.size ≤ w'.heap.size
  block : ∀ k, k < w.heap.size → ¬ B k → w'.heap[k]? = w.heap[k]?
  new : ∀ k, B' k → B k ∨ w.heap.size ≤ k
theorem Moved.refl (B : Nat → Prop) (w : World) : Moved B B w w := ⟨rfl, rfl, rfl, Nat.le_refl _, fun _ _ _ => rfl, fun _ h => .inl h⟩
theorem Moved.trans {A B C : Nat → Prop} {u v w : World} (h : Moved A B u v) (k : Moved B C v w) : Moved A C u w :=
  ⟨k.os.trans h.os, k.tape.trans h.tape, k.output.trans h.output, Nat.le_trans h.size k.size,
    fun i hi hn => (k.block i (Nat.lt_of_lt_of_le hi h.size) (fun hb => by rcases h.new i hb with h1 | h1; exact hn h1; omega)).trans (h.block i hi hn),
    fun i hi => by rcases k.new i hi with h1 | h1; exact h.new i h1; exact .inr (Nat.le_trans h.size h1)⟩
theorem Moved.of_below {B : Nat → Prop} {w w' : World} (h : Below w.heap.size w w') : Moved B B w w' := ⟨h.os, h.tape, h.output, h.size, fun k hk _ => h.block k hk, fun _ h => .inl h⟩
theorem Moved.of_grown {B : Nat → Prop} {w w' : World} {r : Option Nat} (h : w.grownBy w' r) (hr : ∀ k, r = some k → B k) : Moved B B w w' := ⟨h.os, h.tape, h.output, h.size, fun k hk hn => h.block k hk (fun e => hn (hr k e.symm)), fun _ h => .inl h⟩
theorem Moved.setCell {B : Nat → Prop} (w : World) (a : Addr) (v : Value) (h : B a.block) : Moved B B w (w.setCell a v) :=
  ⟨rfl, rfl, rfl, by simp [World.setCell], fun k _ hn => Below.heap_setCell _ _ _ _ (by rintro rfl; exact hn h), fun _ h => .inl h⟩
theorem Moved.alloc {B : Nat → Prop} (w : World) (o : Obj) : Moved B B w (w.alloc o) := .of_below ((Below.refl _ _).alloc (Nat.le_refl _) o)
theorem Moved.mono {A A' B B' : Nat → Prop} {w w' : World} (h : Moved A B w w') (h1 : ∀ k, A k → A' k) (h2 : ∀ k, B' k → A' k ∨ w.heap.size ≤ k) : Moved A' B' w w' :=
  ⟨h.os, h.tape, h.output, h.size, fun k hk hn => h.block k hk (fun hb => hn (h1 k hb)), h2⟩
theorem Moved.below {B B' : Nat → Prop} {w0 w w' : World} (h : Moved B B' w w') (h0 : Below w0.heap.size w0 w) (hB : ∀ k, B k → w0.heap.size ≤ k) : Below w0.heap.size w0 w' ∧ ∀ k, B' k → w0.heap.size ≤ k :=
  ⟨h0.trans ⟨h.os, h.tape, h.output, h.size, fun k hk => h.block k (Nat.lt_of_lt_of_le hk h0.size) (fun hb => by have := hB k hb; omega)⟩, fun k hk => by
    have := h0.size
    rcases h.new k hk with h1 | h1
    · exact hB k h1
    · omega⟩

section
variable {w w' : World} {b i : Nat} {cs : Array Value} {T : TypeId}
theorem Blk.same (h : Blk w b cs T) (e : w'.heap[b]? = w.heap[b]?) : Blk w' b cs T := e.trans h
theorem Blk.moved {B B' : Nat → Prop} (h : Blk w b cs T) (hk : Moved B B' w w') (hn : ¬ B b) : Blk w' b cs T ∧ ¬ B' b :=
  ⟨h.same (hk.block b h.lt hn), fun hb => by have := h.lt; rcases hk.new b hb with h1 | h1; exact hn h1; omega⟩
theorem Blk.alloc (h : Blk w b cs T) (o : Obj) : Blk (w.alloc o) b cs T := h.same (Below.heap_alloc _ _ _ h.lt)
theorem Blk.grown {r : Option Nat} (h : Blk w b cs T) (hg : w.grownBy w' r) (hn : some b ≠ r) : Blk w' b cs T := h.same (hg.block _ h.lt hn)
theorem Blk.setAway (h : Blk w b cs T) (a : Addr) (v : Value) (hn : b ≠ a.block) : Blk (w.setCell a v) b cs T := h.same (Below.heap_setCell _ _ _ _ hn)
end
theorem Moved.iff {w w' : World} {A A' C C' : Nat → Prop} (h : Moved A C w w') (h1 : ∀ b, A' b ↔ A b) (h2 : ∀ b, C' b ↔ C b) : Moved A' C' w w' :=
  ⟨h.os, h.tape, h.output, h.size, fun k hk hn => h.block k hk (fun ha => hn ((h1 k).2 ha)), fun k hk => (h.new k ((h2 k).1 hk)).imp (h1 k).2 id⟩
end Go.Proofs.YtmkinnheoejphaaGreatDoor
