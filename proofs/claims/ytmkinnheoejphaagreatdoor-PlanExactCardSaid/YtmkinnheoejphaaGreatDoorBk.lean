/- Worlds that are alike but for a block; blocks that are known whole. Nothing here knows the program. -/
import GoSem.Claims
import Derived.Below
import Derived.WalkKit
import Derived.Laws.ResultCell
import Derived.Laws.Rows
import Derived.Laws.AppendOwn
import Derived.OwnWalk
import Derived.OneCell
import Derived.Lib.Hide
import Derived.Deep.QuietTactic
import Derived.BigQuiet
namespace Go.Proofs.YtmkinnheoejphaaGreatDoor
open Go.RowKit

theorem below_drewN {B : Nat} (w : World) (n : Nat) : Below B w (w.drewN n) := ⟨rfl, rfl, rfl, Nat.le_refl _, fun _ _ => rfl⟩
/-- A call that may write block b alone of what there was. -/
structure Kb (b : Nat) (w w' : World) : Prop where
  os : w'.os = w.os
  tape : w'.tape = w.tape
  output : w'.output = w.output
  size : w.heap.size ≤ w'.heap.size
  block : ∀ k, k < w.heap.size → k ≠ b → w'.heap[k]? = w.heap[k]?

theorem Kb.refl (b : Nat) (w : World) : Kb b w w := ⟨rfl, rfl, rfl, Nat.le_refl _, fun _ _ _ => rfl⟩
theorem Kb.trans {b : Nat} {u v w : World} (h : Kb b u v) (k : Kb b v w) : Kb b u w :=
  ⟨k.os.trans h.os, k.tape.trans h.tape, k.output.trans h.output, Nat.le_trans h.size k.size, fun i hi hn => (k.block i (Nat.lt_of_lt_of_le hi h.size) hn).trans (h.block i hi hn)⟩
theorem Kb.of_below {b : Nat} {w w' : World} (h : Below w.heap.size w w') : Kb b w w' := ⟨h.os, h.tape, h.output, h.size, fun k hk _ => h.block k hk⟩
theorem Kb.below {b B : Nat} {w w' : World} (h : Kb b w w') (h1 : B ≤ b) (h2 : b < w.heap.size) : Below B w w' := ⟨h.os, h.tape, h.output, h.size, fun k hk => h.block k (by omega) (by omega)⟩
theorem Kb.setCell {b o : Nat} (w : World) (v : Value) : Kb b w (w.setCell ⟨b, o, none⟩ v) :=
  ⟨rfl, rfl, rfl, by simp [World.setCell], fun k _ hn => Below.heap_setCell _ _ _ _ hn⟩
theorem Kb.drewN {b : Nat} {w w' : World} (h : Kb b w w') (n : Nat) : Kb b w (w'.drewN n) := ⟨h.os, h.tape, h.output, h.size, h.block⟩
/-- A block that is known whole. -/
def Blk (w : World) (b : Nat) (cs : Array Value) (T : TypeId) : Prop := w.heap[b]? = some (.cells cs T (0, 0))
theorem Blk.lt {w : World} {b : Nat} {cs : Array Value} {T : TypeId} (h : Blk w b cs T) : b < w.heap.size := lt_of_block h
theorem Blk.kb {w w' : World} {b c : Nat} {cs : Array Value} {T : TypeId} (h : Blk w b cs T) (hk : Kb c w w') (hn : b ≠ c) : Blk w' b cs T := by
  unfold Blk at h ⊢
  rw [hk.block b (lt_of_block h) hn]
  exact h
theorem Blk.below {w w' : World} {b : Nat} {cs : Array Value} {T : TypeId} (h : Blk w b cs T) (hb : Below w.heap.size w w') : Blk w' b cs T := by
  unfold Blk at h ⊢
  rw [hb.block b (lt_of_block h)]
  exact h
theorem Blk.cell {w : World} {b i : Nat} {cs : Array Value} {T : TypeId} {x : Value} (h : Blk w b cs T) (hx : cs[i]? = some x) : w.cell? ⟨b, i, none⟩ = some x := by
  unfold Blk at h
  unfold World.cell?
  rw [h]
  exact hx
theorem Blk.free {w : World} {b i : Nat} {cs : Array Value} {T : TypeId} (h : Blk w b cs T) : w.frozen? ⟨b, i, none⟩ = false := by
  unfold Blk at h
  simp [World.frozen?, h]
theorem Blk.new (w : World) (cs : Array Value) (T : TypeId) : Blk (w.alloc (.cells cs T)) w.heap.size cs T := heap_alloc_new w _
theorem Blk.set {w : World} {b i : Nat} {cs : Array Value} {T : TypeId} (h : Blk w b cs T) (v : Value) : Blk (w.setCell ⟨b, i, none⟩ v) b (cs.setIfInBounds i v) T := by
  have hlt := h.lt
  unfold Blk at h ⊢
  have h' : w.heap[b] = .cells cs T (0, 0) := by simpa [Array.getElem?_eq_getElem hlt] using h
  show (w.heap.modify b _)[b]? = _
  rw [Array.getElem?_eq_getElem (by simpa using hlt), Array.getElem_modify_self, h']
  rfl
theorem Blk.setOther {w : World} {b c i : Nat} {cs : Array Value} {T : TypeId} (h : Blk w b cs T) (v : Value) (hn : b ≠ c) : Blk (w.setCell ⟨c, i, none⟩ v) b cs T := h.kb (Kb.setCell w v) hn
theorem size_list (a : List UInt8) : (⟨a.toArray⟩ : ByteArray).size = a.length := by show a.toArray.size = _; simp
theorem cells_five (w : World) (x0 x1 x2 x3 x4 : Value) (T : TypeId) : (w.alloc (.cells #[x0, x1, x2, x3, x4] T)).cell? ⟨w.heap.size, 0, none⟩ = some x0 ∧ (w.alloc (.cells #[x0, x1, x2, x3, x4] T)).cell? ⟨w.heap.size, 1, none⟩ = some x1 ∧ (w.alloc (.cells #[x0, x1, x2, x3, x4] T)).cell? ⟨w.heap.size, 2, none⟩ = some x2 ∧ (w.alloc (.cells #[x0, x1, x2, x3, x4] T)).cell? ⟨w.heap.size, 3, none⟩ = some x3 ∧ (w.alloc (.cells #[x0, x1, x2, x3, x4] T)).cell? ⟨w.heap.size, 4, none⟩ = some x4 := by
  have h := heap_alloc_new w (.cells #[x0, x1, x2, x3, x4] T)
  refine ⟨?_, ?_, ?_, ?_, ?_⟩ <;> (unfold World.cell?; rw [h]; rfl)
theorem cells_four (w : World) (x0 x1 x2 x3 : Value) (T : TypeId) : (w.alloc (.cells #[x0, x1, x2, x3] T)).cell? ⟨w.heap.size, 0, none⟩ = some x0 ∧ (w.alloc (.cells #[x0, x1, x2, x3] T)).cell? ⟨w.heap.size, 1, none⟩ = some x1 ∧ (w.alloc (.cells #[x0, x1, x2, x3] T)).cell? ⟨w.heap.size, 2, none⟩ = some x2 ∧ (w.alloc (.cells #[x0, x1, x2, x3] T)).cell? ⟨w.heap.size, 3, none⟩ = some x3 := by
  have h := heap_alloc_new w (.cells #[x0, x1, x2, x3] T)
  refine ⟨?_, ?_, ?_, ?_⟩ <;> (unfold World.cell?; rw [h]; rfl)
theorem cells_six' (w : World) (x0 x1 x2 x3 x4 x5 : Value) (T : TypeId) : ∀ i x, [x0, x1, x2, x3, x4, x5][i]? = some x → (w.alloc (.cells #[x0, x1, x2, x3, x4, x5] T)).cell? ⟨w.heap.size, i, none⟩ = some x := by
  have h := heap_alloc_new w (.cells #[x0, x1, x2, x3, x4, x5] T)
  intro i x hx
  unfold World.cell?
  rw [h]
  show (#[x0, x1, x2, x3, x4, x5] : Array Value)[i]? = some x
  rw [← hx, ← List.getElem?_toArray]
theorem own_kb2 {w w' : World} {base n size c : Nat} {e : TypeId} {v : Value} {xs : List Value} (h : w.ownsRow base e size v n xs) (hk : Kb c w w') (hne : ∀ k, v.ownBlock = some k → k ≠ c) : w'.ownsRow base e size v n xs :=
  h.kept (row := some c) ⟨hk.os, hk.tape, hk.output, hk.size, fun k hl hn => hk.block k hl (fun e => hn (by rw [e]))⟩ (Or.inr fun e => hne c e rfl)
def sliceLen : Option Value → Nat
  | some (.slice _ n _) => n
  | _ => 0
theorem own_below {w w' : World} {base n size : Nat} {e : TypeId} {v : Value} {xs : List Value} (h : w.ownsRow base e size v n xs) (hb : Below w.heap.size w w') : w'.ownsRow base e size v n xs :=
  h.kept (row := none) ⟨hb.os, hb.tape, hb.output, hb.size, fun k hk _ => hb.block k hk⟩ (by cases v.ownBlock <;> simp)
theorem own_kb {w w' : World} {base n size c : Nat} {e : TypeId} {v : Value} {xs : List Value} (h : w.ownsRow base e size v n xs) (hk : Kb c w w') (hc : c < base) : w'.ownsRow base e size v n xs :=
  h.kept (row := some c) ⟨hk.os, hk.tape, hk.output, hk.size, fun k hl hn => hk.block k hl (fun e => hn (by rw [e]))⟩ (Or.inr fun e => by have := (h.lt c e).1; omega)
theorem Blk.six {w : World} {r : Nat} {a0 a1 a2 a3 a4 a5 : Value} {T : TypeId} (h : Blk w r #[a0, a1, a2, a3, a4, a5] T) (v0 v1 v2 v3 v4 v5 : Value) :
    Blk ((((((w.setCell ⟨r, 0, none⟩ v0).setCell ⟨r, 1, none⟩ v1).setCell ⟨r, 2, none⟩ v2).setCell ⟨r, 3, none⟩ v3).setCell ⟨r, 4, none⟩ v4).setCell ⟨r, 5, none⟩ v5) r #[v0, v1, v2, v3, v4, v5] T :=
  (((((h.set (i := 0) v0).set (i := 1) v1).set (i := 2) v2).set (i := 3) v3).set (i := 4) v4).set (i := 5) v5
theorem bcell {W w1 : World} (hb : Below W.heap.size W w1) : (∀ b o, b < W.heap.size → w1.cell? ⟨b, o, none⟩ = W.cell? ⟨b, o, none⟩) ∧ (∀ b o, b < W.heap.size → w1.frozen? ⟨b, o, none⟩ = W.frozen? ⟨b, o, none⟩) :=
  ⟨fun b o h => hb.cell (p := ⟨b, o, none⟩) h, fun b o h => hb.frozen (p := ⟨b, o, none⟩) h⟩
theorem dcell {V w3 : World} {b i : Nat} {v : Value} (hb : Below V.heap.size V.drew w3) (h : V.cell? ⟨b, i, none⟩ = some v) : w3.cell? ⟨b, i, none⟩ = some v := by
  rw [← h]
  exact Below.cell (p := ⟨b, i, none⟩) hb (block_lt_of_cell h)
theorem drew_refl (V : World) : Below V.heap.size V.drew V.drew := Below.refl _ _
theorem of_drew {V w3 : World} (h : Below V.heap.size V.drew w3) : Below V.heap.size V w3 := ((Below.refl _ _).drew).trans h
theorem drew_trans {V wx w' : World} (h : Below V.heap.size V.drew wx) (k : Below wx.heap.size wx w') : Below V.heap.size V.drew w' := h.trans (k.mono h.size)
end Go.Proofs.YtmkinnheoejphaaGreatDoor
