/- WHAT IS CARRIED FROM CALL TO CALL: what the library's variables hold ('Lb'), what a call on the reader in block b leaves alone ('Kb'), what a reader holds ('Rdr'). -/
import Derived.Test.YtfapigccdbpepaaProg
import Derived.Below
import Derived.OneCell
import Derived.Sort.Grow
import Derived.Deep.Draws
import Derived.Lib.Hide
namespace Go.Proofs.Ytfapigccdbpepaa
open Go.RowKit

/-- A call that may write block b alone of what there was. -/
structure Kb (b : Nat) (w w' : World) : Prop where
  os : w'.os = w.os
  tape : w'.tape = w.tape
  output : w'.output = w.output
  size : w.heap.size ≤ w'.heap.size
  block : ∀ k, k < w.heap.size → k ≠ b → w'.heap[k]? = w.heap[k]?

theorem Kb.refl (b : Nat) (w : World) : Kb b w w := ⟨rfl, rfl, rfl, Nat.le_refl _, fun _ _ _ => rfl⟩
theorem Kb.trans {b : Nat} {u v w : World} (h : Kb b u v) (k : Kb b v w) : Kb b u w :=
  ⟨k.os.trans h.os, k.tape.trans h.tape, k.output.trans h.output, Nat.le_trans h.size k.size, fun i hi hn => (k.block i (Nat.lt_of_lt_of_le hi h.size) hn).trans (h.block i hi hn)⟩
theorem Kb.of_below {b : Nat} {w w' : World} (h : Below w.heap.size w w') : Kb b w w' := ⟨h.os, h.tape, h.output, h.size, fun k hk _ => h.block k hk⟩
theorem Kb.below {b B : Nat} {w w' : World} (h : Kb b w w') (h1 : B ≤ b) (h2 : b < w.heap.size) : Below B w w' := ⟨h.os, h.tape, h.output, h.size, fun k hk => h.block k (by omega) (by omega)⟩
theorem Kb.setCell {b o : Nat} (w : World) (v : Value) : Kb b w (w.setCell ⟨b, o, none⟩ v) :=
  ⟨rfl, rfl, rfl, by simp [World.setCell], fun k _ hn => Below.heap_setCell _ _ _ _ hn⟩
theorem Kb.drewN {b : Nat} {w w' : World} (h : Kb b w w') (n : Nat) : Kb b w (w'.drewN n) := ⟨h.os, h.tape, h.output, h.size, h.block⟩

theorem below_drewN {B : Nat} (w : World) (n : Nat) : Below B w (w.drewN n) := ⟨rfl, rfl, rfl, Nat.le_refl _, fun _ _ => rfl⟩
theorem below_grow {w : World} (n : Nat) (os : Array Obj) : Below w.heap.size w (Sort.grow (w.drewN n) os) :=
  ⟨rfl, rfl, rfl, by simp [World.drewN], fun k hk => Sort.heap_grow_old (w.drewN n) os hk⟩

end Go.Proofs.Ytfapigccdbpepaa
