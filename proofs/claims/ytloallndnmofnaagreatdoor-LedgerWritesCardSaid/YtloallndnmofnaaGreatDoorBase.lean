/- WHAT IS CARRIED FROM CALL TO CALL: what the library's variables hold ('Lb'), what a call on the reader in block b leaves alone ('Kb'), what a reader holds ('Rdr'). -/
import Derived.Test.YtloallndnmofnaaGreatDoorProg
import Derived.Lib.LaidTab
import Derived.Lib.ItoaNum
import Derived.Below
import Derived.OneCell
import Derived.Sort.Grow
import Derived.Deep.Draws
import Derived.Lib.Hide
namespace Go.Proofs.YtloallndnmofnaaGreatDoor
open Go.RowKit

/-- What the library's variables hold. -/
structure Lb (w : World) : Prop where
  pow : Lib.TabIs Tryz.prog w "internal/strconv.uint64pow10" .u64 Lib.pow10Tab
  syn : ∃ tp p, w.var? Tryz.prog "strconv.ErrSyntax" = some #[.iface tp p]
  rng : ∃ tp p, w.var? Tryz.prog "strconv.ErrRange" = some #[.iface tp p]
  lst : Lib.TabIs Tryz.prog w "heliograph/crate.least" .i64 [0, 1, 0, 0, 0]
  grt : Lib.TabIs Tryz.prog w "heliograph/crate.greatest" .i64 [1099511627776, 8, 1099511627776, 1099511627776, 1099511627776]
  size : 8 ≤ w.heap.size

theorem gPow : Tryz.prog.globalNamed "internal/strconv.uint64pow10" = some 2 := by kernel_rfl
theorem gSyn : Tryz.prog.globalNamed "strconv.ErrSyntax" = some 4 := by kernel_rfl
theorem gRng : Tryz.prog.globalNamed "strconv.ErrRange" = some 5 := by kernel_rfl

theorem gLst : Tryz.prog.globalNamed "heliograph/crate.least" = some 0 := by kernel_rfl
theorem gGrt : Tryz.prog.globalNamed "heliograph/crate.greatest" = some 1 := by kernel_rfl

theorem var_of_block {w w' : World} {name : String} {g : Nat} (hg : Tryz.prog.globalNamed name = some g) (h : w'.heap[g]? = w.heap[g]?) : w'.var? Tryz.prog name = w.var? Tryz.prog name := by
  unfold World.var?
  rw [hg]
  simp only [Option.bind_some]
  rw [h]

theorem Lb.of_low {w w' : World} (h : Lb w) (hs : w.heap.size ≤ w'.heap.size) (hb : ∀ k, k < 8 → w'.heap[k]? = w.heap[k]?) : Lb w' := by
  obtain ⟨h1, ⟨t3, p3, h3⟩, ⟨t4, p4, h4⟩, h6, h7, h5⟩ := h
  refine ⟨?_, ⟨t3, p3, ?_⟩, ⟨t4, p4, ?_⟩, ?_, ?_, by omega⟩
  · unfold Lib.TabIs at h1 ⊢
    rw [var_of_block gPow (hb _ (by decide))]
    exact h1
  · rw [var_of_block gSyn (hb _ (by decide))]
    exact h3
  · rw [var_of_block gRng (hb _ (by decide))]
    exact h4
  · unfold Lib.TabIs at h6 ⊢
    rw [var_of_block gLst (hb _ (by decide))]
    exact h6
  · unfold Lib.TabIs at h7 ⊢
    rw [var_of_block gGrt (hb _ (by decide))]
    exact h7

theorem Lb.below {w w' : World} {B : Nat} (h : Lb w) (hB : 8 ≤ B) (hb : Below B w w') : Lb w' := h.of_low hb.size fun k hk => hb.block k (by omega)

/-- What crate's variables alone hold. -/
structure Lg (w : World) : Prop where
  lst : Lib.TabIs Tryz.prog w "heliograph/crate.least" .i64 [0, 1, 0, 0, 0]
  grt : Lib.TabIs Tryz.prog w "heliograph/crate.greatest" .i64 [1099511627776, 8, 1099511627776, 1099511627776, 1099511627776]
  size : 2 ≤ w.heap.size
theorem Lb.lg {w : World} (h : Lb w) : Lg w := ⟨h.lst, h.grt, by have := h.size; omega⟩
theorem Lg.of_low {w w' : World} (h : Lg w) (hs : w.heap.size ≤ w'.heap.size) (hb : ∀ k, k < 2 → w'.heap[k]? = w.heap[k]?) : Lg w' := by
  obtain ⟨h6, h7, h5⟩ := h
  refine ⟨?_, ?_, by omega⟩
  · unfold Lib.TabIs at h6 ⊢
    rw [var_of_block gLst (hb _ (by decide))]
    exact h6
  · unfold Lib.TabIs at h7 ⊢
    rw [var_of_block gGrt (hb _ (by decide))]
    exact h7
theorem Lg.below {w w' : World} {B : Nat} (h : Lg w) (hB : 2 ≤ B) (hb : Below B w w') : Lg w' := h.of_low hb.size fun k hk => hb.block k (by omega)

/-- A call that may write block b alone of what there was. -/
structure Kb (b : Nat) (w w' : World) : Prop where
  os : w'.os = w.os
  tape : w'.tape = w.tape
  output : w'.output = w.output
  size : w.heap.size ≤ w'.heap.size
  block : ∀ k, k < w.heap.size → k ≠ b → w'.heap[k]? = w.heap[k]?

theorem Kb.refl (b : Nat) (w : World) : Kb b w w := ⟨rfl, rfl, rfl, Nat.le_refl _, fun _ _ _ => rfl⟩
theorem Kb.trans {b : Nat} {u v w : World} (h : Kb b u v) (k : Kb b v w) : Kb b u w :=
  ⟨k.os.trans h.os, k.tape.trans h.tape, k.output.trans h.output, Nat.le_trans h.size k.size, fun i hi hn => (k.block i (Nat.lt_of_lt_of_le hi h.size) hn).trans (h.block i hi hn)⟩
theorem Kb.of_below {b : Nat} {w w' : World} (h : Below w.heap.size w w') : Kb b w w' := ⟨h.os, h.tape, h.output, h.size, fun k hk _ => h.block k hk⟩
theorem Kb.below {b B : Nat} {w w' : World} (h : Kb b w w') (h1 : B ≤ b) (h2 : b < w.heap.size) : Below B w w' := ⟨h.os, h.tape, h.output, h.size, fun k hk => h.block k (by omega) (by omega)⟩
theorem Kb.setCell {b o : Nat} (w : World) (v : Value) : Kb b w (w.setCell ⟨b, o, none⟩ v) :=
  ⟨rfl, rfl, rfl, by simp [World.setCell], fun k _ hn => Below.heap_setCell _ _ _ _ hn⟩
theorem Kb.drewN {b : Nat} {w w' : World} (h : Kb b w w') (n : Nat) : Kb b w (w'.drewN n) := ⟨h.os, h.tape, h.output, h.size, h.block⟩
theorem Lb.kb {b : Nat} {w w' : World} (h : Lb w) (hb : 8 ≤ b) (hk : Kb b w w') : Lb w' := h.of_low hk.size fun k hl => hk.block k (by have := h.size; omega) (by omega)

theorem below_drewN {B : Nat} (w : World) (n : Nat) : Below B w (w.drewN n) := ⟨rfl, rfl, rfl, Nat.le_refl _, fun _ _ => rfl⟩
theorem below_grow {w : World} (n : Nat) (os : Array Obj) : Below w.heap.size w (Sort.grow (w.drewN n) os) :=
  ⟨rfl, rfl, rfl, by simp [World.drewN], fun k hk => Sort.heap_grow_old (w.drewN n) os hk⟩

/-- The reader in block b: the bytes from its place on; whether it is wrong. -/
def Rdr (b : Nat) (w : World) (s : ByteArray) (bad : Bool) : Prop := w.heap[b]? = some (.cells #[.string s, .bool bad] 73 (0, 0))

theorem Rdr.lt {b : Nat} {w : World} {s : ByteArray} {bad : Bool} (h : Rdr b w s bad) : b < w.heap.size := lt_of_block h
theorem Rdr.rest {b : Nat} {w : World} {s : ByteArray} {bad : Bool} (h : Rdr b w s bad) : w.cell? ⟨b, 0, none⟩ = some (.string s) := by unfold Rdr at h; simp [World.cell?, h]
theorem Rdr.wrong {b : Nat} {w : World} {s : ByteArray} {bad : Bool} (h : Rdr b w s bad) : w.cell? ⟨b, 1, none⟩ = some (.bool bad) := by unfold Rdr at h; simp [World.cell?, h]
theorem Rdr.free0 {b : Nat} {w : World} {s : ByteArray} {bad : Bool} (h : Rdr b w s bad) : w.frozen? ⟨b, 0, none⟩ = false := by unfold Rdr at h; simp [World.frozen?, h]
theorem Rdr.free1 {b : Nat} {w : World} {s : ByteArray} {bad : Bool} (h : Rdr b w s bad) : w.frozen? ⟨b, 1, none⟩ = false := by unfold Rdr at h; simp [World.frozen?, h]
theorem Rdr.same {b : Nat} {w w' : World} {s : ByteArray} {bad : Bool} (h : Rdr b w s bad) (hb : Below w.heap.size w w') : Rdr b w' s bad := by
  unfold Rdr at h ⊢
  rw [hb.block b (lt_of_block h)]
  exact h
theorem Rdr.other {b c : Nat} {w w' : World} {s : ByteArray} {bad : Bool} (h : Rdr b w s bad) (hk : Kb c w w') (hn : b ≠ c) : Rdr b w' s bad := by
  unfold Rdr at h ⊢
  rw [hk.block b (lt_of_block h) hn]
  exact h
theorem Rdr.set0 {b : Nat} {w : World} {s : ByteArray} {bad : Bool} (h : Rdr b w s bad) (s' : ByteArray) : Rdr b (w.setCell ⟨b, 0, none⟩ (.string s')) s' bad := by
  have hlt := h.lt
  unfold Rdr at h ⊢
  have h' : w.heap[b] = .cells #[.string s, .bool bad] 73 (0, 0) := by simpa [Array.getElem?_eq_getElem hlt] using h
  show (w.heap.modify b _)[b]? = _
  rw [Array.getElem?_eq_getElem (by simpa using hlt), Array.getElem_modify_self, h']
  rfl
theorem Rdr.set1 {b : Nat} {w : World} {s : ByteArray} {bad : Bool} (h : Rdr b w s bad) (bad' : Bool) : Rdr b (w.setCell ⟨b, 1, none⟩ (.bool bad')) s bad' := by
  have hlt := h.lt
  unfold Rdr at h ⊢
  have h' : w.heap[b] = .cells #[.string s, .bool bad] 73 (0, 0) := by simpa [Array.getElem?_eq_getElem hlt] using h
  show (w.heap.modify b _)[b]? = _
  rw [Array.getElem?_eq_getElem (by simpa using hlt), Array.getElem_modify_self, h']
  rfl
theorem Rdr.drewN {b : Nat} {w : World} {s : ByteArray} {bad : Bool} (h : Rdr b w s bad) (n : Nat) : Rdr b (w.drewN n) s bad := h
end Go.Proofs.YtloallndnmofnaaGreatDoor
