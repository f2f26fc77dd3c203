/- An answer of Check in a block of its own. -/
import Derived.Test.YtloallndnmofnaaDoorBlk
namespace Go.Proofs.YtloallndnmofnaaDoor
open Go.RowKit

/-- An answer of Check in a block of its own. -/
def Askd (wr : World) (t : Nat) (s0 s1 s2 : Int) (wx : World) : Prop := Blk wx t #[.int .i64 s0, .int .i64 s1, .int .i64 s2] 41 ∧ wr.heap.size ≤ t ∧ RowKit.Below wr.heap.size wr wx
abbrev zeroS3 : Array Value := #[.int .i64 0, .int .i64 0, .int .i64 0]
theorem alc3 (w : World) : RowKit.Below w.heap.size w (w.alloc (.cells zeroS3 41)) := (Below.refl _ _).alloc (Nat.le_refl _) _
theorem zero_slot (w : World) : Blk (w.alloc (.cells zeroS3 41)) w.heap.size zeroS3 41 := Blk.new w _ _
theorem below_as {B : Nat} {wr W w5 : World} (h : RowKit.Below B W w5) (h1 : W.os = wr.os) (h2 : W.tape = wr.tape) (h3 : W.output = wr.output) (h4 : W.heap = wr.heap) : RowKit.Below B wr w5 := by
  refine ⟨h.os.trans h1, h.tape.trans h2, h.output.trans h3, by rw [← h4]; exact h.size, fun k hk => by rw [← h4]; exact h.block k hk⟩
theorem askd_a {wr w5 : World} {s0 s1 s2 : Int} (hb : RowKit.Below wr.heap.size wr w5) : Askd wr w5.heap.size s0 s1 s2 (w5.alloc (.cells #[.int .i64 s0, .int .i64 s1, .int .i64 s2] 41)) := by
  have hal : RowKit.Below w5.heap.size w5 (w5.alloc (.cells #[.int .i64 s0, .int .i64 s1, .int .i64 s2] 41)) := (Below.refl _ _).alloc (Nat.le_refl _) _
  exact ⟨Blk.new w5 _ _, hb.size, hb.trans (hal.mono hb.size)⟩
theorem askd_b {wr w5 : World} {s0 s1 s2 : Int} (hb : RowKit.Below (wr.alloc (.cells zeroS3 41)).heap.size (wr.alloc (.cells zeroS3 41)) w5) : Askd wr wr.heap.size s0 s1 s2 (((w5.setCell ⟨wr.heap.size, 0, none⟩ (.int .i64 s0)).setCell ⟨wr.heap.size, 1, none⟩ (.int .i64 s1)).setCell ⟨wr.heap.size, 2, none⟩ (.int .i64 s2)) := by
  have hz : Blk w5 wr.heap.size #[.int .i64 0, .int .i64 0, .int .i64 0] 41 := (zero_slot wr).below hb
  have hb0 := (alc3 wr).trans (hb.mono (alc3 wr).size)
  exact ⟨((hz.set (i := 0) (.int .i64 s0)).set (i := 1) (.int .i64 s1)).set (i := 2) (.int .i64 s2), Nat.le_refl _, ((hb0.setCell (p := ⟨wr.heap.size, 0, none⟩) (Nat.le_refl _) _).setCell (p := ⟨wr.heap.size, 1, none⟩) (Nat.le_refl _) _).setCell (p := ⟨wr.heap.size, 2, none⟩) (Nat.le_refl _) _⟩
end Go.Proofs.YtloallndnmofnaaDoor
