/- WHAT LedgerExact HOLDS FROM ROUND TO ROUND. -/
import Derived.Test.YtloallndnmofnaaDoorRAdd3
import Derived.Test.YtloallndnmofnaaDoorAwake
import Derived.Test.YtloallndnmofnaaDoorFr2
import Derived.Test.YtloallndnmofnaaDoorSm
namespace Go.Proofs.YtloallndnmofnaaDoor
open Go.RowKit

theorem TabAt.moved {v : Value} {T : Ld.Tb} {w w' : World} {B B' : Nat → Prop} (h : TabAt (fun q => ¬ B q) v T w) (hm : Moved B B' w w') : TabAt (fun q => ¬ B' q) v T w' := by
  have h1 := h.mono (Q := fun q => ¬ B q ∧ q < w.heap.size) (fun b h1 h2 => ⟨h1, h2⟩)
  have h2 := h1.same (w' := w') fun b hb' => hm.block b hb'.2 hb'.1
  exact h2.mono fun b h3 _ h4 => by rcases hm.new b h4 with h5 | h5; exact h3.1 h5; have := h3.2; omega
/-- What Add leaves of a ledger, whatever batch comes. -/
def GAdded (w0 w : World) (rb : Nat) (B : Nat → Prop) (T : Ld.Tb) (g : Bool) (prod seq base count : Int) (e : Ending) (w' : World) : Prop :=
  e = .returned (.int .i64 (Ld.addR g T prod seq base)) ∧ ∃ B', LS w0 w' rb B' (Ld.addA g T prod seq base count) ∧ Moved B B' w w'
theorem s_addG {w0 w : World} {rb : Nat} {B : Nat → Prop} {T : Ld.Tb} (h : LS w0 w rb B T) (h2 : 2 ≤ w0.heap.size) {v : Value} {base count prod seq time : Int} {ls : List Pl.Rc} (hr : Recs v ls w) (hl : ls.length ≤ 1099511627776) :
    Calls Tryd.prog 14 #[.pointer (some ⟨rb, 0, none⟩), .agg #[.int .i64 base, .int .i64 count, .int .i64 prod, .int .i64 seq, .int .i64 time, v]] w (GAdded w0 w rb B T (Pl.goodB ⟨base, count, prod, seq, time, ls⟩) prod seq base count) := by
  refine (dadd rb B T base count prod seq time ls v w h.lg h.lgr h.good hr hl).mono ?_
  rintro e w' ⟨he, B', hl, hm⟩
  obtain ⟨h4, h5⟩ := hm.below h.low h.base
  refine ⟨he, B', ⟨hl, ?_, h4, h5, h.lg.of_low hm.size fun k hk => hm.block k (by have := h.lg.size; omega) (fun hc => by have := h.base k hc; omega)⟩, hm⟩
  unfold Ld.addA
  split
  · rename_i hz
    simp only [Bool.and_eq_true, decide_eq_true_eq] at hz
    obtain ⟨⟨n0, n1⟩, ⟨n2, n3, n4⟩, -, -⟩ := good_nums hz.1
    exact (Ld.add_ok h.good hz.2 n0 n2 (by omega)).1
  · exact h.good
theorem addA_yes {g : Bool} {T : Ld.Tb} {prod seq base count : Int} (h : Ld.addR g T prod seq base = 0) : Ld.addA g T prod seq base count = Ld.addT T prod seq base count := by
  unfold Ld.addR at h
  cases g with
  | false => cases h
  | true =>
    rw [if_pos rfl] at h
    unfold Ld.addA
    simp [h]
theorem addA_no {g : Bool} {T : Ld.Tb} {prod seq base count : Int} (h : Ld.addR g T prod seq base ≠ 0) : Ld.addA g T prod seq base count = T := by
  unfold Ld.addR at h
  unfold Ld.addA
  cases g with
  | false => rfl
  | true =>
    rw [if_pos rfl] at h
    simp [h]
/-- The ledger, and the document's table beside it: both the same. -/
structure Ex (w0 w : World) (rb : Nat) (B : Nat → Prop) (T : Ld.Tb) (tv : Value) : Prop where
  ls : LS w0 w rb B T
  tab : TabAt (fun q => ¬ B q) tv T w
section
variable {w0 w w1 w2 w3 : World} {rb : Nat} {B B' : Nat → Prop} {T : Ld.Tb} {tv v' : Value} {g : Bool} {prod seq base count : Int}
theorem Ex.below (h : Ex w0 w rb B T tv) (hb : RowKit.Below w.heap.size w w1) : Ex w0 w1 rb B T tv := ⟨h.ls.below hb, h.tab.below hb⟩
theorem Ex.no (h : Ex w0 w rb B T tv) (hl : LS w0 w3 rb B' (Ld.addA g T prod seq base count)) (hm : Moved B B' w w3) (hc : Ld.addR g T prod seq base ≠ 0) : Ex w0 w3 rb B' T tv := by
  rw [addA_no hc] at hl
  exact ⟨hl, h.tab.moved hm⟩
theorem Ex.yes (h : Ex w0 w rb B T tv) (_hb : RowKit.Below w.heap.size w w2) (ht : TabAt (fun q => w.heap.size ≤ q) v' (Ld.addT T prod seq base count) w2) (hl : LS w0 w3 rb B' (Ld.addA g T prod seq base count)) (hm : Moved B B' w2 w3) (hc : Ld.addR g T prod seq base = 0) : Ex w0 w3 rb B' (Ld.addT T prod seq base count) v' := by
  rw [addA_yes hc] at hl
  have h1 : TabAt (fun q => ¬ B q) v' (Ld.addT T prod seq base count) w2 := ht.mono fun q h1 _ h2 => by have := h.ls.lgr.bnd q h2; omega
  exact ⟨hl, h1.moved hm⟩
end
theorem Ex.start {w0 w1 w2 w3 : World} {rb : Nat} {B : Nat → Prop} {T : Ld.Tb} {tv : Value} {tb : Option Nat} {E : List En} (hw : RowKit.Below w0.heap.size w0 w1) (hl : Lg w0) (hG : Ld.goodB T = true) (h : Lgr w2 rb B T) (hB : ∀ k, B k → w1.heap.size ≤ k) (hb : RowKit.Below w1.heap.size w1 w2) (ho : Own w3 tv tb E) (hE : tabOf E = T) (hf : ∀ k, foot tb E k → w2.heap.size ≤ k) (hb3 : RowKit.Below w2.heap.size w2 w3) : Ex w0 w3 rb B T tv := by
  have hz1 := hw.size
  have hz2 := hb.size
  have hlow := hw.trans (hb.mono hz1)
  have h2 : LS w0 w2 rb B T := ⟨h, hG, hlow, fun k hk => by have := hB k hk; omega, hl.below hl.size hlow⟩
  refine ⟨h2.below hb3, ?_⟩
  rw [← hE]
  exact ho.tab _ fun k hk hbk => by have := hf k hk; have := h.bnd k hbk; omega
/-- An answer of Check in a block of its own. -/
def Askd (wr : World) (t : Nat) (s0 s1 s2 : Int) (wx : World) : Prop := Blk wx t #[.int .i64 s0, .int .i64 s1, .int .i64 s2] 41 ∧ wr.heap.size ≤ t ∧ RowKit.Below wr.heap.size wr wx
abbrev zeroS3 : Array Value := #[.int .i64 0, .int .i64 0, .int .i64 0]
theorem alc3 (w : World) : RowKit.Below w.heap.size w (w.alloc (.cells zeroS3 41)) := (Below.refl _ _).alloc (Nat.le_refl _) _
theorem zero_slot (w : World) : Blk (w.alloc (.cells zeroS3 41)) w.heap.size zeroS3 41 := Blk.new w _ _
theorem below_as {B : Nat} {wr W w5 : World} (h : RowKit.Below B W w5) (h1 : W.os = wr.os) (h2 : W.tape = wr.tape) (h3 : W.output = wr.output) (h4 : W.heap = wr.heap) : RowKit.Below B wr w5 := by
  refine ⟨h.os.trans h1, h.tape.trans h2, h.output.trans h3, by rw [← h4]; exact h.size, fun k hk => by rw [← h4]; exact h.block k hk⟩
theorem askd_a {wr w5 : World} {s0 s1 s2 : Int} (hb : RowKit.Below wr.heap.size wr w5) : Askd wr w5.heap.size s0 s1 s2 (w5.alloc (.cells #[.int .i64 s0, .int .i64 s1, .int .i64 s2] 41)) := by
  have hal : RowKit.Below w5.heap.size w5 (w5.alloc (.cells #[.int .i64 s0, .int .i64 s1, .int .i64 s2] 41)) := (Below.refl _ _).alloc (Nat.le_refl _) _
  exact ⟨Blk.new w5 _ _, hb.size, hb.trans (hal.mono hb.size)⟩
theorem askd_b {wr w5 : World} {s0 s1 s2 : Int} (hb : RowKit.Below (wr.alloc (.cells zeroS3 41)).heap.size (wr.alloc (.cells zeroS3 41)) w5) : Askd wr wr.heap.size s0 s1 s2 (((w5.setCell ⟨wr.heap.size, 0, none⟩ (.int .i64 s0)).setCell ⟨wr.heap.size, 1, none⟩ (.int .i64 s1)).setCell ⟨wr.heap.size, 2, none⟩ (.int .i64 s2)) := by
  have hz : Blk w5 wr.heap.size #[.int .i64 0, .int .i64 0, .int .i64 0] 41 := (zero_slot wr).below hb
  have hb0 := (alc3 wr).trans (hb.mono (alc3 wr).size)
  exact ⟨((hz.set (i := 0) (.int .i64 s0)).set (i := 1) (.int .i64 s1)).set (i := 2) (.int .i64 s2), Nat.le_refl _, ((hb0.setCell (p := ⟨wr.heap.size, 0, none⟩) (Nat.le_refl _) _).setCell (p := ⟨wr.heap.size, 1, none⟩) (Nat.le_refl _) _).setCell (p := ⟨wr.heap.size, 2, none⟩) (Nat.le_refl _) _⟩
end Go.Proofs.YtloallndnmofnaaDoor
