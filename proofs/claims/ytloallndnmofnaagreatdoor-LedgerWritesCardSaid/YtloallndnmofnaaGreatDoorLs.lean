/- A LEDGER THAT A CALL HAS MADE, FROM CALL TO CALL. -/
import Derived.Test.YtloallndnmofnaaGreatDoorAdd2
import Derived.Test.YtloallndnmofnaaGreatDoorClo
import Derived.Test.YtloallndnmofnaaGreatDoorLd2
namespace Go.Proofs.YtloallndnmofnaaGreatDoor
open Go.RowKit

structure LS (w0 w : World) (rb : Nat) (B : Nat → Prop) (T : Ld.Tb) : Prop where
  lgr : Lgr w rb B T
  good : Ld.goodB T = true
  low : RowKit.Below w0.heap.size w0 w
  base : ∀ k, B k → w0.heap.size ≤ k
  lg : Lg w
section
variable {w0 w w' : World} {rb : Nat} {B B' C C' : Nat → Prop} {T : Ld.Tb}
theorem LS.below (h : LS w0 w rb B T) (hb : RowKit.Below w.heap.size w w') : LS w0 w' rb B T :=
  ⟨h.lgr.below hb, h.good, h.low.trans (hb.mono h.low.size), h.base, h.lg.below h.lg.size hb⟩
/-- Another one's doing. -/
theorem LS.moved (h : LS w0 w rb B T) (hm : Moved C C' w w') (hd : ∀ k, B k → ¬ C k) (hC : ∀ k, C k → w0.heap.size ≤ k) (h2 : 2 ≤ w0.heap.size) : LS w0 w' rb B T ∧ ∀ k, B k → ¬ C' k := by
  obtain ⟨h1, h3⟩ := h.lgr.moved hm hd
  obtain ⟨h4, h5⟩ := hm.below h.low hC
  refine ⟨⟨h1, h.good, h4, h.base, h.lg.of_low hm.size fun k hk => hm.block k (by have := h.lg.size; omega) (fun hc => by have := hC k hc; omega)⟩, h3⟩
theorem good_one {prod seq base : Int} (hp : Ld.numB prod = true) (hs : Ld.numB seq = true) (h0 : 0 ≤ base) (h1 : base + 1 ≤ 1099511627776) : Pl.goodB ⟨base, 1, prod, seq, 0, [oneRc base]⟩ = true := by
  unfold Pl.goodB
  simp only [Bool.and_eq_true, decide_eq_true_eq]
  refine ⟨⟨⟨⟨⟨⟨Pl.numB_iff.2 ⟨h0, by omega⟩, by omega, by omega, by omega⟩, Pl.numB_iff.2 (Ld.numB_iff.1 hp)⟩, Pl.numB_iff.2 (Ld.numB_iff.1 hs)⟩, by decide⟩, by simp⟩, ?_⟩
  unfold Pl.riseB Pl.riseB oneRc
  simp only [Bool.and_eq_true, decide_eq_true_eq, and_true]
  refine ⟨rfl, by omega, by omega⟩
/-- What Add leaves of a ledger that a call has made. -/
def SAdded (w0 w : World) (rb : Nat) (B : Nat → Prop) (T : Ld.Tb) (prod seq base : Int) (e : Ending) (w' : World) : Prop :=
  e = .returned (.int .i64 (Ld.addE T prod seq base)) ∧ ∃ B', LS w0 w' rb B' (if Ld.addE T prod seq base = 0 then Ld.addT T prod seq base 1 else T) ∧ Moved B B' w w'
theorem s_add (h : LS w0 w rb B T) (h2 : 2 ≤ w0.heap.size) {v : Value} {prod seq base : Int} (hr : Recs v [oneRc base] w) (hp : Ld.numB prod = true) (hs : Ld.numB seq = true) (h0 : 0 ≤ base) (h1 : base + 1 ≤ 1099511627776) :
    Calls Tryz.prog 12 #[.pointer (some ⟨rb, 0, none⟩), .agg #[.int .i64 base, .int .i64 1, .int .i64 prod, .int .i64 seq, .int .i64 0, v]] w (SAdded w0 w rb B T prod seq base) := by
  refine (dadd rb B T base 1 prod seq 0 [oneRc base] v w h.lg h.lgr h.good hr (by simp)).mono ?_
  rw [good_one hp hs h0 h1]
  rintro e w' ⟨he, B', hl, hm⟩
  obtain ⟨h4, h5⟩ := hm.below h.low h.base
  have hR : Ld.addR true T prod seq base = Ld.addE T prod seq base := by unfold Ld.addR; rw [if_pos rfl]
  have hA : Ld.addA true T prod seq base 1 = if Ld.addE T prod seq base = 0 then Ld.addT T prod seq base 1 else T := by
    unfold Ld.addA
    by_cases hz : Ld.addE T prod seq base = 0 <;> simp [hz]
  rw [hR] at he
  rw [hA] at hl
  refine ⟨he, B', ⟨hl, ?_, h4, h5, h.lg.of_low hm.size fun k hk => hm.block k (by have := h.lg.size; omega) (fun hc => by have := h.base k hc; omega)⟩, hm⟩
  split
  · rename_i hz
    exact (Ld.add_ok h.good hz h0 (by omega) h1).1
  · exact h.good
theorem s_check (h : LS w0 w rb B T) (prod seq s0 s1 s2 c : Int) (hc : Ld.check T prod seq = (⟨s0, s1, s2⟩, c)) :
    Calls Tryz.prog 14 #[.pointer (some ⟨rb, 0, none⟩), .int .i64 prod, .int .i64 seq] w fun e w' => e = .returned (.tuple #[.agg #[.int .i64 s0, .int .i64 s1, .int .i64 s2], .int .i64 c]) ∧ RowKit.Below w.heap.size w w' := by
  obtain ⟨tv, h1, h2⟩ := h.lgr.view
  exact dcheck _ rb tv T prod seq w h1 h2 h.good s0 s1 s2 c hc
theorem s_table (h : LS w0 w rb B T) : Calls Tryz.prog 15 #[.pointer (some ⟨rb, 0, none⟩)] w (Clond w T) := dtable rb B T w h.lgr h.good
theorem s_new (w0 w : World) (hw : RowKit.Below w0.heap.size w0 w) (hl : Lg w) : Calls Tryz.prog 11 #[] w fun e w' => e = .returned (.pointer (some ⟨w.heap.size, 0, none⟩)) ∧ LS w0 w' w.heap.size (fun k => k = w.heap.size) [] ∧ RowKit.Below w.heap.size w w' := by
  refine (dnew w).mono ?_
  rintro e w' ⟨he, h1, h2⟩
  exact ⟨he, ⟨h1, rfl, hw.trans (h2.mono hw.size), fun k hk => by have := hw.size; omega, hl.below hl.size h2⟩, h2⟩
end
end Go.Proofs.YtloallndnmofnaaGreatDoor
