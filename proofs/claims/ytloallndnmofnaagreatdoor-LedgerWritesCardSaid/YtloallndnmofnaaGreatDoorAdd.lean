/- THE CONTRACT OF ledger's Add. -/
import Derived.Test.YtloallndnmofnaaGreatDoorRem
import Derived.Test.YtloallndnmofnaaGreatDoorOwn
import Derived.Test.YtloallndnmofnaaGreatDoorDCheck
import Derived.Test.YtloallndnmofnaaGreatDoorDGood
namespace Go.Proofs.YtloallndnmofnaaGreatDoor
open Go.RowKit

theorem dcheck (P : Nat → Prop) (rb : Nat) (v : Value) (T : Ld.Tb) (prod seq : Int) (w : World) (hb : Blk w rb #[v] 59) (h : TabAt P v T w) (hG : Ld.goodB T = true) (s0 s1 s2 c : Int) (hc : Ld.check T prod seq = (⟨s0, s1, s2⟩, c)) :
    Calls Tryz.prog 14 #[.pointer (some ⟨rb, 0, none⟩), .int .i64 prod, .int .i64 seq] w fun e w' => e = .returned (.tuple #[.agg #[.int .i64 s0, .int .i64 s1, .int .i64 s2], .int .i64 c]) ∧ RowKit.Below w.heap.size w w' := by
  have key : Calls Tryz.prog 14 #[.pointer (some ⟨rb, 0, none⟩), .int .i64 prod, .int .i64 seq] w fun e w' => e = .returned (.tuple #[slV (Ld.check T prod seq).1, .int .i64 (Ld.check T prod seq).2]) ∧ RowKit.Below w.heap.size w w' := by
    by_cases hn : (Ld.numB prod && Ld.numB seq) = true
    · have hn' := hn
      rw [Bool.and_eq_true] at hn'
      cases ha : Ld.at_ T prod with
      | none =>
        have := dcheck_none P rb v T prod seq w hb h hG hn'.1 hn'.2 ha
        have e : Ld.check T prod seq = (Ld.zeroS, if seq = 0 then 0 else 20) := by
          unfold Ld.check
          rw [if_pos hn, ha]
          show (if seq = 0 then (Ld.zeroS, (0 : Int)) else (Ld.zeroS, 20)) = _
          split <;> rfl
        rw [e]
        exact this
      | some i =>
        obtain ⟨L, hL⟩ := Ld.at_some ha
        have := dcheck_some P rb v T prod seq w hb h hG hn'.1 hn'.2 i L ha hL
        have e : Ld.check T prod seq = Ld.look L seq := by
          unfold Ld.check
          rw [if_pos hn, ha]
          simp [List.getD_eq_getElem?_getD, hL]
        rw [e]
        exact this
    · have hn' : (Ld.numB prod && Ld.numB seq) = false := by simpa using hn
      have := dcheck_bad rb prod seq w hn'
      have e : Ld.check T prod seq = (Ld.zeroS, 1) := by
        unfold Ld.check
        rw [if_neg hn]
      rw [e]
      exact this
  rw [hc] at key
  exact key

namespace Ld
/-- Add's answer, by whether it is a batch; what is remembered behind it. -/
def addR (g : Bool) (T : Tb) (prod seq base : Int) : Int := if g then addE T prod seq base else 1
def addA (g : Bool) (T : Tb) (prod seq base count : Int) : Tb := if g && decide (addE T prod seq base = 0) then addT T prod seq base count else T
end Ld
def Added (w : World) (rb : Nat) (B : Nat → Prop) (T : Ld.Tb) (g : Bool) (prod seq base count : Int) (e : Ending) (w' : World) : Prop :=
  e = .returned (.int .i64 (Ld.addR g T prod seq base)) ∧ ∃ B', Lgr w' rb B' (Ld.addA g T prod seq base count) ∧ Moved B B' w w'
theorem Added.not {w w' : World} {rb : Nat} {B : Nat → Prop} {T : Ld.Tb} {g : Bool} {prod seq base count c : Int} (h : Lgr w rb B T) (hb : RowKit.Below w.heap.size w w') (hc : Ld.addR g T prod seq base = c) (hn : c ≠ 0) : Added w rb B T g prod seq base count (.returned (.int .i64 c)) w' := by
  refine ⟨by rw [hc], B, ?_, Moved.of_below hb⟩
  have : Ld.addA g T prod seq base count = T := by
    unfold Ld.addA
    unfold Ld.addR at hc
    cases g with
    | false => rfl
    | true =>
      have : ¬ Ld.addE T prod seq base = 0 := by rw [if_pos rfl] at hc; rw [hc]; exact hn
      simp [this]
  rw [this]
  exact h.below hb
theorem Added.yes {w w1 w' : World} {rb : Nat} {B : Nat → Prop} {T T' : Ld.Tb} {prod seq base count : Int} {e : Ending} (hb : RowKit.Below w.heap.size w w1) (h : Remd w1 rb B T' e w') (hc : Ld.addE T prod seq base = 0) (hT : Ld.addT T prod seq base count = T') : Added w rb B T true prod seq base count e w' := by
  obtain ⟨rfl, B', hl, hm⟩ := h
  refine ⟨by unfold Ld.addR; rw [if_pos rfl, hc], B', ?_, (Moved.of_below hb).trans hm⟩
  have : Ld.addA true T prod seq base count = T' := by unfold Ld.addA; simp [hc, hT]
  rw [this]
  exact hl
theorem good_nums {base count prod seq time : Int} {ls : List Pl.Rc} (h : Pl.goodB ⟨base, count, prod, seq, time, ls⟩ = true) : (0 ≤ base ∧ base ≤ 1099511627776) ∧ (1 ≤ count ∧ count ≤ 8 ∧ base ≤ 1099511627776 - count) ∧ Ld.numB prod = true ∧ Ld.numB seq = true := by
  unfold Pl.goodB at h
  simp only [Bool.and_eq_true, decide_eq_true_eq] at h
  obtain ⟨⟨⟨⟨⟨⟨h1, h2⟩, h3⟩, h4⟩, -⟩, -⟩, -⟩ := h
  exact ⟨Pl.numB_iff.1 h1, h2, Ld.numB_iff.2 (Pl.numB_iff.1 h3), Ld.numB_iff.2 (Pl.numB_iff.1 h4)⟩

set_option maxHeartbeats 4000000 in
set_option maxRecDepth 100000 in
theorem dadd_bad (rb : Nat) (B : Nat → Prop) (T : Ld.Tb) (base count prod seq time : Int) (ls : List Pl.Rc) (v : Value) (w : World) (lb : Lg w) (h : Lgr w rb B T) (hr : Recs v ls w) (hl : ls.length ≤ 1099511627776) (hbad : Pl.goodB ⟨base, count, prod, seq, time, ls⟩ = false) :
    Calls Tryz.prog 12 #[.pointer (some ⟨rb, 0, none⟩), .agg #[.int .i64 base, .int .i64 count, .int .i64 prod, .int .i64 seq, .int .i64 time, v]] w (Added w rb B T false prod seq base count) := by
  have hw0 : RowKit.Below w.heap.size w (w.alloc (.cells #[.int .i64 base, .int .i64 count, .int .i64 prod, .int .i64 seq, .int .i64 time, v] 37)) := (Below.refl _ _).alloc (Nat.le_refl _) _
  have hg := dgood base count prod seq time ls v _ (lb.below lb.size hw0) (hr.below hw0) hl
  rw [hbad] at hg
  have HG := Lib.hid hg
  have HW0 := Lib.hid hw0
  have HFIN : Hid (∀ w', RowKit.Below w.heap.size w w' → Added w rb B T false prod seq base count (.returned (.int .i64 1)) w') := fun w' hb => Added.not h hb rfl (by decide)
  clear hg hw0 h lb hr hbad
  go_enter Tryz.func12, Tryz.ntmps12
  go_wp2_with fail
  refine HG.out.mono ?_
  rintro e w1 ⟨rfl, hb1⟩
  have hbw := HFIN.out _ (HW0.out.trans (hb1.mono HW0.out.size))
  have HB := Lib.hid hbw
  clear hb1 hbw
  go_wp2_with fail
  go_ret
  exact HB.out
theorem dadd_nil (b : Value) (w : World) (hb : ∃ x0 x1 x2 x3 x4 x5, b = .agg #[x0, x1, x2, x3, x4, x5]) : Calls Tryz.prog 12 #[.pointer none, b] w fun e w' => e = .returned (.int .i64 2) ∧ RowKit.Below w.heap.size w w' := by
  obtain ⟨x0, x1, x2, x3, x4, x5, rfl⟩ := hb
  go_enter Tryz.func12, Tryz.ntmps12
  go_wp2_with fail
  go_ret
  exact ⟨rfl, (Below.refl _ _).alloc (Nat.le_refl _) _⟩
set_option maxHeartbeats 4000000 in
set_option maxRecDepth 100000 in
theorem dadd_check (rb : Nat) (B : Nat → Prop) (T : Ld.Tb) (base count prod seq time : Int) (ls : List Pl.Rc) (v : Value) (w : World) (lb : Lg w) (h : Lgr w rb B T) (hG : Ld.goodB T = true) (hr : Recs v ls w) (hl : ls.length ≤ 1099511627776) (hgd : Pl.goodB ⟨base, count, prod, seq, time, ls⟩ = true) (s0 s1 s2 c : Int) (hck : Ld.check T prod seq = (⟨s0, s1, s2⟩, c)) (hc : c ≠ 0) :
    Calls Tryz.prog 12 #[.pointer (some ⟨rb, 0, none⟩), .agg #[.int .i64 base, .int .i64 count, .int .i64 prod, .int .i64 seq, .int .i64 time, v]] w (Added w rb B T true prod seq base count) := by
  have hw0 : RowKit.Below w.heap.size w (w.alloc (.cells #[.int .i64 base, .int .i64 count, .int .i64 prod, .int .i64 seq, .int .i64 time, v] 37)) := (Below.refl _ _).alloc (Nat.le_refl _) _
  have hb0 := Blk.new w #[.int .i64 base, .int .i64 count, .int .i64 prod, .int .i64 seq, .int .i64 time, v] 37
  have hg := dgood base count prod seq time ls v _ (lb.below lb.size hw0) (hr.below hw0) hl
  rw [hgd] at hg
  obtain ⟨⟨gb0, gb1⟩, ⟨gc0, gc1, gc2⟩, gp, gs⟩ := good_nums hgd
  have HG := Lib.hid hg
  have HW0 := Lib.hid hw0
  obtain ⟨W0, hW0⟩ : ∃ W, w.alloc (.cells #[.int .i64 base, .int .i64 count, .int .i64 prod, .int .i64 seq, .int .i64 time, v] 37) = W := ⟨_, rfl⟩
  rw [hW0] at HG HW0 hb0
  have HBX : Hid (∀ w1, RowKit.Below W0.heap.size W0 w1 → Blk w1 w.heap.size #[.int .i64 base, .int .i64 count, .int .i64 prod, .int .i64 seq, .int .i64 time, v] 37) := fun w1 hb => hb0.below hb
  have HLO : Hid (∀ w1, RowKit.Below W0.heap.size W0 w1 → RowKit.Below w.heap.size w w1) := fun w1 hb => HW0.out.trans (hb.mono HW0.out.size)
  have HLG : Hid (∀ w1, RowKit.Below w.heap.size w w1 → Lgr w1 rb B T) := fun w1 hb => h.below hb
  have y0 := hb0.cell (i := 0) rfl
  have y1 := hb0.cell (i := 1) rfl
  have y2 := hb0.cell (i := 2) rfl
  have y3 := hb0.cell (i := 3) rfl
  have y4 := hb0.cell (i := 4) rfl
  have y5 := hb0.cell (i := 5) rfl
  have HCHK : Hid (∀ w1, RowKit.Below W0.heap.size W0 w1 → Calls Tryz.prog 14 #[.pointer (some ⟨rb, 0, none⟩), .int .i64 prod, .int .i64 seq] w1 fun e w' => e = .returned (.tuple #[.agg #[.int .i64 s0, .int .i64 s1, .int .i64 s2], .int .i64 c]) ∧ RowKit.Below w1.heap.size w1 w') := by
    intro w1 hb
    obtain ⟨tv, k1, k2⟩ := (HLG.out w1 (HLO.out w1 hb)).view
    exact dcheck _ rb tv T prod seq w1 k1 k2 hG s0 s1 s2 c hck
  have HFIN : Hid (∀ w', RowKit.Below W0.heap.size W0 w' → Added w rb B T true prod seq base count (.returned (.int .i64 c)) w') := fun w' hb => Added.not h (HLO.out w' hb) (by
    unfold Ld.addR Ld.addE
    rw [if_pos rfl, hck]
    simp [hc]) hc
  have hcn : (c != 0) = true := by simpa using hc
  clear hg hw0 hb0 h lb hr hck hgd hG
  go_enter Tryz.func12, Tryz.ntmps12
  go_wp2_with fail
  refine HG.out.mono ?_
  rintro e w1 ⟨rfl, hb1⟩
  clear y0 y1 y2 y3 y4 y5
  have q2 := (HBX.out w1 hb1).cell (i := 2) rfl
  have q3 := (HBX.out w1 hb1).cell (i := 3) rfl
  have HC1 := Lib.hid (HCHK.out w1 hb1)
  have HB1 := Lib.hid hb1
  clear hb1
  go_wp2_with fail
  refine HC1.out.mono ?_
  rintro e w2 ⟨rfl, hb2⟩
  have hb3 : RowKit.Below w2.heap.size w2 (w2.alloc (.cells #[.int .i64 s0, .int .i64 s1, .int .i64 s2] 40)) := (Below.refl _ _).alloc (Nat.le_refl _) _
  obtain ⟨w3, hw3⟩ : ∃ W, w2.alloc (.cells #[.int .i64 s0, .int .i64 s1, .int .i64 s2] 40) = W := ⟨_, rfl⟩
  rw [hw3] at hb3
  have hb13 := HB1.out.trans ((hb2.trans (hb3.mono hb2.size)).mono HB1.out.size)
  have q2 := (HBX.out w3 hb13).cell (i := 2) rfl
  have HB3 := Lib.hid hb13
  clear hb2 hb3 hb13 HC1 HB1 q3
  go_wp2_with fail
  go_ret
  exact HFIN.out _ HB3.out
end Go.Proofs.YtloallndnmofnaaGreatDoor
