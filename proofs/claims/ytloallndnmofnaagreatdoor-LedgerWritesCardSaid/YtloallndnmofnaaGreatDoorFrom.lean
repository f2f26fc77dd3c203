/- THE CONTRACTS OF ledger.run, good, From. -/
import Derived.Test.YtloallndnmofnaaGreatDoorClo
import Derived.Deep.QuietTactic
import Derived.BigQuiet
import Derived.IntWalk
namespace Go.Proofs.YtloallndnmofnaaGreatDoor
open Go.RowKit

namespace Ld
/-- What run answers. -/
def runB (L : List Sl) : Bool := decide (1 ≤ L.length) && decide (L.length ≤ 5) && slotsB L none
def prevO (L : List Sl) : Nat → Option Sl
  | 0 => none
  | k + 1 => L[k]?
def endO (L : List Sl) (k : Nat) : Int := match prevO L k with
  | none => 0
  | some l => l.fin
theorem endO_succ {L : List Sl} {k : Nat} {x : Sl} (hx : L[k]? = some x) : endO L (k + 1) = x.fin := by
  show (match L[k]? with | none => (0 : Int) | some l => l.fin) = _
  rw [hx]
/-- .. as far as k. -/
structure RunTo (L : List Sl) (s0 : Int) (k : Nat) : Prop where
  eq : slotsB L none = slotsB (L.drop k) (prevO L k)
  prev : ∀ l, prevO L k = some l → okS l = true ∧ l.seq + 1 = s0 + k
  first : 0 < k → 0 ≤ s0 ∧ s0 ≤ 1099511627776
theorem RunTo.zero (L : List Sl) (s0 : Int) : RunTo L s0 0 := ⟨rfl, (fun l h => by cases h), fun h => absurd h (Nat.lt_irrefl _)⟩
theorem RunTo.end_ok {L : List Sl} {s0 : Int} {k : Nat} (h : RunTo L s0 k) : 0 ≤ endO L k ∧ endO L k ≤ 1099511627776 := by
  unfold endO
  cases hp : prevO L k with
  | none => simp
  | some l =>
    have := okS_iff (h.prev l hp).1
    exact this.2.2.1
theorem RunTo.here {L : List Sl} {s0 : Int} {k : Nat} {x : Sl} (h : RunTo L s0 k) (hx : L[k]? = some x) : slotsB L none = (okS x && linkB (prevO L k) x && slotsB (L.drop (k + 1)) (some x)) := by
  have hlt := (List.getElem?_eq_some_iff.1 hx).1
  rw [h.eq, List.drop_eq_getElem_cons hlt, (List.getElem?_eq_some_iff.1 hx).2]
  rfl
theorem RunTo.ok {L : List Sl} {s0 : Int} {k : Nat} {x : Sl} (h : RunTo L s0 k) (hx : L[k]? = some x) (h0 : ∀ y, L[0]? = some y → y.seq = s0) (c1 : numB x.seq = true) (c2 : x.seq = s0 + k) (c3 : endO L k ≤ x.base) (c4 : x.base < x.fin) (c5 : x.fin ≤ 1099511627776) : RunTo L s0 (k + 1) := by
  have he := h.end_ok
  have hok : okS x = true := by
    unfold okS
    simp only [Bool.and_eq_true, decide_eq_true_eq]
    exact ⟨⟨⟨c1, numB_iff.2 ⟨by omega, by omega⟩⟩, numB_iff.2 ⟨by omega, c5⟩⟩, c4⟩
  have hlink : linkB (prevO L k) x = true := by
    unfold endO at c3
    cases hp : prevO L k with
    | none => rfl
    | some l =>
      rw [hp] at c3
      have := (h.prev l hp).2
      simp only [linkB, Bool.and_eq_true, decide_eq_true_eq]
      exact ⟨by omega, c3⟩
  refine ⟨?_, fun l hl => ?_, fun _ => ?_⟩
  · rw [h.here hx, hok, hlink]
    simp [prevO, hx]
  · have : some x = some l := hx.symm.trans hl
    cases this
    exact ⟨hok, by omega⟩
  · cases k with
    | zero => have := h0 x hx; rw [← this]; exact numB_iff.1 c1
    | succ k => exact h.first (by omega)
theorem RunTo.no {L : List Sl} {s0 : Int} {k : Nat} {x : Sl} (h : RunTo L s0 k) (hx : L[k]? = some x) (h0 : ∀ y, L[0]? = some y → y.seq = s0) (hn : ¬ (numB x.seq = true ∧ x.seq = s0 + k ∧ endO L k ≤ x.base ∧ x.base < x.fin ∧ x.fin ≤ 1099511627776)) : slotsB L none = false := by
  rw [h.here hx, Bool.and_eq_false_iff, Bool.and_eq_false_iff]
  by_cases hok : okS x = true
  · by_cases hl : linkB (prevO L k) x = true
    · exfalso
      apply hn
      have := okS_iff hok
      refine ⟨numB_iff.2 this.1, ?_, ?_, this.2.2.2, this.2.2.1.2⟩
      · cases hp : prevO L k with
        | none =>
          cases k with
          | zero => have := h0 x hx; simp; exact this
          | succ k =>
            have hlt := (List.getElem?_eq_some_iff.1 hx).1
            have : L[k]? = none := hp
            rw [List.getElem?_eq_none_iff] at this
            omega
        | some l =>
          rw [hp] at hl
          simp only [linkB, Bool.and_eq_true, decide_eq_true_eq] at hl
          have := (h.prev l hp).2
          omega
      · unfold endO
        cases hp : prevO L k with
        | none => exact this.2.1.1
        | some l =>
          rw [hp] at hl
          simp only [linkB, Bool.and_eq_true, decide_eq_true_eq] at hl
          exact hl.2
    · exact .inl (.inr (by simpa using hl))
  · exact .inl (.inl (by simpa using hok))
end Ld

theorem dwithin' (n : Int) (w : World) : Calls Tryz.prog 36 #[.int .i64 n] w fun e w' => e = .returned (.bool (Ld.numB n)) ∧ w' = w := (dwithin n w).mono fun _ _ ⟨h1, h2⟩ => ⟨h1, h2.symm⟩
set_option maxHeartbeats 4000000 in
set_option maxRecDepth 100000 in
theorem drun (P : Nat → Prop) (v : Value) (L : List Ld.Sl) (w : World) (h : SlotsAt P v L w) (hl : L.length ≤ 1000) :
    Calls Tryz.prog 38 #[v] w fun e w' => e = .returned (.bool (Ld.runB L)) ∧ RowKit.Below w.heap.size w w' := by
  obtain ⟨r, hr⟩ : ∃ r, Ld.runB L = r := ⟨_, rfl⟩
  rw [hr]
  have HH := Lib.hid h
  obtain ⟨a, cap, rfl, hc⟩ := h
  obtain ⟨n, hn⟩ : ∃ n, L.length = n := ⟨_, rfl⟩
  rw [hn] at hl HH ⊢
  unfold Ld.runB at hr
  rw [hn] at hr
  have HR := Lib.hid hr
  have HN := Lib.hid hn
  clear hr hn hc
  by_cases h1 : n = 0
  · subst h1
    have hrf : Hid (r = false) := by show _ = _; rw [← HR.out]; simp
    go_enter Tryz.func38, Tryz.ntmps38
    go_wp2_with fail
    go_ret
    exact ⟨by rw [hrf.out]; rfl, Below.refl _ _⟩
  · by_cases h2 : 5 < n
    · have hrf : Hid (r = false) := by show _ = _; rw [← HR.out]; simp; omega
      have h3 : ((n : Int) == 0) = false := by simp; omega
      have h4 : (5 : Int) < (n : Int) := by omega
      go_enter Tryz.func38, Tryz.ntmps38
      go_wp2_with fail
      go_ret
      exact ⟨by rw [hrf.out]; rfl, Below.refl _ _⟩
    · have h3 : ((n : Int) == 0) = false := by simp; omega
      have h4 : ¬ ((5 : Int) < (n : Int)) := by omega
      have HRS : Hid (r = Ld.slotsB L none) := by
        show _ = _
        rw [← HR.out, decide_eq_true (show 1 ≤ n by omega), decide_eq_true (show n ≤ 5 by omega)]
        rfl
      obtain ⟨y0, hy0⟩ : ∃ y, L[0]? = some y := ⟨_, List.getElem?_eq_getElem (by rw [HN.out]; omega)⟩
      obtain ⟨s0, hs0⟩ : ∃ s, y0.seq = s := ⟨_, rfl⟩
      have HY : Hid (∀ y, L[0]? = some y → y.seq = s0) := fun y hy => by rw [hy0] at hy; cases hy; exact hs0
      have HS0 : Hid (∀ w1, RowKit.Below w.heap.size w w1 → ∃ b off, a = some ⟨b, off, none⟩ ∧ w1.cell? ⟨b, off, none⟩ = some (.int .i64 s0)) := by
        intro w1 hb
        obtain ⟨a', cap', hv, hc⟩ := HH.out.below hb
        obtain ⟨b, off, ha, -, c0, -, -⟩ := hc 0 y0 hy0
        injection hv with hv1 hv2 hv3
        rw [hs0, Nat.zero_mul, Nat.add_zero] at c0
        exact ⟨b, off, by rw [hv1, ha], c0⟩
      have hn5 : n ≤ 5 := by omega
      clear h1 h2 hy0 hs0 HR hl
      go_enter Tryz.func38, Tryz.ntmps38
      go_wp2_with fail
      go_loopw [3, 16] (fun ev iv wr => ∃ k : Nat, k ≤ n ∧ iv = .int .i64 k ∧ ev = .int .i64 (Ld.endO L k) ∧ Ld.RunTo L s0 k ∧ RowKit.Below w.heap.size w wr) (fun _ iv _ => n - (intOf iv).toNat)
      case atStart => exact ⟨0, Nat.zero_le _, rfl, rfl, Ld.RunTo.zero L s0, Below.refl _ _⟩
      case round =>
        obtain ⟨k, hk, rfl, rfl, hto, hb⟩ := hrel
        have HTO := Lib.hid hto
        have HB := Lib.hid hb
        obtain ⟨E, hE⟩ : ∃ E, Ld.endO L k = E := ⟨_, rfl⟩
        have hE0 := hto.end_ok
        rw [hE] at hE0 ⊢
        have HE := Lib.hid hE
        clear hto hb hE
        by_cases hlt : k < n
        · obtain ⟨x, hx⟩ : ∃ x, L[k]? = some x := ⟨_, List.getElem?_eq_getElem (by rw [HN.out]; exact hlt)⟩
          obtain ⟨a', cap', hv, hc⟩ := HH.out.below HB.out
          obtain ⟨b, off, ha, -, c0, c1, c2⟩ := hc k x hx
          injection hv with hv1 hv2 hv3
          obtain rfl : a = some ⟨b, off, none⟩ := by rw [hv1, ha]
          obtain ⟨b', off', hbb, z0⟩ := HS0.out wr HB.out
          obtain ⟨rfl, rfl⟩ : b = b' ∧ off = off' := by injection hbb with hbb; injection hbb with h1 h2; exact ⟨h1, h2⟩
          have HX := Lib.hid hx
          obtain ⟨x0, x1, x2⟩ := x
          simp only at c0 c1 c2
          clear hc hx hv1 hv2 hv3 ha hbb
          have hbl := World.block_lt_of_cell? wr _ z0
          have hal : RowKit.Below wr.heap.size wr (wr.alloc (.cells #[.int .i64 x0, .int .i64 x1, .int .i64 x2] 40)) := (Below.refl _ _).alloc (Nat.le_refl _) _
          have z1 := bcell6 hal z0
          have hbx := Blk.new wr #[.int .i64 x0, .int .i64 x1, .int .i64 x2] 40
          obtain ⟨w1, hw1⟩ : ∃ W, wr.alloc (.cells #[.int .i64 x0, .int .i64 x1, .int .i64 x2] 40) = W := ⟨_, rfl⟩
          rw [hw1] at z1 hbx hal
          have HB1 := Lib.hid (HB.out.trans (hal.mono HB.out.size))
          have y0 := hbx.cell (i := 0) rfl
          have y1 := hbx.cell (i := 1) rfl
          have y2 := hbx.cell (i := 2) rfl
          have HNO : Hid (¬ (Ld.numB x0 = true ∧ x0 = s0 + k ∧ E ≤ x1 ∧ x1 < x2 ∧ x2 ≤ 1099511627776) → r = false) := fun hn => by
            rw [HRS.out]
            exact HTO.out.no HX.out HY.out (by rw [HE.out]; exact hn)
          have HW1 := Lib.hid hw1
          have HCW := Lib.hid (fun W => dwithin' x0 W)
          clear hal hbx hw1
          cases hq : Ld.numB x0 with
          | false =>
            have HF : Hid (r = false) := HNO.out (fun hh => by rw [hq] at hh; exact absurd hh.1 (by decide))
            rw [hq] at HCW
            clear hq HNO
            go_wp2_with fail
            rw [HW1.out]
            go_quiet ((go_at_call 36; exact Calls.quiet_of_same (HCW.out _)))
            go_wp2_with fail
            go_ret
            exact ⟨by rw [HF.out]; rfl, HB1.out.trans ((below_drewN w1 _).mono HB1.out.size)⟩
          | true =>
            rw [hq] at HCW
            obtain ⟨hx00, hx01⟩ := Ld.numB_iff.1 hq
            have hs0b : 0 < k → 0 ≤ s0 ∧ s0 ≤ 1099511627776 := HTO.out.first
            have hs0c : k = 0 → s0 = x0 := fun hk0 => by
              subst hk0
              exact (HY.out _ HX.out).symm
            have hs00 : 0 ≤ s0 ∧ s0 ≤ 1099511627776 := by
              by_cases hk0 : k = 0
              · rw [hs0c hk0]; exact ⟨hx00, hx01⟩
              · exact hs0b (by omega)
            obtain ⟨hs01, hs02⟩ := hs00
            have hwr : IntKind.i64.wrap (s0 + (k : Int)) = s0 + (k : Int) := IntWalk.i64_in _ (by omega)
            have HQ := Lib.hid hq
            clear hq hs0b hs0c
            by_cases hq1 : x0 = s0 + k
            · have hne : (x0 != s0 + (k : Int)) = false := by simp [hq1]
              by_cases hq2 : E ≤ x1
              · by_cases hq3 : x1 < x2
                · by_cases hq4 : x2 ≤ 1099511627776
                  · have HTO2 : Hid (Ld.RunTo L s0 (k + 1)) := HTO.out.ok HX.out HY.out HQ.out hq1 (by rw [HE.out]; exact hq2) hq3 hq4
                    have HE2 : Hid (Value.int .i64 x2 = .int .i64 (Ld.endO L (k + 1))) := by
                      show _ = _
                      rw [Ld.endO_succ HX.out]
                    have hb1 : ¬ x1 < E := by omega
                    have hb2 : ¬ x2 ≤ x1 := by omega
                    have hb3 : ¬ (1099511627776 < x2) := by omega
                    clear hq1 HNO
                    go_wp2_with fail
                    rw [HW1.out]
                    go_quiet ((go_at_call 36; exact Calls.quiet_of_same (HCW.out _)))
                    clear hwr
                    go_wp2_with fail
                    go_roundw
                    case rel => exact ⟨k + 1, by omega, by go_num, HE2.out, HTO2.out, HB1.out.trans ((below_drewN w1 _).mono HB1.out.size)⟩
                    case measure => simp [intOf]; omega
                  · have HF : Hid (r = false) := HNO.out (fun hh => hq4 hh.2.2.2.2)
                    have hb1 : ¬ x1 < E := by omega
                    have hb2 : ¬ x2 ≤ x1 := by omega
                    have hb3 : 1099511627776 < x2 := by omega
                    clear hq1 HNO
                    go_wp2_with fail
                    rw [HW1.out]
                    go_quiet ((go_at_call 36; exact Calls.quiet_of_same (HCW.out _)))
                    clear hwr
                    go_wp2_with fail
                    go_ret
                    exact ⟨by rw [HF.out]; rfl, HB1.out.trans ((below_drewN w1 _).mono HB1.out.size)⟩
                · have HF : Hid (r = false) := HNO.out (fun hh => hq3 hh.2.2.2.1)
                  have hb1 : ¬ x1 < E := by omega
                  have hb2 : x2 ≤ x1 := by omega
                  clear hq1 HNO
                  go_wp2_with fail
                  rw [HW1.out]
                  go_quiet ((go_at_call 36; exact Calls.quiet_of_same (HCW.out _)))
                  clear hwr
                  go_wp2_with fail
                  go_ret
                  exact ⟨by rw [HF.out]; rfl, HB1.out.trans ((below_drewN w1 _).mono HB1.out.size)⟩
              · have HF : Hid (r = false) := HNO.out (fun hh => hq2 hh.2.2.1)
                have hb1 : x1 < E := by omega
                clear hq1 HNO
                go_wp2_with fail
                rw [HW1.out]
                go_quiet ((go_at_call 36; exact Calls.quiet_of_same (HCW.out _)))
                clear hwr
                go_wp2_with fail
                go_ret
                exact ⟨by rw [HF.out]; rfl, HB1.out.trans ((below_drewN w1 _).mono HB1.out.size)⟩
            · have HF : Hid (r = false) := HNO.out (fun hh => hq1 hh.2.1)
              have hne : (x0 != s0 + (k : Int)) = true := by simpa using hq1
              clear hq1 HNO
              go_wp2_with fail
              rw [HW1.out]
              go_quiet ((go_at_call 36; exact Calls.quiet_of_same (HCW.out _)))
              clear hwr
              go_wp2_with fail
              go_ret
              exact ⟨by rw [HF.out]; rfl, HB1.out.trans ((below_drewN w1 _).mono HB1.out.size)⟩
        · obtain rfl : k = n := by omega
          have HF : Hid (r = true) := by
            show _ = _
            rw [HRS.out, HTO.out.eq, List.drop_of_length_le (by rw [HN.out]; exact Nat.le_refl _)]
            rfl
          go_wp2_with fail
          go_ret
          exact ⟨by rw [HF.out]; rfl, HB.out⟩

namespace Ld
/-- What is ahead of place k. -/
def prevP (T : Tb) : Nat → Option Int
  | 0 => none
  | k + 1 => (T[k]?).map (·.1)
def nextP (T : Tb) (k : Nat) : Int := match prevP T k with
  | none => 0
  | some p => p + 1
theorem nextP_succ {T : Tb} {k : Nat} {x : Int × List Sl} (hx : T[k]? = some x) : nextP T (k + 1) = x.1 + 1 := by
  unfold nextP
  show (match (T[k]?).map (·.1) with | none => (0 : Int) | some p => p + 1) = _
  rw [hx]
  rfl
structure RowsTo (T : Tb) (k : Nat) : Prop where
  eq : rowsB T none = rowsB (T.drop k) (prevP T k)
  prev : 0 ≤ nextP T k ∧ nextP T k ≤ 1099511627777
theorem rows_here {T : Tb} {k : Nat} {x : Int × List Sl} (h : RowsTo T k) (hx : T[k]? = some x) : rowsB T none = (numB x.1 && riseB (prevP T k) x.1 && runB x.2 && rowsB (T.drop (k + 1)) (some x.1)) := by
  have hlt := (List.getElem?_eq_some_iff.1 hx).1
  rw [h.eq, List.drop_eq_getElem_cons hlt, (List.getElem?_eq_some_iff.1 hx).2]
  simp only [rowsB, runB]
  ac_rfl
theorem rise_iff {T : Tb} {k : Nat} {n : Int} (hn : 0 ≤ n) : riseB (prevP T k) n = true ↔ nextP T k ≤ n := by
  unfold nextP
  cases hp : prevP T k with
  | none => simp [riseB, hn]
  | some p => simp only [riseB, decide_eq_true_eq]; omega
theorem RowsTo.ok {T : Tb} {k : Nat} {x : Int × List Sl} (h : RowsTo T k) (hx : T[k]? = some x) (c1 : nextP T k ≤ x.1) (c2 : numB x.1 = true) (c3 : runB x.2 = true) : RowsTo T (k + 1) := by
  have hn := numB_iff.1 c2
  refine ⟨?_, by rw [nextP_succ hx]; omega⟩
  rw [rows_here h hx, c2, c3, (rise_iff hn.1).2 c1]
  simp [prevP, hx]
theorem RowsTo.no {T : Tb} {k : Nat} {x : Int × List Sl} (h : RowsTo T k) (hx : T[k]? = some x) (hn : ¬ (nextP T k ≤ x.1 ∧ numB x.1 = true ∧ runB x.2 = true)) : rowsB T none = false := by
  rw [rows_here h hx]
  by_cases c2 : numB x.1 = true
  · by_cases c3 : runB x.2 = true
    · have : riseB (prevP T k) x.1 = false := by
        rw [Bool.eq_false_iff]
        intro hr
        exact hn ⟨(rise_iff (numB_iff.1 c2).1).1 hr, c2, c3⟩
      simp [this]
    · simp [c3]
  · simp [c2]
end Ld
theorem drun_at (P : Nat → Prop) (v : Value) (L : List Ld.Sl) (w0 w : World) (h : SlotsAt P v L w) (hl : L.length ≤ 1000) (hb : RowKit.Below w0.heap.size w0 w) :
    Calls Tryz.prog 38 #[v] w fun e w' => e = .returned (.bool (Ld.runB L)) ∧ RowKit.Below w0.heap.size w0 w' ∧ RowKit.Below w.heap.size w w' := (drun P v L w h hl).mono fun _ _ ⟨h1, h2⟩ => ⟨h1, hb.trans (h2.mono hb.size), h2⟩

set_option maxHeartbeats 4000000 in
set_option maxRecDepth 100000 in
theorem dgoodT (P : Nat → Prop) (v : Value) (T : Ld.Tb) (w : World) (h : TabAt P v T w) (hl : T.length ≤ 1000) (hL : ∀ x ∈ T, x.2.length ≤ 1000) :
    Calls Tryz.prog 16 #[v] w fun e w' => e = .returned (.bool (Ld.goodB T)) ∧ RowKit.Below w.heap.size w w' := by
  obtain ⟨r, hr⟩ : ∃ r, Ld.goodB T = r := ⟨_, rfl⟩
  rw [hr]
  have HH := Lib.hid h
  obtain ⟨a, cap, rfl, -⟩ := h
  obtain ⟨n, hn⟩ : ∃ n, T.length = n := ⟨_, rfl⟩
  rw [hn] at hl HH ⊢
  unfold Ld.goodB at hr
  rw [hn] at hr
  have HR := Lib.hid hr
  have HN := Lib.hid hn
  have HLL : Hid (∀ x ∈ T, x.2.length ≤ 1000) := hL
  clear hr hn hL
  by_cases h2 : 64 < n
  · have hrf : Hid (r = false) := by show _ = _; rw [← HR.out]; simp; omega
    have h4 : (64 : Int) < (n : Int) := by omega
    go_enter Tryz.func16, Tryz.ntmps16
    go_wp2_with fail
    go_ret
    exact ⟨by rw [hrf.out]; rfl, Below.refl _ _⟩
  · have h4 : ¬ ((64 : Int) < (n : Int)) := by omega
    have HRS : Hid (r = Ld.rowsB T none) := by
      show _ = _
      rw [← HR.out, decide_eq_true (show n ≤ 64 by omega)]
      rfl
    clear HR h2 hl
    go_enter Tryz.func16, Tryz.ntmps16
    go_wp2_with fail
    go_loopw [3, 11] (fun ev iv wr => ∃ k : Nat, k ≤ n ∧ iv = .int .i64 k ∧ ev = .int .i64 (Ld.nextP T k) ∧ Ld.RowsTo T k ∧ RowKit.Below w.heap.size w wr) (fun _ iv _ => n - (intOf iv).toNat)
    case atStart => exact ⟨0, Nat.zero_le _, rfl, rfl, ⟨rfl, by show (0 : Int) ≤ 0 ∧ (0 : Int) ≤ _; omega⟩, Below.refl _ _⟩
    case round =>
      obtain ⟨k, hk, rfl, rfl, hto, hb⟩ := hrel
      have HTO := Lib.hid hto
      have HB := Lib.hid hb
      obtain ⟨E, hE⟩ : ∃ E, Ld.nextP T k = E := ⟨_, rfl⟩
      have hE0 := hto.prev
      rw [hE] at hE0 ⊢
      have HE := Lib.hid hE
      clear hto hb hE
      by_cases hlt : k < n
      · obtain ⟨x, hx⟩ : ∃ x, T[k]? = some x := ⟨_, List.getElem?_eq_getElem (by rw [HN.out]; exact hlt)⟩
        obtain ⟨a', cap', hv, hc⟩ := HH.out.below HB.out
        obtain ⟨b, off, sv, ha, -, c0, c1, hsl⟩ := hc k x hx
        injection hv with hv1 hv2 hv3
        obtain rfl : a = some ⟨b, off, none⟩ := by rw [hv1, ha]
        have HX := Lib.hid hx
        have hxl := HLL.out x (List.mem_of_getElem? hx)
        obtain ⟨p, L⟩ := x
        simp only at c0 c1 hsl hxl
        have hsv := hsl
        obtain ⟨sa, cs, rfl, -⟩ := hsl
        obtain ⟨q, hq⟩ : ∃ q, L.length = q := ⟨_, rfl⟩
        rw [hq] at hsv c1
        have hal : RowKit.Below wr.heap.size wr (wr.alloc (.cells #[.int .i64 p, .slice sa q cs] 46)) := (Below.refl _ _).alloc (Nat.le_refl _) _
        have hbx := Blk.new wr #[.int .i64 p, .slice sa q cs] 46
        have HB1 := Lib.hid (HB.out.trans (hal.mono HB.out.size))
        have HRUN := Lib.hid (drun_at P _ L w _ (hsv.below hal) hxl HB1.out)
        have HBX := Lib.hid hbx
        obtain ⟨w1, hw1⟩ : ∃ W, wr.alloc (.cells #[.int .i64 p, .slice sa q cs] 46) = W := ⟨_, rfl⟩
        rw [hw1] at HB1 HRUN HBX hal
        have HW1 := Lib.hid hw1
        have HNO : Hid (¬ (E ≤ p ∧ Ld.numB p = true ∧ Ld.runB L = true) → r = false) := fun hn => by
          rw [HRS.out]
          exact HTO.out.no HX.out (by rw [HE.out]; exact hn)
        have y0 := HBX.out.cell (i := 0) rfl
        have y1 := HBX.out.cell (i := 1) rfl
        clear hc hx hv1 hv2 hv3 ha hsv hq hbx hxl hw1 hal
        have HCW := Lib.hid (dwithin p)
        by_cases c1' : p < E
        · have HF : Hid (r = false) := HNO.out (fun hh => by omega)
          clear HNO
          go_wp2_with fail
          go_ret
          rw [HW1.out]
          exact ⟨by rw [HF.out]; rfl, HB1.out⟩
        · cases hn1 : Ld.numB p with
          | false =>
            have HF : Hid (r = false) := HNO.out (fun hh => by rw [hn1] at hh; exact absurd hh.2.1 (by decide))
            rw [hn1] at HCW
            clear HNO hn1
            go_wp2_with fail
            refine (HCW.out _).mono ?_
            rintro e w' ⟨rfl, rfl⟩
            go_wp2_with fail
            go_ret
            rw [HW1.out]
            exact ⟨by rw [HF.out]; rfl, HB1.out⟩
          | true =>
            rw [hn1] at HCW
            have hp := Ld.numB_iff.1 hn1
            obtain ⟨hp0, hp1⟩ := hp
            have HN1 := Lib.hid hn1
            clear hn1
            cases hr1 : Ld.runB L with
            | false =>
              have HF : Hid (r = false) := HNO.out (fun hh => by rw [hr1] at hh; exact absurd hh.2.2 (by decide))
              rw [hr1] at HRUN
              clear HNO hr1
              go_wp2_with fail
              refine (HCW.out _).mono ?_
              rintro e w' ⟨rfl, rfl⟩
              rw [HW1.out]
              go_wp2_with fail
              refine HRUN.out.mono ?_
              rintro e w2 ⟨rfl, hb2, hb3⟩
              have HB2 := Lib.hid hb2
              clear hb2 hb3
              go_wp2_with fail
              go_ret
              exact ⟨by rw [HF.out]; rfl, HB2.out⟩
            | true =>
              have HTO2 : Hid (Ld.RowsTo T (k + 1)) := HTO.out.ok HX.out (by rw [HE.out]; show E ≤ p; omega) HN1.out hr1
              have HE2 : Hid (Value.int .i64 (p + 1) = .int .i64 (Ld.nextP T (k + 1))) := by
                show _ = _
                rw [Ld.nextP_succ HX.out]
              rw [hr1] at HRUN
              clear HNO hr1
              go_wp2_with fail
              refine (HCW.out _).mono ?_
              rintro e w' ⟨rfl, rfl⟩
              rw [HW1.out]
              go_wp2_with fail
              refine HRUN.out.mono ?_
              rintro e w2 ⟨rfl, hb2, hb3⟩
              have HB2 := Lib.hid hb2
              have y2 : w2.cell? ⟨wr.heap.size, 0, none⟩ = some (.int .i64 p) := (HBX.out.below hb3).cell (i := 0) rfl
              clear hb2 hb3 y0 y1
              go_wp2_with fail
              go_roundw
              case rel => exact ⟨k + 1, by omega, by go_num, HE2.out, HTO2.out, HB2.out⟩
              case measure => simp [intOf]; omega
      · obtain rfl : k = n := by omega
        have HF : Hid (r = true) := by
          show _ = _
          rw [HRS.out, HTO.out.eq, List.drop_of_length_le (by rw [HN.out]; exact Nat.le_refl _)]
          rfl
        go_wp2_with fail
        go_ret
        exact ⟨by rw [HF.out]; rfl, HB.out⟩
end Go.Proofs.YtloallndnmofnaaGreatDoor
