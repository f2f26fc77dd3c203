/- THE CONTRACT OF the laws' great. -/
import Derived.Test.YtloallndnmofnaaGreatDoorSlots
namespace Go.Proofs.YtloallndnmofnaaGreatDoor
open Go.RowKit

namespace Ld
def greatR (T : Tb) : Bool := T.any fun x => decide (20 < x.2.length)
def greatB (T : Tb) : Bool := decide (100 < T.length) || greatR T
theorem great_step {T : Tb} {k : Nat} {x : Int × List Sl} (h : T[k]? = some x) : greatR (T.drop k) = (decide (20 < x.2.length) || greatR (T.drop (k + 1))) := by
  have hlt := (List.getElem?_eq_some_iff.1 h).1
  rw [List.drop_eq_getElem_cons (l := T) (i := k) hlt, (List.getElem?_eq_some_iff.1 h).2]
  rfl
theorem great_no {T : Tb} (h : greatB T = false) : T.length ≤ 1000 ∧ ∀ x ∈ T, x.2.length ≤ 1000 := by
  unfold greatB greatR at h
  simp only [Bool.or_eq_false_iff, decide_eq_false_iff_not, List.any_eq_false, decide_eq_true_eq] at h
  exact ⟨by omega, fun x hx => by have := h.2 x hx; omega⟩
end Ld
set_option maxHeartbeats 1000000 in
theorem great_any (P : Nat → Prop) (v : Value) (T : Ld.Tb) (w : World) (h : TabAt P v T w) :
    Calls Tryz.prog 5 #[v] w fun e w' => e = .returned (.bool (Ld.greatB T)) ∧ w = w' := by
  obtain ⟨a, cap, rfl, hc⟩ := h
  obtain ⟨m, hm⟩ : ∃ m, T.length = m := ⟨_, rfl⟩
  obtain ⟨r, hr⟩ : ∃ r, Ld.greatR T = r := ⟨_, rfl⟩
  unfold Ld.greatB
  have HM := Lib.hid hm
  have HC := Lib.hid hc
  have HR := Lib.hid hr
  rw [hm, hr]
  clear hm hc hr
  by_cases h64 : 100 < m
  · rw [decide_eq_true h64]
    go_enter Tryz.func5, Tryz.ntmps5
    go_wp2_with fail
    go_ret
    exact ⟨rfl, rfl⟩
  · rw [decide_eq_false h64, Bool.false_or]
    go_enter Tryz.func5, Tryz.ntmps5
    go_wp2_with fail
    go_loopw [3] (fun iv wr => ∃ i : Nat, i ≤ m ∧ iv = .int .i64 i ∧ wr = w ∧ Ld.greatR (T.drop i) = r) (fun iv _ => m - (intOf iv).toNat)
    case atStart => exact ⟨0, Nat.zero_le _, rfl, rfl, by rw [← HR.out]; rfl⟩
    case round =>
      obtain ⟨i, hi, rfl, rfl, hrow⟩ := hrel
      by_cases hlt : i < m
      · obtain ⟨x, hx⟩ : ∃ x, T[i]? = some x := ⟨_, List.getElem?_eq_getElem (by rw [HM.out]; exact hlt)⟩
        obtain ⟨b, off, sv, rfl, -, c0, c1, a', cap', rfl, hsl⟩ := HC.out i x hx
        rw [Ld.great_step hx] at hrow
        obtain ⟨n, hn⟩ : ∃ n, x.2.length = n := ⟨_, rfl⟩
        rw [hn] at hrow c1
        have HRO := Lib.hid hrow
        clear hrow hx hn hsl
        by_cases h20 : 20 < n
        · have hd : decide ((20 : Int) < (n : Int)) = true := decide_eq_true (by omega)
          go_wp2_with fail
          go_ret
          exact ⟨by rw [← HRO.out, decide_eq_true h20]; rfl, rfl⟩
        · have hd : decide ((20 : Int) < (n : Int)) = false := decide_eq_false (by omega)
          go_wp2_with fail
          go_roundw
          case rel => exact ⟨i + 1, by omega, by go_num, trivial, by rw [← HRO.out, decide_eq_false h20]; rfl⟩
          case measure => simp [intOf]; omega
      · have HRF : Hid (r = false) := by
          show r = false
          rw [← hrow, List.drop_of_length_le (by rw [HM.out]; omega)]
          rfl
        clear hrow
        go_wp2_with fail
        go_ret
        exact ⟨congrArg (fun b => Ending.returned (.bool b)) HRF.out.symm, rfl⟩
end Go.Proofs.YtloallndnmofnaaGreatDoor
