/- THE CONTRACTS OF the document's Same, Copy. -/
import Derived.Test.YtloallndnmofnaaGreatDoorTab
import Derived.Test.YtloallndnmofnaaGreatDoorBlk
import Derived.Test.YtloallndnmofnaaGreatDoorFind
import Derived.BigQuiet
import Derived.Deep.QuietTactic
namespace Go.Proofs.YtloallndnmofnaaGreatDoor
open Go.RowKit

namespace Ld
def sameS : List Sl → List Sl → Bool
  | [], [] => true
  | a :: r, b :: q => decide (a.seq = b.seq ∧ a.base = b.base ∧ a.fin = b.fin) && sameS r q
  | _, _ => false
def sameT : Tb → Tb → Bool
  | [], [] => true
  | a :: r, b :: q => decide (a.1 = b.1) && sameS a.2 b.2 && sameT r q
  | _, _ => false
end Ld
theorem sameS_iff {L M : List Ld.Sl} : Ld.sameS L M = true ↔ L = M := by
  induction L generalizing M with
  | nil => cases M <;> simp [Ld.sameS]
  | cons a r ih =>
    cases M with
    | nil => simp [Ld.sameS]
    | cons b q =>
      obtain ⟨a0, a1, a2⟩ := a
      obtain ⟨b0, b1, b2⟩ := b
      simp only [Ld.sameS, Bool.and_eq_true, decide_eq_true_eq, ih, List.cons.injEq, Ld.Sl.mk.injEq]
theorem sameT_iff {T U : Ld.Tb} : Ld.sameT T U = true ↔ T = U := by
  induction T generalizing U with
  | nil => cases U <;> simp [Ld.sameT]
  | cons a r ih =>
    cases U with
    | nil => simp [Ld.sameT]
    | cons b q =>
      simp only [Ld.sameT, Bool.and_eq_true, decide_eq_true_eq, sameS_iff, ih, List.cons.injEq, Prod.ext_iff]

set_option maxRecDepth 100000 in
set_option maxHeartbeats 4000000 in
/-- Same: two tables that are the same. -/
theorem rsame (P Q : Nat → Prop) (v u : Value) (T : Ld.Tb) (w : World) (h : TabAt P v T w) (h' : TabAt Q u T w) (hl : T.length ≤ 1000) (hL : ∀ x ∈ T, x.2.length ≤ 1000) :
    Calls Tryz.prog 10 #[v, u] w fun e w' => e = .returned (.bool true) ∧ RowKit.Below w.heap.size w w' := by
  obtain ⟨a, cap, rfl, hc⟩ := h
  obtain ⟨a', cap', rfl, hc'⟩ := h'
  obtain ⟨m, hm⟩ : ∃ m, T.length = m := ⟨_, rfl⟩
  have HM := Lib.hid hm
  have HC := Lib.hid hc
  have HD := Lib.hid hc'
  have HL := Lib.hid hL
  rw [hm]
  rw [hm] at hl
  clear hm hc hc' hL
  go_enter Tryz.func10, Tryz.ntmps10
  go_wp2_with fail
  go_loopw [5] (fun iv wr => ∃ i : Nat, i ≤ m ∧ iv = .int .i64 i ∧ RowKit.Below w.heap.size w wr) (fun iv _ => m - (intOf iv).toNat)
  case atStart => exact ⟨0, Nat.zero_le _, rfl, Below.refl _ _⟩
  case round =>
    obtain ⟨i, hi, rfl, hb1⟩ := hrel
    have HB := Lib.hid hb1
    have up := fun a v (h : w.cell? a = some v) => (hb1.cell (World.block_lt_of_cell? w a h)).trans h
    by_cases hlt : i < m
    · obtain ⟨x, hx⟩ : ∃ x, T[i]? = some x := ⟨_, List.getElem?_eq_getElem (by rw [HM.out]; exact hlt)⟩
      obtain ⟨b, off, sv, rfl, -, c0, c1, sa, scap, rfl, hsl⟩ := HC.out i x hx
      obtain ⟨b', off', sv', rfl, -, d0, d1, sa', scap', rfl, hsl'⟩ := HD.out i x hx
      obtain ⟨n, hn⟩ : ∃ n, x.2.length = n := ⟨_, rfl⟩
      obtain ⟨p, hp⟩ : ∃ p, x.1 = p := ⟨_, rfl⟩
      have hnl : n ≤ 1000 := by rw [← hn]; exact HL.out x (List.mem_of_getElem? hx)
      have HSL := Lib.hid hsl
      have HSM := Lib.hid hsl'
      have HNN := Lib.hid hn
      rw [hp] at c0 d0
      rw [hn] at c1 d1
      have HC1 := Lib.hid c1
      have HD1 := Lib.hid d1
      have c0 := up _ _ c0
      have c1 := up _ _ c1
      have d0 := up _ _ d0
      have d1 := up _ _ d1
      clear up hb1 hx hp hn hsl hsl'
      have hpp : (p != p) = false := by simp
      go_wp2_with fail
      go_quiet (fail)
      go_wp2_with fail
      clear c0 c1 d0 d1
      go_loopw [6] (fun kv wr => ∃ k : Nat, k ≤ n ∧ kv = .int .i64 k ∧ RowKit.Below w.heap.size w wr) (fun kv _ => n - (intOf kv).toNat)
      case atStart => exact ⟨0, Nat.zero_le _, rfl, HB.out.trans (below_drewN _ _)⟩
      case round =>
        obtain ⟨k, hk, rfl, hb2⟩ := hrel
        have HB2 := Lib.hid hb2
        have up := fun a v (h : w.cell? a = some v) => (hb2.cell (World.block_lt_of_cell? w a h)).trans h
        have c1 := up _ _ HC1.out
        have d1 := up _ _ HD1.out
        by_cases hlk : k < n
        · obtain ⟨s, hs⟩ : ∃ s, x.2[k]? = some s := ⟨_, List.getElem?_eq_getElem (by rw [HNN.out]; exact hlk)⟩
          obtain ⟨q, o, rfl, -, e0, e1, e2⟩ := HSL.out k s hs
          obtain ⟨q', o', rfl, -, f0, f1, f2⟩ := HSM.out k s hs
          obtain ⟨s0, s1, s2⟩ := s
          simp only at e0 e1 e2 f0 f1 f2
          have e0 := up _ _ e0
          have e1 := up _ _ e1
          have e2 := up _ _ e2
          have f0 := up _ _ f0
          have f1 := up _ _ f1
          have f2 := up _ _ f2
          clear up hb2 hs
          go_wp2_with fail
          go_quiet (fail)
          go_wp2_with fail
          go_roundw
          case rel => exact ⟨k + 1, by omega, by go_num, HB2.out.trans (below_drewN _ _)⟩
          case measure => simp [intOf]; omega
        · clear up hb2
          go_wp2_with fail
          go_roundw
          case rel => exact ⟨i + 1, by omega, by go_num, HB2.out⟩
          case measure => simp [intOf]; omega
    · go_wp2_with fail
      go_ret
      exact ⟨rfl, HB.out⟩
end Go.Proofs.YtloallndnmofnaaGreatDoor
