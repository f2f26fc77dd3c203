/- THE CONTRACT OF the document's Good (layer 6). -/
import Derived.Test.YtloallndnmofnaaGreatDoorSlots
import Derived.Test.YtloallndnmofnaaGreatDoorSm
import Derived.Deep.DeepCutAuto
import Derived.IntWalk
namespace Go.Proofs.YtloallndnmofnaaGreatDoor
open Go.RowKit

def prevS (L : List Ld.Sl) : Nat → Option Ld.Sl
  | 0 => none
  | k + 1 => L[k]?
def prevT (T : Ld.Tb) : Nat → Option Int
  | 0 => none
  | k + 1 => (T[k]?).map (·.1)
theorem slots_step {L : List Ld.Sl} {k : Nat} {s : Ld.Sl} (h : L[k]? = some s) (p : Option Ld.Sl) : Ld.slotsB (L.drop k) p = (Ld.okS s && Ld.linkB p s && Ld.slotsB (L.drop (k + 1)) (some s)) := by
  have hlt := (List.getElem?_eq_some_iff.1 h).1
  rw [List.drop_eq_getElem_cons (l := L) (i := k) hlt, (List.getElem?_eq_some_iff.1 h).2]
  rfl
theorem rows_step {T : Ld.Tb} {k : Nat} {x : Int × List Ld.Sl} (h : T[k]? = some x) (p : Option Int) : Ld.rowsB (T.drop k) p = (Ld.numB x.1 && Ld.riseB p x.1 && decide (1 ≤ x.2.length) && decide (x.2.length ≤ 5) && Ld.slotsB x.2 none && Ld.rowsB (T.drop (k + 1)) (some x.1)) := by
  have hlt := (List.getElem?_eq_some_iff.1 h).1
  rw [List.drop_eq_getElem_cons (l := T) (i := k) hlt, (List.getElem?_eq_some_iff.1 h).2]
  rfl
theorem rn_same (n : Int) (w : World) : Calls Tryz.prog 41 #[.int .i64 n] w fun e w' => e = .returned (.bool (Ld.numB n)) ∧ w' = w := (rn_any n w).mono fun _ _ ⟨h, h2⟩ => ⟨h, h2.symm⟩
theorem prevT_succ {T : Ld.Tb} {i : Nat} {x : Int × List Ld.Sl} (h : T[i]? = some x) : prevT T (i + 1) = some x.1 := by
  show (T[i]?).map (·.1) = _
  rw [h]
  rfl
theorem riseB_zero (T : Ld.Tb) (p : Int) : Ld.riseB (prevT T 0) p = true := rfl
theorem linkB_zero (L : List Ld.Sl) (s : Ld.Sl) : Ld.linkB (prevS L 0) s = true := rfl
/-- What region 7 decides. -/
def badRow (c z : Bool) (n : Nat) : Bool := !(c && z && decide (1 ≤ n) && decide (n ≤ 5))
theorem badRow_c (z : Bool) (n : Nat) : badRow false z n = true := by simp [badRow]
theorem badRow_z (c : Bool) (n : Nat) : badRow c false n = true := by simp [badRow]
theorem badRow_1 (c z : Bool) {n : Nat} (h : n < 1) : badRow c z n = true := by simp [badRow]; omega
theorem badRow_5 (c z : Bool) {n : Nat} (h : 5 < n) : badRow c z n = true := by simp [badRow]; omega
theorem badRow_ok {n : Nat} (h : 1 ≤ n) (h5 : n ≤ 5) : badRow true true n = false := by simp [badRow]; omega
def badSlot (a b c : Bool) (d : Bool) : Bool := !(a && b && c && d)
def badLink (z : Bool) : Bool := !z
theorem boolV {a b : Bool} (h : a = b) : Value.bool a = .bool b := by rw [h]

set_option maxRecDepth 100000 in
set_option maxHeartbeats 16000000 in
theorem good_any (P : Nat → Prop) (v : Value) (T : Ld.Tb) (w : World) (h : TabAt P v T w) :
    Calls Tryz.prog 19 #[v] w fun e w' => e = .returned (.bool (Ld.goodB T)) ∧ RowKit.Below w.heap.size w w' := by
  obtain ⟨a, cap, rfl, hc⟩ := h
  obtain ⟨m, hm⟩ : ∃ m, T.length = m := ⟨_, rfl⟩
  obtain ⟨r, hr⟩ : ∃ r, Ld.rowsB T none = r := ⟨_, rfl⟩
  unfold Ld.goodB
  have HM := Lib.hid hm
  have HC := Lib.hid hc
  have HR := Lib.hid hr
  rw [hm, hr]
  clear hm hc hr
  by_cases h64 : 64 < m
  · rw [decide_eq_false (show ¬ m ≤ 64 by omega)]
    go_enter Tryz.func19, Tryz.ntmps19
    go_wp2_with fail
    go_ret
    exact ⟨rfl, Below.refl _ _⟩
  · rw [decide_eq_true (show m ≤ 64 by omega), Bool.true_and]
    go_enter Tryz.func19, Tryz.ntmps19
    go_wp2_with fail
    go_loopw [3] (fun iv wr => ∃ i : Nat, i ≤ m ∧ iv = .int .i64 i ∧ RowKit.Below w.heap.size w wr ∧ Ld.rowsB (T.drop i) (prevT T i) = r) (fun iv _ => m - (intOf iv).toNat)
    case atStart => exact ⟨0, Nat.zero_le _, rfl, Below.refl _ _, by rw [← HR.out]; rfl⟩
    case round =>
      obtain ⟨i, hi, rfl, hb1', hrow⟩ := hrel
      have HB := Lib.hid hb1'
      have HRO := Lib.hid hrow
      clear hrow
      by_cases hlt : i < m
      · obtain ⟨x, hx⟩ : ∃ x, T[i]? = some x := ⟨_, List.getElem?_eq_getElem (by rw [HM.out]; exact hlt)⟩
        obtain ⟨b, off, sv, rfl, -, c0, c1, a', cap', rfl, hsl⟩ := HC.out i x hx
        obtain ⟨n, hn⟩ : ∃ n, x.2.length = n := ⟨_, rfl⟩
        obtain ⟨p, hp⟩ : ∃ p, x.1 = p := ⟨_, rfl⟩
        obtain ⟨c, hcb⟩ : ∃ c, Ld.numB p = c := ⟨_, rfl⟩
        obtain ⟨z, hzb⟩ : ∃ z, Ld.riseB (prevT T i) p = z := ⟨_, rfl⟩
        obtain ⟨R1, hR1⟩ : ∃ R1, Ld.rowsB (T.drop (i + 1)) (some p) = R1 := ⟨_, rfl⟩
        have hstep := rows_step hx (prevT T i)
        have HRS0 : Hid ((!(badRow c z n) && Ld.slotsB x.2 none && R1) = r) := by
          show _ = r
          rw [← HRO.out, hstep, hp, hcb, hzb, hn, hR1]
          simp [badRow]
        have HX := Lib.hid hx
        have HSL := Lib.hid hsl
        have HNN := Lib.hid hn
        have HZ := Lib.hid hzb
        have HPX := Lib.hid hp
        have HR1 : Hid (Ld.rowsB (T.drop (i + 1)) (prevT T (i + 1)) = R1) := by show _ = R1; rw [prevT_succ hx, hp, hR1]
        have N0 := Lib.hid (rn_same p)
        have N1 := Lib.hid (rn_same p)
        have N2 := Lib.hid (rn_same p)
        rw [hcb] at N0 N1 N2
        rw [hp] at c0
        rw [hn] at c1
        have up := fun a v (h : w.cell? a = some v) => (hb1'.cell (World.block_lt_of_cell? w a h)).trans h
        have c0 := up _ _ c0
        have c1 := up _ _ c1
        clear hx hsl hn hp hcb hzb hR1 hstep HRO hb1'
        go_upto_region 7 with fail
        go_cut [54] (fun s wx => s = .bool (badRow c z n) ∧ RowKit.Below w.heap.size w wx)
        case first =>
          cases c with
          | false =>
            go_quiet ((go_at_call 41; first | exact Calls.quiet_of_same (N0.out _) | exact Calls.quiet_of_same (N1.out _) | exact Calls.quiet_of_same (N2.out _)))
            go_wp2_with fail
            go_meet
            case rel => exact ⟨by first | rfl | exact boolV (badRow_c _ _).symm, HB.out.trans (below_drewN _ _)⟩
          | true =>
            rcases Nat.eq_zero_or_pos i with hz | hpos
            · obtain rfl : z = true := by rw [← HZ.out, hz]; rfl
              have tk : decide ((0 : Int) < (i : Int)) = false := decide_eq_false (by omega)
              have tk2 : ¬ ((0 : Nat) < i) := by omega
              have tk3 : ¬ ((0 : Int) < (i : Int)) := by omega
              clear hz
              by_cases h1 : n < 1
              · have t1 : decide ((n : Int) < 1) = true := decide_eq_true (by omega)
                go_quiet ((go_at_call 41; first | exact Calls.quiet_of_same (N0.out _) | exact Calls.quiet_of_same (N1.out _) | exact Calls.quiet_of_same (N2.out _)))
                go_wp2_with fail
                go_meet
                case rel => exact ⟨by first | rfl | exact boolV (badRow_1 _ _ h1).symm, HB.out.trans (below_drewN _ _)⟩
              · have t1 : decide ((n : Int) < 1) = false := decide_eq_false (by omega)
                by_cases h5 : 5 < n
                · have t5 : decide ((5 : Int) < (n : Int)) = true := decide_eq_true (by omega)
                  go_quiet ((go_at_call 41; first | exact Calls.quiet_of_same (N0.out _) | exact Calls.quiet_of_same (N1.out _) | exact Calls.quiet_of_same (N2.out _)))
                  go_wp2_with fail
                  go_meet
                  case rel => exact ⟨by first | rfl | exact boolV (badRow_5 _ _ h5).symm, HB.out.trans (below_drewN _ _)⟩
                · have t5 : decide ((5 : Int) < (n : Int)) = false := decide_eq_false (by omega)
                  go_quiet ((go_at_call 41; first | exact Calls.quiet_of_same (N0.out _) | exact Calls.quiet_of_same (N1.out _) | exact Calls.quiet_of_same (N2.out _)))
                  go_wp2_with fail
                  go_meet
                  case rel => exact ⟨by first | rfl | exact boolV (badRow_ok (by omega) (by omega)).symm, HB.out.trans (below_drewN _ _)⟩
            · obtain ⟨y, hy⟩ : ∃ y, T[i - 1]? = some y := ⟨_, List.getElem?_eq_getElem (by rw [HM.out]; omega)⟩
              obtain ⟨b2, off2, sv2, hb2, -, g0, -⟩ := HC.out (i - 1) y hy
              injection hb2 with hb2
              injection hb2 with hb3 hb4
              subst hb3 hb4
              obtain ⟨q, hq⟩ : ∃ q, y.1 = q := ⟨_, rfl⟩
              have hpv : Ld.riseB (prevT T i) p = decide (q < p) := by
                obtain ⟨j, rfl⟩ : ∃ j, i = j + 1 := ⟨i - 1, by omega⟩
                rw [show j + 1 - 1 = j by omega] at hy
                rw [prevT_succ hy, hq]
                rfl
              rw [hq] at g0
              have g0 := up _ _ g0
              have hzq := HZ.out.symm.trans hpv
              have tk : decide ((0 : Int) < (i : Int)) = true := decide_eq_true (by omega)
              have tk2 : (0 : Nat) < i := hpos
              have tk3 : (0 : Int) < (i : Int) := by omega
              have HW4 : Hid (IntKind.i64.wrap ((i : Int) - 1) = ((i - 1 : Nat) : Int)) := by show _ = _; rw [IntKind.wrap_i64]; omega
              have hj0 : (0 : Int) ≤ ((i - 1 : Nat) : Int) := by omega
              have hj1 : ((i - 1 : Nat) : Int) < (m : Int) := by omega
              by_cases hqp : p ≤ q
              · obtain rfl : z = false := by rw [hzq]; exact decide_eq_false (by omega)
                have tg : decide (p ≤ q) = true := decide_eq_true hqp
                have tg2 : decide (q ≥ p) = true := decide_eq_true hqp
                clear hqp hzq hpv hy hq hpos
                have hw4 := HW4.out
                go_quiet ((go_at_call 41; first | exact Calls.quiet_of_same (N0.out _) | exact Calls.quiet_of_same (N1.out _) | exact Calls.quiet_of_same (N2.out _)))
                go_wp2_with fail
                go_meet
                case rel => exact ⟨by first | rfl | exact boolV (badRow_z _ _).symm, HB.out.trans (below_drewN _ _)⟩
              · obtain rfl : z = true := by rw [hzq]; exact decide_eq_true (by omega)
                have tg : decide (p ≤ q) = false := decide_eq_false hqp
                have tg2 : decide (q ≥ p) = false := decide_eq_false hqp
                clear hqp hzq hpv hy hq hpos
                by_cases h1 : n < 1
                · have t1 : decide ((n : Int) < 1) = true := decide_eq_true (by omega)
                  have hw4 := HW4.out
                  go_quiet ((go_at_call 41; first | exact Calls.quiet_of_same (N0.out _) | exact Calls.quiet_of_same (N1.out _) | exact Calls.quiet_of_same (N2.out _)))
                  go_wp2_with fail
                  go_meet
                  case rel => exact ⟨by first | rfl | exact boolV (badRow_1 _ _ h1).symm, HB.out.trans (below_drewN _ _)⟩
                · have t1 : decide ((n : Int) < 1) = false := decide_eq_false (by omega)
                  by_cases h5 : 5 < n
                  · have t5 : decide ((5 : Int) < (n : Int)) = true := decide_eq_true (by omega)
                    have hw4 := HW4.out
                    go_quiet ((go_at_call 41; first | exact Calls.quiet_of_same (N0.out _) | exact Calls.quiet_of_same (N1.out _) | exact Calls.quiet_of_same (N2.out _)))
                    go_wp2_with fail
                    go_meet
                    case rel => exact ⟨by first | rfl | exact boolV (badRow_5 _ _ h5).symm, HB.out.trans (below_drewN _ _)⟩
                  · have t5 : decide ((5 : Int) < (n : Int)) = false := decide_eq_false (by omega)
                    have HN1 : Hid (1 ≤ n ∧ n ≤ 5) := by exact ⟨by omega, by omega⟩
                    have hw4 := HW4.out
                    go_quiet ((go_at_call 41; first | exact Calls.quiet_of_same (N0.out _) | exact Calls.quiet_of_same (N1.out _) | exact Calls.quiet_of_same (N2.out _)))
                    go_wp2_with fail
                    go_meet
                    case rel => exact ⟨by first | rfl | exact boolV (badRow_ok HN1.out.1 HN1.out.2).symm, HB.out.trans (below_drewN _ _)⟩
        case rest =>
          obtain ⟨rfl, hb2⟩ := hcut
          have HB2 := Lib.hid hb2
          clear hb2 up c0 c1
          obtain ⟨bd, hbd⟩ : ∃ bd, badRow c z n = bd := ⟨_, rfl⟩
          rw [hbd] at HRS0 ⊢
          have HBD := Lib.hid hbd
          clear hbd
          cases bd with
          | true =>
            go_wp2_with fail
            go_ret
            exact ⟨by rw [← HRS0.out]; rfl, HB2.out⟩
          | false =>
            have hn5 : 1 ≤ n ∧ n ≤ 5 := by
              have := HBD.out
              unfold badRow at this
              simp only [Bool.not_eq_false', Bool.and_eq_true, decide_eq_true_eq] at this
              exact ⟨this.1.2, this.2⟩
            obtain ⟨hn1, hn5⟩ := hn5
            have HST : Hid ((Ld.slotsB x.2 none && R1) = r) := by show _ = r; rw [← HRS0.out]; rfl
            clear HRS0 HBD N0 N1 N2
            go_wp2_with fail
            go_loopw [5] (fun kv wr => ∃ k : Nat, k ≤ n ∧ kv = .int .i64 k ∧ RowKit.Below w.heap.size w wr ∧ (Ld.slotsB (x.2.drop k) (prevS x.2 k) && R1) = r ∧ ∀ p, prevS x.2 k = some p → Ld.okS p = true) (fun kv _ => n - (intOf kv).toNat)
            case atStart => exact ⟨0, Nat.zero_le _, rfl, HB2.out, by rw [← HST.out, List.drop_zero]; rfl, fun p hp => by cases hp⟩
            case round =>
              obtain ⟨k, hk, rfl, hb2', hrr, hpo⟩ := hrel
              have HB := Lib.hid hb2'
              have HRR := Lib.hid hrr
              have HPO := Lib.hid hpo
              clear hrr hpo
              by_cases hlk : k < n
              · obtain ⟨s, hs⟩ : ∃ s, x.2[k]? = some s := ⟨_, List.getElem?_eq_getElem (by rw [HNN.out]; exact hlk)⟩
                obtain ⟨b', off', rfl, -, e0, e1, e2⟩ := HSL.out k s hs
                have HSS := Lib.hid hs
                have hst := slots_step hs (prevS x.2 k)
                obtain ⟨s0, s1, s2⟩ := s
                simp only at e0 e1 e2
                have up := fun a v (h : w.cell? a = some v) => (hb2'.cell (World.block_lt_of_cell? w a h)).trans h
                have HEE := Lib.hid (And.intro e0 (And.intro e1 e2))
                have e0 := up _ _ e0
                have e1 := up _ _ e1
                have e2 := up _ _ e2
                obtain ⟨a1, ha1⟩ : ∃ c, Ld.numB s0 = c := ⟨_, rfl⟩
                obtain ⟨a2, ha2⟩ : ∃ c, Ld.numB s1 = c := ⟨_, rfl⟩
                obtain ⟨a3, ha3⟩ : ∃ c, Ld.numB s2 = c := ⟨_, rfl⟩
                obtain ⟨d, hd⟩ : ∃ c, decide (s1 < s2) = c := ⟨_, rfl⟩
                obtain ⟨y, hy⟩ : ∃ c, Ld.linkB (prevS x.2 k) ⟨s0, s1, s2⟩ = c := ⟨_, rfl⟩
                have N0 := Lib.hid (rn_same s0)
                have N1 := Lib.hid (rn_same s1)
                have N2 := Lib.hid (rn_same s2)
                rw [ha1] at N0
                rw [ha2] at N1
                rw [ha3] at N2
                have HRS : Hid ((!(badSlot a1 a2 a3 d) && !(badLink y) && Ld.slotsB (x.2.drop (k + 1)) (some ⟨s0, s1, s2⟩) && R1) = r) := by
                  show _ = r
                  rw [← HRR.out, hst, hy]
                  unfold Ld.okS badSlot badLink
                  rw [ha1, ha2, ha3, hd, Bool.not_not, Bool.not_not]
                have HOKS : Hid (badSlot a1 a2 a3 d = false → Ld.okS ⟨s0, s1, s2⟩ = true) := fun h => by
                  unfold badSlot at h
                  unfold Ld.okS
                  rw [ha1, ha2, ha3, hd]
                  simpa using h
                have HD := Lib.hid hd
                have HY := Lib.hid hy
                clear hst ha1 ha2 ha3 hd hy hs hb2' HRR
                go_upto_region 12 with fail
                go_cut [98] (fun s wx => s = .bool (badSlot a1 a2 a3 d) ∧ RowKit.Below w.heap.size w wx)
                case first =>
                  cases a1 with
                  | false =>
                    go_quiet ((go_at_call 41; first | exact Calls.quiet_of_same (N0.out _) | exact Calls.quiet_of_same (N1.out _) | exact Calls.quiet_of_same (N2.out _)))
                    go_wp2_with fail
                    go_meet
                    case rel => exact ⟨by first | rfl | exact boolV (by simp [badSlot]), HB.out.trans (below_drewN _ _)⟩
                  | true =>
                    cases a2 with
                    | false =>
                      go_quiet ((go_at_call 41; first | exact Calls.quiet_of_same (N0.out _) | exact Calls.quiet_of_same (N1.out _) | exact Calls.quiet_of_same (N2.out _)))
                      go_wp2_with fail
                      go_meet
                      case rel => exact ⟨by first | rfl | exact boolV (by simp [badSlot]), HB.out.trans (below_drewN _ _)⟩
                    | true =>
                      cases a3 with
                      | false =>
                        go_quiet ((go_at_call 41; first | exact Calls.quiet_of_same (N0.out _) | exact Calls.quiet_of_same (N1.out _) | exact Calls.quiet_of_same (N2.out _)))
                        go_wp2_with fail
                        go_meet
                        case rel => exact ⟨by first | rfl | exact boolV (by simp [badSlot]), HB.out.trans (below_drewN _ _)⟩
                      | true =>
                        by_cases hge : s2 ≤ s1
                        · obtain rfl : d = false := by rw [← HD.out]; exact decide_eq_false (by omega)
                          have tg : decide (s2 ≤ s1) = true := decide_eq_true hge
                          have tg2 : decide (s1 ≥ s2) = true := decide_eq_true hge
                          clear hge
                          go_quiet ((go_at_call 41; first | exact Calls.quiet_of_same (N0.out _) | exact Calls.quiet_of_same (N1.out _) | exact Calls.quiet_of_same (N2.out _)))
                          go_wp2_with fail
                          go_meet
                          case rel => exact ⟨by first | rfl | exact boolV (by simp [badSlot]), HB.out.trans (below_drewN _ _)⟩
                        · obtain rfl : d = true := by rw [← HD.out]; exact decide_eq_true (by omega)
                          have tg : decide (s2 ≤ s1) = false := decide_eq_false hge
                          have tg2 : decide (s1 ≥ s2) = false := decide_eq_false hge
                          clear hge
                          go_quiet ((go_at_call 41; first | exact Calls.quiet_of_same (N0.out _) | exact Calls.quiet_of_same (N1.out _) | exact Calls.quiet_of_same (N2.out _)))
                          go_wp2_with fail
                          go_meet
                          case rel => exact ⟨by first | rfl | exact boolV (by simp [badSlot]), HB.out.trans (below_drewN _ _)⟩
                case rest =>
                  obtain ⟨rfl, hb3⟩ := hcut
                  clear up e0 e1 e2 HB
                  have HB := Lib.hid hb3
                  have up := fun a v (h : w.cell? a = some v) => (hb3.cell (World.block_lt_of_cell? w a h)).trans h
                  clear hb3 N0 N1 N2
                  obtain ⟨bs, hbs⟩ : ∃ bd, badSlot a1 a2 a3 d = bd := ⟨_, rfl⟩
                  rw [hbs] at HRS HOKS ⊢
                  clear hbs
                  cases bs with
                  | true =>
                    clear up
                    go_wp2_with fail
                    go_ret
                    exact ⟨by rw [← HRS.out]; rfl, HB.out⟩
                  | false =>
                    have HOK : Hid (Ld.okS ⟨s0, s1, s2⟩ = true) := HOKS.out rfl
                    have HRT : Hid ((!(badLink y) && Ld.slotsB (x.2.drop (k + 1)) (some ⟨s0, s1, s2⟩) && R1) = r) := by show _ = r; rw [← HRS.out]; rfl
                    have e0 := up _ _ HEE.out.1
                    have e1 := up _ _ HEE.out.2.1
                    have e2 := up _ _ HEE.out.2.2
                    clear HRS HOKS
                    go_upto_region 14 with fail
                    go_cut [129] (fun s wx => s = .bool (badLink y) ∧ RowKit.Below w.heap.size w wx)
                    case first =>
                      rcases Nat.eq_zero_or_pos k with hz | hpos
                      · obtain rfl : y = true := by rw [← HY.out, hz]; rfl
                        have tk : decide ((0 : Int) < (k : Int)) = false := decide_eq_false (by omega)
                        have tk2 : ¬ ((0 : Nat) < k) := by omega
                        have tk3 : ¬ ((0 : Int) < (k : Int)) := by omega
                        clear hz
                        go_quiet (fail)
                        go_wp2_with fail
                        go_meet
                        case rel => exact ⟨by first | rfl | exact boolV (by simp [badLink]), HB.out.trans (below_drewN _ _)⟩
                      · obtain ⟨pp, hpp⟩ : ∃ y, x.2[k - 1]? = some y := ⟨_, List.getElem?_eq_getElem (by rw [HNN.out]; omega)⟩
                        obtain ⟨b2, off2, hb2, -, g0, -, g2⟩ := HSL.out (k - 1) pp hpp
                        injection hb2 with hb2
                        injection hb2 with hb3 hb4
                        subst hb3 hb4
                        have hpv : prevS x.2 k = some pp := by
                          obtain ⟨j, rfl⟩ : ∃ j, k = j + 1 := ⟨k - 1, by omega⟩
                          rw [show j + 1 - 1 = j by omega] at hpp
                          exact hpp
                        have hyq : y = (decide (s0 = pp.seq + 1) && decide (pp.fin ≤ s1)) := by rw [← HY.out, hpv]; rfl
                        have hpk := okS_iff (HPO.out pp hpv)
                        obtain ⟨p0, p1, p2⟩ := pp
                        simp only at g0 g2 hpk hyq
                        have g0 := up _ _ g0
                        have g2 := up _ _ g2
                        have hpb := hpk.1
                        have HW5 : Hid (IntKind.i64.wrap (p0 + 1) = p0 + 1) := by show _ = _; rw [IntKind.wrap_i64]; omega
                        have tk : decide ((0 : Int) < (k : Int)) = true := decide_eq_true (by omega)
                        have tk2 : (0 : Nat) < k := hpos
                        have tk3 : (0 : Int) < (k : Int) := by omega
                        have HW4 : Hid (IntKind.i64.wrap ((k : Int) - 1) = ((k - 1 : Nat) : Int)) := by show _ = _; rw [IntKind.wrap_i64]; omega
                        have hj0 : (0 : Int) ≤ ((k - 1 : Nat) : Int) := by omega
                        have hj1 : ((k - 1 : Nat) : Int) < (n : Int) := by omega
                        clear hpp hpv hpk hpos
                        by_cases hsq : s0 = p0 + 1
                        · have hq2 : (s0 != p0 + 1) = false := by simp [hsq]
                          by_cases hlb : s1 < p2
                          · obtain rfl : y = false := by rw [hyq, decide_eq_false (show ¬ p2 ≤ s1 by omega), Bool.and_false]
                            have hl2 : decide (s1 < p2) = true := decide_eq_true hlb
                            clear hlb hyq hsq
                            have hw4 := HW4.out
                            have hw5 := HW5.out
                            go_quiet (fail)
                            go_wp2_with fail
                            go_meet
                            case rel => exact ⟨by first | rfl | exact boolV (by simp [badLink]), HB.out.trans (below_drewN _ _)⟩
                          · obtain rfl : y = true := by rw [hyq, decide_eq_true hsq, decide_eq_true (show p2 ≤ s1 by omega)]; rfl
                            have hl2 : decide (s1 < p2) = false := decide_eq_false hlb
                            clear hlb hyq hsq
                            have hw4 := HW4.out
                            have hw5 := HW5.out
                            go_quiet (fail)
                            go_wp2_with fail
                            go_meet
                            case rel => exact ⟨by first | rfl | exact boolV (by simp [badLink]), HB.out.trans (below_drewN _ _)⟩
                        · obtain rfl : y = false := by rw [hyq, decide_eq_false hsq, Bool.false_and]
                          have hq2 : (s0 != p0 + 1) = true := by simpa using hsq
                          clear hyq hsq
                          have hw4 := HW4.out
                          have hw5 := HW5.out
                          go_quiet (fail)
                          go_wp2_with fail
                          go_meet
                          case rel => exact ⟨by first | rfl | exact boolV (by simp [badLink]), HB.out.trans (below_drewN _ _)⟩
                    case rest =>
                      obtain ⟨rfl, hb4⟩ := hcut
                      clear up e0 e1 e2 HB
                      have HB := Lib.hid hb4
                      clear hb4 HEE
                      cases y with
                      | false =>
                        simp only [badLink] at HRT ⊢
                        go_wp2_with fail
                        go_ret
                        exact ⟨by rw [← HRT.out]; rfl, HB.out⟩
                      | true =>
                        have HRU : Hid ((Ld.slotsB (x.2.drop (k + 1)) (prevS x.2 (k + 1)) && R1) = r) := by
                          show _ = r
                          rw [← HRT.out]
                          simp only [prevS]
                          rw [HSS.out]
                          rfl
                        have HPU : Hid (∀ p, prevS x.2 (k + 1) = some p → Ld.okS p = true) := fun p hp => by
                          simp only [prevS] at hp
                          rw [HSS.out] at hp
                          injection hp with hp
                          rw [← hp]
                          exact HOK.out
                        simp only [badLink]
                        clear HRT HY
                        go_wp2_with fail
                        go_roundw
                        case rel => exact ⟨k + 1, hlk, by go_num, HB.out, HRU.out, HPU.out⟩
                        case measure => simp [intOf]; omega
              · have HRF : Hid (R1 = r) := by
                  show R1 = r
                  have h := HRR.out
                  rw [List.drop_of_length_le (by rw [HNN.out]; omega), Ld.slotsB, Bool.true_and] at h
                  exact h
                clear HRR HPO hb2'
                go_wp2_with fail
                go_roundw
                case rel => exact ⟨i + 1, hlt, by go_num, HB.out, HR1.out.trans HRF.out⟩
                case measure => simp [intOf]; omega
      · clear hb1'
        have HRF : Hid (true = r) := by
          show true = r
          have h := HRO.out
          rw [List.drop_of_length_le (by rw [HM.out]; omega)] at h
          exact h
        clear HRO
        go_wp2_with fail
        go_ret
        exact ⟨congrArg (fun b => Ending.returned (.bool b)) HRF.out, HB.out⟩
end Go.Proofs.YtloallndnmofnaaGreatDoor
