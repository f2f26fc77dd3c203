/- THE CONTRACTS OF ledger.within, cmp.Compare, find's order, slices.BinarySearchFunc at it, find. -/
import Derived.Test.YtloallndnmofnaaGreatDoorLd
import Derived.Test.YtloallndnmofnaaGreatDoorBlk
import Derived.IntWalk
namespace Go.Proofs.YtloallndnmofnaaGreatDoor
open Go.RowKit

theorem dwithin (n : Int) (w : World) : Calls Tryz.prog 36 #[.int .i64 n] w fun e w' => e = .returned (.bool (Ld.numB n)) ∧ w = w' := by
  by_cases h0 : 0 ≤ n
  · by_cases h1 : n ≤ 1099511627776
    · go_enter Tryz.func36, Tryz.ntmps36
      go_wp2_with fail
      go_ret
      exact ⟨by simp [Ld.numB, h0, h1], rfl⟩
    · go_enter Tryz.func36, Tryz.ntmps36
      go_wp2_with fail
      go_ret
      exact ⟨by simp [Ld.numB, h1], rfl⟩
  · go_enter Tryz.func36, Tryz.ntmps36
    go_wp2_with fail
    go_ret
    exact ⟨by simp [Ld.numB]; omega, rfl⟩
theorem disnan (n : Int) (w : World) : Calls Tryz.prog 74 #[.int .i64 n] w fun e w' => e = .returned (.bool false) ∧ w = w' := by
  have h : (n != n) = false := by simp
  go_enter Tryz.func74, Tryz.ntmps74
  go_wp2_with fail
  go_ret
  exact ⟨rfl, rfl⟩
def cmpV (x y : Int) : Int := if x < y then -1 else if y < x then 1 else 0
theorem dcompare (x y : Int) (w : World) : Calls Tryz.prog 64 #[.int .i64 x, .int .i64 y] w fun e w' => e = .returned (.int .i64 (cmpV x y)) ∧ w = w' := by
  unfold cmpV
  by_cases h1 : x < y
  · rw [if_pos h1]
    go_enter Tryz.func64, Tryz.ntmps64
    go_wp2_with (first | (go_at_call 74; refine (disnan _ _).mono ?_; rintro e w' ⟨rfl, rfl⟩))
    go_ret
    exact ⟨rfl, rfl⟩
  · rw [if_neg h1]
    by_cases h2 : y < x
    · rw [if_pos h2]
      go_enter Tryz.func64, Tryz.ntmps64
      go_wp2_with (first | (go_at_call 74; refine (disnan _ _).mono ?_; rintro e w' ⟨rfl, rfl⟩))
      go_ret
      exact ⟨rfl, rfl⟩
    · rw [if_neg h2]
      go_enter Tryz.func64, Tryz.ntmps64
      go_wp2_with (first | (go_at_call 74; refine (disnan _ _).mono ?_; rintro e w' ⟨rfl, rfl⟩))
      go_ret
      exact ⟨rfl, rfl⟩
theorem dbyprod (p : Int) (sv : Value) (n : Int) (w : World) : Calls Tryz.prog 63 #[.agg #[.int .i64 p, sv], .int .i64 n] w fun e w' => e = .returned (.int .i64 (cmpV p n)) ∧ RowKit.Below w.heap.size w w' := by
  go_enter Tryz.func63, Tryz.ntmps63
  go_wp2_with (first | (go_at_call 64; refine (dcompare _ _ _).mono ?_; rintro e w' ⟨rfl, rfl⟩))
  go_ret
  exact ⟨rfl, (Below.refl _ _).alloc (Nat.le_refl _) _⟩
abbrev byprodV : Value := .func (.func 63) #[] #[]
theorem half_is (a b : Nat) (h : a + b ≤ 1099511627776) : (a + b) / 2 ≤ 1099511627776 := by omega

set_option maxHeartbeats 1000000 in
theorem dsearch (P : Nat → Prop) (v : Value) (T : Ld.Tb) (n : Int) (w : World) (h : TabAt P v T w) (hG : Ld.goodB T = true) :
    Calls Tryz.prog 65 #[v, .int .i64 n, byprodV] w fun e w' => e = .returned (.tuple #[.int .i64 (Ld.pos T n), .bool (Ld.at_ T n).isSome]) ∧ RowKit.Below w.heap.size w w' := by
  obtain ⟨h64, -, hs⟩ := Ld.good_iff.1 hG
  have HH := Lib.hid h
  obtain ⟨a, cap, rfl, hc⟩ := h
  obtain ⟨m, hm⟩ : ∃ m, T.length = m := ⟨_, rfl⟩
  have HM := Lib.hid hm
  have HC := Lib.hid hc
  have HS := Lib.hid hs
  rw [hm] at h64 HH ⊢
  clear hm hc hs hG
  obtain ⟨r, hr⟩ : ∃ r : Nat × Bool, (Ld.pos T n, (Ld.at_ T n).isSome) = r := ⟨_, rfl⟩
  have hr1 : Ld.pos T n = r.1 := by rw [← hr]
  have hr2 : (Ld.at_ T n).isSome = r.2 := by rw [← hr]
  rw [hr1, hr2]
  have HR1 := Lib.hid hr1
  have HR2 := Lib.hid hr2
  clear hr hr1 hr2
  go_enter Tryz.func65, Tryz.ntmps65
  go_wp2_with fail
  go_loopw [9, 10] (fun iv jv wr => ∃ lo hi : Nat, lo ≤ hi ∧ hi ≤ m ∧ iv = .int .i64 lo ∧ jv = .int .i64 hi ∧ (∀ j x, j < lo → T[j]? = some x → x.1 < n) ∧ (∀ j x, hi ≤ j → T[j]? = some x → n ≤ x.1) ∧ RowKit.Below w.heap.size w wr) (fun iv jv _ => (intOf jv).toNat - (intOf iv).toNat)
  case atStart => exact ⟨0, m, Nat.zero_le _, Nat.le_refl _, rfl, rfl, fun j x hj => absurd hj (Nat.not_lt_zero _), fun j x hj hx => by have := (List.getElem?_eq_some_iff.1 hx).1; rw [HM.out] at this; omega, Below.refl _ _⟩
  case round =>
    obtain ⟨lo, hi, hlh, hhm, rfl, rfl, hlo, hhi, hb⟩ := hrel
    have HLO := Lib.hid hlo
    have HHI := Lib.hid hhi
    have HB := Lib.hid hb
    clear hlo hhi hb
    by_cases hlt : lo < hi
    · have hk1 : lo ≤ (lo + hi) / 2 := by omega
      have hk2 : (lo + hi) / 2 < hi := by omega
      obtain ⟨x, hx⟩ : ∃ x, T[(lo + hi) / 2]? = some x := ⟨_, List.getElem?_eq_getElem (by rw [HM.out]; omega)⟩
      have hT := (HH.out.below HB.out)
      obtain ⟨a', cap', hv, hc⟩ := hT
      obtain ⟨b, off, sv, ha, -, c0, c1, -⟩ := hc _ x hx
      injection hv with hv1 hv2 hv3
      subst hv1
      subst ha
      obtain ⟨p, hp⟩ : ∃ p, x.1 = p := ⟨_, rfl⟩
      rw [hp] at c0
      have HP := Lib.hid hp
      have HX := Lib.hid hx
      have e1 : Value.int .i64 (((lo : Int) + (hi : Int)) / 2 + 1) = .int .i64 (((lo + hi) / 2 + 1 : Nat) : Int) := congrArg _ (by omega)
      have e2 : Value.int .i64 (((lo : Int) + (hi : Int)) / 2) = .int .i64 (((lo + hi) / 2 : Nat) : Int) := congrArg _ (by omega)
      have HE1 := Lib.hid e1
      have HE2 := Lib.hid e2
      clear hp hx hc hv2 hv3 e1 e2
      by_cases hpn : p < n
      · have HQ : Hid (cmpV p n = -1) := by show _ = _; unfold cmpV; rw [if_pos hpn]
        have HPN := Lib.hid hpn
        clear hpn
        go_wp2_with fail
        refine (dbyprod _ _ _ _).mono ?_
        rintro e w' ⟨rfl, hb'⟩
        rw [HQ.out]
        have HB2 := Lib.hid hb'
        clear hb' c0 c1
        go_wp2_with fail
        go_roundw
        case rel =>
          refine ⟨(lo + hi) / 2 + 1, hi, by omega, hhm, HE1.out, rfl, ?_, HHI.out, HB.out.trans (HB2.out.mono HB.out.size)⟩
          intro j y hj hy
          rcases Nat.lt_or_ge j ((lo + hi) / 2) with h1 | h1
          · have := Ld.sorted_lt HS.out hy HX.out h1
            rw [HP.out] at this
            have := HPN.out
            omega
          · obtain rfl : j = (lo + hi) / 2 := by omega
            rw [HX.out] at hy
            cases hy
            rw [HP.out]
            exact HPN.out
        case measure => simp [intOf]; omega
      · have HQ : Hid (cmpV p n = 0 ∨ cmpV p n = 1) := by
          show _ ∨ _
          unfold cmpV; rw [if_neg hpn]; split
          · exact .inr rfl
          · exact .inl rfl
        have HPN := Lib.hid hpn
        clear hpn
        go_wp2_with fail
        refine (dbyprod _ _ _ _).mono ?_
        rintro e w' ⟨rfl, hb'⟩
        have HB2 := Lib.hid hb'
        clear hb' c0 c1
        obtain ⟨q, hq⟩ : ∃ q, cmpV p n = q := ⟨_, rfl⟩
        have hq2 : ¬ q < 0 := by rcases HQ.out with h | h <;> omega
        rw [hq]
        clear hq HQ
        go_wp2_with fail
        go_roundw
        case rel =>
          refine ⟨lo, (lo + hi) / 2, by omega, by omega, rfl, HE2.out, HLO.out, ?_, HB.out.trans (HB2.out.mono HB.out.size)⟩
          intro j y hj hy
          rcases Nat.eq_or_lt_of_le hj with h1 | h1
          · rw [← h1, HX.out] at hy
            cases hy
            rw [HP.out]
            have := HPN.out
            omega
          · have := Ld.sorted_lt HS.out HX.out hy h1
            rw [HP.out] at this
            have := HPN.out
            omega
        case measure => simp [intOf]; omega
    · obtain rfl : lo = hi := by omega
      have hpos : Ld.pos T n = lo := Ld.pos_of lo (by rw [HM.out]; omega) HLO.out (fun x hx => HHI.out lo x (Nat.le_refl _) hx)
      have e1 : r.1 = lo := HR1.out.symm.trans hpos
      have HE1 := Lib.hid e1
      clear hpos
      have HLT := Lib.hid hlt
      clear hlt
      by_cases hlm : lo < m
      · obtain ⟨x, hx⟩ : ∃ x, T[lo]? = some x := ⟨_, List.getElem?_eq_getElem (by rw [HM.out]; omega)⟩
        have hT := (HH.out.below HB.out)
        obtain ⟨a', cap', hv, hc⟩ := hT
        obtain ⟨b, off, sv, ha, -, c0, c1, -⟩ := hc _ x hx
        injection hv with hv1 hv2 hv3
        subst hv1
        subst ha
        obtain ⟨p, hp⟩ : ∃ p, x.1 = p := ⟨_, rfl⟩
        rw [hp] at c0
        have hpn := HHI.out lo x (Nat.le_refl _) hx
        rw [hp] at hpn
        have HIS : Hid (r.2 = decide (p = n)) := by
          show _ = _
          rw [← HR2.out]
          by_cases he : p = n
          · subst he
            rw [decide_eq_true rfl, Ld.at_of HS.out (i := lo) (L := x.2) (by rw [hx, ← hp])]
            rfl
          · rw [decide_eq_false he]
            cases ha : Ld.at_ T n with
            | none => rfl
            | some i =>
              have h1 := Ld.pos_some HS.out ha
              obtain ⟨L, hL⟩ := Ld.at_some ha
              have h2 : Ld.pos T n = lo := HR1.out.trans e1
              rw [← h1, h2, hx] at hL
              cases hL
              exact absurd hp.symm he
        clear hp hx hc hv2 hv3 e1
        by_cases he : p = n
        · subst he
          have HQ : Hid (cmpV p p = 0) := by show _ = _; unfold cmpV; simp
          have HPN := Lib.hid hpn
          clear hpn
          go_wp2_with fail
          refine (dbyprod _ _ _ _).mono ?_
          rintro e w' ⟨rfl, hb'⟩
          rw [HQ.out]
          have HB2 := Lib.hid hb'
          clear hb' c0 c1
          go_wp2_with fail
          go_ret2
          exact ⟨by rw [HE1.out, HIS.out]; simp, HB.out.trans (HB2.out.mono HB.out.size)⟩
        · have HQ : Hid (cmpV p n = 1) := by show _ = _; unfold cmpV; rw [if_neg (by omega), if_pos (by omega)]
          have HPN := Lib.hid hpn
          have HE := Lib.hid he
          clear hpn he
          go_wp2_with fail
          refine (dbyprod _ _ _ _).mono ?_
          rintro e w' ⟨rfl, hb'⟩
          rw [HQ.out]
          have HB2 := Lib.hid hb'
          clear hb' c0 c1
          go_wp2_with fail
          go_ret2
          exact ⟨by rw [HE1.out, HIS.out, decide_eq_false HE.out]; rfl, HB.out.trans (HB2.out.mono HB.out.size)⟩
      · have HIS : Hid (r.2 = false) := by
          show _ = _
          rw [← HR2.out]
          cases ha : Ld.at_ T n with
          | none => rfl
          | some i =>
            have h1 := Ld.pos_some HS.out ha
            have h2 := at_lt ha
            rw [HM.out] at h2
            have h3 : Ld.pos T n = lo := HR1.out.trans e1
            omega
        clear e1
        go_wp2_with fail
        go_ret2
        exact ⟨by rw [HE1.out, HIS.out]; rfl, HB.out⟩

set_option maxHeartbeats 1000000 in
theorem dfind (P : Nat → Prop) (rb : Nat) (v : Value) (T : Ld.Tb) (n : Int) (w : World) (hb : Blk w rb #[v] 59) (h : TabAt P v T w) (hG : Ld.goodB T = true) :
    Calls Tryz.prog 51 #[.pointer (some ⟨rb, 0, none⟩), .int .i64 n] w fun e w' => e = .returned (.tuple #[.int .i64 (Ld.pos T n), .bool (Ld.at_ T n).isSome]) ∧ RowKit.Below w.heap.size w w' := by
  have HF := Lib.hid (dsearch P v T n w h hG)
  have c0 := hb.cell (i := 0) rfl
  clear h hG hb
  go_enter Tryz.func51, Tryz.ntmps51
  go_wp2_with fail
  refine HF.out.mono ?_
  rintro e w' ⟨rfl, hb'⟩
  have HB := Lib.hid hb'
  clear hb'
  go_wp2_with fail
  go_ret2
  exact ⟨rfl, HB.out⟩
end Go.Proofs.YtloallndnmofnaaGreatDoor
