/- THE CONTRACTS of the search for a life, of living. -/
import Derived.Test.YtmkinnheoejphaaGreatDoorPnH
import Derived.Test.YtmkinnheoejphaaGreatDoorInL
namespace Go.Proofs.YtmkinnheoejphaaGreatDoor
open Go.RowKit

def CmpOut (w : World) (z : Int) (e : Ending) (w' : World) : Prop := e = .returned (.int .i64 z) ∧ Below w.heap.size w w'
set_option maxHeartbeats 1000000 in
set_option maxRecDepth 100000 in
theorem cmpInt (a b : Int) (w : World) : Calls Tryz.prog 59 #[.int .i64 a, .int .i64 b] w fun e w' => CmpOut w (Fk.cmpI a b) e w' := by
  by_cases h : a < b
  · have hz : Fk.cmpI a b = -1 := by unfold Fk.cmpI; rw [if_pos h]
    rw [hz]
    clear hz
    go_enter Tryz.func59, Tryz.ntmps59
    go_wp2
    go_ret
    exact ⟨rfl, Below.refl _ _⟩
  · by_cases k : b < a
    · have hz : Fk.cmpI a b = 1 := by unfold Fk.cmpI; rw [if_neg h, if_pos k]
      rw [hz]
      clear hz
      go_enter Tryz.func59, Tryz.ntmps59
      go_wp2
      go_ret
      exact ⟨rfl, Below.refl _ _⟩
    · have hz : Fk.cmpI a b = 0 := by unfold Fk.cmpI; rw [if_neg h, if_neg k]
      rw [hz]
      clear hz
      go_enter Tryz.func59, Tryz.ntmps59
      go_wp2
      go_ret
      exact ⟨rfl, Below.refl _ _⟩
set_option maxHeartbeats 1000000 in
set_option maxRecDepth 100000 in
theorem clL (q : Int × Int) (n : Int) (w : World) : Calls Tryz.prog 58 #[.agg #[.int .i64 q.1, .int .i64 q.2], .int .i64 n] w fun e w' => CmpOut w (Fk.cP n q) e w' := by
  obtain ⟨a, o⟩ := q
  obtain ⟨z, hz⟩ : ∃ z, Fk.cP n (a, o) = z := ⟨_, rfl⟩
  have HC : Hid (∀ w, Calls Tryz.prog 59 #[.int .i64 a, .int .i64 n] w fun e w' => CmpOut w z e w') := Lib.hid fun w => by rw [← hz]; exact cmpInt a n w
  rw [hz]
  clear hz
  go_enter Tryz.func58, Tryz.ntmps58
  go_wp2_with (go_at_call 59; refine (HC.out _).mono ?_; rintro e w' ⟨rfl, hb⟩)
  go_ret
  have hal := (Below.refl w.heap.size w).alloc (Nat.le_refl _) (.cells #[.int .i64 a, .int .i64 o] 55)
  exact ⟨rfl, hal.trans (hb.mono hal.size)⟩
def BsOut (w : World) (i : Nat) (f : Bool) (e : Ending) (w' : World) : Prop := e = .returned (.tuple #[.int .i64 i, .bool f]) ∧ Below w.heap.size w w'
set_option maxHeartbeats 4000000 in
set_option maxRecDepth 100000 in
theorem bsL_any {A : Nat → Prop} (v : Value) (L : List (Int × Int)) (n : Int) (w : World) (h : Lvs A w v L) (hl : L.length ≤ 64) (hm : Fk.Mono (Fk.cP n) L) :
    Calls Tryz.prog 60 #[v, .int .i64 n, .func (.func 58) #[] #[]] w fun e w' => BsOut w (Fk.low (Fk.cP n) L) (Fk.hit (Fk.cP n) L).isSome e w' := by
  have HH := Lib.hid (Fk.hit_isSome (c := Fk.cP n) (l := L))
  obtain ⟨a, cap, rfl⟩ := h.form
  obtain ⟨m, hmm⟩ : ∃ m, L.length = m := ⟨_, rfl⟩
  have him := Fk.low_le (c := Fk.cP n) L
  have HLO := Lib.hid (Fk.low_at (c := Fk.cP n) L)
  have HGE := Lib.hid (Fk.low_ge (c := Fk.cP n) L hm)
  obtain ⟨i, hi⟩ : ∃ i, Fk.low (Fk.cP n) L = i := ⟨_, rfl⟩
  obtain ⟨f, hf⟩ : ∃ f, (Fk.hit (Fk.cP n) L).isSome = f := ⟨_, rfl⟩
  rw [hi] at him HLO HGE HH ⊢
  rw [hf] at HH ⊢
  rw [hmm] at him hl HH ⊢
  have HM := Lib.hid hmm
  have HV := Lib.hid h
  have HR := Lib.hid (Below.refl w.heap.size w)
  clear hm hmm hi hf h
  go_enter Tryz.func60, Tryz.ntmps60
  go_wp2_with fail
  go_loopw [9, 10] (fun s9 s10 wr => ∃ lo hi : Nat, s9 = .int .i64 lo ∧ s10 = .int .i64 hi ∧ lo ≤ i ∧ i ≤ hi ∧ hi ≤ m ∧ Below w.heap.size w wr) (fun s9 s10 _ => (intOf s10).toNat - (intOf s9).toNat)
  case atStart => exact ⟨0, m, rfl, rfl, Nat.zero_le _, him, Nat.le_refl _, HR.out⟩
  case round =>
    obtain ⟨lo, hi, rfl, rfl, h1, h2, h3, hb⟩ := hrel
    have HB := Lib.hid hb
    by_cases hlt : lo < hi
    · obtain ⟨y, hy⟩ : ∃ y, L[(lo + hi) / 2]? = some y := ⟨_, List.getElem?_eq_getElem (by rw [HM.out]; omega)⟩
      obtain ⟨b, p, cap', ev, -, hbl, c0, c1⟩ := (HV.out.below hb).at hy
      rw [HM.out] at ev
      obtain rfl : a = some ⟨b, p, none⟩ := by injection ev
      obtain ⟨z, hz⟩ : ∃ z, Fk.cP n y = z := ⟨_, rfl⟩
      have HC := Lib.hid (fun wx => clL y n wx)
      rw [hz] at HC
      have HY := Lib.hid hy
      have HZ := Lib.hid hz
      clear ev hy hz hb
      by_cases hzn : z < 0
      · have HI : Hid ((lo + hi) / 2 < i) := Lib.hid (by
          refine Nat.lt_of_not_le fun hge => ?_
          have := HGE.out _ _ hge HY.out
          rw [HZ.out] at this
          omega)
        go_wp2_with (go_at_call 58; refine (HC.out _).mono ?_; rintro e w1 ⟨rfl, hb1⟩; have HB1 := Lib.hid hb1; clear hb1)
        go_roundw
        case rel => exact ⟨(lo + hi) / 2 + 1, hi, by rw [show ((lo : Int) + (hi : Int)) / 2 + 1 = (((lo + hi) / 2 + 1 : Nat) : Int) by omega], rfl, HI.out, h2, h3, HB.out.trans (HB1.out.mono HB.out.size)⟩
        case measure => simp [intOf]; omega
      · have HI : Hid (i ≤ (lo + hi) / 2) := Lib.hid (by
          refine Nat.le_of_not_lt fun hlt' => ?_
          have := HLO.out _ _ hlt' HY.out
          rw [HZ.out] at this
          omega)
        go_wp2_with (go_at_call 58; refine (HC.out _).mono ?_; rintro e w1 ⟨rfl, hb1⟩; have HB1 := Lib.hid hb1; clear hb1)
        go_roundw
        case rel => exact ⟨lo, (lo + hi) / 2, rfl, by rw [show ((lo : Int) + (hi : Int)) / 2 = (((lo + hi) / 2 : Nat) : Int) by omega], h1, HI.out, by omega, HB.out.trans (HB1.out.mono HB.out.size)⟩
        case measure => simp [intOf]; omega
    · obtain rfl : lo = i := by omega
      obtain rfl : hi = lo := by omega
      by_cases hn : hi < m
      · obtain ⟨y, hy⟩ : ∃ y, L[hi]? = some y := ⟨_, List.getElem?_eq_getElem (by rw [HM.out]; omega)⟩
        obtain ⟨b, p, cap', ev, -, hbl, c0, c1⟩ := (HV.out.below hb).at hy
        rw [HM.out] at ev
        obtain rfl : a = some ⟨b, p, none⟩ := by injection ev
        obtain ⟨z, hz⟩ : ∃ z, Fk.cP n y = z := ⟨_, rfl⟩
        have HC := Lib.hid (fun wx => clL y n wx)
        rw [hz] at HC
        have HF : Hid (f = decide (z = 0)) := Lib.hid (by rw [HH.out, decide_eq_true hn, hy]; simp only [Bool.true_and]; rw [hz])
        clear ev hy hz hb
        by_cases hz0 : z = 0
        · go_wp2_with (go_at_call 58; refine (HC.out _).mono ?_; rintro e w1 ⟨rfl, hb1⟩; have HB1 := Lib.hid hb1; clear hb1)
          go_ret2
          exact ⟨by rw [HF.out]; simp [hz0], HB.out.trans (HB1.out.mono HB.out.size)⟩
        · go_wp2_with (go_at_call 58; refine (HC.out _).mono ?_; rintro e w1 ⟨rfl, hb1⟩; have HB1 := Lib.hid hb1; clear hb1)
          go_ret2
          exact ⟨by rw [HF.out]; simp [hz0], HB.out.trans (HB1.out.mono HB.out.size)⟩
      · have HF : Hid (f = false) := Lib.hid (by rw [HH.out, decide_eq_false hn]; rfl)
        clear hb
        go_wp2_with fail
        go_ret2
        exact ⟨by rw [HF.out]; rfl, HB.out⟩
end Go.Proofs.YtmkinnheoejphaaGreatDoor
