import Derived.Test.YtjccfilbihkfpaaGreatDoorM05
import Derived.Test.YtjccfilbihkfpaaGreatDoorM01

/- THE CONTRACTS of the comparisons that the searches call. -/
namespace Go.Proofs.YtjccfilbihkfpaaGreatDoor
open Go.RowKit

def CmpOut (w : World) (z : Int) (e : Ending) (w' : World) : Prop := e = .returned (.int .i64 z) ∧ Below w.heap.size w w'
theorem clS (y n : ByteArray) (w : World) : Calls Tryz.prog 75 #[.string y, .string n] w fun e w' => CmpOut w (Fk.cS n y) e w' :=
  (Tryz.strings_Compare y n w).mono fun _ _ ⟨he, hw⟩ => ⟨he, hw ▸ Below.refl _ _⟩
set_option maxHeartbeats 1000000 in
set_option maxRecDepth 100000 in
theorem clG (g : Fk.G) (mv pv : Value) (n : ByteArray) (w : World) : Calls Tryz.prog 74 #[gval g mv pv, .string n] w fun e w' => CmpOut w (Fk.cN n g) e w' := by
  obtain ⟨s, gen, parts, mem, pts⟩ := g
  have HC := fun w => Tryz.strings_Compare s n w
  obtain ⟨z, hz⟩ : ∃ z, Fk.cN n ⟨s, gen, parts, mem, pts⟩ = z := ⟨_, rfl⟩
  have HZ : Lib.compareBytes s.data.toList n.data.toList = z := hz
  rw [HZ] at HC
  rw [hz]
  show Calls _ _ #[.agg #[.string s, .int .i64 gen, .int .i64 parts, mv, pv], .string n] w _
  clear hz HZ
  have HCC := Lib.hid HC
  clear HC
  go_enter Tryz.func74, Tryz.ntmps74
  go_wp2_with (go_at_call 75; refine (HCC.out _).mono ?_; rintro e w' ⟨rfl, rfl⟩)
  go_ret
  exact ⟨rfl, (Below.refl _ _).alloc (Nat.le_refl _) _⟩
set_option maxHeartbeats 1000000 in
set_option maxRecDepth 100000 in
theorem cmpInt (a b : Int) (w : World) : Calls Tryz.prog 72 #[.int .i64 a, .int .i64 b] w fun e w' => CmpOut w (Fk.cmpI a b) e w' := by
  by_cases h : a < b
  · have hz : Fk.cmpI a b = -1 := by unfold Fk.cmpI; rw [if_pos h]
    rw [hz]
    clear hz
    go_enter Tryz.func72, Tryz.ntmps72
    go_wp2
    go_ret
    exact ⟨rfl, Below.refl _ _⟩
  · by_cases k : b < a
    · have hz : Fk.cmpI a b = 1 := by unfold Fk.cmpI; rw [if_neg h, if_pos k]
      rw [hz]
      clear hz
      go_enter Tryz.func72, Tryz.ntmps72
      go_wp2
      go_ret
      exact ⟨rfl, Below.refl _ _⟩
    · have hz : Fk.cmpI a b = 0 := by unfold Fk.cmpI; rw [if_neg h, if_neg k]
      rw [hz]
      clear hz
      go_enter Tryz.func72, Tryz.ntmps72
      go_wp2
      go_ret
      exact ⟨rfl, Below.refl _ _⟩
set_option maxHeartbeats 1000000 in
set_option maxRecDepth 100000 in
theorem clP (q : Int × Int) (n : Int) (w : World) : Calls Tryz.prog 71 #[.agg #[.int .i64 q.1, .int .i64 q.2], .int .i64 n] w fun e w' => CmpOut w (Fk.cP n q) e w' := by
  obtain ⟨a, o⟩ := q
  obtain ⟨z, hz⟩ : ∃ z, Fk.cP n (a, o) = z := ⟨_, rfl⟩
  have HC : Hid (∀ w, Calls Tryz.prog 72 #[.int .i64 a, .int .i64 n] w fun e w' => CmpOut w z e w') := Lib.hid fun w => by rw [← hz]; exact cmpInt a n w
  rw [hz]
  clear hz
  go_enter Tryz.func71, Tryz.ntmps71
  go_wp2_with (go_at_call 72; refine (HC.out _).mono ?_; rintro e w' ⟨rfl, hb⟩)
  go_ret
  have hal := (Below.refl w.heap.size w).alloc (Nat.le_refl _) (.cells #[.int .i64 a, .int .i64 o] 59)
  exact ⟨rfl, hal.trans (hb.mono hal.size)⟩
end Go.Proofs.YtjccfilbihkfpaaGreatDoor

/- THE CONTRACTS OF slices.BinarySearchFunc (written by genbs11.py). -/
namespace Go.Proofs.YtjccfilbihkfpaaGreatDoor
open Go.RowKit

set_option maxHeartbeats 4000000 in
set_option maxRecDepth 100000 in
theorem bsG_any {A : Nat → Prop} (v : Value) (L : List Fk.G) (n : ByteArray) (w : World) (h : GsR A w v L) (hl : L.length ≤ 64) (hm : Fk.Mono (Fk.cN n) L) :
    Calls Tryz.prog 76 #[v, .string n, .func (.func 74) #[] #[]] w fun e w' => BsOut w (Fk.low (Fk.cN n) L) (Fk.hit (Fk.cN n) L).isSome e w' := by
  have HH := Lib.hid (Fk.hit_isSome (c := Fk.cN n) (l := L))
  obtain ⟨a, cap, rfl⟩ := h.form
  obtain ⟨m, hmm⟩ : ∃ m, L.length = m := ⟨_, rfl⟩
  have him := Fk.low_le (c := Fk.cN n) L
  have HLO := Lib.hid (Fk.low_at (c := Fk.cN n) L)
  have HGE := Lib.hid (Fk.low_ge (c := Fk.cN n) L hm)
  obtain ⟨i, hi⟩ : ∃ i, Fk.low (Fk.cN n) L = i := ⟨_, rfl⟩
  obtain ⟨f, hf⟩ : ∃ f, (Fk.hit (Fk.cN n) L).isSome = f := ⟨_, rfl⟩
  rw [hi] at him HLO HGE HH ⊢
  rw [hf] at HH ⊢
  rw [hmm] at him hl HH ⊢
  have HM := Lib.hid hmm
  have HV := Lib.hid h
  have HR := Lib.hid (Below.refl w.heap.size w)
  clear hm hmm hi hf h
  go_enter Tryz.func76, Tryz.ntmps76
  go_wp2_with fail
  go_loopw [9, 10] (fun s9 s10 wr => ∃ lo hi : Nat, s9 = .int .i64 lo ∧ s10 = .int .i64 hi ∧ lo ≤ i ∧ i ≤ hi ∧ hi ≤ m ∧ Below w.heap.size w wr) (fun s9 s10 _ => (intOf s10).toNat - (intOf s9).toNat)
  case atStart => exact ⟨0, m, rfl, rfl, Nat.zero_le _, him, Nat.le_refl _, HR.out⟩
  case round =>
    obtain ⟨lo, hi, rfl, rfl, h1, h2, h3, hb⟩ := hrel
    have HB := Lib.hid hb
    by_cases hlt : lo < hi
    · obtain ⟨y, hy⟩ : ∃ y, L[(lo + hi) / 2]? = some y := ⟨_, List.getElem?_eq_getElem (by rw [HM.out]; omega)⟩
      obtain ⟨b, p, cap', mv, pv, ev, -, hbl, -, c0, c1, c2, c3, c4⟩ := (HV.out.below hb).at hy
      rw [HM.out] at ev
      obtain rfl : a = some ⟨b, p, none⟩ := by injection ev
      obtain ⟨z, hz⟩ : ∃ z, Fk.cN n y = z := ⟨_, rfl⟩
      have HC := Lib.hid (fun wx => clG y mv pv n wx)
      rw [hz] at HC
      have HY := Lib.hid hy
      have HZ := Lib.hid hz
      clear ev hy hz hb
      by_cases hzn : z < 0
      · have HI : Hid ((lo + hi) / 2 < i) := Lib.hid (by
          refine Nat.lt_of_not_le fun hge => ?_
          have := HGE.out _ _ hge HY.out
          rw [HZ.out] at this
          omega)
        go_wp2_with (go_at_call 74; refine (HC.out _).mono ?_; rintro e w1 ⟨rfl, hb1⟩; have HB1 := Lib.hid hb1; clear hb1)
        go_roundw
        case rel => exact ⟨(lo + hi) / 2 + 1, hi, by rw [show ((lo : Int) + (hi : Int)) / 2 + 1 = (((lo + hi) / 2 + 1 : Nat) : Int) by omega], rfl, HI.out, h2, h3, HB.out.trans (HB1.out.mono HB.out.size)⟩
        case measure => simp [intOf]; omega
      · have HI : Hid (i ≤ (lo + hi) / 2) := Lib.hid (by
          refine Nat.le_of_not_lt fun hlt' => ?_
          have := HLO.out _ _ hlt' HY.out
          rw [HZ.out] at this
          omega)
        go_wp2_with (go_at_call 74; refine (HC.out _).mono ?_; rintro e w1 ⟨rfl, hb1⟩; have HB1 := Lib.hid hb1; clear hb1)
        go_roundw
        case rel => exact ⟨lo, (lo + hi) / 2, rfl, by rw [show ((lo : Int) + (hi : Int)) / 2 = (((lo + hi) / 2 : Nat) : Int) by omega], h1, HI.out, by omega, HB.out.trans (HB1.out.mono HB.out.size)⟩
        case measure => simp [intOf]; omega
    · obtain rfl : lo = i := by omega
      obtain rfl : hi = lo := by omega
      by_cases hn : hi < m
      · obtain ⟨y, hy⟩ : ∃ y, L[hi]? = some y := ⟨_, List.getElem?_eq_getElem (by rw [HM.out]; omega)⟩
        obtain ⟨b, p, cap', mv, pv, ev, -, hbl, -, c0, c1, c2, c3, c4⟩ := (HV.out.below hb).at hy
        rw [HM.out] at ev
        obtain rfl : a = some ⟨b, p, none⟩ := by injection ev
        obtain ⟨z, hz⟩ : ∃ z, Fk.cN n y = z := ⟨_, rfl⟩
        have HC := Lib.hid (fun wx => clG y mv pv n wx)
        rw [hz] at HC
        have HF : Hid (f = decide (z = 0)) := Lib.hid (by rw [HH.out, decide_eq_true hn, hy]; simp only [Bool.true_and]; rw [hz])
        clear ev hy hz hb
        by_cases hz0 : z = 0
        · go_wp2_with (go_at_call 74; refine (HC.out _).mono ?_; rintro e w1 ⟨rfl, hb1⟩; have HB1 := Lib.hid hb1; clear hb1)
          go_ret2
          exact ⟨by rw [HF.out]; simp [hz0], HB.out.trans (HB1.out.mono HB.out.size)⟩
        · go_wp2_with (go_at_call 74; refine (HC.out _).mono ?_; rintro e w1 ⟨rfl, hb1⟩; have HB1 := Lib.hid hb1; clear hb1)
          go_ret2
          exact ⟨by rw [HF.out]; simp [hz0], HB.out.trans (HB1.out.mono HB.out.size)⟩
      · have HF : Hid (f = false) := Lib.hid (by rw [HH.out, decide_eq_false hn]; rfl)
        clear hb
        go_wp2_with fail
        go_ret2
        exact ⟨by rw [HF.out]; rfl, HB.out⟩
set_option maxHeartbeats 4000000 in
set_option maxRecDepth 100000 in
theorem bsS_any {A : Nat → Prop} (v : Value) (L : List ByteArray) (n : ByteArray) (w : World) (h : Nms A w v L) (hl : L.length ≤ 64) (hm : Fk.Mono (Fk.cS n) L) :
    Calls Tryz.prog 85 #[v, .string n, .func (.func 75) #[] #[]] w fun e w' => BsOut w (Fk.low (Fk.cS n) L) (Fk.hit (Fk.cS n) L).isSome e w' := by
  have HH := Lib.hid (Fk.hit_isSome (c := Fk.cS n) (l := L))
  obtain ⟨a, cap, rfl⟩ := h.form
  obtain ⟨m, hmm⟩ : ∃ m, L.length = m := ⟨_, rfl⟩
  have him := Fk.low_le (c := Fk.cS n) L
  have HLO := Lib.hid (Fk.low_at (c := Fk.cS n) L)
  have HGE := Lib.hid (Fk.low_ge (c := Fk.cS n) L hm)
  obtain ⟨i, hi⟩ : ∃ i, Fk.low (Fk.cS n) L = i := ⟨_, rfl⟩
  obtain ⟨f, hf⟩ : ∃ f, (Fk.hit (Fk.cS n) L).isSome = f := ⟨_, rfl⟩
  rw [hi] at him HLO HGE HH ⊢
  rw [hf] at HH ⊢
  rw [hmm] at him hl HH ⊢
  have HM := Lib.hid hmm
  have HV := Lib.hid h
  have HR := Lib.hid (Below.refl w.heap.size w)
  clear hm hmm hi hf h
  go_enter Tryz.func85, Tryz.ntmps85
  go_wp2_with fail
  go_loopw [9, 10] (fun s9 s10 wr => ∃ lo hi : Nat, s9 = .int .i64 lo ∧ s10 = .int .i64 hi ∧ lo ≤ i ∧ i ≤ hi ∧ hi ≤ m ∧ Below w.heap.size w wr) (fun s9 s10 _ => (intOf s10).toNat - (intOf s9).toNat)
  case atStart => exact ⟨0, m, rfl, rfl, Nat.zero_le _, him, Nat.le_refl _, HR.out⟩
  case round =>
    obtain ⟨lo, hi, rfl, rfl, h1, h2, h3, hb⟩ := hrel
    have HB := Lib.hid hb
    by_cases hlt : lo < hi
    · obtain ⟨y, hy⟩ : ∃ y, L[(lo + hi) / 2]? = some y := ⟨_, List.getElem?_eq_getElem (by rw [HM.out]; omega)⟩
      obtain ⟨b, p, cap', ev, -, hbl, c0⟩ := (HV.out.below hb).at hy
      rw [HM.out] at ev
      obtain rfl : a = some ⟨b, p, none⟩ := by injection ev
      obtain ⟨z, hz⟩ : ∃ z, Fk.cS n y = z := ⟨_, rfl⟩
      have HC := Lib.hid (fun wx => clS y n wx)
      rw [hz] at HC
      have HY := Lib.hid hy
      have HZ := Lib.hid hz
      clear ev hy hz hb
      by_cases hzn : z < 0
      · have HI : Hid ((lo + hi) / 2 < i) := Lib.hid (by
          refine Nat.lt_of_not_le fun hge => ?_
          have := HGE.out _ _ hge HY.out
          rw [HZ.out] at this
          omega)
        go_wp2_with (go_at_call 75; refine (HC.out _).mono ?_; rintro e w1 ⟨rfl, hb1⟩; have HB1 := Lib.hid hb1; clear hb1)
        go_roundw
        case rel => exact ⟨(lo + hi) / 2 + 1, hi, by rw [show ((lo : Int) + (hi : Int)) / 2 + 1 = (((lo + hi) / 2 + 1 : Nat) : Int) by omega], rfl, HI.out, h2, h3, HB.out.trans (HB1.out.mono HB.out.size)⟩
        case measure => simp [intOf]; omega
      · have HI : Hid (i ≤ (lo + hi) / 2) := Lib.hid (by
          refine Nat.le_of_not_lt fun hlt' => ?_
          have := HLO.out _ _ hlt' HY.out
          rw [HZ.out] at this
          omega)
        go_wp2_with (go_at_call 75; refine (HC.out _).mono ?_; rintro e w1 ⟨rfl, hb1⟩; have HB1 := Lib.hid hb1; clear hb1)
        go_roundw
        case rel => exact ⟨lo, (lo + hi) / 2, rfl, by rw [show ((lo : Int) + (hi : Int)) / 2 = (((lo + hi) / 2 : Nat) : Int) by omega], h1, HI.out, by omega, HB.out.trans (HB1.out.mono HB.out.size)⟩
        case measure => simp [intOf]; omega
    · obtain rfl : lo = i := by omega
      obtain rfl : hi = lo := by omega
      by_cases hn : hi < m
      · obtain ⟨y, hy⟩ : ∃ y, L[hi]? = some y := ⟨_, List.getElem?_eq_getElem (by rw [HM.out]; omega)⟩
        obtain ⟨b, p, cap', ev, -, hbl, c0⟩ := (HV.out.below hb).at hy
        rw [HM.out] at ev
        obtain rfl : a = some ⟨b, p, none⟩ := by injection ev
        obtain ⟨z, hz⟩ : ∃ z, Fk.cS n y = z := ⟨_, rfl⟩
        have HC := Lib.hid (fun wx => clS y n wx)
        rw [hz] at HC
        have HF : Hid (f = decide (z = 0)) := Lib.hid (by rw [HH.out, decide_eq_true hn, hy]; simp only [Bool.true_and]; rw [hz])
        clear ev hy hz hb
        by_cases hz0 : z = 0
        · go_wp2_with (go_at_call 75; refine (HC.out _).mono ?_; rintro e w1 ⟨rfl, hb1⟩; have HB1 := Lib.hid hb1; clear hb1)
          go_ret2
          exact ⟨by rw [HF.out]; simp [hz0], HB.out.trans (HB1.out.mono HB.out.size)⟩
        · go_wp2_with (go_at_call 75; refine (HC.out _).mono ?_; rintro e w1 ⟨rfl, hb1⟩; have HB1 := Lib.hid hb1; clear hb1)
          go_ret2
          exact ⟨by rw [HF.out]; simp [hz0], HB.out.trans (HB1.out.mono HB.out.size)⟩
      · have HF : Hid (f = false) := Lib.hid (by rw [HH.out, decide_eq_false hn]; rfl)
        clear hb
        go_wp2_with fail
        go_ret2
        exact ⟨by rw [HF.out]; rfl, HB.out⟩
set_option maxHeartbeats 4000000 in
set_option maxRecDepth 100000 in
theorem bsP_any {A : Nat → Prop} (v : Value) (L : List (Int × Int)) (n : Int) (w : World) (h : Pts A w v L) (hl : L.length ≤ 64) (hm : Fk.Mono (Fk.cP n) L) :
    Calls Tryz.prog 73 #[v, .int .i64 n, .func (.func 71) #[] #[]] w fun e w' => BsOut w (Fk.low (Fk.cP n) L) (Fk.hit (Fk.cP n) L).isSome e w' := by
  have HH := Lib.hid (Fk.hit_isSome (c := Fk.cP n) (l := L))
  obtain ⟨a, cap, rfl⟩ := h.form
  obtain ⟨m, hmm⟩ : ∃ m, L.length = m := ⟨_, rfl⟩
  have him := Fk.low_le (c := Fk.cP n) L
  have HLO := Lib.hid (Fk.low_at (c := Fk.cP n) L)
  have HGE := Lib.hid (Fk.low_ge (c := Fk.cP n) L hm)
  obtain ⟨i, hi⟩ : ∃ i, Fk.low (Fk.cP n) L = i := ⟨_, rfl⟩
  obtain ⟨f, hf⟩ : ∃ f, (Fk.hit (Fk.cP n) L).isSome = f := ⟨_, rfl⟩
  rw [hi] at him HLO HGE HH ⊢
  rw [hf] at HH ⊢
  rw [hmm] at him hl HH ⊢
  have HM := Lib.hid hmm
  have HV := Lib.hid h
  have HR := Lib.hid (Below.refl w.heap.size w)
  clear hm hmm hi hf h
  go_enter Tryz.func73, Tryz.ntmps73
  go_wp2_with fail
  go_loopw [9, 10] (fun s9 s10 wr => ∃ lo hi : Nat, s9 = .int .i64 lo ∧ s10 = .int .i64 hi ∧ lo ≤ i ∧ i ≤ hi ∧ hi ≤ m ∧ Below w.heap.size w wr) (fun s9 s10 _ => (intOf s10).toNat - (intOf s9).toNat)
  case atStart => exact ⟨0, m, rfl, rfl, Nat.zero_le _, him, Nat.le_refl _, HR.out⟩
  case round =>
    obtain ⟨lo, hi, rfl, rfl, h1, h2, h3, hb⟩ := hrel
    have HB := Lib.hid hb
    by_cases hlt : lo < hi
    · obtain ⟨y, hy⟩ : ∃ y, L[(lo + hi) / 2]? = some y := ⟨_, List.getElem?_eq_getElem (by rw [HM.out]; omega)⟩
      obtain ⟨b, p, cap', ev, -, hbl, c0, c1⟩ := (HV.out.below hb).at hy
      rw [HM.out] at ev
      obtain rfl : a = some ⟨b, p, none⟩ := by injection ev
      obtain ⟨z, hz⟩ : ∃ z, Fk.cP n y = z := ⟨_, rfl⟩
      have HC := Lib.hid (fun wx => clP y n wx)
      rw [hz] at HC
      have HY := Lib.hid hy
      have HZ := Lib.hid hz
      clear ev hy hz hb
      by_cases hzn : z < 0
      · have HI : Hid ((lo + hi) / 2 < i) := Lib.hid (by
          refine Nat.lt_of_not_le fun hge => ?_
          have := HGE.out _ _ hge HY.out
          rw [HZ.out] at this
          omega)
        go_wp2_with (go_at_call 71; refine (HC.out _).mono ?_; rintro e w1 ⟨rfl, hb1⟩; have HB1 := Lib.hid hb1; clear hb1)
        go_roundw
        case rel => exact ⟨(lo + hi) / 2 + 1, hi, by rw [show ((lo : Int) + (hi : Int)) / 2 + 1 = (((lo + hi) / 2 + 1 : Nat) : Int) by omega], rfl, HI.out, h2, h3, HB.out.trans (HB1.out.mono HB.out.size)⟩
        case measure => simp [intOf]; omega
      · have HI : Hid (i ≤ (lo + hi) / 2) := Lib.hid (by
          refine Nat.le_of_not_lt fun hlt' => ?_
          have := HLO.out _ _ hlt' HY.out
          rw [HZ.out] at this
          omega)
        go_wp2_with (go_at_call 71; refine (HC.out _).mono ?_; rintro e w1 ⟨rfl, hb1⟩; have HB1 := Lib.hid hb1; clear hb1)
        go_roundw
        case rel => exact ⟨lo, (lo + hi) / 2, rfl, by rw [show ((lo : Int) + (hi : Int)) / 2 = (((lo + hi) / 2 : Nat) : Int) by omega], h1, HI.out, by omega, HB.out.trans (HB1.out.mono HB.out.size)⟩
        case measure => simp [intOf]; omega
    · obtain rfl : lo = i := by omega
      obtain rfl : hi = lo := by omega
      by_cases hn : hi < m
      · obtain ⟨y, hy⟩ : ∃ y, L[hi]? = some y := ⟨_, List.getElem?_eq_getElem (by rw [HM.out]; omega)⟩
        obtain ⟨b, p, cap', ev, -, hbl, c0, c1⟩ := (HV.out.below hb).at hy
        rw [HM.out] at ev
        obtain rfl : a = some ⟨b, p, none⟩ := by injection ev
        obtain ⟨z, hz⟩ : ∃ z, Fk.cP n y = z := ⟨_, rfl⟩
        have HC := Lib.hid (fun wx => clP y n wx)
        rw [hz] at HC
        have HF : Hid (f = decide (z = 0)) := Lib.hid (by rw [HH.out, decide_eq_true hn, hy]; simp only [Bool.true_and]; rw [hz])
        clear ev hy hz hb
        by_cases hz0 : z = 0
        · go_wp2_with (go_at_call 71; refine (HC.out _).mono ?_; rintro e w1 ⟨rfl, hb1⟩; have HB1 := Lib.hid hb1; clear hb1)
          go_ret2
          exact ⟨by rw [HF.out]; simp [hz0], HB.out.trans (HB1.out.mono HB.out.size)⟩
        · go_wp2_with (go_at_call 71; refine (HC.out _).mono ?_; rintro e w1 ⟨rfl, hb1⟩; have HB1 := Lib.hid hb1; clear hb1)
          go_ret2
          exact ⟨by rw [HF.out]; simp [hz0], HB.out.trans (HB1.out.mono HB.out.size)⟩
      · have HF : Hid (f = false) := Lib.hid (by rw [HH.out, decide_eq_false hn]; rfl)
        clear hb
        go_wp2_with fail
        go_ret2
        exact ⟨by rw [HF.out]; rfl, HB.out⟩
end Go.Proofs.YtjccfilbihkfpaaGreatDoor

/- THE CONTRACTS OF place, find, findMember, findPoint. -/
namespace Go.Proofs.YtjccfilbihkfpaaGreatDoor
open Go.RowKit

set_option maxHeartbeats 1000000 in
set_option maxRecDepth 100000 in
theorem place_any {A : Nat → Prop} (v : Value) (L : List Fk.G) (n : ByteArray) (w : World) (h : GsR A w v L) (hl : L.length ≤ 64) (hm : Fk.Mono (Fk.cN n) L) :
    Calls Tryz.prog 38 #[v, .string n] w fun e w' => BsOut w (Fk.low (Fk.cN n) L) (Fk.fnd L n).isSome e w' := by
  have C := Lib.hid (bsG_any v L n w h hl hm)
  have e : Fk.fnd L n = Fk.hit (Fk.cN n) L := rfl
  rw [e]
  obtain ⟨i, hi⟩ : ∃ i, Fk.low (Fk.cN n) L = i := ⟨_, rfl⟩
  obtain ⟨f, hf⟩ : ∃ f, (Fk.hit (Fk.cN n) L).isSome = f := ⟨_, rfl⟩
  obtain ⟨a, cap, rfl⟩ := h.form
  obtain ⟨m, hmm⟩ : ∃ m, L.length = m := ⟨_, rfl⟩
  rw [hi, hf, hmm] at C
  rw [hi, hf, hmm]
  clear hi hf hmm h hl hm e
  go_enter Tryz.func38, Tryz.ntmps38
  go_wp2_with (go_at_call 76; refine C.out.mono ?_; rintro e w' ⟨rfl, hb⟩)
  go_ret2
  exact ⟨rfl, hb⟩
theorem GvAt.zero (A : Nat → Prop) (w : World) : GvAt A w (.agg #[.string ⟨#[]⟩, .int .i64 0, .int .i64 0, .slice none 0 0, .slice none 0 0]) Fk.zeroG := ⟨_, _, rfl, Nms.nil A w, Rds.nil A w 2⟩
/-- What find answers. -/
def FndOut (A : Nat → Prop) (w : World) (g : Fk.G) (f : Bool) (e : Ending) (w' : World) : Prop := ∃ gv, e = .returned (.tuple #[gv, .bool f]) ∧ GvAt A w' gv g ∧ Below w.heap.size w w'
theorem undFlock' : (Tryz.prog.underlying 44).map (fun d => match d with | .struct _ | .array _ _ => true | _ => false) = some true := by kernel_rfl
theorem sizeFlock : (Tryz.prog.info? 44).map (·.size) = some 5 := by kernel_rfl
theorem undFlock : ∃ d, Tryz.prog.underlying 44 = some d ∧ (match d with | .struct _ | .array _ _ => true | _ => false) = true := by
  have h := undFlock'
  cases hd : Tryz.prog.underlying 44 with
  | none => rw [hd] at h; cases h
  | some d => rw [hd] at h; exact ⟨d, rfl, Option.some.inj h⟩
theorem find_ret {W : World} {rb : Nat} {a0 a1 a2 a3 a4 n : Value} {tmps : Array Value} (hb : Blk W rb #[a0, a1, a2, a3, a4] 44) (h2 : tmps.getD 4 undef = .pointer (some ⟨rb, 0, none⟩)) (h3 : tmps.getD 5 undef = n) :
    (results Tryz.f32 tmps).run Tryz.prog W = .ok (.tuple #[.agg #[a0, a1, a2, a3, a4], n]) W := by
  obtain ⟨d, hd, hs⟩ := undFlock
  rw [results_cell_tmp (p := 4) (u := 5) (ty := 44) rfl, h2, h3]
  have hl := run_loadVar_row (P := Tryz.prog) W rb 44 44 #[a0, a1, a2, a3, a4] (0, 0) d hb hd (by cases d <;> exact hs) sizeFlock
  simp [asAddr, hl]
set_option maxHeartbeats 2000000 in
set_option maxRecDepth 100000 in
theorem find_any {A : Nat → Prop} (v : Value) (L : List Fk.G) (n : ByteArray) (w : World) (h : GsR A w v L) (hA : ∀ b, A b → b < w.heap.size) (hl : L.length ≤ 64) (hm : Fk.Mono (Fk.cN n) L) :
    Calls Tryz.prog 32 #[v, .string n] w fun e w' => FndOut A w (Fk.fndD L n) (Fk.fnd L n).isSome e w' := by
  obtain ⟨W1, hW1⟩ : ∃ W, w.alloc (.cells #[.string ⟨#[]⟩, .int .i64 0, .int .i64 0, .slice none 0 0, .slice none 0 0] 44) = W := ⟨_, rfl⟩
  have hB1 : Below w.heap.size w W1 := by rw [← hW1]; exact (Below.refl _ _).alloc (Nat.le_refl _) _
  have hk1 : Blk W1 w.heap.size #[.string ⟨#[]⟩, .int .i64 0, .int .i64 0, .slice none 0 0, .slice none 0 0] 44 := by rw [← hW1]; exact Blk.new _ _ _
  have C := Lib.hid (place_any v L n W1 (h.below hB1) hl hm)
  obtain ⟨i, hi⟩ : ∃ i, Fk.low (Fk.cN n) L = i := ⟨_, rfl⟩
  have HV := Lib.hid h
  have HB1 := Lib.hid hB1
  have HK1 := Lib.hid hk1
  have HA := Lib.hid hA
  obtain ⟨a, cap, rfl⟩ := h.form
  obtain ⟨m, hmm⟩ : ∃ m, L.length = m := ⟨_, rfl⟩
  rw [hi] at C
  rw [hmm] at C HV ⊢
  have HM := Lib.hid hmm
  clear h hl hm hB1 hmm hA
  cases hf : Fk.fnd L n with
  | none =>
    have hd : Fk.fndD L n = Fk.zeroG := by unfold Fk.fndD; rw [hf]; rfl
    rw [hf] at C
    rw [hd]
    have hn : (none : Option Fk.G).isSome = false := rfl
    rw [hn] at C ⊢
    clear hd hi hf hk1 hn
    go_enter Tryz.func32, Tryz.ntmps32
    go_wp2_with fail
    refine C.out.mono ?_
    rintro e w2 ⟨rfl, hb2⟩
    have HB2 := Lib.hid hb2
    have hk2 := HK1.out.below hb2
    obtain ⟨c0, c1, c2, c3, c4⟩ := hk2.cells5
    have f0 := hk2.free (i := 0)
    have f1 := hk2.free (i := 1)
    have f2 := hk2.free (i := 2)
    have f3 := hk2.free (i := 3)
    have f4 := hk2.free (i := 4)
    have HK2 := Lib.hid hk2
    clear hb2 C hk2
    go_wp2_with fail
    refine bodyPost_ret (find_ret (HK2.out.five _ _ _ _ _) rfl rfl) rfl ⟨_, rfl, GvAt.zero _ _, ?_⟩
    exact (five_kb _ _ _ _ _ _ _).low (HB1.out.trans (HB2.out.mono HB1.out.size)) (Nat.le_refl _) HK2.out.lt
  | some g =>
    have hd : Fk.fndD L n = g := by unfold Fk.fndD; rw [hf]; rfl
    rw [hf] at C
    rw [hd]
    have hn : (some g).isSome = true := rfl
    rw [hn] at C ⊢
    obtain ⟨hg, -⟩ := Fk.fnd_some hf
    rw [hi] at hg
    have hil : i < m := by rw [← HM.out]; exact (List.getElem?_eq_some_iff.1 hg).1
    have HG := Lib.hid hg
    clear hd hi hf hk1 hn hg
    go_enter Tryz.func32, Tryz.ntmps32
    go_wp2_with fail
    refine C.out.mono ?_
    rintro e w2 ⟨rfl, hb2⟩
    have HB2 := Lib.hid hb2
    have HBW := Lib.hid (HB1.out.trans (hb2.mono HB1.out.size))
    have hv2 := HV.out.below HBW.out
    rw [← HM.out] at hv2
    obtain ⟨b, p, cap', mv, pv, ev, -, hbl, hen, d0, d1, d2, d3, d4⟩ := hv2.at HG.out
    rw [HM.out] at ev
    obtain rfl : a = some ⟨b, p, none⟩ := by injection ev
    obtain ⟨ma, mc, rfl⟩ := hen.1.form
    obtain ⟨pa, pc, rfl⟩ := hen.2.form
    have HEN := Lib.hid hen
    have hk2 := HK1.out.below hb2
    obtain ⟨c0, c1, c2, c3, c4⟩ := hk2.cells5
    have f0 := hk2.free (i := 0)
    have f1 := hk2.free (i := 1)
    have f2 := hk2.free (i := 2)
    have f3 := hk2.free (i := 3)
    have f4 := hk2.free (i := 4)
    have HK2 := Lib.hid hk2
    have i0 : (0 : Int) ≤ (i : Int) := by omega
    have i1 : (i : Int) < (m : Int) := by omega
    clear hb2 C hk2 hv2 ev hen
    go_wp2_with fail
    have HF := HK2.out.five (.string g.name) (.int .i64 g.gen) (.int .i64 g.parts) (.slice ma g.mem.length mc) (.slice pa g.pts.length pc)
    refine bodyPost_ret (find_ret HF rfl rfl) rfl ?_
    exact ⟨_, rfl, ⟨_, _, rfl, HEN.out.kb (five_kb _ _ _ _ _ _ _) fun c hc _ e => by have := HA.out c hc; omega⟩, (five_kb _ _ _ _ _ _ _).low HBW.out (Nat.le_refl _) HK2.out.lt⟩
set_option maxHeartbeats 1000000 in
set_option maxRecDepth 100000 in
theorem findMember_any {A : Nat → Prop} (gv : Value) (g : Fk.G) (n : ByteArray) (w : World) (h : GvAt A w gv g) (hl : g.mem.length ≤ 64) (hm : Fk.Mono (Fk.cS n) g.mem) :
    Calls Tryz.prog 64 #[gv, .string n] w fun e w' => BsOut w (Fk.low (Fk.cS n) g.mem) (Fk.hit (Fk.cS n) g.mem).isSome e w' := by
  obtain ⟨mv, pv, rfl, h1, -⟩ := h
  obtain ⟨nm, gen, parts, mem, pts⟩ := g
  simp only at h1 hl hm ⊢
  obtain ⟨W1, hW1⟩ : ∃ W, w.alloc (.cells #[.string nm, .int .i64 gen, .int .i64 parts, mv, pv] 44) = W := ⟨_, rfl⟩
  have hB1 : Below w.heap.size w W1 := by rw [← hW1]; exact (Below.refl _ _).alloc (Nat.le_refl _) _
  have hk1 : Blk W1 w.heap.size #[.string nm, .int .i64 gen, .int .i64 parts, mv, pv] 44 := by rw [← hW1]; exact Blk.new _ _ _
  have C := Lib.hid (bsS_any mv mem n W1 (h1.below hB1) hl hm)
  obtain ⟨i, hi⟩ : ∃ i, Fk.low (Fk.cS n) mem = i := ⟨_, rfl⟩
  obtain ⟨f, hf⟩ : ∃ f, (Fk.hit (Fk.cS n) mem).isSome = f := ⟨_, rfl⟩
  rw [hi, hf] at C
  rw [hi, hf]
  have HB1 := Lib.hid hB1
  have c3 := hk1.cell (i := 3) rfl
  clear hi hf h1 hl hm hB1 hk1
  go_enter Tryz.func64, Tryz.ntmps64
  go_wp2_with (go_at_call 85; refine C.out.mono ?_; rintro e w' ⟨rfl, hb⟩)
  go_ret2
  exact ⟨rfl, HB1.out.trans (hb.mono HB1.out.size)⟩
set_option maxHeartbeats 1000000 in
set_option maxRecDepth 100000 in
theorem findPoint_any {A : Nat → Prop} (gv : Value) (g : Fk.G) (n : Int) (w : World) (h : GvAt A w gv g) (hl : g.pts.length ≤ 64) (hm : Fk.Mono (Fk.cP n) g.pts) :
    Calls Tryz.prog 36 #[gv, .int .i64 n] w fun e w' => BsOut w (Fk.low (Fk.cP n) g.pts) (Fk.hit (Fk.cP n) g.pts).isSome e w' := by
  obtain ⟨mv, pv, rfl, -, h1⟩ := h
  obtain ⟨nm, gen, parts, mem, pts⟩ := g
  simp only at h1 hl hm ⊢
  obtain ⟨W1, hW1⟩ : ∃ W, w.alloc (.cells #[.string nm, .int .i64 gen, .int .i64 parts, mv, pv] 44) = W := ⟨_, rfl⟩
  have hB1 : Below w.heap.size w W1 := by rw [← hW1]; exact (Below.refl _ _).alloc (Nat.le_refl _) _
  have hk1 : Blk W1 w.heap.size #[.string nm, .int .i64 gen, .int .i64 parts, mv, pv] 44 := by rw [← hW1]; exact Blk.new _ _ _
  have C := Lib.hid (bsP_any pv pts n W1 (h1.below hB1) hl hm)
  obtain ⟨i, hi⟩ : ∃ i, Fk.low (Fk.cP n) pts = i := ⟨_, rfl⟩
  obtain ⟨f, hf⟩ : ∃ f, (Fk.hit (Fk.cP n) pts).isSome = f := ⟨_, rfl⟩
  rw [hi, hf] at C
  rw [hi, hf]
  have HB1 := Lib.hid hB1
  have c4 := hk1.cell (i := 4) rfl
  clear hi hf h1 hl hm hB1 hk1
  go_enter Tryz.func36, Tryz.ntmps36
  go_wp2_with (go_at_call 73; refine C.out.mono ?_; rintro e w' ⟨rfl, hb⟩)
  go_ret2
  exact ⟨rfl, HB1.out.trans (hb.mono HB1.out.size)⟩
end Go.Proofs.YtjccfilbihkfpaaGreatDoor
