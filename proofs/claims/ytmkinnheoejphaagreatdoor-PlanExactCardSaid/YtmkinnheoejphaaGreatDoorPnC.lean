/- THE SMALL CONTRACTS of plan: isEpoch, isLayout, isEvent; Index, Contains. -/
import Derived.Test.YtmkinnheoejphaaGreatDoorPnM

import Derived.WalkKit
import Derived.Lib.Hide
import Derived.Deep.QuietTactic
import Derived.BigQuiet
import Derived.Deep.RegionHeld3
import Derived.Deep.DrawnRows
import Derived.Deep.CutBlock
import Derived.Deep.CutRange
namespace Go.Proofs.YtmkinnheoejphaaGreatDoor
open Go.RowKit

def SmeOut (w : World) (b : Bool) (e : Ending) (w' : World) : Prop := e = .returned (.bool b) ∧ w' = w
def BolOut (w : World) (b : Bool) (e : Ending) (w' : World) : Prop := e = .returned (.bool b) ∧ Below w.heap.size w w'
def NumOut (w : World) (n : Int) (e : Ending) (w' : World) : Prop := e = .returned (.int .i64 n) ∧ Below w.heap.size w w'

theorem epoch_any (n : Int) (w : World) : Calls Tryz.prog 40 #[.int .i64 n] w fun e w' => SmeOut w (Pn.epB n) e w' := by
  by_cases h0 : 1 ≤ n
  case neg =>
    have e : Pn.epB n = false := by unfold Pn.epB; simp; omega
    rw [e]
    clear e
    go_enter Tryz.func40, Tryz.ntmps40
    go_wp2_with fail
    go_ret
    exact ⟨rfl, rfl⟩
  by_cases h1 : n ≤ 1073741824
  case neg =>
    have e : Pn.epB n = false := by unfold Pn.epB; simp; omega
    rw [e]
    clear e
    go_enter Tryz.func40, Tryz.ntmps40
    go_wp2_with fail
    go_ret
    exact ⟨rfl, rfl⟩
  have e : Pn.epB n = true := by unfold Pn.epB; simp; omega
  rw [e]
  clear e
  go_enter Tryz.func40, Tryz.ntmps40
  go_wp2_with fail
  go_ret
  exact ⟨rfl, rfl⟩
set_option maxRecDepth 100000 in
theorem layout_any (n c m : Int) (w : World) : Calls Tryz.prog 37 #[.int .i64 n, .int .i64 c, .int .i64 m] w fun e w' => SmeOut w (Pn.layB n c m) e w' := by
  by_cases h0 : 1 ≤ n
  case neg =>
    have e : Pn.layB n c m = false := by unfold Pn.layB; simp; omega
    rw [e]
    clear e
    go_enter Tryz.func37, Tryz.ntmps37
    go_wp2_with fail
    go_ret
    exact ⟨rfl, rfl⟩
  by_cases h1 : n ≤ 5
  case neg =>
    have e : Pn.layB n c m = false := by unfold Pn.layB; simp; omega
    rw [e]
    clear e
    go_enter Tryz.func37, Tryz.ntmps37
    go_wp2_with fail
    go_ret
    exact ⟨rfl, rfl⟩
  by_cases h2 : 1 ≤ c
  case neg =>
    have e : Pn.layB n c m = false := by unfold Pn.layB; simp; omega
    rw [e]
    clear e
    go_enter Tryz.func37, Tryz.ntmps37
    go_wp2_with fail
    go_ret
    exact ⟨rfl, rfl⟩
  by_cases h3 : c ≤ n
  case neg =>
    have e : Pn.layB n c m = false := by unfold Pn.layB; simp; omega
    rw [e]
    clear e
    go_enter Tryz.func37, Tryz.ntmps37
    go_wp2_with fail
    go_ret
    exact ⟨rfl, rfl⟩
  by_cases h4 : 2 ≤ m
  case neg =>
    have e : Pn.layB n c m = false := by unfold Pn.layB; simp; omega
    rw [e]
    clear e
    go_enter Tryz.func37, Tryz.ntmps37
    go_wp2_with fail
    go_ret
    exact ⟨rfl, rfl⟩
  by_cases h5 : m ≤ 4
  case neg =>
    have e : Pn.layB n c m = false := by unfold Pn.layB; simp; omega
    rw [e]
    clear e
    go_enter Tryz.func37, Tryz.ntmps37
    go_wp2_with fail
    go_ret
    exact ⟨rfl, rfl⟩
  have e : Pn.layB n c m = true := by unfold Pn.layB; simp; omega
  rw [e]
  clear e
  go_enter Tryz.func37, Tryz.ntmps37
  go_wp2_with fail
  go_ret
  exact ⟨rfl, rfl⟩
theorem Pn.ix_at : ∀ (l : List Int) (i : Nat) (n : Int), l[i]? = some n → (∀ j x, j < i → l[j]? = some x → x ≠ n) → l.idxOf n = i
  | [], i, n, h, _ => by simp at h
  | a :: l, 0, n, h, _ => by simp at h; simp [h]
  | a :: l, i + 1, n, h, k => by
    have h0 := k 0 a (by omega) rfl
    have ih := Pn.ix_at l i n (by simpa using h) fun j x hj hx => k (j + 1) x (by omega) (by simpa using hx)
    have e : (a == n) = false := by simpa using h0
    simp [List.idxOf_cons, e, ih]
def Pn.ixI (l : List Int) (n : Int) : Int := if l.contains n = true then (l.idxOf n : Int) else -1
theorem Pn.has_at {l : List Int} {i : Nat} {n : Int} (h : l[i]? = some n) : l.contains n = true := by
  rw [List.contains_iff_mem]
  exact List.mem_of_getElem? h
theorem Pn.has_not {l : List Int} {n : Int} (h : ∀ (j : Nat) (x : Int), l[j]? = some x → x ≠ n) : l.contains n = false := by
  rcases hb : l.contains n with _ | _
  · rfl
  · obtain ⟨i, hi, e⟩ := List.getElem_of_mem (List.contains_iff_mem.1 hb)
    exact absurd e (h i _ (List.getElem?_eq_getElem hi))
def IxOut (w : World) (n : Int) (e : Ending) (w' : World) : Prop := e = .returned (.int .i64 n) ∧ w' = w
set_option maxHeartbeats 1000000 in
set_option maxRecDepth 100000 in
theorem index_any {A : Nat → Prop} (v : Value) (l : List Int) (n : Int) (w : World) (h : Ns A w v l) (hl : l.length ≤ 64) : Calls Tryz.prog 62 #[v, .int .i64 n] w fun e w' => IxOut w (Pn.ixI l n) e w' := by
  obtain ⟨a, cap, rfl⟩ := h.form
  obtain ⟨D, hD⟩ : ∃ D, Pn.ixI l n = D := ⟨_, rfl⟩
  rw [hD]
  have HD := Lib.hid hD
  obtain ⟨m, hm⟩ : ∃ m, l.length = m := ⟨_, rfl⟩
  have HM := Lib.hid hm
  have HV := Lib.hid h
  rw [hm] at HV hl ⊢
  clear h hm hD
  go_enter Tryz.func62, Tryz.ntmps62
  go_wp2_with fail
  go_loop [5, 8] (fun _ s8 => ∃ i : Nat, i ≤ m ∧ s8 = .int .i64 i ∧ ∀ j x, j < i → l[j]? = some x → x ≠ n) (fun _ s8 => m - (intOf s8).toNat)
  case atStart => exact ⟨0, Nat.zero_le _, rfl, fun j x hj => absurd hj (Nat.not_lt_zero _)⟩
  case round =>
    obtain ⟨i, hi, rfl, hno⟩ := hrel
    have HNO := Lib.hid hno
    clear hno
    by_cases hlt : i < m
    · obtain ⟨x, hx⟩ : ∃ x, l[i]? = some x := ⟨_, List.getElem?_eq_getElem (by rw [HM.out]; exact hlt)⟩
      have hv := HV.out
      rw [← HM.out] at hv
      obtain ⟨b, p, cap', ev, -, hbl, e0⟩ := hv.at hx
      rw [HM.out] at ev
      obtain rfl : a = some ⟨b, p, none⟩ := by injection ev
      have HX := Lib.hid hx
      have i0 : (0 : Int) ≤ (i : Int) := by omega
      have i1 : (i : Int) < (m : Int) := by omega
      clear ev hx hv
      by_cases he : n = x
      · have HT : Hid (D = (i : Int)) := Lib.hid (by
          rw [← HD.out]
          unfold Pn.ixI
          rw [if_pos (Pn.has_at (by rw [HX.out, he])), Pn.ix_at l i n (by rw [HX.out, he]) HNO.out])
        subst he
        go_wp2_with fail
        go_ret
        exact ⟨by rw [HT.out]; rfl, rfl⟩
      · have HNX : Hid (∀ j z, j < i + 1 → l[j]? = some z → z ≠ n) := Lib.hid fun j z hj hz => by
          rcases Nat.lt_or_ge j i with h | h
          · exact HNO.out j z h hz
          · obtain rfl : j = i := by omega
            rw [HX.out] at hz
            obtain rfl := Option.some.inj hz
            exact fun h => he h.symm
        have hne : (n == x) = false := by simp [he]
        clear he
        go_wp2_with fail
        go_round
        case rel => exact ⟨i + 1, by omega, by go_num, HNX.out⟩
        case measure => simp [intOf]; omega
    · have HT : Hid (D = -1) := Lib.hid (by
        rw [← HD.out]
        unfold Pn.ixI
        rw [if_neg]
        rw [Pn.has_not fun j x hx => HNO.out j x (by have := (List.getElem?_eq_some_iff.1 hx).1; rw [HM.out] at this; omega) hx]
        exact Bool.false_ne_true)
      go_wp2_with fail
      go_ret
      exact ⟨by rw [HT.out]; rfl, rfl⟩
theorem Pn.ix_has {l : List Int} {n : Int} : decide (0 ≤ Pn.ixI l n) = l.contains n := by
  unfold Pn.ixI
  split
  · rename_i h
    rw [h]
    exact decide_eq_true (Int.natCast_nonneg _)
  · rename_i h
    cases hb : l.contains n with
    | true => exact absurd hb h
    | false => rfl
set_option maxHeartbeats 1000000 in
set_option maxRecDepth 100000 in
theorem contains_any {A : Nat → Prop} (v : Value) (l : List Int) (n : Int) (w : World) (h : Ns A w v l) (hl : l.length ≤ 64) : Calls Tryz.prog 30 #[v, .int .i64 n] w fun e w' => SmeOut w (l.contains n) e w' := by
  have HI := Lib.hid (index_any v l n w h hl)
  have HX := Lib.hid (Pn.ix_has (l := l) (n := n))
  obtain ⟨D, hD⟩ : ∃ D, Pn.ixI l n = D := ⟨_, rfl⟩
  obtain ⟨B, hB⟩ : ∃ B, l.contains n = B := ⟨_, rfl⟩
  rw [hD, hB] at HX
  rw [hD] at HI
  rw [hB]
  clear h hD hB
  go_enter Tryz.func30, Tryz.ntmps30
  go_wp2_with fail
  refine HI.out.mono ?_
  rintro e w1 ⟨rfl, rfl⟩
  go_wp2_with fail
  go_ret
  exact ⟨by rw [← HX.out]; rfl, rfl⟩
set_option maxHeartbeats 1000000 in
set_option maxRecDepth 100000 in
/-- Whether it is an event. -/
theorem event_any (x : Pn.Ev) (w : World) : Calls Tryz.prog 23 #[.agg #[.int .i64 x.kind, .int .i64 x.node, .int .i64 x.part, .int .i64 x.n]] w fun e w' => BolOut w (Pn.evB x) e w' := by
  obtain ⟨kd, nd, pt, n⟩ := x
  obtain ⟨W1, hW1⟩ : ∃ W, w.alloc (.cells #[.int .i64 kd, .int .i64 nd, .int .i64 pt, .int .i64 n] 27) = W := ⟨_, rfl⟩
  have hB1 : Below w.heap.size w W1 := by rw [← hW1]; exact (Below.refl _ _).alloc (Nat.le_refl _) _
  have hk1 : Blk W1 w.heap.size #[.int .i64 kd, .int .i64 nd, .int .i64 pt, .int .i64 n] 27 := by rw [← hW1]; exact Blk.new _ _ _
  have HB1 := Lib.hid hB1
  have c0 : W1.cell? ⟨w.heap.size, 0, none⟩ = some (.int .i64 kd) := hk1.cell rfl
  have c1 : W1.cell? ⟨w.heap.size, 1, none⟩ = some (.int .i64 nd) := hk1.cell rfl
  have c2 : W1.cell? ⟨w.heap.size, 2, none⟩ = some (.int .i64 pt) := hk1.cell rfl
  have c3 : W1.cell? ⟨w.heap.size, 3, none⟩ = some (.int .i64 n) := hk1.cell rfl
  have HE := Lib.hid (epoch_any n W1)
  obtain ⟨E, hE⟩ : ∃ E, Pn.epB n = E := ⟨_, rfl⟩
  rw [hE] at HE
  obtain ⟨D, hD⟩ : ∃ D, Pn.evB ⟨kd, nd, pt, n⟩ = D := ⟨_, rfl⟩
  have HD : Hid (D = if kd = 1 then decide (1 ≤ nd) && decide (nd ≤ 5) && decide (pt = 0) && E
  else if kd = 2 then decide (1 ≤ nd) && decide (nd ≤ 5) && decide (pt = 0) && decide (n = 0)
  else if kd = 3 then decide (1 ≤ nd) && decide (nd ≤ 5) && decide (0 ≤ pt) && decide (pt < 4) && E
  else if kd = 4 then decide (nd = 0) && decide (pt = 0) && decide (n = 0)
  else if kd = 5 then decide (1 ≤ nd) && decide (nd ≤ 5) && decide (0 ≤ pt) && decide (pt < 4) && decide (n = 0)
  else false) := Lib.hid (by rw [← hD, ← hE]; rfl)
  rw [hD]
  clear hB1 hk1 hE hD
  go_enter Tryz.func23, Tryz.ntmps23
  go_upto_region 1 with fail
  go_cut [3] from 5 to 12 (fun s wx => s = .bool (decide (1 ≤ nd) && decide (nd ≤ 5)) ∧ wx = W1)
  case first =>
    by_cases h1 : 1 ≤ nd
    · by_cases h2 : nd ≤ 5
      · go_wp2_with fail
        go_meet
        case rel => exact ⟨by simp <;> omega, rfl⟩
      · go_wp2_with fail
        go_meet
        case rel => exact ⟨by simp <;> omega, rfl⟩
    · go_wp2_with fail
      go_meet
      case rel => exact ⟨by simp <;> omega, rfl⟩
  case rest =>
  obtain ⟨hs3, hw⟩ := hcut
  obtain ⟨N, hN⟩ : ∃ b, (decide (1 ≤ nd) && decide (nd ≤ 5)) = b := ⟨_, rfl⟩
  rw [hN] at hs3 HD
  subst hs3
  have hw' : W1 = wc := hw.symm
  subst hw'
  clear hw hN
  go_upto_region 2 with fail
  go_cut [4] from 13 to 20 (fun s wx => s = .bool (decide (0 ≤ pt) && decide (pt < 4)) ∧ wx = W1)
  case first =>
    by_cases h1 : 0 ≤ pt
    · by_cases h2 : pt < 4
      · go_wp2_with fail
        go_meet
        case rel => exact ⟨by simp <;> omega, rfl⟩
      · go_wp2_with fail
        go_meet
        case rel => exact ⟨by simp <;> omega, rfl⟩
    · go_wp2_with fail
      go_meet
      case rel => exact ⟨by simp <;> omega, rfl⟩
  case rest =>
  obtain ⟨hs4, hw⟩ := hcut
  obtain ⟨T, hT⟩ : ∃ b, (decide (0 ≤ pt) && decide (pt < 4)) = b := ⟨_, rfl⟩
  have HT := Lib.hid hT
  rw [hT] at hs4
  subst hs4
  have hw' : W1 = wc := hw.symm
  subst hw'
  clear hw hT
  by_cases k1 : kd = 1
  · subst k1
    have HD1 : Hid (D = (N && decide (pt = 0) && E)) := Lib.hid (by rw [HD.out, if_pos rfl])
    clear HD HT
    cases N with
    | false =>
      go_wp2_with fail
      go_ret
      exact ⟨by rw [HD1.out]; rfl, HB1.out⟩
    | true =>
      by_cases h2 : pt = 0
      · subst h2
        go_wp2_with fail
        refine HE.out.mono ?_
        rintro e w2 ⟨rfl, rfl⟩
        go_wp2_with fail
        go_ret
        exact ⟨by rw [HD1.out]; simp, HB1.out⟩
      · have h3 : (pt == 0) = false := by simp [h2]
        have HD2 : Hid (D = false) := Lib.hid (by rw [HD1.out]; simp [h2])
        clear h2
        go_wp2_with fail
        go_ret
        exact ⟨by rw [HD2.out]; rfl, HB1.out⟩
  have j1 : (kd == 1) = false := by simp [k1]
  by_cases k2 : kd = 2
  · subst k2
    have HD1 : Hid (D = (N && decide (pt = 0) && decide (n = 0))) := Lib.hid (by rw [HD.out, if_neg (by decide), if_pos rfl])
    clear HD HT
    cases N with
    | false =>
      go_wp2_with fail
      go_ret
      exact ⟨by rw [HD1.out]; rfl, HB1.out⟩
    | true =>
      by_cases h2 : pt = 0
      · subst h2
        by_cases h4 : n = 0
        · subst h4
          go_wp2_with fail
          go_ret
          exact ⟨by rw [HD1.out]; rfl, HB1.out⟩
        · have h5 : (n == 0) = false := by simp [h4]
          have HD2 : Hid (D = false) := Lib.hid (by rw [HD1.out]; simp [h4])
          clear h4
          go_wp2_with fail
          go_ret
          exact ⟨by rw [HD2.out]; rfl, HB1.out⟩
      · have h3 : (pt == 0) = false := by simp [h2]
        have HD2 : Hid (D = false) := Lib.hid (by rw [HD1.out]; simp [h2])
        clear h2
        go_wp2_with fail
        go_ret
        exact ⟨by rw [HD2.out]; rfl, HB1.out⟩
  have j2 : (kd == 2) = false := by simp [k2]
  by_cases k3 : kd = 3
  · subst k3
    have HD1 : Hid (D = (N && T && E)) := Lib.hid (by rw [HD.out, if_neg (by decide), if_neg (by decide), if_pos rfl, ← HT.out]; simp only [Bool.and_assoc])
    clear HD HT
    cases N with
    | false =>
      go_wp2_with fail
      go_ret
      exact ⟨by rw [HD1.out]; rfl, HB1.out⟩
    | true =>
      cases T with
      | false =>
        go_wp2_with fail
        go_ret
        exact ⟨by rw [HD1.out]; rfl, HB1.out⟩
      | true =>
        go_wp2_with fail
        refine HE.out.mono ?_
        rintro e w2 ⟨rfl, rfl⟩
        go_wp2_with fail
        go_ret
        exact ⟨by rw [HD1.out]; rfl, HB1.out⟩
  have j3 : (kd == 3) = false := by simp [k3]
  by_cases k4 : kd = 4
  · subst k4
    have HD1 : Hid (D = (decide (nd = 0) && decide (pt = 0) && decide (n = 0))) := Lib.hid (by rw [HD.out, if_neg (by decide), if_neg (by decide), if_neg (by decide), if_pos rfl])
    clear HD HT
    by_cases h1 : nd = 0
    · subst h1
      by_cases h2 : pt = 0
      · subst h2
        by_cases h3 : n = 0
        · subst h3
          go_wp2_with fail
          go_ret
          exact ⟨by rw [HD1.out]; rfl, HB1.out⟩
        · have h5 : (n == 0) = false := by simp [h3]
          have HD2 : Hid (D = false) := Lib.hid (by rw [HD1.out]; simp [h3])
          clear h3
          go_wp2_with fail
          all_goals
            go_ret
            exact ⟨by rw [HD2.out]; rfl, HB1.out⟩
      · have h5 : (pt == 0) = false := by simp [h2]
        have HD2 : Hid (D = false) := Lib.hid (by rw [HD1.out]; simp [h2])
        clear h2
        go_wp2_with fail
        all_goals
          go_ret
          exact ⟨by rw [HD2.out]; rfl, HB1.out⟩
    · have h5 : (nd == 0) = false := by simp [h1]
      have HD2 : Hid (D = false) := Lib.hid (by rw [HD1.out]; simp [h1])
      clear h1
      go_wp2_with fail
      all_goals
        go_ret
        exact ⟨by rw [HD2.out]; rfl, HB1.out⟩
  have j4 : (kd == 4) = false := by simp [k4]
  by_cases k5 : kd = 5
  · subst k5
    have HD1 : Hid (D = (N && T && decide (n = 0))) := Lib.hid (by rw [HD.out, if_neg (by decide), if_neg (by decide), if_neg (by decide), if_neg (by decide), if_pos rfl, ← HT.out]; simp only [Bool.and_assoc])
    clear HD HT
    cases N with
    | false =>
      go_wp2_with fail
      go_ret
      exact ⟨by rw [HD1.out]; rfl, HB1.out⟩
    | true =>
      cases T with
      | false =>
        go_wp2_with fail
        go_ret
        exact ⟨by rw [HD1.out]; rfl, HB1.out⟩
      | true =>
        by_cases h4 : n = 0
        · subst h4
          go_wp2_with fail
          go_ret
          exact ⟨by rw [HD1.out]; rfl, HB1.out⟩
        · have h5 : (n == 0) = false := by simp [h4]
          have HD2 : Hid (D = false) := Lib.hid (by rw [HD1.out]; simp [h4])
          clear h4
          go_wp2_with fail
          go_ret
          exact ⟨by rw [HD2.out]; rfl, HB1.out⟩
  have j5 : (kd == 5) = false := by simp [k5]
  have HD1 : Hid (D = false) := Lib.hid (by rw [HD.out, if_neg k1, if_neg k2, if_neg k3, if_neg k4, if_neg k5])
  clear HD HT k1 k2 k3 k4 k5
  go_wp2_with fail
  go_ret
  exact ⟨by rw [HD1.out]; rfl, HB1.out⟩
end Go.Proofs.YtmkinnheoejphaaGreatDoor
