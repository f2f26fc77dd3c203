/- THE DOCUMENT'S Event: what an event is. -/
import Derived.Test.YtmkinnheoejphaaGreatDoorPnC
namespace Go.Proofs.YtmkinnheoejphaaGreatDoor
open Go.RowKit

theorem rnum_any (n : Int) (w : World) : Calls Tryz.prog 41 #[.int .i64 n] w fun e w' => SmeOut w (Pn.epB n) e w' := by
  by_cases h0 : 1 ≤ n
  case neg =>
    have e : Pn.epB n = false := by unfold Pn.epB; simp; omega
    rw [e]
    clear e
    go_enter Tryz.func41, Tryz.ntmps41
    go_wp2_with fail
    go_ret
    exact ⟨rfl, rfl⟩
  by_cases h1 : n ≤ 1073741824
  case neg =>
    have e : Pn.epB n = false := by unfold Pn.epB; simp; omega
    rw [e]
    clear e
    go_enter Tryz.func41, Tryz.ntmps41
    go_wp2_with fail
    go_ret
    exact ⟨rfl, rfl⟩
  have e : Pn.epB n = true := by unfold Pn.epB; simp; omega
  rw [e]
  clear e
  go_enter Tryz.func41, Tryz.ntmps41
  go_wp2_with fail
  go_ret
  exact ⟨rfl, rfl⟩
theorem rnode_any (n m : Int) (w : World) : Calls Tryz.prog 42 #[.int .i64 n, .int .i64 m] w fun e w' => SmeOut w (decide (1 ≤ n) && decide (n ≤ m)) e w' := by
  by_cases h0 : 1 ≤ n
  case neg =>
    have e : (decide (1 ≤ n) && decide (n ≤ m)) = false := by simp; omega
    rw [e]
    clear e
    go_enter Tryz.func42, Tryz.ntmps42
    go_wp2_with fail
    go_ret
    exact ⟨rfl, rfl⟩
  by_cases h1 : n ≤ m
  case neg =>
    have e : (decide (1 ≤ n) && decide (n ≤ m)) = false := by simp; omega
    rw [e]
    clear e
    go_enter Tryz.func42, Tryz.ntmps42
    go_wp2_with fail
    go_ret
    exact ⟨rfl, rfl⟩
  have e : (decide (1 ≤ n) && decide (n ≤ m)) = true := by simp; omega
  rw [e]
  clear e
  go_enter Tryz.func42, Tryz.ntmps42
  go_wp2_with fail
  go_ret
  exact ⟨rfl, rfl⟩
set_option maxHeartbeats 2000000 in
set_option maxRecDepth 100000 in
theorem revent_any (x : Pn.Ev) (w : World) : Calls Tryz.prog 32 #[.agg #[.int .i64 x.kind, .int .i64 x.node, .int .i64 x.part, .int .i64 x.n]] w fun e w' => BolOut w (Pn.evB x) e w' := by
  obtain ⟨kd, nd, pt, n⟩ := x
  obtain ⟨W1, hW1⟩ : ∃ W, w.alloc (.cells #[.int .i64 kd, .int .i64 nd, .int .i64 pt, .int .i64 n] 27) = W := ⟨_, rfl⟩
  have hB1 : Below w.heap.size w W1 := by rw [← hW1]; exact (Below.refl _ _).alloc (Nat.le_refl _) _
  have hk1 : Blk W1 w.heap.size #[.int .i64 kd, .int .i64 nd, .int .i64 pt, .int .i64 n] 27 := by rw [← hW1]; exact Blk.new _ _ _
  have HB1 := Lib.hid hB1
  have c0 : W1.cell? ⟨w.heap.size, 0, none⟩ = some (.int .i64 kd) := hk1.cell rfl
  have c1 : W1.cell? ⟨w.heap.size, 1, none⟩ = some (.int .i64 nd) := hk1.cell rfl
  have c2 : W1.cell? ⟨w.heap.size, 2, none⟩ = some (.int .i64 pt) := hk1.cell rfl
  have c3 : W1.cell? ⟨w.heap.size, 3, none⟩ = some (.int .i64 n) := hk1.cell rfl
  have HE := Lib.hid (rnum_any n W1)
  obtain ⟨E, hE⟩ : ∃ E, Pn.epB n = E := ⟨_, rfl⟩
  rw [hE] at HE
  obtain ⟨D, hD⟩ : ∃ D, Pn.evB ⟨kd, nd, pt, n⟩ = D := ⟨_, rfl⟩
  have HD : Hid (D = if kd = 1 then decide (1 ≤ nd) && decide (nd ≤ 5) && decide (pt = 0) && E
  else if kd = 2 then decide (1 ≤ nd) && decide (nd ≤ 5) && decide (pt = 0) && decide (n = 0)
  else if kd = 3 then decide (1 ≤ nd) && decide (nd ≤ 5) && decide (0 ≤ pt) && decide (pt < 4) && E
  else if kd = 4 then decide (nd = 0) && decide (pt = 0) && decide (n = 0)
  else if kd = 5 then decide (1 ≤ nd) && decide (nd ≤ 5) && decide (0 ≤ pt) && decide (pt < 4) && decide (n = 0)
  else false) := Lib.hid (by rw [← hD, ← hE]; rfl)
  rw [hD]
  obtain ⟨N, hN⟩ : ∃ b, (decide (1 ≤ nd) && decide (nd ≤ 5)) = b := ⟨_, rfl⟩
  have HN := Lib.hid (rnode_any nd 5 W1)
  rw [hN] at HN HD
  clear hB1 hk1 hE hD hN
  go_enter Tryz.func32, Tryz.ntmps32
  go_upto_region 1 with fail
  go_cut [3] from 4 to 11 (fun s wx => s = .bool (decide (0 ≤ pt) && decide (pt < 4)) ∧ wx = W1)
  case first =>
    by_cases h1 : 0 ≤ pt
    · by_cases h2 : pt ≤ 3
      · have h3 : pt < 4 := by omega
        go_wp2_with fail
        go_meet
        case rel => exact ⟨by simp <;> omega, rfl⟩
      · have h3 : ¬ pt < 4 := by omega
        go_wp2_with fail
        go_meet
        case rel => exact ⟨by simp <;> omega, rfl⟩
    · go_wp2_with fail
      go_meet
      case rel => exact ⟨by simp <;> omega, rfl⟩
  case rest =>
  obtain ⟨hs4, hw⟩ := hcut
  obtain ⟨T, hT⟩ : ∃ b, (decide (0 ≤ pt) && decide (pt < 4)) = b := ⟨_, rfl⟩
  have HT := Lib.hid hT
  rw [hT] at hs4
  subst hs4
  have hw' : W1 = wc := hw.symm
  subst hw'
  clear hw hT
  by_cases k1 : kd = 1
  · subst k1
    have HD1 : Hid (D = (N && decide (pt = 0) && E)) := Lib.hid (by rw [HD.out, if_pos rfl])
    clear HD HT
    cases N with
    | false =>
      go_wp2_with fail
      refine HN.out.mono ?_
      rintro e w2 ⟨rfl, rfl⟩
      go_wp2_with fail
      go_ret
      exact ⟨by rw [HD1.out]; rfl, HB1.out⟩
    | true =>
      by_cases h2 : pt = 0
      · subst h2
        go_wp2_with fail
        refine HN.out.mono ?_
        rintro e w2 ⟨rfl, rfl⟩
        go_wp2_with fail
        refine HE.out.mono ?_
        rintro e w3 ⟨rfl, rfl⟩
        go_wp2_with fail
        go_ret
        exact ⟨by rw [HD1.out]; simp, HB1.out⟩
      · have h3 : (pt == 0) = false := by simp [h2]
        have HD2 : Hid (D = false) := Lib.hid (by rw [HD1.out]; simp [h2])
        clear h2
        go_wp2_with fail
        refine HN.out.mono ?_
        rintro e w2 ⟨rfl, rfl⟩
        go_wp2_with fail
        go_ret
        exact ⟨by rw [HD2.out]; rfl, HB1.out⟩
  have j1 : (kd == 1) = false := by simp [k1]
  by_cases k2 : kd = 2
  · subst k2
    have HD1 : Hid (D = (N && decide (pt = 0) && decide (n = 0))) := Lib.hid (by rw [HD.out, if_neg (by decide), if_pos rfl])
    clear HD HT
    cases N with
    | false =>
      go_wp2_with fail
      refine HN.out.mono ?_
      rintro e w2 ⟨rfl, rfl⟩
      go_wp2_with fail
      go_ret
      exact ⟨by rw [HD1.out]; rfl, HB1.out⟩
    | true =>
      by_cases h2 : pt = 0
      · subst h2
        by_cases h4 : n = 0
        · subst h4
          go_wp2_with fail
          refine HN.out.mono ?_
          rintro e w2 ⟨rfl, rfl⟩
          go_wp2_with fail
          go_ret
          exact ⟨by rw [HD1.out]; rfl, HB1.out⟩
        · have h5 : (n == 0) = false := by simp [h4]
          have HD2 : Hid (D = false) := Lib.hid (by rw [HD1.out]; simp [h4])
          clear h4
          go_wp2_with fail
          refine HN.out.mono ?_
          rintro e w2 ⟨rfl, rfl⟩
          go_wp2_with fail
          go_ret
          exact ⟨by rw [HD2.out]; rfl, HB1.out⟩
      · have h3 : (pt == 0) = false := by simp [h2]
        have HD2 : Hid (D = false) := Lib.hid (by rw [HD1.out]; simp [h2])
        clear h2
        go_wp2_with fail
        refine HN.out.mono ?_
        rintro e w2 ⟨rfl, rfl⟩
        go_wp2_with fail
        go_ret
        exact ⟨by rw [HD2.out]; rfl, HB1.out⟩
  have j2 : (kd == 2) = false := by simp [k2]
  by_cases k3 : kd = 3
  · subst k3
    have HD1 : Hid (D = (N && T && E)) := Lib.hid (by rw [HD.out, if_neg (by decide), if_neg (by decide), if_pos rfl, ← HT.out]; simp only [Bool.and_assoc])
    clear HD HT
    cases N with
    | false =>
      go_wp2_with fail
      refine HN.out.mono ?_
      rintro e w2 ⟨rfl, rfl⟩
      go_wp2_with fail
      go_ret
      exact ⟨by rw [HD1.out]; rfl, HB1.out⟩
    | true =>
      cases T with
      | false =>
        go_wp2_with fail
        refine HN.out.mono ?_
        rintro e w2 ⟨rfl, rfl⟩
        go_wp2_with fail
        go_ret
        exact ⟨by rw [HD1.out]; rfl, HB1.out⟩
      | true =>
        go_wp2_with fail
        refine HN.out.mono ?_
        rintro e w2 ⟨rfl, rfl⟩
        go_wp2_with fail
        refine HE.out.mono ?_
        rintro e w3 ⟨rfl, rfl⟩
        go_wp2_with fail
        go_ret
        exact ⟨by rw [HD1.out]; rfl, HB1.out⟩
  have j3 : (kd == 3) = false := by simp [k3]
  by_cases k4 : kd = 4
  · subst k4
    have HD1 : Hid (D = (decide (nd = 0) && decide (pt = 0) && decide (n = 0))) := Lib.hid (by rw [HD.out, if_neg (by decide), if_neg (by decide), if_neg (by decide), if_pos rfl])
    clear HD HT
    by_cases h1 : nd = 0
    · subst h1
      by_cases h2 : pt = 0
      · subst h2
        by_cases h3 : n = 0
        · subst h3
          go_wp2_with fail
          go_ret
          exact ⟨by rw [HD1.out]; rfl, HB1.out⟩
        · have h5 : (n == 0) = false := by simp [h3]
          have HD2 : Hid (D = false) := Lib.hid (by rw [HD1.out]; simp [h3])
          clear h3
          go_wp2_with fail
          all_goals
            go_ret
            exact ⟨by rw [HD2.out]; rfl, HB1.out⟩
      · have h5 : (pt == 0) = false := by simp [h2]
        have HD2 : Hid (D = false) := Lib.hid (by rw [HD1.out]; simp [h2])
        clear h2
        go_wp2_with fail
        all_goals
          go_ret
          exact ⟨by rw [HD2.out]; rfl, HB1.out⟩
    · have h5 : (nd == 0) = false := by simp [h1]
      have HD2 : Hid (D = false) := Lib.hid (by rw [HD1.out]; simp [h1])
      clear h1
      go_wp2_with fail
      all_goals
        go_ret
        exact ⟨by rw [HD2.out]; rfl, HB1.out⟩
  have j4 : (kd == 4) = false := by simp [k4]
  by_cases k5 : kd = 5
  · subst k5
    have HD1 : Hid (D = (N && T && decide (n = 0))) := Lib.hid (by rw [HD.out, if_neg (by decide), if_neg (by decide), if_neg (by decide), if_neg (by decide), if_pos rfl, ← HT.out]; simp only [Bool.and_assoc])
    clear HD HT
    cases N with
    | false =>
      go_wp2_with fail
      refine HN.out.mono ?_
      rintro e w2 ⟨rfl, rfl⟩
      go_wp2_with fail
      go_ret
      exact ⟨by rw [HD1.out]; rfl, HB1.out⟩
    | true =>
      cases T with
      | false =>
        go_wp2_with fail
        refine HN.out.mono ?_
        rintro e w2 ⟨rfl, rfl⟩
        go_wp2_with fail
        go_ret
        exact ⟨by rw [HD1.out]; rfl, HB1.out⟩
      | true =>
        by_cases h4 : n = 0
        · subst h4
          go_wp2_with fail
          refine HN.out.mono ?_
          rintro e w2 ⟨rfl, rfl⟩
          go_wp2_with fail
          go_ret
          exact ⟨by rw [HD1.out]; rfl, HB1.out⟩
        · have h5 : (n == 0) = false := by simp [h4]
          have HD2 : Hid (D = false) := Lib.hid (by rw [HD1.out]; simp [h4])
          clear h4
          go_wp2_with fail
          refine HN.out.mono ?_
          rintro e w2 ⟨rfl, rfl⟩
          go_wp2_with fail
          go_ret
          exact ⟨by rw [HD2.out]; rfl, HB1.out⟩
  have j5 : (kd == 5) = false := by simp [k5]
  have HD1 : Hid (D = false) := Lib.hid (by rw [HD.out, if_neg k1, if_neg k2, if_neg k3, if_neg k4, if_neg k5])
  clear HD HT k1 k2 k3 k4 k5
  go_wp2_with fail
  go_ret
  exact ⟨by rw [HD1.out]; rfl, HB1.out⟩
end Go.Proofs.YtmkinnheoejphaaGreatDoor
