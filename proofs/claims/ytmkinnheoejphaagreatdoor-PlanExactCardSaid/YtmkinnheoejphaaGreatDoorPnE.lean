/- THE CONTRACTS OF isPlace, Good. -/
import Derived.Test.YtmkinnheoejphaaGreatDoorPnD
namespace Go.Proofs.YtmkinnheoejphaaGreatDoor
open Go.RowKit

theorem Rds.cap {A : Nat → Prop} {w : World} {size m : Nat} {xs : List Value} {a : Option Addr} {k c : Nat} (h : Rds A w (.slice a k c) size m xs) : k = m ∧ m ≤ c ∧ (a = none → k = 0 ∧ c = 0) := by
  rcases h.2 with ⟨e, rfl⟩ | ⟨ad, cap, e, hc, -⟩
  · injection e with e1 e2 e3
    exact ⟨e2, by omega, fun _ => ⟨e2, e3⟩⟩
  · injection e with e1 e2 e3
    exact ⟨e2, by omega, fun h => by rw [e1] at h; cases h⟩
/-- A beginning of numbers. -/
theorem Ns.take {A : Nat → Prop} {w : World} {a : Option Addr} {m c : Nat} {L : List Int} (h : Ns A w (.slice a m c) L) {i : Nat} (hi : i ≤ m) : Ns A w (.slice a i c) (L.take i) := by
  obtain ⟨e1, e2, e3⟩ := Rds.cap h
  have hl : (L.take i).length = i := by rw [List.length_take]; omega
  unfold Ns
  rw [hl]
  refine ⟨by simp; omega, ?_⟩
  rcases h.2 with ⟨e, h0⟩ | ⟨ad, cap, e, hc, h2⟩
  · injection e with q1 q2 q3
    exact .inl ⟨by rw [q1, q3, show i = 0 by omega], by omega⟩
  · injection e with q1 q2 q3
    refine .inr ⟨ad, c, by rw [q1], by omega, fun h0 => ?_⟩
    obtain ⟨b, p, f1, f2, f3, f4⟩ := h2 (by omega)
    refine ⟨b, p, f1, f2, f3, fun j x hj => f4 j x ?_⟩
    rw [List.getElem?_map, List.getElem?_take] at hj
    split at hj
    · rw [List.getElem?_map]; exact hj
    · cases hj
theorem Pn.chTo_succ {x : Pn.Pt} {nodes : Int} {i : Nat} {n : Int} (h : x.ch[i]? = some n) : Pn.chTo x nodes (i + 1) = (Pn.chTo x nodes i && Pn.nodeB x nodes i n) := by
  unfold Pn.chTo
  rw [List.range_succ, List.all_append]
  simp [h]
theorem Pn.chTo_bad {x : Pn.Pt} {nodes : Int} {i m : Nat} {n : Int} (h : x.ch[i]? = some n) (hi : i < m) (hb : Pn.nodeB x nodes i n = false) : Pn.chTo x nodes m = false := by
  unfold Pn.chTo
  rw [List.all_eq_false]
  exact ⟨i, List.mem_range.2 hi, by rw [h]; simp only; rw [hb]; exact Bool.false_ne_true⟩
set_option maxHeartbeats 4000000 in
set_option maxRecDepth 100000 in
theorem place_any {A : Nat → Prop} (x : Pn.Pt) (cv : Value) (nodes : Int) (w : World) (h : Ns A w cv x.ch) (hl : x.ch.length ≤ 64) : Calls Tryz.prog 39 #[ptv x cv, .int .i64 nodes] w fun e w' => BolOut w (Pn.placeB x nodes) e w' := by
  obtain ⟨ep, ch, le⟩ := x
  simp only [ptv] at h hl ⊢
  obtain ⟨a, cap, rfl⟩ := h.form
  obtain ⟨D, hD⟩ : ∃ D, Pn.placeB ⟨ep, ch, le⟩ nodes = D := ⟨_, rfl⟩
  obtain ⟨m, hm⟩ : ∃ m, ch.length = m := ⟨_, rfl⟩
  obtain ⟨E, hE⟩ : ∃ E, Pn.epB ep = E := ⟨_, rfl⟩
  obtain ⟨C, hC⟩ : ∃ C, Pn.chTo ⟨ep, ch, le⟩ nodes m = C := ⟨_, rfl⟩
  have HD : Hid (D = (E && decide (0 ≤ le) && decide (le ≤ nodes) && decide (1 ≤ m) && decide ((m : Int) ≤ nodes) && C)) := Lib.hid (by rw [← hD, ← hE, ← hC, ← hm]; rfl)
  have HM := Lib.hid hm
  have HCC := Lib.hid hC
  obtain ⟨W1, hW1⟩ : ∃ W, w.alloc (.cells #[.int .i64 ep, .slice a ch.length cap, .int .i64 le] 49) = W := ⟨_, rfl⟩
  have hB1 : Below w.heap.size w W1 := by rw [← hW1]; exact (Below.refl _ _).alloc (Nat.le_refl _) _
  have hk1 : Blk W1 w.heap.size #[.int .i64 ep, .slice a ch.length cap, .int .i64 le] 49 := by rw [← hW1]; exact Blk.new _ _ _
  have HV := Lib.hid (h.below hB1)
  have HB1 := Lib.hid hB1
  have HEP := Lib.hid (epoch_any ep W1)
  rw [hE] at HEP
  rw [hm] at hW1 hk1 HV hl ⊢
  rw [hD]
  have c0 : W1.cell? ⟨w.heap.size, 0, none⟩ = some (.int .i64 ep) := hk1.cell rfl
  have c1 : W1.cell? ⟨w.heap.size, 1, none⟩ = some (.slice a m cap) := hk1.cell rfl
  have c2 : W1.cell? ⟨w.heap.size, 2, none⟩ = some (.int .i64 le) := hk1.cell rfl
  clear h hB1 hk1 hm hE hC hD
  go_enter Tryz.func39, Tryz.ntmps39
  cases E with
  | false =>
    have HD2 : Hid (D = false) := Lib.hid (by rw [HD.out]; rfl)
    go_wp2_with fail
    refine HEP.out.mono ?_
    rintro e w2 ⟨rfl, rfl⟩
    go_wp2_with fail
    go_ret
    exact ⟨by rw [HD2.out]; rfl, HB1.out⟩
  | true =>
  by_cases h1 : le < 0
  · have HD2 : Hid (D = false) := Lib.hid (by rw [HD.out]; simp; omega)
    go_wp2_with fail
    refine HEP.out.mono ?_
    rintro e w2 ⟨rfl, rfl⟩
    go_wp2_with fail
    go_ret
    exact ⟨by rw [HD2.out]; rfl, HB1.out⟩
  by_cases h2 : nodes < le
  · have HD2 : Hid (D = false) := Lib.hid (by rw [HD.out]; simp; omega)
    go_wp2_with fail
    refine HEP.out.mono ?_
    rintro e w2 ⟨rfl, rfl⟩
    go_wp2_with fail
    go_ret
    exact ⟨by rw [HD2.out]; rfl, HB1.out⟩
  by_cases h3 : m < 1
  · have HD2 : Hid (D = false) := Lib.hid (by rw [HD.out]; simp; omega)
    have h3i : (m : Int) < 1 := by omega
    go_wp2_with fail
    refine HEP.out.mono ?_
    rintro e w2 ⟨rfl, rfl⟩
    go_wp2_with fail
    go_ret
    exact ⟨by rw [HD2.out]; rfl, HB1.out⟩
  have h3i : ¬ ((m : Int) < 1) := by omega
  by_cases h4 : nodes < (m : Int)
  · have HD2 : Hid (D = false) := Lib.hid (by rw [HD.out]; simp; omega)
    go_wp2_with fail
    refine HEP.out.mono ?_
    rintro e w2 ⟨rfl, rfl⟩
    go_wp2_with fail
    go_ret
    exact ⟨by rw [HD2.out]; rfl, HB1.out⟩
  have HD2 : Hid (D = C) := Lib.hid (by
    rw [HD.out, decide_eq_true (by omega : 0 ≤ le), decide_eq_true (by omega : le ≤ nodes), decide_eq_true (by omega : 1 ≤ m), decide_eq_true (by omega : (m : Int) ≤ nodes)]
    rfl)
  clear HD
  go_wp2_with fail
  refine HEP.out.mono ?_
  rintro e w2 ⟨rfl, rfl⟩
  clear HEP
  go_wp2_with fail
  go_loop [5, 6, 38] (fun _ _ s38 => ∃ i : Nat, i ≤ m ∧ s38 = .int .i64 i ∧ Pn.chTo ⟨ep, ch, le⟩ nodes i = true) (fun _ _ s38 => m - (intOf s38).toNat)
  case atStart => exact ⟨0, Nat.zero_le _, rfl, rfl⟩
  case round =>
    obtain ⟨i, hi, rfl, hok⟩ := hrel
    have HOK := Lib.hid hok
    clear hok
    by_cases hlt : i < m
    · obtain ⟨x, hx⟩ : ∃ x, ch[i]? = some x := ⟨_, List.getElem?_eq_getElem (by rw [HM.out]; exact hlt)⟩
      have hv := HV.out
      have hcp := (Rds.cap (show Rds _ _ _ _ _ _ from hv)).2.1
      rw [HM.out] at hcp
      have HTK := Lib.hid (contains_any _ (ch.take i) x w2 (Ns.take hv hi) (by rw [List.length_take]; omega))
      rw [← HM.out] at hv
      obtain ⟨b, p, cap', ev, -, hbl, e0⟩ := hv.at hx
      rw [HM.out] at ev
      obtain rfl : a = some ⟨b, p, none⟩ := by injection ev
      have HS := Lib.hid (Pn.chTo_succ (x := ⟨ep, ch, le⟩) (nodes := nodes) hx)
      have HBD := Lib.hid (Pn.chTo_bad (x := ⟨ep, ch, le⟩) (nodes := nodes) hx hlt)
      obtain ⟨B, hB⟩ : ∃ B, (ch.take i).contains x = B := ⟨_, rfl⟩
      have HNB : Hid (Pn.nodeB ⟨ep, ch, le⟩ nodes i x = (decide (1 ≤ x) && decide (x ≤ nodes) && (x != le) && !B)) := Lib.hid (by rw [← hB]; rfl)
      rw [hB] at HTK
      have i0 : (0 : Int) ≤ (i : Int) := by omega
      have i1 : (i : Int) < (m : Int) := by omega
      have i2 : (i : Int) ≤ (cap : Int) := by omega
      clear ev hx hv hB hcp
      by_cases j1 : x < 1
      · have HF : Hid (D = false) := Lib.hid (by rw [HD2.out, ← HCC.out]; exact HBD.out (by rw [HNB.out]; simp; omega))
        go_wp2_with fail
        go_ret
        exact ⟨by rw [HF.out]; rfl, HB1.out⟩
      by_cases j2 : nodes < x
      · have HF : Hid (D = false) := Lib.hid (by rw [HD2.out, ← HCC.out]; exact HBD.out (by rw [HNB.out]; simp; omega))
        go_wp2_with fail
        go_ret
        exact ⟨by rw [HF.out]; rfl, HB1.out⟩
      by_cases j3 : x = le
      · have HF : Hid (D = false) := Lib.hid (by rw [HD2.out, ← HCC.out]; exact HBD.out (by rw [HNB.out]; simp [j3]))
        subst j3
        go_wp2_with fail
        go_ret
        exact ⟨by rw [HF.out]; rfl, HB1.out⟩
      have j3b : (x == le) = false := by simp [j3]
      cases B with
      | true =>
        have HF : Hid (D = false) := Lib.hid (by rw [HD2.out, ← HCC.out]; exact HBD.out (by rw [HNB.out]; simp))
        clear j3
        go_wp2_with fail
        refine HTK.out.mono ?_
        rintro e w3 ⟨rfl, rfl⟩
        go_wp2_with fail
        go_ret
        exact ⟨by rw [HF.out]; rfl, HB1.out⟩
      | false =>
        have HT : Hid (Pn.chTo ⟨ep, ch, le⟩ nodes (i + 1) = true) := Lib.hid (by
          rw [HS.out, HOK.out, HNB.out, decide_eq_true (by omega : 1 ≤ x), decide_eq_true (by omega : x ≤ nodes)]
          simp [j3])
        clear j3
        go_wp2_with fail
        refine HTK.out.mono ?_
        rintro e w3 ⟨rfl, rfl⟩
        go_wp2_with fail
        go_round
        case rel => exact ⟨i + 1, by omega, by go_num, HT.out⟩
        case measure => simp [intOf]; omega
    · have HF : Hid (D = true) := Lib.hid (by rw [HD2.out, ← HCC.out, show m = i by omega]; exact HOK.out)
      go_wp2_with fail
      go_ret
      exact ⟨by rw [HF.out]; rfl, HB1.out⟩
end Go.Proofs.YtmkinnheoejphaaGreatDoor
