/- The walk of the law GaugeOver. -/
import Derived.Test.YtdkngocinimjdaaFilled
namespace Go.Proofs.Ytdkngocinimjdaa
open Go.RowKit
attribute [local go_sem] run_store_complex

theorem Pairs.later {w w1 : World} {v : Value} {zs : List P2} (h : Pairs w w.heap.size v zs) (hb : Below w.heap.size w w1) : Pairs w1 w1.heap.size v zs := by
  obtain ⟨a, cap, hv, hc⟩ := (h.below hb).lies
  refine ⟨a, cap, hv, fun i p hp => ?_⟩
  obtain ⟨b, off, ha, hlt, h1⟩ := hc i p hp
  exact ⟨b, off, ha, Nat.lt_of_lt_of_le hlt hb.size, h1⟩
theorem Mine.back {w0 w1 w : World} {g : Nat} {gb : Option Nat} {L : List P2} (h : Mine w1.heap.size w1 w g gb L) (hb : Below w0.heap.size w0 w1) : Mine w0.heap.size w0 w g gb L :=
  ⟨h.row, hb.trans (h.low.mono hb.size), Nat.le_trans hb.size h.head, fun k e => Nat.le_trans hb.size (h.body k e), Nat.le_trans hb.size h.room⟩

theorem rowOf_small (zs : List P2) : ∀ p ∈ rowOf zs, 0 ≤ p.1 ∧ p.1 < 1048576 ∧ 0 ≤ p.2 ∧ p.2 < 1048576 := by
  intro p hp
  obtain ⟨z, _, rfl⟩ := List.mem_map.1 hp
  unfold szOf
  simp only
  omega
theorem rowOf_len (zs : List P2) : (rowOf zs).length ≤ 60 := by unfold rowOf; rw [List.length_map, List.length_take]; omega
theorem tot_small (l : List P2) (h : ∀ p ∈ l, 0 ≤ p.1 ∧ p.1 < 1048576 ∧ 0 ≤ p.2 ∧ p.2 < 1048576) : 0 ≤ (tot l).1 ∧ (tot l).1 ≤ 1048576 * l.length ∧ 0 ≤ (tot l).2 ∧ (tot l).2 ≤ 1048576 * l.length := by
  induction l with
  | nil => simp [tot]
  | cons p l ih =>
    obtain ⟨a1, a2, a3, a4⟩ := h p (by simp)
    obtain ⟨b1, b2, b3, b4⟩ := ih (fun q hq => h q (by simp [hq]))
    simp only [tot, add2, List.length_cons]
    omega
theorem rowOf_sub (zs : List P2) (l : List P2) (hl : l.length ≤ 60) (h : ∀ p ∈ l, p ∈ rowOf zs) : 0 ≤ (tot l).1 ∧ (tot l).1 ≤ 62914560 ∧ 0 ≤ (tot l).2 ∧ (tot l).2 ≤ 62914560 := by
  have := tot_small l (fun p hp => rowOf_small zs p (h p hp))
  omega
theorem rowOf_take (zs : List P2) (k : Nat) : 0 ≤ (tot ((rowOf zs).take k)).1 ∧ (tot ((rowOf zs).take k)).1 ≤ 62914560 ∧ 0 ≤ (tot ((rowOf zs).take k)).2 ∧ (tot ((rowOf zs).take k)).2 ≤ 62914560 :=
  rowOf_sub zs _ (by have := rowOf_len zs; rw [List.length_take]; omega) (fun _ hp => List.mem_of_mem_take hp)
theorem rowOf_drop (zs : List P2) (k : Nat) : 0 ≤ (tot ((rowOf zs).drop k)).1 ∧ (tot ((rowOf zs).drop k)).1 ≤ 62914560 ∧ 0 ≤ (tot ((rowOf zs).drop k)).2 ∧ (tot ((rowOf zs).drop k)).2 ≤ 62914560 :=
  rowOf_sub zs _ (by have := rowOf_len zs; rw [List.length_drop]; omega) (fun _ hp => List.mem_of_mem_drop hp)
theorem rowOf_tot (zs : List P2) : 0 ≤ (tot (rowOf zs)).1 ∧ (tot (rowOf zs)).1 ≤ 62914560 ∧ 0 ≤ (tot (rowOf zs)).2 ∧ (tot (rowOf zs)).2 ≤ 62914560 :=
  rowOf_sub zs _ (rowOf_len zs) (fun _ hp => hp)

/-- What is left when what is ahead has gone. -/
theorem left_is {zs : List P2} {k a b x y : Nat} (ha : Fl.Is a (tot (rowOf zs)).1) (hb : Fl.Is b (tot (rowOf zs)).2) (hx : Fl.Is x (tot ((rowOf zs).take k)).1) (hy : Fl.Is y (tot ((rowOf zs).take k)).2) :
    ∃ r s, (∀ w, (binOp .sub 33 (.complex .f64 a b) (.complex .f64 x y)).run Try.prog w = .ok (.complex .f64 r s) w) ∧ Fl.Is r (tot ((rowOf zs).drop k)).1 ∧ Fl.Is s (tot ((rowOf zs).drop k)).2 := by
  have h1 := rowOf_tot zs
  have h2 := rowOf_take zs k
  obtain ⟨r, s, h, ir, is⟩ := complex_sub ha hb hx hy (by omega) (by omega)
  have e : sub2 (tot (rowOf zs)) (tot ((rowOf zs).take k)) = tot ((rowOf zs).drop k) := by
    rw [tot_split (rowOf zs) k]; simp only [sub2, add2]; ext <;> simp <;> omega
  rw [e] at ir is
  exact ⟨r, s, h, ir, is⟩

set_option maxHeartbeats 2000000 in
theorem over_law (v : Value) (zs : List P2) (most : Int) (w : World) (h : Pairs w w.heap.size v zs) :
    Calls Try.prog 6 #[v, .int .i64 most] w fun e w' => e = .returned (.bool true) ∧ Below w.heap.size w w' := by
  have HP := Lib.hid h
  clear h
  go_enter Try.func6, Try.ntmps6
  go_wp2_with fail
  refine (awake_any _).mono ?_
  rintro e w1 ⟨rfl, b1⟩
  have HB1 := Lib.hid b1
  clear b1
  go_wp2_with fail
  refine (filled_any v zs w1 (HP.out.later HB1.out)).mono ?_
  rintro e w2 ⟨g, gb, rfl, M⟩
  have M2 := Lib.hid (M.back HB1.out)
  clear M
  go_wp2_with fail
  refine (over_any most _ _ _ _ M2.out.row).mono ?_
  rintro e w' ⟨⟨n, rfl, hn⟩, rfl⟩
  have HO := Lib.hid hn
  clear hn
  obtain ⟨q, hq⟩ : ∃ q, (rowOf zs).length = q := ⟨_, rfl⟩
  have HQ := Lib.hid hq
  have HL : Hid (Calls Try.prog 22 #[.pointer (some ⟨g, 0, none⟩)] w2 fun e w' => e = .returned (.int .i64 q) ∧ w2 = w') := by
    rw [← hq]; exact Lib.hid (len_any _ _ _ _ M2.out.row)
  have hq60 : q ≤ 60 := by rw [← hq]; exact rowOf_len zs
  clear hq
  go_wp2_with fail
  refine HL.out.mono ?_
  rintro e w' ⟨rfl, rfl⟩
  rcases Nat.eq_zero_or_pos q with h0 | hpos
  · subst h0
    obtain rfl : n = 0 := HO.out.1 (List.length_eq_zero_iff.1 HQ.out)
    go_wp2_with fail
    go_ret
    exact ⟨rfl, M2.out.low⟩
  · have hne : rowOf zs ≠ [] := fun e => by have := HQ.out; rw [e] at this; simp at this; omega
    have hnq : n < q := by have := (HO.out.2.1 hne).1; rw [HQ.out] at this; exact this
    have HNE := Lib.hid hne
    have h0 : ((q : Int) == 0) = false := by simp; omega
    have h1 : ¬ (q : Int) ≤ (n : Int) := by omega
    have h2 : ¬ q ≤ n := by omega
    clear hne
    go_wp2_with fail
    refine HL.out.mono ?_
    rintro e w' ⟨rfl, rfl⟩
    go_wp2_with fail
    refine (sum_any _ _ _ _ M2.out.row).mono ?_
    rintro e w' ⟨⟨v1, rfl, hcv⟩, rfl⟩
    obtain ⟨a, b, rfl, ha, hb⟩ := hcv
    have HA := Lib.hid (And.intro ha hb)
    clear ha hb
    go_wp2_with fail
    refine (ahead_any n _ _ _ _ M2.out.row).mono ?_
    rintro e w3 ⟨⟨v1, rfl, hcv⟩, b3⟩
    obtain ⟨x, y, rfl, hx, hy⟩ := hcv
    obtain ⟨r, s, hsub, ir, is⟩ := left_is HA.out.1 HA.out.2 hx hy
    have M3 := Lib.hid (M2.out.step b3)
    have hd := rowOf_drop zs n
    obtain ⟨z1, hz1⟩ : ∃ z, (tot ((rowOf zs).drop n)).1 = z := ⟨_, rfl⟩
    obtain ⟨z2, hz2⟩ : ∃ z, (tot ((rowOf zs).drop n)).2 = z := ⟨_, rfl⟩
    rw [show ((n : Int)).toNat = n from rfl, hz1] at ir
    rw [show ((n : Int)).toNat = n from rfl, hz2] at is
    rw [hz1, hz2] at hd
    have PA := Lib.hid (parts_ok r s _ _ (Fl.is_part ir (by omega) (by omega)) (Fl.is_part is (by omega) (by omega)))
    rw [Int.toNat_of_nonneg hd.2.2.1] at PA
    have HZ2 := Lib.hid hz2
    clear hx hy ir is b3 hz1 hz2 hd
    go_wp2_with fail
    refine (PA.out _).mono ?_
    rintro e w' ⟨rfl, rfl⟩
    clear hsub PA
    go_wp2_with fail
    refine (sum_any _ _ _ _ M3.out.row).mono ?_
    rintro e w' ⟨⟨v1, rfl, hcv⟩, rfl⟩
    obtain ⟨a2, b2, rfl, ha, hb⟩ := hcv
    have HA2 := Lib.hid (And.intro ha hb)
    clear ha hb
    go_wp2_with fail
    refine (ahead_any _ _ _ _ _ M3.out.row).mono ?_
    rintro e w4 ⟨⟨v1, rfl, hcv⟩, b4⟩
    rw [show ((n : Int) - 1).toNat = n - 1 by omega] at hcv
    obtain ⟨x2, y2, rfl, hx, hy⟩ := hcv
    obtain ⟨r2, s2, hsub2, ir, is⟩ := left_is HA2.out.1 HA2.out.2 hx hy
    have M4 := Lib.hid (M3.out.step b4)
    have hd := rowOf_drop zs (n - 1)
    obtain ⟨z3, hz3⟩ : ∃ z, (tot ((rowOf zs).drop (n - 1))).1 = z := ⟨_, rfl⟩
    obtain ⟨z4, hz4⟩ : ∃ z, (tot ((rowOf zs).drop (n - 1))).2 = z := ⟨_, rfl⟩
    rw [hz3] at ir
    rw [hz4] at is
    rw [hz3, hz4] at hd
    have PA2 := Lib.hid (parts_ok r2 s2 _ _ (Fl.is_part ir (by omega) (by omega)) (Fl.is_part is (by omega) (by omega)))
    rw [Int.toNat_of_nonneg hd.2.2.1] at PA2
    have HZ4 := Lib.hid hz4
    clear hx hy ir is b4 hz3 hz4 hd
    go_wp2_with fail
    refine (PA2.out _).mono ?_
    rintro e w' ⟨rfl, rfl⟩
    clear hsub2 PA2
    have HL4 : Hid (Calls Try.prog 22 #[.pointer (some ⟨g, 0, none⟩)] w4 fun e w' => e = .returned (.int .i64 q) ∧ w4 = w') := by
      rw [← HQ.out]; exact Lib.hid (len_any _ _ _ _ M4.out.row)
    have hor : z2 ≤ most ∨ n + 1 = q := by
      have := (HO.out.2.1 HNE.out).2
      rw [HQ.out, HZ2.out] at this
      exact this
    have hmore : n = 0 ∨ most < z4 := by
      rcases Nat.eq_zero_or_pos n with h | h
      · exact .inl h
      · have := HO.out.2.2 (n - 1) (by omega)
        rw [HZ4.out] at this
        exact .inr this
    rcases Nat.eq_zero_or_pos n with hn | hn
    · subst hn
      clear hmore
      by_cases hle : z2 ≤ most
      · clear hor
        go_wp2_with fail
        go_ret
        exact ⟨rfl, M4.out.low⟩
      · obtain rfl : q = 1 := by omega
        clear hor
        go_wp2_with fail
        refine HL4.out.mono ?_
        rintro e w' ⟨rfl, rfl⟩
        go_wp2_with fail
        go_ret
        exact ⟨rfl, M4.out.low⟩
    · have hgt : most < z4 := by omega
      have hn0 : ((n : Int) == 0) = false := by simp; omega
      clear hmore
      by_cases hle : z2 ≤ most
      · clear hor
        go_wp2_with fail
        go_ret
        exact ⟨rfl, M4.out.low⟩
      · obtain rfl : q = n + 1 := by omega
        clear hor
        go_wp2_with fail
        refine HL4.out.mono ?_
        rintro e w' ⟨rfl, rfl⟩
        go_wp2_with fail
        go_ret
        exact ⟨rfl, M4.out.low⟩
end Go.Proofs.Ytdkngocinimjdaa
