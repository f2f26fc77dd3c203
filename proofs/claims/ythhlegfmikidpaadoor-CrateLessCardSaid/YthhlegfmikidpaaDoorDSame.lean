/- THE CONTRACTS OF crate.Same: its closure, slices.EqualFunc at it, slices.Equal. -/
import Derived.Test.YthhlegfmikidpaaDoorDGood
namespace Go.Proofs.YthhlegfmikidpaaDoor
open Go.RowKit

set_option maxHeartbeats 400000 in
theorem dclo (b c i j : Nat) (x y : Int) (w : World) (hx : w.cell? ⟨b, i, none⟩ = some (.int .i64 x)) (hy : w.cell? ⟨c, j, none⟩ = some (.int .i64 y)) :
    Calls Tryd.prog 36 #[.pointer (some ⟨b, i, none⟩), .pointer (some ⟨c, j, none⟩)] w fun e w' => e = .returned (.bool (x == y)) ∧ Below w.heap.size w w' := by
  go_enter Tryd.func36, Tryd.ntmps36
  go_wp2_with fail
  go_quiet (fail)
  go_wp2_with fail
  go_ret
  exact ⟨rfl, below_drewN _ _⟩

theorem five_at (b k : Nat) (h : k < 5) : (five b)[k]? = some (.pointer (some ⟨b, k, none⟩)) := by
  match k, h with
  | 0, _ => rfl
  | 1, _ => rfl
  | 2, _ => rfl
  | 3, _ => rfl
  | 4, _ => rfl

set_option maxHeartbeats 1000000 in
set_option maxRecDepth 100000 in
theorem deqf (N M b c : Nat) (xs ys : List Int) (w : World) (hN : Blk w N (five b) 49) (hM : Blk w M (five c) 49) (hxl : xs.length = 5) (hyl : ys.length = 5)
    (hx : ∀ k z, xs[k]? = some z → w.cell? ⟨b, k, none⟩ = some (.int .i64 z)) (hy : ∀ k z, ys[k]? = some z → w.cell? ⟨c, k, none⟩ = some (.int .i64 z)) (hb : b < w.heap.size) (hc : c < w.heap.size) :
    Calls Tryd.prog 37 #[.slice (some ⟨N, 0, none⟩) 5 5, .slice (some ⟨M, 0, none⟩) 5 5, .func (.func 36) #[] #[]] w fun e w' => e = .returned (.bool (decide (xs = ys))) ∧ Below w.heap.size w w' := by
  have HN := Lib.hid hN
  have HM := Lib.hid hM
  have HX := Lib.hid hx
  have HY := Lib.hid hy
  have HXL := Lib.hid hxl
  have HYL := Lib.hid hyl
  have HBL := Lib.hid hb
  have HCL := Lib.hid hc
  clear hN hM hx hy hxl hyl hb hc
  go_enter Tryd.func37, Tryd.ntmps37
  go_wp2_with fail
  go_loopw [17] (fun iv wr => ∃ k : Nat, k ≤ 5 ∧ iv = .int .i64 k ∧ xs.take k = ys.take k ∧ Below w.heap.size w wr) (fun iv _ => 5 - (intOf iv).toNat)
  case atStart => exact ⟨0, Nat.zero_le _, rfl, rfl, Below.refl _ _⟩
  case round =>
    obtain ⟨k, hk, rfl, heq, hbw⟩ := hrel
    have HE := Lib.hid heq
    have HB := Lib.hid hbw
    by_cases hlt : k < 5
    · obtain ⟨x, hgx⟩ : ∃ x, xs[k]? = some x := ⟨_, List.getElem?_eq_getElem (by rw [HXL.out]; exact hlt)⟩
      obtain ⟨y, hgy⟩ : ∃ y, ys[k]? = some y := ⟨_, List.getElem?_eq_getElem (by rw [HYL.out]; exact hlt)⟩
      have p0 := (HN.out.below hbw).cell (five_at b k hlt)
      have p1 := (HM.out.below hbw).cell (five_at c k hlt)
      have C := dclo b c k k x y wr ((hbw.cell (p := ⟨b, k, none⟩) HBL.out).trans (HX.out k x hgx)) ((hbw.cell (p := ⟨c, k, none⟩) HCL.out).trans (HY.out k y hgy))
      have HC := Lib.hid C
      have HGX := Lib.hid hgx
      have HGY := Lib.hid hgy
      have hki : (k : Int) < 5 := by omega
      clear heq hbw hgx hgy C
      by_cases hxy : x = y
      · have HXY := Lib.hid hxy
        rw [beq_iff_eq.2 hxy] at HC
        clear hxy
        go_wp2_with fail
        refine HC.out.mono ?_
        rintro e w1 ⟨rfl, b1⟩
        have HB1 := Lib.hid (HB.out.trans (b1.mono HB.out.size))
        clear b1
        go_wp2_with fail
        go_roundw
        case rel => exact ⟨k + 1, by omega, by go_num, by rw [List.take_add_one, List.take_add_one, HE.out, HGX.out, HGY.out, HXY.out], HB1.out⟩
        case measure => simp [intOf]; omega
      · have HXY := Lib.hid hxy
        rw [beq_eq_false_iff_ne.2 hxy] at HC
        clear hxy
        go_wp2_with fail
        refine HC.out.mono ?_
        rintro e w1 ⟨rfl, b1⟩
        have HB1 := Lib.hid (HB.out.trans (b1.mono HB.out.size))
        clear b1
        go_wp2_with fail
        go_ret
        exact ⟨congrArg (fun b => Ending.returned (.bool b)) (decide_eq_false fun e => HXY.out (Option.some.inj (HGX.out.symm.trans (by rw [e]; exact HGY.out)))).symm, HB1.out⟩
    · obtain rfl : k = 5 := by omega
      clear heq hbw
      go_wp2_with fail
      go_ret
      have h := HE.out
      rw [List.take_of_length_le (by rw [HXL.out]; exact Nat.le_refl _), List.take_of_length_le (by rw [HYL.out]; exact Nat.le_refl _)] at h
      exact ⟨congrArg (fun b => Ending.returned (.bool b)) (decide_eq_true h).symm, HB.out⟩

theorem eqRs_len {l m : List Pl.Rc} (h : l.length ≠ m.length) : Pl.eqRs l m = false := Bool.eq_false_iff.2 fun e => h (by rw [Pl.eqRs_iff.1 e])
set_option maxHeartbeats 1000000 in
set_option maxRecDepth 100000 in
theorem dequal (ls ms : List Pl.Rc) (v u : Value) (w : World) (h : Recs v ls w) (k : Recs u ms w) (hl : ls.length ≤ 1099511627776) (hl2 : ms.length ≤ 1099511627776) :
    Calls Tryd.prog 38 #[v, u] w fun e w' => e = .returned (.bool (Pl.eqRs ls ms)) ∧ Below w.heap.size w w' := by
  obtain ⟨a1, cap1, rfl, hc1⟩ := h
  obtain ⟨a2, cap2, rfl, hc2⟩ := k
  obtain ⟨m, hm⟩ : ∃ m, ls.length = m := ⟨_, rfl⟩
  obtain ⟨m2, hm2⟩ : ∃ m, ms.length = m := ⟨_, rfl⟩
  rw [hm] at hl ⊢
  rw [hm2] at hl2 ⊢
  have HM := Lib.hid hm
  have HM2 := Lib.hid hm2
  have HC1 := Lib.hid hc1
  have HC2 := Lib.hid hc2
  clear hm hm2 hc1 hc2
  by_cases hmm : m = m2
  · subst hmm
    go_enter Tryd.func38, Tryd.ntmps38
    obtain ⟨r, hr⟩ : ∃ r, Pl.eqRs ls ms = r := ⟨_, rfl⟩
    rw [hr]
    have HR := Lib.hid hr
    clear hr
    go_wp2_with fail
    go_loopw [13] (fun iv wr => ∃ k n : Nat, k ≤ m ∧ iv = .int .i64 k ∧ wr = w.drewN n ∧ Pl.eqRs (ls.drop k) (ms.drop k) = r) (fun iv _ => m - (intOf iv).toNat)
    case atStart => exact ⟨0, 0, Nat.zero_le _, rfl, rfl, HR.out⟩
    case round =>
      obtain ⟨k, n, hk, rfl, rfl, heq⟩ := hrel
      have HE := Lib.hid heq
      clear heq
      by_cases hlt : k < m
      · obtain ⟨x, hg⟩ : ∃ x, ls[k]? = some x := ⟨_, List.getElem?_eq_getElem (by rw [HM.out]; exact hlt)⟩
        obtain ⟨y, hg2⟩ : ∃ y, ms[k]? = some y := ⟨_, List.getElem?_eq_getElem (by rw [HM2.out]; exact hlt)⟩
        have hd1 : ls.drop k = x :: ls.drop (k + 1) := by
          rw [List.drop_eq_getElem_cons (show k < ls.length by rw [HM.out]; exact hlt), Option.some.inj ((List.getElem?_eq_getElem (show k < ls.length by rw [HM.out]; exact hlt)).symm.trans hg)]
        have hd2 : ms.drop k = y :: ms.drop (k + 1) := by
          rw [List.drop_eq_getElem_cons (show k < ms.length by rw [HM2.out]; exact hlt), Option.some.inj ((List.getElem?_eq_getElem (show k < ms.length by rw [HM2.out]; exact hlt)).symm.trans hg2)]
        have HE2 : Hid ((Pl.eqR x y && Pl.eqRs (ls.drop (k + 1)) (ms.drop (k + 1))) = r) := by rw [← HE.out, hd1, hd2]; rfl
        obtain ⟨b, off, rfl, hbl, c0, c1, c2, c3⟩ := HC1.out k x hg
        obtain ⟨b', off', rfl, hbl', c0', c1', c2', c3'⟩ := HC2.out k y hg2
        clear hg hg2 hd1 hd2 hbl hbl'
        have hgu := rec_guard
        have hne := fun wx => rec_neq x.off y.off ⟨x.key.toArray⟩ ⟨y.key.toArray⟩ ⟨x.val.toArray⟩ ⟨y.val.toArray⟩ x.gone y.gone wx
        go_wp2_with fail
        go_quiet (fail)
        go_wp2_with fail
        · go_ret
          have hd := rec_differ ‹_›
          exact ⟨congrArg (fun b => Ending.returned (.bool b)) (by rw [← HE2.out, hd]; rfl), (below_drewN w n).trans (below_drewN _ _)⟩
        · have hd := rec_agree ‹_›
          go_roundw
          case rel => exact ⟨k + 1, n + nq, by omega, by go_num, rfl, by rw [← HE2.out, hd]; rfl⟩
          case measure => simp [intOf]; omega
      · go_wp2_with fail
        go_ret
        have h := HE.out
        rw [List.drop_of_length_le (by rw [HM.out]; omega), List.drop_of_length_le (by rw [HM2.out]; omega)] at h
        exact ⟨congrArg (fun b => Ending.returned (.bool b)) (by rw [← h]; rfl), below_drewN _ _⟩
  · have hne : ((m : Int) != (m2 : Int)) = true := by rw [bne_iff_ne]; omega
    go_enter Tryd.func38, Tryd.ntmps38
    go_wp2_with fail
    go_ret
    exact ⟨congrArg (fun b => Ending.returned (.bool b)) (eqRs_len (by rw [HM.out, HM2.out]; exact hmm)).symm, Below.refl _ _⟩

theorem nums_ne {a b : Pl.Bt} (h : Pl.nums a ≠ Pl.nums b) : Pl.sameB a b = false := Bool.eq_false_iff.2 fun e => h (by rw [Pl.sameB_iff.1 e])
theorem nums_eq {a b : Pl.Bt} (h : Pl.nums a = Pl.nums b) : Pl.sameB a b = Pl.eqRs a.recs b.recs := by
  obtain ⟨a1, a2, a3, a4, a5, a6⟩ := a
  obtain ⟨b1, b2, b3, b4, b5, b6⟩ := b
  simp only [Pl.nums, List.cons.injEq] at h
  obtain ⟨rfl, rfl, rfl, rfl, rfl, -⟩ := h
  rw [Bool.eq_iff_iff, Pl.sameB_iff, Pl.eqRs_iff]
  simp

theorem nums_cell {w : World} {b : Nat} {base count prod seq time : Int} {ls : List Pl.Rc} {v : Value} {T : TypeId} (h : Blk w b #[.int .i64 base, .int .i64 count, .int .i64 prod, .int .i64 seq, .int .i64 time, v] T) : ∀ k z, (Pl.nums ⟨base, count, prod, seq, time, ls⟩)[k]? = some z → w.cell? ⟨b, k, none⟩ = some (.int .i64 z) := by
  intro k z hz
  refine h.cell ?_
  match k, hz with
  | 0, hz => obtain rfl := Option.some.inj hz; rfl
  | 1, hz => obtain rfl := Option.some.inj hz; rfl
  | 2, hz => obtain rfl := Option.some.inj hz; rfl
  | 3, hz => obtain rfl := Option.some.inj hz; rfl
  | 4, hz => obtain rfl := Option.some.inj hz; rfl
  | k + 5, hz => simp [Pl.nums] at hz

set_option maxHeartbeats 2000000 in
set_option maxRecDepth 100000 in
theorem dsame (a b : Pl.Bt) (v u : Value) (w : World) (h : Recs v a.recs w) (k : Recs u b.recs w) (hl : a.recs.length ≤ 1099511627776) (hl2 : b.recs.length ≤ 1099511627776) :
    Calls Tryd.prog 19 #[.agg #[.int .i64 a.base, .int .i64 a.count, .int .i64 a.prod, .int .i64 a.seq, .int .i64 a.time, v], .agg #[.int .i64 b.base, .int .i64 b.count, .int .i64 b.prod, .int .i64 b.seq, .int .i64 b.time, u]] w fun e w' => e = .returned (.bool (Pl.sameB a b)) ∧ Below w.heap.size w w' := by
  obtain ⟨base, count, prod, seq, time, ls⟩ := a
  obtain ⟨base', count', prod', seq', time', ms⟩ := b
  simp only at h k hl hl2 ⊢
  have hb0 := Blk.new w #[.int .i64 base, .int .i64 count, .int .i64 prod, .int .i64 seq, .int .i64 time, v] 24
  have hw0 : Below w.heap.size w (w.alloc (.cells #[.int .i64 base, .int .i64 count, .int .i64 prod, .int .i64 seq, .int .i64 time, v] 24)) := (Below.refl _ _).alloc (Nat.le_refl _) _
  have hs0 : (w.alloc (.cells #[.int .i64 base, .int .i64 count, .int .i64 prod, .int .i64 seq, .int .i64 time, v] 24)).heap.size = w.heap.size + 1 := by simp
  obtain ⟨W1, hW1⟩ : ∃ W1, w.alloc (.cells #[.int .i64 base, .int .i64 count, .int .i64 prod, .int .i64 seq, .int .i64 time, v] 24) = W1 := ⟨_, rfl⟩
  rw [hW1] at hb0 hw0 hs0
  have hb1 := Blk.new W1 #[.int .i64 base', .int .i64 count', .int .i64 prod', .int .i64 seq', .int .i64 time', u] 24
  have hw1 : Below W1.heap.size W1 (W1.alloc (.cells #[.int .i64 base', .int .i64 count', .int .i64 prod', .int .i64 seq', .int .i64 time', u] 24)) := (Below.refl _ _).alloc (Nat.le_refl _) _
  obtain ⟨W2, hW2⟩ : ∃ W2, W1.alloc (.cells #[.int .i64 base', .int .i64 count', .int .i64 prod', .int .i64 seq', .int .i64 time', u] 24) = W2 := ⟨_, rfl⟩
  rw [hW2] at hb1 hw1
  rw [hs0] at hb1
  have HW2 := Lib.hid (hw0.trans (hw1.mono hw0.size))
  have HA := Lib.hid (hb0.below hw1)
  have HB := Lib.hid hb1
  have HE1 := Lib.hid hW1
  have HE2 := Lib.hid hW2
  have HEQ := Lib.hid fun wx (hx : Below w.heap.size w wx) => dequal ls ms v u wx (h.below hx) (k.below hx) hl hl2
  clear hb0 hw0 hs0 hb1 hw1 hW1 hW2 h k
  go_enter Tryd.func19, Tryd.ntmps19
  go_wp2_with fail
  rw [HE1.out, HE2.out]
  refine (dnumbers _ _).mono ?_
  rintro e w3 ⟨rfl, n3, b3⟩
  have HA3 := Lib.hid (HA.out.below b3)
  have HB3 := Lib.hid (HB.out.below b3)
  have HW3 := Lib.hid (HW2.out.trans (b3.mono HW2.out.size))
  have HN3 := Lib.hid n3
  clear n3 b3 HA HB
  go_wp2_with fail
  refine (dnumbers _ _).mono ?_
  rintro e w4 ⟨rfl, n4, b4⟩
  have HA4 := Lib.hid (HA3.out.below b4)
  have HB4 := Lib.hid (HB3.out.below b4)
  have HN4 := Lib.hid (HN3.out.below b4)
  have HW4 := Lib.hid (HW3.out.trans (b4.mono HW3.out.size))
  have HM4 := Lib.hid n4
  clear n4 b4 HA3 HB3 HN3
  have C := deqf W2.heap.size w3.heap.size w.heap.size (w.heap.size + 1) (Pl.nums ⟨base, count, prod, seq, time, ls⟩) (Pl.nums ⟨base', count', prod', seq', time', ms⟩) w4 HN4.out HM4.out rfl rfl (nums_cell HA4.out) (nums_cell HB4.out) HA4.out.lt HB4.out.lt
  by_cases hnn : Pl.nums ⟨base, count, prod, seq, time, ls⟩ = Pl.nums ⟨base', count', prod', seq', time', ms⟩
  · rw [decide_eq_true hnn] at C
    have HS := Lib.hid (nums_eq hnn)
    clear hnn
    have HC := Lib.hid C
    clear C
    go_wp2_with fail
    refine HC.out.mono ?_
    rintro e w5 ⟨rfl, b5⟩
    have c5 := (HA4.out.below b5).cell (i := 5) rfl
    have d5 := (HB4.out.below b5).cell (i := 5) rfl
    have HW5 := Lib.hid (HW4.out.trans (b5.mono HW4.out.size))
    have HQ := Lib.hid (HEQ.out w5 HW5.out)
    clear b5 HA4 HB4 HN4 HM4 HEQ
    cases hq : Pl.eqRs ls ms with
    | false =>
      rw [hq] at HQ
      have HS2 := Lib.hid hq
      clear hq
      go_wp2_with fail
      refine HQ.out.mono ?_
      rintro e w6 ⟨rfl, b6⟩
      go_wp2_with fail
      go_ret
      exact ⟨congrArg (fun b => Ending.returned (.bool b)) (HS.out.trans HS2.out).symm, HW5.out.trans (b6.mono HW5.out.size)⟩
    | true =>
      rw [hq] at HQ
      have HS2 := Lib.hid hq
      clear hq
      go_wp2_with fail
      refine HQ.out.mono ?_
      rintro e w6 ⟨rfl, b6⟩
      go_wp2_with fail
      go_ret
      exact ⟨congrArg (fun b => Ending.returned (.bool b)) (HS.out.trans HS2.out).symm, HW5.out.trans (b6.mono HW5.out.size)⟩
  · rw [decide_eq_false hnn] at C
    have HS := Lib.hid (nums_ne hnn)
    have HC := Lib.hid C
    clear C hnn
    go_wp2_with fail
    refine HC.out.mono ?_
    rintro e w5 ⟨rfl, b5⟩
    have HW5 := Lib.hid (HW4.out.trans (b5.mono HW4.out.size))
    clear b5
    go_wp2_with fail
    go_ret
    exact ⟨congrArg (fun b => Ending.returned (.bool b)) HS.out.symm, HW5.out⟩
end Go.Proofs.YthhlegfmikidpaaDoor
