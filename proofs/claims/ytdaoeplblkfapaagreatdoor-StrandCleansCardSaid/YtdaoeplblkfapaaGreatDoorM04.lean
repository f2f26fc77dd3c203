import Derived.Test.YtdaoeplblkfapaaGreatDoorM03
import Derived.OwnWalk
import Derived.Laws.AppendOwnNone
import Derived.Lib.SliceRun
import Derived.Test.YtdaoeplblkfapaaGreatDoorM02
import Derived.Test.YtdaoeplblkfapaaGreatDoorProg
import Derived.Maps.RangeWalk
import Derived.Maps.AppendAt
import Derived.Carry
import Derived.Sort.KeysCollected
import Derived.WalkKit
import Derived.Lib.Hide

/- THE CONTRACTS OF crate.Same: its closure, slices.EqualFunc at it, slices.Equal. -/
namespace Go.Proofs.YtdaoeplblkfapaaGreatDoor
open Go.RowKit

set_option maxHeartbeats 400000 in
theorem dclo (b c i j : Nat) (x y : Int) (w : World) (hx : w.cell? ⟨b, i, none⟩ = some (.int .i64 x)) (hy : w.cell? ⟨c, j, none⟩ = some (.int .i64 y)) :
    Calls Tryz.prog 169 #[.pointer (some ⟨b, i, none⟩), .pointer (some ⟨c, j, none⟩)] w fun e w' => e = .returned (.bool (x == y)) ∧ Below w.heap.size w w' := by
  go_enter Tryz.func169, Tryz.ntmps169
  go_wp2_with fail
  go_quiet (fail)
  go_wp2_with fail
  go_ret
  exact ⟨rfl, below_drewN _ _⟩

theorem five_at (b k : Nat) (h : k < 5) : (five b)[k]? = some (.pointer (some ⟨b, k, none⟩)) := by
  match k, h with
  | 0, _ => rfl
  | 1, _ => rfl
  | 2, _ => rfl
  | 3, _ => rfl
  | 4, _ => rfl

set_option maxHeartbeats 1000000 in
set_option maxRecDepth 100000 in
theorem deqf (N M b c : Nat) (xs ys : List Int) (w : World) (hN : Blk w N (five b) 151) (hM : Blk w M (five c) 151) (hxl : xs.length = 5) (hyl : ys.length = 5)
    (hx : ∀ k z, xs[k]? = some z → w.cell? ⟨b, k, none⟩ = some (.int .i64 z)) (hy : ∀ k z, ys[k]? = some z → w.cell? ⟨c, k, none⟩ = some (.int .i64 z)) (hb : b < w.heap.size) (hc : c < w.heap.size) :
    Calls Tryz.prog 170 #[.slice (some ⟨N, 0, none⟩) 5 5, .slice (some ⟨M, 0, none⟩) 5 5, .func (.func 169) #[] #[]] w fun e w' => e = .returned (.bool (decide (xs = ys))) ∧ Below w.heap.size w w' := by
  have HN := Lib.hid hN
  have HM := Lib.hid hM
  have HX := Lib.hid hx
  have HY := Lib.hid hy
  have HXL := Lib.hid hxl
  have HYL := Lib.hid hyl
  have HBL := Lib.hid hb
  have HCL := Lib.hid hc
  clear hN hM hx hy hxl hyl hb hc
  go_enter Tryz.func170, Tryz.ntmps170
  go_wp2_with fail
  go_loopw [17] (fun iv wr => ∃ k : Nat, k ≤ 5 ∧ iv = .int .i64 k ∧ xs.take k = ys.take k ∧ Below w.heap.size w wr) (fun iv _ => 5 - (intOf iv).toNat)
  case atStart => exact ⟨0, Nat.zero_le _, rfl, rfl, Below.refl _ _⟩
  case round =>
    obtain ⟨k, hk, rfl, heq, hbw⟩ := hrel
    have HE := Lib.hid heq
    have HB := Lib.hid hbw
    by_cases hlt : k < 5
    · obtain ⟨x, hgx⟩ : ∃ x, xs[k]? = some x := ⟨_, List.getElem?_eq_getElem (by rw [HXL.out]; exact hlt)⟩
      obtain ⟨y, hgy⟩ : ∃ y, ys[k]? = some y := ⟨_, List.getElem?_eq_getElem (by rw [HYL.out]; exact hlt)⟩
      have p0 := (HN.out.below hbw).cell (five_at b k hlt)
      have p1 := (HM.out.below hbw).cell (five_at c k hlt)
      have C := dclo b c k k x y wr ((hbw.cell (p := ⟨b, k, none⟩) HBL.out).trans (HX.out k x hgx)) ((hbw.cell (p := ⟨c, k, none⟩) HCL.out).trans (HY.out k y hgy))
      have HC := Lib.hid C
      have HGX := Lib.hid hgx
      have HGY := Lib.hid hgy
      have hki : (k : Int) < 5 := by omega
      clear heq hbw hgx hgy C
      by_cases hxy : x = y
      · have HXY := Lib.hid hxy
        rw [beq_iff_eq.2 hxy] at HC
        clear hxy
        go_wp2_with fail
        refine HC.out.mono ?_
        rintro e w1 ⟨rfl, b1⟩
        have HB1 := Lib.hid (HB.out.trans (b1.mono HB.out.size))
        clear b1
        go_wp2_with fail
        go_roundw
        case rel => exact ⟨k + 1, by omega, by go_num, by rw [List.take_add_one, List.take_add_one, HE.out, HGX.out, HGY.out, HXY.out], HB1.out⟩
        case measure => simp [intOf]; omega
      · have HXY := Lib.hid hxy
        rw [beq_eq_false_iff_ne.2 hxy] at HC
        clear hxy
        go_wp2_with fail
        refine HC.out.mono ?_
        rintro e w1 ⟨rfl, b1⟩
        have HB1 := Lib.hid (HB.out.trans (b1.mono HB.out.size))
        clear b1
        go_wp2_with fail
        go_ret
        exact ⟨congrArg (fun b => Ending.returned (.bool b)) (decide_eq_false fun e => HXY.out (Option.some.inj (HGX.out.symm.trans (by rw [e]; exact HGY.out)))).symm, HB1.out⟩
    · obtain rfl : k = 5 := by omega
      clear heq hbw
      go_wp2_with fail
      go_ret
      have h := HE.out
      rw [List.take_of_length_le (by rw [HXL.out]; exact Nat.le_refl _), List.take_of_length_le (by rw [HYL.out]; exact Nat.le_refl _)] at h
      exact ⟨congrArg (fun b => Ending.returned (.bool b)) (decide_eq_true h).symm, HB.out⟩

theorem eqRs_len {l m : List Pl.Rc} (h : l.length ≠ m.length) : Pl.eqRs l m = false := Bool.eq_false_iff.2 fun e => h (by rw [Pl.eqRs_iff.1 e])
set_option maxHeartbeats 1000000 in
set_option maxRecDepth 100000 in
theorem dequal (ls ms : List Pl.Rc) (v u : Value) (w : World) (h : Recs v ls w) (k : Recs u ms w) (hl : ls.length ≤ 1099511627776) (hl2 : ms.length ≤ 1099511627776) :
    Calls Tryz.prog 171 #[v, u] w fun e w' => e = .returned (.bool (Pl.eqRs ls ms)) ∧ Below w.heap.size w w' := by
  obtain ⟨a1, cap1, rfl, hc1⟩ := h
  obtain ⟨a2, cap2, rfl, hc2⟩ := k
  obtain ⟨m, hm⟩ : ∃ m, ls.length = m := ⟨_, rfl⟩
  obtain ⟨m2, hm2⟩ : ∃ m, ms.length = m := ⟨_, rfl⟩
  rw [hm] at hl ⊢
  rw [hm2] at hl2 ⊢
  have HM := Lib.hid hm
  have HM2 := Lib.hid hm2
  have HC1 := Lib.hid hc1
  have HC2 := Lib.hid hc2
  clear hm hm2 hc1 hc2
  by_cases hmm : m = m2
  · subst hmm
    go_enter Tryz.func171, Tryz.ntmps171
    obtain ⟨r, hr⟩ : ∃ r, Pl.eqRs ls ms = r := ⟨_, rfl⟩
    rw [hr]
    have HR := Lib.hid hr
    clear hr
    go_wp2_with fail
    go_loopw [13] (fun iv wr => ∃ k n : Nat, k ≤ m ∧ iv = .int .i64 k ∧ wr = w.drewN n ∧ Pl.eqRs (ls.drop k) (ms.drop k) = r) (fun iv _ => m - (intOf iv).toNat)
    case atStart => exact ⟨0, 0, Nat.zero_le _, rfl, rfl, HR.out⟩
    case round =>
      obtain ⟨k, n, hk, rfl, rfl, heq⟩ := hrel
      have HE := Lib.hid heq
      clear heq
      by_cases hlt : k < m
      · obtain ⟨x, hg⟩ : ∃ x, ls[k]? = some x := ⟨_, List.getElem?_eq_getElem (by rw [HM.out]; exact hlt)⟩
        obtain ⟨y, hg2⟩ : ∃ y, ms[k]? = some y := ⟨_, List.getElem?_eq_getElem (by rw [HM2.out]; exact hlt)⟩
        have hd1 : ls.drop k = x :: ls.drop (k + 1) := by
          rw [List.drop_eq_getElem_cons (show k < ls.length by rw [HM.out]; exact hlt), Option.some.inj ((List.getElem?_eq_getElem (show k < ls.length by rw [HM.out]; exact hlt)).symm.trans hg)]
        have hd2 : ms.drop k = y :: ms.drop (k + 1) := by
          rw [List.drop_eq_getElem_cons (show k < ms.length by rw [HM2.out]; exact hlt), Option.some.inj ((List.getElem?_eq_getElem (show k < ms.length by rw [HM2.out]; exact hlt)).symm.trans hg2)]
        have HE2 : Hid ((Pl.eqR x y && Pl.eqRs (ls.drop (k + 1)) (ms.drop (k + 1))) = r) := by rw [← HE.out, hd1, hd2]; rfl
        obtain ⟨b, off, rfl, hbl, c0, c1, c2, c3⟩ := HC1.out k x hg
        obtain ⟨b', off', rfl, hbl', c0', c1', c2', c3'⟩ := HC2.out k y hg2
        clear hg hg2 hd1 hd2 hbl hbl'
        have hgu := rec_guard
        have hne := fun wx => rec_neq x.off y.off ⟨x.key.toArray⟩ ⟨y.key.toArray⟩ ⟨x.val.toArray⟩ ⟨y.val.toArray⟩ x.gone y.gone wx
        go_wp2_with fail
        go_quiet (fail)
        go_wp2_with fail
        · go_ret
          have hd := rec_differ ‹_›
          exact ⟨congrArg (fun b => Ending.returned (.bool b)) (by rw [← HE2.out, hd]; rfl), (below_drewN w n).trans (below_drewN _ _)⟩
        · have hd := rec_agree ‹_›
          go_roundw
          case rel => exact ⟨k + 1, n + nq, by omega, by go_num, rfl, by rw [← HE2.out, hd]; rfl⟩
          case measure => simp [intOf]; omega
      · go_wp2_with fail
        go_ret
        have h := HE.out
        rw [List.drop_of_length_le (by rw [HM.out]; omega), List.drop_of_length_le (by rw [HM2.out]; omega)] at h
        exact ⟨congrArg (fun b => Ending.returned (.bool b)) (by rw [← h]; rfl), below_drewN _ _⟩
  · have hne : ((m : Int) != (m2 : Int)) = true := by rw [bne_iff_ne]; omega
    go_enter Tryz.func171, Tryz.ntmps171
    go_wp2_with fail
    go_ret
    exact ⟨congrArg (fun b => Ending.returned (.bool b)) (eqRs_len (by rw [HM.out, HM2.out]; exact hmm)).symm, Below.refl _ _⟩

theorem nums_ne {a b : Pl.Bt} (h : Pl.nums a ≠ Pl.nums b) : Pl.sameB a b = false := Bool.eq_false_iff.2 fun e => h (by rw [Pl.sameB_iff.1 e])
theorem nums_eq {a b : Pl.Bt} (h : Pl.nums a = Pl.nums b) : Pl.sameB a b = Pl.eqRs a.recs b.recs := by
  obtain ⟨a1, a2, a3, a4, a5, a6⟩ := a
  obtain ⟨b1, b2, b3, b4, b5, b6⟩ := b
  simp only [Pl.nums, List.cons.injEq] at h
  obtain ⟨rfl, rfl, rfl, rfl, rfl, -⟩ := h
  rw [Bool.eq_iff_iff, Pl.sameB_iff, Pl.eqRs_iff]
  simp

theorem nums_cell {w : World} {b : Nat} {base count prod seq time : Int} {ls : List Pl.Rc} {v : Value} {T : TypeId} (h : Blk w b #[.int .i64 base, .int .i64 count, .int .i64 prod, .int .i64 seq, .int .i64 time, v] T) : ∀ k z, (Pl.nums ⟨base, count, prod, seq, time, ls⟩)[k]? = some z → w.cell? ⟨b, k, none⟩ = some (.int .i64 z) := by
  intro k z hz
  refine h.cell ?_
  match k, hz with
  | 0, hz => obtain rfl := Option.some.inj hz; rfl
  | 1, hz => obtain rfl := Option.some.inj hz; rfl
  | 2, hz => obtain rfl := Option.some.inj hz; rfl
  | 3, hz => obtain rfl := Option.some.inj hz; rfl
  | 4, hz => obtain rfl := Option.some.inj hz; rfl
  | k + 5, hz => simp [Pl.nums] at hz

set_option maxHeartbeats 2000000 in
set_option maxRecDepth 100000 in
theorem dsame (a b : Pl.Bt) (v u : Value) (w : World) (h : Recs v a.recs w) (k : Recs u b.recs w) (hl : a.recs.length ≤ 1099511627776) (hl2 : b.recs.length ≤ 1099511627776) :
    Calls Tryz.prog 134 #[.agg #[.int .i64 a.base, .int .i64 a.count, .int .i64 a.prod, .int .i64 a.seq, .int .i64 a.time, v], .agg #[.int .i64 b.base, .int .i64 b.count, .int .i64 b.prod, .int .i64 b.seq, .int .i64 b.time, u]] w fun e w' => e = .returned (.bool (Pl.sameB a b)) ∧ Below w.heap.size w w' := by
  obtain ⟨base, count, prod, seq, time, ls⟩ := a
  obtain ⟨base', count', prod', seq', time', ms⟩ := b
  simp only at h k hl hl2 ⊢
  have hb0 := Blk.new w #[.int .i64 base, .int .i64 count, .int .i64 prod, .int .i64 seq, .int .i64 time, v] 34
  have hw0 : Below w.heap.size w (w.alloc (.cells #[.int .i64 base, .int .i64 count, .int .i64 prod, .int .i64 seq, .int .i64 time, v] 34)) := (Below.refl _ _).alloc (Nat.le_refl _) _
  have hs0 : (w.alloc (.cells #[.int .i64 base, .int .i64 count, .int .i64 prod, .int .i64 seq, .int .i64 time, v] 34)).heap.size = w.heap.size + 1 := by simp
  obtain ⟨W1, hW1⟩ : ∃ W1, w.alloc (.cells #[.int .i64 base, .int .i64 count, .int .i64 prod, .int .i64 seq, .int .i64 time, v] 34) = W1 := ⟨_, rfl⟩
  rw [hW1] at hb0 hw0 hs0
  have hb1 := Blk.new W1 #[.int .i64 base', .int .i64 count', .int .i64 prod', .int .i64 seq', .int .i64 time', u] 34
  have hw1 : Below W1.heap.size W1 (W1.alloc (.cells #[.int .i64 base', .int .i64 count', .int .i64 prod', .int .i64 seq', .int .i64 time', u] 34)) := (Below.refl _ _).alloc (Nat.le_refl _) _
  obtain ⟨W2, hW2⟩ : ∃ W2, W1.alloc (.cells #[.int .i64 base', .int .i64 count', .int .i64 prod', .int .i64 seq', .int .i64 time', u] 34) = W2 := ⟨_, rfl⟩
  rw [hW2] at hb1 hw1
  rw [hs0] at hb1
  have HW2 := Lib.hid (hw0.trans (hw1.mono hw0.size))
  have HA := Lib.hid (hb0.below hw1)
  have HB := Lib.hid hb1
  have HE1 := Lib.hid hW1
  have HE2 := Lib.hid hW2
  have HEQ := Lib.hid fun wx (hx : Below w.heap.size w wx) => dequal ls ms v u wx (h.below hx) (k.below hx) hl hl2
  clear hb0 hw0 hs0 hb1 hw1 hW1 hW2 h k
  go_enter Tryz.func134, Tryz.ntmps134
  go_wp2_with fail
  rw [HE1.out, HE2.out]
  refine (dnumbers _ _).mono ?_
  rintro e w3 ⟨rfl, n3, b3⟩
  have HA3 := Lib.hid (HA.out.below b3)
  have HB3 := Lib.hid (HB.out.below b3)
  have HW3 := Lib.hid (HW2.out.trans (b3.mono HW2.out.size))
  have HN3 := Lib.hid n3
  clear n3 b3 HA HB
  go_wp2_with fail
  refine (dnumbers _ _).mono ?_
  rintro e w4 ⟨rfl, n4, b4⟩
  have HA4 := Lib.hid (HA3.out.below b4)
  have HB4 := Lib.hid (HB3.out.below b4)
  have HN4 := Lib.hid (HN3.out.below b4)
  have HW4 := Lib.hid (HW3.out.trans (b4.mono HW3.out.size))
  have HM4 := Lib.hid n4
  clear n4 b4 HA3 HB3 HN3
  have C := deqf W2.heap.size w3.heap.size w.heap.size (w.heap.size + 1) (Pl.nums ⟨base, count, prod, seq, time, ls⟩) (Pl.nums ⟨base', count', prod', seq', time', ms⟩) w4 HN4.out HM4.out rfl rfl (nums_cell HA4.out) (nums_cell HB4.out) HA4.out.lt HB4.out.lt
  by_cases hnn : Pl.nums ⟨base, count, prod, seq, time, ls⟩ = Pl.nums ⟨base', count', prod', seq', time', ms⟩
  · rw [decide_eq_true hnn] at C
    have HS := Lib.hid (nums_eq hnn)
    clear hnn
    have HC := Lib.hid C
    clear C
    go_wp2_with fail
    refine HC.out.mono ?_
    rintro e w5 ⟨rfl, b5⟩
    have c5 := (HA4.out.below b5).cell (i := 5) rfl
    have d5 := (HB4.out.below b5).cell (i := 5) rfl
    have HW5 := Lib.hid (HW4.out.trans (b5.mono HW4.out.size))
    have HQ := Lib.hid (HEQ.out w5 HW5.out)
    clear b5 HA4 HB4 HN4 HM4 HEQ
    cases hq : Pl.eqRs ls ms with
    | false =>
      rw [hq] at HQ
      have HS2 := Lib.hid hq
      clear hq
      go_wp2_with fail
      refine HQ.out.mono ?_
      rintro e w6 ⟨rfl, b6⟩
      go_wp2_with fail
      go_ret
      exact ⟨congrArg (fun b => Ending.returned (.bool b)) (HS.out.trans HS2.out).symm, HW5.out.trans (b6.mono HW5.out.size)⟩
    | true =>
      rw [hq] at HQ
      have HS2 := Lib.hid hq
      clear hq
      go_wp2_with fail
      refine HQ.out.mono ?_
      rintro e w6 ⟨rfl, b6⟩
      go_wp2_with fail
      go_ret
      exact ⟨congrArg (fun b => Ending.returned (.bool b)) (HS.out.trans HS2.out).symm, HW5.out.trans (b6.mono HW5.out.size)⟩
  · rw [decide_eq_false hnn] at C
    have HS := Lib.hid (nums_ne hnn)
    have HC := Lib.hid C
    clear C hnn
    go_wp2_with fail
    refine HC.out.mono ?_
    rintro e w5 ⟨rfl, b5⟩
    have HW5 := Lib.hid (HW4.out.trans (b5.mono HW4.out.size))
    clear b5
    go_wp2_with fail
    go_ret
    exact ⟨congrArg (fun b => Ending.returned (.bool b)) HS.out.symm, HW5.out⟩
end Go.Proofs.YtdaoeplblkfapaaGreatDoor

/- THE CONTRACTS OF slices.Clone and crate.Pack. -/
namespace Go.Proofs.YtdaoeplblkfapaaGreatDoor
open Go.RowKit

theorem flat4_at : ∀ (ls : List Pl.Rc) (j : Nat) (u : Value), (ls.flatMap cells4)[j]? = some u → ∃ i x r, ls[i]? = some x ∧ r < 4 ∧ j = i * 4 + r ∧ (cells4 x)[r]? = some u
  | [], j, u, h => by simp at h
  | y :: ls, j, u, h => by
    rw [List.flatMap_cons] at h
    by_cases hj : j < 4
    · rw [List.getElem?_append_left (by simp [cells4]; omega)] at h
      exact ⟨0, y, j, rfl, hj, by omega, h⟩
    · rw [List.getElem?_append_right (by simp [cells4]; omega)] at h
      obtain ⟨i, x, r, h1, h2, h3, h4⟩ := flat4_at ls (j - (cells4 y).length) u h
      refine ⟨i + 1, x, r, h1, h2, ?_, h4⟩
      have : (cells4 y).length = 4 := rfl
      omega
theorem flat4_len (ls : List Pl.Rc) : (ls.flatMap cells4).length = ls.length * 4 := by
  induction ls with
  | nil => rfl
  | cons y ls ih => rw [List.flatMap_cons, List.length_append, ih]; simp [cells4]; omega
theorem flat4_one (ls : List Pl.Rc) : ∀ u ∈ ls.flatMap cells4, u.oneCell' = true := by
  intro u hu
  obtain ⟨x, -, hx⟩ := List.mem_flatMap.1 hu
  simp only [cells4, List.mem_cons, List.not_mem_nil, or_false] at hx
  rcases hx with rfl | rfl | rfl | rfl <;> rfl
theorem add_plain (b off j : Nat) : (⟨b, off, none⟩ : Addr).add j = ⟨b, off + j, none⟩ := by
  unfold Addr.add
  by_cases hj : j = 0 <;> simp [hj]
/-- The cells of a slice of records, one by one. -/
theorem Recs.at {b off m cap : Nat} {ls : List Pl.Rc} {w : World} (h : Recs (.slice (some ⟨b, off, none⟩) m cap) ls w) : ∀ j u, (ls.flatMap cells4)[j]? = some u → w.cell? ⟨b, off + j, none⟩ = some u := by
  obtain ⟨a, cap', he, hc⟩ := h
  intro j u hj
  obtain ⟨i, x, r, h1, h2, h3, h4⟩ := flat4_at ls j u hj
  obtain ⟨b', off', e, -, c0, c1, c2, c3⟩ := hc i x h1
  injection he with e1
  rw [e] at e1
  injection e1 with e1
  injection e1 with e1 e2
  subst e1 e2 h3
  match r, h2, h4 with
  | 0, _, h4 => obtain rfl := Option.some.inj h4; exact c0
  | 1, _, h4 => obtain rfl := Option.some.inj h4; exact c1
  | 2, _, h4 => obtain rfl := Option.some.inj h4; exact c2
  | 3, _, h4 => obtain rfl := Option.some.inj h4; exact c3
theorem own_slice {w : World} {base n : Nat} {e : TypeId} {v : Value} {xs : List Value} (h : w.ownsRow base e 4 v n xs) (hn : n ≠ 0) : ∃ g cap cur, v = .slice (some ⟨g, 0, none⟩) n cap ∧ base ≤ g ∧ Blk w g cur e ∧ n ≤ cap ∧ cur.size = cap * 4 := by
  rcases h.2 with ⟨-, h0⟩ | ⟨g, cap, cur, rfl, h1, h2, h3, h4, h5, -⟩
  · exact absurd h0 hn
  · exact ⟨g, cap, cur, rfl, h1, h2, h3, h5⟩

set_option maxHeartbeats 1000000 in
set_option maxRecDepth 100000 in
theorem dclone (v : Value) (ls : List Pl.Rc) (w : World) (h : Recs v ls w) (h1 : 1 ≤ ls.length) (h8 : ls.length ≤ 8) :
    Calls Tryz.prog 128 #[v] w fun e w' => ∃ v', e = .returned v' ∧ w'.ownsRow w.heap.size 75 4 v' ls.length (ls.flatMap cells4) ∧ Below w.heap.size w w' := by
  have h' := h
  obtain ⟨a, cap, rfl, hc⟩ := h'
  obtain ⟨b, off, rfl, hbl⟩ : ∃ b off, a = some ⟨b, off, none⟩ ∧ b < w.heap.size := by
    obtain ⟨b, off, e, hb, -⟩ := hc 0 _ (List.getElem?_eq_getElem h1)
    exact ⟨b, off, e, hb⟩
  clear hc
  have hat := h.at
  have hw0 : Below w.heap.size w (w.alloc (.cells #[] 75)) := (Below.refl _ _).alloc (Nat.le_refl _) _
  have HAT := Lib.hid fun j u hj => (hw0.cell (p := ⟨b, off + j, none⟩) hbl).trans (hat j u hj)
  have HB0 := Lib.hid (Blk.new w #[] 75)
  have HW0 := Lib.hid hw0
  have hs0 : (w.alloc (.cells #[] 75)).heap.size = w.heap.size + 1 := by simp
  have HS0 := Lib.hid hs0
  obtain ⟨m, hm⟩ : ∃ m, ls.length = m := ⟨_, rfl⟩
  rw [hm] at h1 h8 ⊢
  have HM := Lib.hid hm
  clear hat hw0 h hm hbl hs0
  have hnil := fun wx => Lib.run_eql_slice_nil (P := Tryz.prog) wx 32 75 (some ⟨b, off, none⟩) m cap 0 0 Tryz.underlying32
  obtain ⟨i0, hi, hz0, hz1, hz2⟩ := infoRec
  go_enter Tryz.func128, Tryz.ntmps128
  go_wp2_with (at_builtin; refine wpList_append_own _ rfl _ _ 32 rfl w.heap.size 75 i0 (.agg zeroR) 4 48 Tryz.underlying32 hi hz0 hz1 hz2 rfl (by decide) _ 0 [] rfl ⟨rfl, Or.inr ⟨w.heap.size, 0, #[], rfl, Nat.le_refl _, HB0.out, Nat.le_refl _, Nat.zero_le _, rfl, rfl⟩⟩ ⟨b, off, none⟩ m cap (ls.flatMap cells4) rfl (by rw [flat4_len, HM.out]) ?c1 (flat4_one ls) ?c3 ?c4 ?c5 ?_)
  case c1 =>
    intro j u hj
    rw [add_plain]
    exact HAT.out j u hj
  case c3 => unfold maxLen; omega
  case c4 => omega
  case c5 => rw [HS0.out]; omega
  intro v' w9 hown9 hgrow9 _
  have HB9 : Hid (Below w.heap.size w w9) := HW0.out.trans ⟨hgrow9.os, hgrow9.tape, hgrow9.output, hgrow9.size, fun k hk => hgrow9.block k (by rw [HS0.out]; omega) (fun e => by
    have : k = w.heap.size := Option.some.inj e
    omega)⟩
  have HO9 := Lib.hid hown9
  clear hown9 hgrow9
  go_wp2_with fail
  go_ret
  exact ⟨v', rfl, HO9.out, HB9.out⟩

theorem flat4_set : ∀ (ls : List Pl.Rc) (k : Nat) (x : Pl.Rc) (o : Int), ls[k]? = some x → (ls.flatMap cells4).set (k * 4) (.int .i64 o) = (ls.set k { x with off := o }).flatMap cells4
  | [], k, x, o, h => by simp at h
  | y :: ls, 0, x, o, h => by
    obtain rfl := Option.some.inj h
    rfl
  | y :: ls, k + 1, x, o, h => by
    have ih := flat4_set ls k x o h
    rw [List.set_cons_succ, List.flatMap_cons, List.flatMap_cons, ← ih, List.set_append_right _ _ (by simp [cells4]; omega)]
    congr 2
    simp [cells4]
    omega
theorem own_set {w : World} {base n k g cap : Nat} {e : TypeId} {acc : List Pl.Rc} {x : Pl.Rc} (h : w.ownsRow base e 4 (.slice (some ⟨g, 0, none⟩) n cap) n (acc.flatMap cells4)) (hx : acc[k]? = some x) (o : Int) :
    (w.setCell ⟨g, k * 4, none⟩ (.int .i64 o)).ownsRow base e 4 (.slice (some ⟨g, 0, none⟩) n cap) n ((acc.set k { x with off := o }).flatMap cells4) := by
  obtain ⟨hl, h⟩ := h
  refine ⟨by rw [flat4_len, List.length_set, ← flat4_len]; exact hl, ?_⟩
  rcases h with ⟨h0, -⟩ | ⟨g', cap', cur, he, h1, h2, h3, h4, h5, h6⟩
  · cases h0
  · injection he with e1 e2 e3
    injection e1 with e1
    injection e1 with e1
    subst e1 e3
    refine Or.inr ⟨g, cap, cur.setIfInBounds (k * 4) (.int .i64 o), rfl, h1, Blk.set h2 _, h3, h4, by simpa using h5, ?_⟩
    rw [Array.toList_setIfInBounds, List.take_set, h6]
    exact flat4_set acc k x o hx
theorem own_at {w : World} {base n k g cap : Nat} {e : TypeId} {acc : List Pl.Rc} {x : Pl.Rc} (h : w.ownsRow base e 4 (.slice (some ⟨g, 0, none⟩) n cap) n (acc.flatMap cells4)) (hx : acc[k]? = some x) :
    w.cell? ⟨g, k * 4, none⟩ = some (.int .i64 x.off) ∧ w.frozen? ⟨g, k * 4, none⟩ = false := by
  obtain ⟨hl, h⟩ := h
  rcases h with ⟨h0, -⟩ | ⟨g', cap', cur, he, h1, h2, h3, h4, h5, h6⟩
  · cases h0
  · injection he with e1 e2 e3
    injection e1 with e1
    injection e1 with e1
    subst e1 e3
    have hb : Blk w g cur e := h2
    refine ⟨hb.cell ?_, hb.free⟩
    have hk : k < acc.length := (List.getElem?_eq_some_iff.1 hx).1
    have hj := flat4 acc k x hx 0 (by decide)
    rw [Nat.add_zero] at hj
    rw [flat4_len] at hl
    rw [← h6, List.getElem?_take_of_lt (by omega)] at hj
    rw [← Array.getElem?_toList]
    exact hj

/-- What Pack answers, in the program's own values. -/
def PackOut (r : Option Pl.Bt) (e : Ending) (w' : World) : Prop :=
  match r with
  | none => e = .returned (.tuple #[.agg #[.int .i64 0, .int .i64 0, .int .i64 0, .int .i64 0, .int .i64 0, .slice none 0 0], .int .i64 1])
  | some b => ∃ v, Recs v b.recs w' ∧ e = .returned (.tuple #[.agg #[.int .i64 b.base, .int .i64 b.count, .int .i64 b.prod, .int .i64 b.seq, .int .i64 b.time, v], .int .i64 0])

theorem undP' : (Tryz.prog.underlying 34).map (fun d => match d with | .struct _ | .array _ _ => true | _ => false) = some true := by kernel_rfl
theorem sizeP : (Tryz.prog.info? 34).map (·.size) = some 6 := by kernel_rfl
/-- A function's two results: a batch in a cell, a number. -/
theorem two_ret {fn : Func} {pp uu : Nat} {W : World} {rb : Nat} {a0 a1 a2 a3 a4 a5 n : Value} {tmps : Array Value} (hf : fn.results = #[.cell pp 34, .tmp uu]) (hb : Blk W rb #[a0, a1, a2, a3, a4, a5] 34) (h2 : tmps.getD pp undef = .pointer (some ⟨rb, 0, none⟩)) (h3 : tmps.getD uu undef = n) :
    (results fn tmps).run Tryz.prog W = .ok (.tuple #[.agg #[a0, a1, a2, a3, a4, a5], n]) W := by
  obtain ⟨d, hd, hs⟩ : ∃ d, Tryz.prog.underlying 34 = some d ∧ (match d with | .struct _ | .array _ _ => true | _ => false) = true := by
    have h := undP'
    cases hd : Tryz.prog.underlying 34 with
    | none => rw [hd] at h; cases h
    | some d => rw [hd] at h; exact ⟨d, rfl, Option.some.inj h⟩
  rw [results_cell_tmp (p := pp) (u := uu) (ty := 34) hf, h2, h3]
  have hl := run_loadVar_row (P := Tryz.prog) W rb 34 34 #[a0, a1, a2, a3, a4, a5] (0, 0) d hb hd (by cases d <;> exact hs) sizeP
  simp [asAddr, hl]
theorem six_below {w w' : World} {r : Nat} (h : Below w.heap.size w w') (hr : w.heap.size ≤ r) (v0 v1 v2 v3 v4 v5 : Value) : Below w.heap.size w ((((((w'.setCell ⟨r, 0, none⟩ v0).setCell ⟨r, 1, none⟩ v1).setCell ⟨r, 2, none⟩ v2).setCell ⟨r, 3, none⟩ v3).setCell ⟨r, 4, none⟩ v4).setCell ⟨r, 5, none⟩ v5) :=
  (((((h.setCell (p := ⟨r, 0, none⟩) hr v0).setCell (p := ⟨r, 1, none⟩) hr v1).setCell (p := ⟨r, 2, none⟩) hr v2).setCell (p := ⟨r, 3, none⟩) hr v3).setCell (p := ⟨r, 4, none⟩) hr v4).setCell (p := ⟨r, 5, none⟩) hr v5
theorem Recs.kb {v : Value} {ls : List Pl.Rc} {w w' : World} {c : Nat} (h : Recs v ls w) (hk : Kb c w w') (hn : ∀ a n cp, v = .slice (some a) n cp → a.block ≠ c) : Recs v ls w' := by
  obtain ⟨a, cap, rfl, hc⟩ := h
  refine ⟨a, cap, rfl, fun j l hj => ?_⟩
  obtain ⟨b, off, rfl, hlt, h0, h1, h2, h3⟩ := hc j l hj
  have e : ∀ o, w'.cell? ⟨b, o, none⟩ = w.cell? ⟨b, o, none⟩ := fun o => World.cell?_of_block (a := ⟨b, o, none⟩) (hk.block b hlt (hn _ _ _ rfl))
  exact ⟨b, off, rfl, Nat.lt_of_lt_of_le hlt hk.size, (e _).trans h0, (e _).trans h1, (e _).trans h2, (e _).trans h3⟩
theorem Kb.six (w' : World) (r : Nat) (v0 v1 v2 v3 v4 v5 : Value) : Kb r w' ((((((w'.setCell ⟨r, 0, none⟩ v0).setCell ⟨r, 1, none⟩ v1).setCell ⟨r, 2, none⟩ v2).setCell ⟨r, 3, none⟩ v3).setCell ⟨r, 4, none⟩ v4).setCell ⟨r, 5, none⟩ v5) :=
  (((((Kb.setCell _ _).trans (Kb.setCell _ _)).trans (Kb.setCell _ _)).trans (Kb.setCell _ _)).trans (Kb.setCell _ _)).trans (Kb.setCell _ _)

/-- k offsets are laid. -/
def Laid (ls : List Pl.Rc) (base : Int) (k : Nat) (acc : List Pl.Rc) : Prop :=
  acc.length = ls.length ∧ ∀ j x, ls[j]? = some x → acc[j]? = some (if j < k then { x with off := wrap64 (base + j) } else x)
theorem Laid.start (ls : List Pl.Rc) (base : Int) : Laid ls base 0 ls := ⟨rfl, fun j x h => by rw [if_neg (Nat.not_lt_zero _)]; exact h⟩
theorem Laid.next {ls acc : List Pl.Rc} {base : Int} {k : Nat} {x : Pl.Rc} (h : Laid ls base k acc) (hx : ls[k]? = some x) : Laid ls base (k + 1) (acc.set k { x with off := wrap64 (base + k) }) := by
  refine ⟨by rw [List.length_set]; exact h.1, fun j y hy => ?_⟩
  by_cases hj : k = j
  · subst hj
    obtain rfl := Option.some.inj (hx.symm.trans hy)
    have hk := (List.getElem?_eq_some_iff.1 (h.2 k x hx)).1
    rw [List.getElem?_set_self hk, if_pos (Nat.lt_succ_self _)]
  · rw [List.getElem?_set_ne hj, h.2 j y hy]
    by_cases h1 : j < k
    · rw [if_pos h1, if_pos (by omega)]
    · rw [if_neg h1, if_neg (by omega)]
theorem Laid.done {ls acc : List Pl.Rc} {base : Int} (h : Laid ls base ls.length acc) (hb : 0 ≤ base ∧ base ≤ 1099511627776) (hl : ls.length ≤ 8) : acc = Pl.renum ls base := by
  apply List.ext_getElem?
  intro j
  rw [Pl.renum_at]
  cases hj : ls[j]? with
  | none =>
    have : acc.length ≤ j := by rw [h.1]; exact List.getElem?_eq_none_iff.1 hj
    simp [this]
  | some x =>
    have hlt := (List.getElem?_eq_some_iff.1 hj).1
    rw [h.2 j x hj, if_pos hlt]
    simp only [Option.map_some]
    rw [IntWalk.wrap64_in _ (by omega)]
theorem Laid.good {ls acc : List Pl.Rc} {base prod seq time : Int} (h : Laid ls base ls.length acc) (hl : ls.length ≤ 8) : Pl.goodB ⟨base, ls.length, prod, seq, time, acc⟩ = Pl.goodB ⟨base, ls.length, prod, seq, time, Pl.renum ls base⟩ := by
  by_cases hb : 0 ≤ base ∧ base ≤ 1099511627776
  · rw [h.done hb hl]
  · have e : ∀ l, Pl.goodB ⟨base, ls.length, prod, seq, time, l⟩ = false := fun l => Bool.eq_false_iff.2 fun hg => hb (Pl.goodB_iff.1 hg).1
    rw [e, e]

end Go.Proofs.YtdaoeplblkfapaaGreatDoor

/- A strand as it lies in memory, and what it stands for. -/
namespace Go.Proofs.YtdaoeplblkfapaaGreatDoor
open Go.RowKit

/-- A batch's cells. -/
def bc6 (p : Pl.Bt × Value) : List Value := [.int .i64 p.1.base, .int .i64 p.1.count, .int .i64 p.1.prod, .int .i64 p.1.seq, .int .i64 p.1.time, p.2]
theorem bc6_length (p : Pl.Bt × Value) : (bc6 p).length = 6 := rfl
/-- A slice of records that is read. -/
def RcIn (A : Nat → Prop) (w : World) (v : Value) (ls : List Pl.Rc) : Prop := Rds A w v 4 ls.length (ls.flatMap cells4)
/-- A batch as a value. -/
abbrev bv (p : Pl.Bt × Value) : Value := .agg #[.int .i64 p.1.base, .int .i64 p.1.count, .int .i64 p.1.prod, .int .i64 p.1.seq, .int .i64 p.1.time, p.2]
/-- Each batch's records are read in blocks of which A holds. -/
def All (A : Nat → Prop) (w : World) (L : List (Pl.Bt × Value)) : Prop := ∀ p ∈ L, RcIn A w p.2 p.1.recs
/-- A slice of batches that is read. -/
def BtIn (A : Nat → Prop) (w : World) (v : Value) (L : List (Pl.Bt × Value)) : Prop := Rds A w v 6 L.length (L.flatMap bc6) ∧ All A w L
section
variable {A A' : Nat → Prop} {w w' : World} {v : Value} {ls : List Pl.Rc} {L M : List (Pl.Bt × Value)}
theorem RcIn.recs (h : RcIn A w v ls) : Recs v ls w := by
  obtain ⟨a, cap, rfl⟩ := Rds.form h
  refine ⟨a, cap, rfl, fun j x hj => ?_⟩
  have hl := (List.getElem?_eq_some_iff.1 hj).1
  obtain ⟨b, p, cap', e, _, hb, hc⟩ := Rds.at h (by omega)
  injection e with e1 _ _
  have key : ∀ i u, i < 4 → (cells4 x)[i]? = some u → w.cell? ⟨b, p + j * 4 + i, none⟩ = some u := fun i u hi hu => by
    have := hc (j * 4 + i) u (by rw [flat4 ls j x hj i hi]; exact hu)
    rw [← Nat.add_assoc] at this
    exact this
  exact ⟨b, p, e1, hb, key 0 _ (by decide) rfl, key 1 _ (by decide) rfl, key 2 _ (by decide) rfl, key 3 _ (by decide) rfl⟩
theorem RcIn.slice (h : RcIn A w v ls) : ∃ a cap, v = .slice a ls.length cap := Rds.form h
theorem All.mono (h : All A w L) (k : ∀ b, A b → A' b) : All A' w L := fun p hp => (h p hp).mono k
theorem All.below (h : All A w L) (hb : Below w.heap.size w w') : All A w' L := fun p hp => (h p hp).below hb
theorem All.moved {B B' : Nat → Prop} (h : All (fun b => ¬ B b) w L) (k : Moved B B' w w') : All (fun b => ¬ B' b) w' L := fun p hp => (h p hp).moved k
theorem All.append (h : All A w L) (k : All A w M) : All A w (L ++ M) := fun p hp => by
  rcases List.mem_append.1 hp with hp | hp
  · exact h p hp
  · exact k p hp
theorem All.sub (h : All A w L) (k : ∀ p ∈ M, p ∈ L) : All A w M := fun p hp => h p (k p hp)
theorem All.keep (h : All A w L) (hs : w.heap.size ≤ w'.heap.size) (k : ∀ b, A b → b < w.heap.size → w'.heap[b]? = w.heap[b]? ∧ A' b) : All A' w' L := fun p hp => (h p hp).keep hs k
theorem BtIn.below (h : BtIn A w v L) (hb : Below w.heap.size w w') : BtIn A w' v L := ⟨h.1.below hb, h.2.below hb⟩
theorem BtIn.moved {B B' : Nat → Prop} (h : BtIn (fun b => ¬ B b) w v L) (k : Moved B B' w w') : BtIn (fun b => ¬ B' b) w' v L := ⟨h.1.moved k, h.2.moved k⟩
theorem BtIn.mono (h : BtIn A w v L) (k : ∀ b, A b → A' b) : BtIn A' w v L := ⟨h.1.mono k, h.2.mono k⟩
theorem BtIn.form (h : BtIn A w v L) : ∃ a cap, v = .slice a L.length cap := h.1.form
/-- The cells of the batch at a place. -/
theorem BtIn.at (h : BtIn A w v L) {j : Nat} {p : Pl.Bt × Value} (hj : L[j]? = some p) : ∃ b o cap, v = .slice (some ⟨b, o, none⟩) L.length cap ∧ A b ∧ b < w.heap.size ∧
    (∀ i u, i < 6 → (bc6 p)[i]? = some u → w.cell? ⟨b, o + j * 6 + i, none⟩ = some u) ∧ RcIn A w p.2 p.1.recs := by
  have hl := (List.getElem?_eq_some_iff.1 hj).1
  obtain ⟨b, o, cap, e, ha, hb, hc⟩ := h.1.at (by omega)
  refine ⟨b, o, cap, e, ha, hb, fun i u hi hu => ?_, h.2 p (List.mem_of_getElem? hj)⟩
  have := hc (j * 6 + i) u (by rw [flat_at bc6 6 bc6_length L j p hj i hi]; exact hu)
  rw [← Nat.add_assoc] at this
  exact this
end

theorem BtIn.get {A : Nat → Prop} {w : World} {v : Value} {L : List (Pl.Bt × Value)} (h : BtIn A w v L) {j : Nat} {base count prod seq time : Int} {recs : List Pl.Rc} {rv : Value} (hj : L[j]? = some (⟨base, count, prod, seq, time, recs⟩, rv)) :
    ∃ b o cap, v = .slice (some ⟨b, o, none⟩) L.length cap ∧ A b ∧ b < w.heap.size ∧ w.cell? ⟨b, o + j * 6, none⟩ = some (.int .i64 base) ∧ w.cell? ⟨b, o + j * 6 + 1, none⟩ = some (.int .i64 count) ∧ w.cell? ⟨b, o + j * 6 + 2, none⟩ = some (.int .i64 prod) ∧
      w.cell? ⟨b, o + j * 6 + 3, none⟩ = some (.int .i64 seq) ∧ w.cell? ⟨b, o + j * 6 + 4, none⟩ = some (.int .i64 time) ∧ w.cell? ⟨b, o + j * 6 + 5, none⟩ = some rv ∧ RcIn A w rv recs := by
  obtain ⟨b, o, cap, e, ha, hb, hc, hr⟩ := h.at hj
  exact ⟨b, o, cap, e, ha, hb, hc 0 _ (by decide) rfl, hc 1 _ (by decide) rfl, hc 2 _ (by decide) rfl, hc 3 _ (by decide) rfl, hc 4 _ (by decide) rfl, hc 5 _ (by decide) rfl, hr⟩

/-- A segment: its first offset, its batches. -/
structure Sg where
  first : Int
  l : List Pl.Bt
/-- A segment as it lies: its list, its list's block. -/
structure Sx where
  first : Int
  lv : Value
  lb : Option Nat
  L : List (Pl.Bt × Value)
def Sx.bts (x : Sx) : List Pl.Bt := x.L.map (·.1)
def Sx.sg (x : Sx) : Sg := ⟨x.first, x.bts⟩
def sc3 (x : Sx) : List Value := [.int .i64 x.first, .int .i64 ((frs x.bts).length : Nat), x.lv]
theorem sc3_length (x : Sx) : (sc3 x).length = 3 := rfl
abbrev sv (x : Sx) : Value := .agg #[.int .i64 x.first, .int .i64 ((frs x.bts).length : Nat), x.lv]

/-- A strand's numbers. -/
structure Hs where
  t : Nat
  life : Nat
  P : List UInt8
  seg : Int
def hcells (h : Hs) (v : Value) : Array Value := #[.pointer (some ⟨h.t, 0, none⟩), .int .i64 h.life, .string ⟨h.P.toArray⟩, .int .i64 h.seg, v]
/-- The blocks of a strand. -/
def Os (s : Nat) (gb : Option Nat) (X : List Sx) (b : Nat) : Prop := b = s ∨ gb = some b ∨ ∃ x ∈ X, x.lb = some b
/-- A strand in block s; its batches' records lie in blocks of which A holds. -/
structure Lies (w : World) (s : Nat) (h : Hs) (X : List Sx) (v : Value) (gb : Option Nat) (A : Nat → Prop) : Prop where
  head : Blk w s (hcells h v) 99
  segs : Sl w v gb 119 3 X.length (X.flatMap sc3)
  lists : ∀ x ∈ X, Sl w x.lv x.lb 34 6 x.L.length (x.L.flatMap bc6)
  recs : ∀ x ∈ X, All A w x.L
  sg : gb ≠ some s
  sl : ∀ x ∈ X, x.lb ≠ some s ∧ ∀ k, x.lb = some k → gb ≠ some k
  apart : X.Pairwise fun x y => ∀ k, x.lb = some k → y.lb ≠ some k
section
variable {w w' : World} {s : Nat} {h : Hs} {X : List Sx} {v : Value} {gb : Option Nat} {A A' : Nat → Prop}
theorem Lies.lt (k : Lies w s h X v gb A) : ∀ b, Os s gb X b → b < w.heap.size := by
  rintro b (rfl | h1 | ⟨x, hx, h1⟩)
  · exact k.head.lt
  · exact k.segs.lt b h1
  · exact (k.lists x hx).lt b h1
theorem Lies.keep (k : Lies w s h X v gb A) (hs : w.heap.size ≤ w'.heap.size) (h1 : ∀ b, Os s gb X b → w'.heap[b]? = w.heap[b]?) (h2 : ∀ b, A b → b < w.heap.size → w'.heap[b]? = w.heap[b]? ∧ A' b) : Lies w' s h X v gb A' :=
  ⟨k.head.same (h1 s (.inl rfl)), k.segs.same fun b hb => h1 b (.inr (.inl hb)), fun x hx => (k.lists x hx).same fun b hb => h1 b (.inr (.inr ⟨x, hx, hb⟩)), fun x hx => (k.recs x hx).keep hs h2, k.sg, k.sl, k.apart⟩
theorem Lies.below (k : Lies w s h X v gb A) (hb : Below w.heap.size w w') : Lies w' s h X v gb A :=
  k.keep hb.size (fun b h1 => hb.block b (k.lt b h1)) fun b ha hl => ⟨hb.block b hl, ha⟩
theorem Lies.mono (k : Lies w s h X v gb A) (h2 : ∀ b, A b → A' b) : Lies w s h X v gb A' := k.keep (Nat.le_refl _) (fun _ _ => rfl) fun b ha _ => ⟨rfl, h2 b ha⟩
/-- Something else has changed. -/
theorem Lies.aside {B B' : Nat → Prop} (k : Lies w s h X v gb (fun b => ¬ B b ∧ A b)) (m : Moved B B' w w') (hn : ∀ b, Os s gb X b → ¬ B b) : Lies w' s h X v gb (fun b => ¬ B' b ∧ A b) ∧ ∀ b, Os s gb X b → ¬ B' b := by
  have hnew : ∀ b, b < w.heap.size → ¬ B b → ¬ B' b := fun b hl hb h' => by rcases m.new b h' with h1 | h1; exact hb h1; omega
  exact ⟨k.keep m.size (fun b h1 => m.block b (k.lt b h1) (hn b h1)) fun b ha hl => ⟨m.block b hl ha.1, hnew b hl ha.1, ha.2⟩, fun b h1 => hnew b (k.lt b h1) (hn b h1)⟩
end

end Go.Proofs.YtdaoeplblkfapaaGreatDoor

/- A map from names to pointers, in a block: which pairs lie in it, in whatever order. -/
namespace Go.Proofs.YtdaoeplblkfapaaGreatDoor.Ta
open Go.RowKit Go.Maps

/-- What a pointer in a map reads as: its block's number. -/
def RF (v : Value) : Option (DataW Unit × List MemPlace) :=
  match v with
  | .pointer (some ⟨j, 0, none⟩) => some (.lit (.int .i64 j), [])
  | .pointer none => some (.nil, [])
  | _ => none
theorem RF_some (j : Nat) : RF (.pointer (some ⟨j, 0, none⟩)) = some (.lit (.int .i64 j), []) := rfl
theorem RF_inv {v : Value} {y : DataW Unit × List MemPlace} (h : RF v = some y) : (∃ j : Nat, v = .pointer (some ⟨j, 0, none⟩) ∧ y = (.lit (.int .i64 j), [])) ∨ (v = .pointer none ∧ y = (.nil, [])) := by
  unfold RF at h
  split at h
  · cases h; exact .inl ⟨_, rfl, rfl⟩
  · cases h; exact .inr ⟨rfl, rfl⟩
  · cases h

abbrev Key := List UInt8
def pairOf (p : Key × Nat) : Lit × DataW Unit := (.string p.1, .lit (.int .i64 p.2))
theorem lawK : Keyed Tryz.prog 9 := string_keyed Tryz.underlying9
/-- Block m is a map of just these pairs. -/
def FMap (w : World) (m : Nat) (E : List (Key × Nat)) : Prop := ∃ l, w.ownsMap Tryz.prog 9 RF m E.length (.map l) ∧ l.Perm (E.map pairOf)
set_option maxRecDepth 100000 in
theorem FMap.lt {w : World} {m : Nat} {E : List (Key × Nat)} (h : FMap w m E) : m < w.heap.size := let ⟨_, h, _⟩ := h; h.lt
set_option maxRecDepth 100000 in
theorem FMap.same {w w' : World} {m : Nat} {E : List (Key × Nat)} (h : FMap w m E) (hb : w'.heap[m]? = w.heap[m]?) : FMap w' m E := by
  obtain ⟨l, ⟨es, clock, hh, F, hs, hD⟩, hp⟩ := h
  exact ⟨l, ⟨es, clock, hb.trans hh, F, hs, hD⟩, hp⟩
set_option maxRecDepth 100000 in
theorem FMap.perm {w : World} {m : Nat} {E E' : List (Key × Nat)} (h : FMap w m E) (hp : E.Perm E') : FMap w m E' := by
  obtain ⟨l, h1, h2⟩ := h
  exact ⟨l, hp.length_eq ▸ h1, h2.trans (hp.map _)⟩
set_option maxRecDepth 100000 in
theorem FMap.made (w : World) : FMap (w.alloc (.map #[] 0)) w.heap.size [] := ⟨[], World.ownsMap_made _ _ _ _, .refl _⟩
/-- As many entries as it reads as. -/
theorem owns_tight {w : World} {m n : Nat} {l : List (Lit × DataW Unit)} (h : w.ownsMap Tryz.prog 9 RF m n (.map l)) : w.ownsMap Tryz.prog 9 RF m l.length (.map l) := by
  obtain ⟨es, clock, hb, F, hs, hD⟩ := h
  refine ⟨es, clock, hb, F, ?_, hD⟩
  injection hD with hD
  rw [hD, length_sorted, List.length_map, Array.length_toList]
  exact Nat.le_refl _

theorem same_key (a b : Key) : (Lit.string a).sameKey (.string b) = (a == b) := by
  by_cases h : a = b
  · subst h; simp [Lit.sameKey]
  · simp [Lit.sameKey]
theorem find_pair {E : List (Key × Nat)} (hn : (E.map (·.1)).Nodup) {k : Key} {j : Nat} (h : (k, j) ∈ E) {l : List (Lit × DataW Unit)} (hp : l.Perm (E.map pairOf)) (z : DataW Unit) : (DataW.map l).atKey (.string k) z = .lit (.int .i64 j) := by
  have hm : (Lit.string k, DataW.lit (.int .i64 j)) ∈ l := hp.mem_iff.2 (List.mem_map.2 ⟨_, h, rfl⟩)
  have hall : ∀ p ∈ l, p.1.sameKey (.string k) = true → p = (Lit.string k, DataW.lit (.int .i64 j)) := by
    intro p hpm hk
    obtain ⟨⟨k', j'⟩, hq, rfl⟩ := List.mem_map.1 (hp.mem_iff.1 hpm)
    have e : k' = k := by rw [pairOf, same_key] at hk; simpa using hk
    subst e
    have : (k', j') = (k', j) := by
      clear hp hm hpm hk
      induction E with
      | nil => cases hq
      | cons a E ih =>
        simp only [List.map_cons, List.nodup_cons] at hn
        rcases List.mem_cons.1 hq with e1 | h1
        · rcases List.mem_cons.1 h with e2 | h2
          · rw [e1, e2]
          · exact absurd (List.mem_map.2 ⟨_, h2, by rw [← e1]⟩) hn.1
        · rcases List.mem_cons.1 h with e2 | h2
          · exact absurd (List.mem_map.2 ⟨_, h1, by rw [← e2]⟩) hn.1
          · exact ih hn.2 h1 h2
    injection this with _ e2
    rw [pairOf, e2]
  unfold DataW.atKey
  cases hf : l.find? (fun p => p.1.sameKey (.string k)) with
  | none =>
    have := List.find?_eq_none.1 hf _ hm
    simp [same_key] at this
  | some p =>
    have h1 := List.mem_of_find?_eq_some hf
    have h2 := List.find?_some hf
    simp only [hf, hall p h1 h2]
theorem find_none {E : List (Key × Nat)} {k : Key} (h : k ∉ E.map (·.1)) {l : List (Lit × DataW Unit)} (hp : l.Perm (E.map pairOf)) (z : DataW Unit) : (DataW.map l).atKey (.string k) z = z := by
  unfold DataW.atKey
  cases hf : l.find? (fun p => p.1.sameKey (.string k)) with
  | none => simp only [hf]
  | some p =>
    have h1 := List.mem_of_find?_eq_some hf
    have h2 := List.find?_some hf
    obtain ⟨⟨k', j'⟩, hq, rfl⟩ := List.mem_map.1 (hp.mem_iff.1 h1)
    have e : k' = k := by simp only [pairOf] at h2; rw [same_key] at h2; simpa using h2
    subst e
    exact absurd (List.mem_map.2 ⟨_, hq, rfl⟩) h

theorem zeroPtr (w : World) : (zeroValue 88).run Tryz.prog w = .ok (.pointer none) w := by kernel_rfl
theorem keyK (k : Key) (h : k.length ≤ maxLen) : keyOf Tryz.prog 9 (.string ⟨k.toArray⟩) = some (.string k) := by
  have := WideMaps.keyOf_string_mk (P := Tryz.prog) Tryz.underlying9 (s := ⟨k.toArray⟩) (by show k.toArray.size ≤ _; simpa using h)
  simpa using this

set_option maxRecDepth 100000 in
/-- The look-up of a name that is there. -/
theorem FMap.look {w : World} {m : Nat} {E : List (Key × Nat)} (h : FMap w m E) (hn : (E.map (·.1)).Nodup) {k : Key} {j : Nat} (hk : k.length ≤ maxLen) (hm : (k, j) ∈ E) :
    (Instr.lookup 79 (.map (some m)) (.string ⟨k.toArray⟩) false).run Tryz.prog w = .ok (.pointer (some ⟨j, 0, none⟩)) w := by
  obtain ⟨l, ho, hp⟩ := h
  obtain ⟨v, ps, hr, hv⟩ := ho.lookup lawK Tryz.underlying79 (zeroPtr w) (zd := .nil) (zp := []) rfl (keyK k hk)
  rw [find_pair hn hm hp] at hv
  rcases RF_inv hv with ⟨j', rfl, e⟩ | ⟨rfl, e⟩
  · injection e with e1 e2
    injection e1 with e1
    injection e1 with e1 e3
    rw [hr]
    have : j' = j := by omega
    rw [this]
  · injection e with e1 e2
    cases e1
set_option maxRecDepth 100000 in
/-- .. and of one that isn't. -/
theorem FMap.look_none {w : World} {m : Nat} {E : List (Key × Nat)} (h : FMap w m E) {k : Key} (hk : k.length ≤ maxLen) (hm : k ∉ E.map (·.1)) :
    (Instr.lookup 79 (.map (some m)) (.string ⟨k.toArray⟩) false).run Tryz.prog w = .ok (.pointer none) w := by
  obtain ⟨l, ho, hp⟩ := h
  obtain ⟨v, ps, hr, hv⟩ := ho.lookup lawK Tryz.underlying79 (zeroPtr w) (zd := .nil) (zp := []) rfl (keyK k hk)
  rw [find_none hm hp] at hv
  rcases RF_inv hv with ⟨j', rfl, e⟩ | ⟨rfl, e⟩
  · injection e with e1 e2
    cases e1
  · exact hr

def keyNe (k : Key) (p : Key × Nat) : Bool := !(p.1 == k)
theorem strike {E : List (Key × Nat)} (k : Key) {l : List (Lit × DataW Unit)} (hp : l.Perm (E.map pairOf)) : (l.filter fun p => !p.1.sameKey (.string k)).Perm ((E.filter (keyNe k)).map pairOf) := by
  refine (hp.filter _).trans ?_
  rw [List.filter_map]
  have : ((fun p : Lit × DataW Unit => !p.1.sameKey (.string k)) ∘ pairOf) = keyNe k := by
    funext p
    show (!(Lit.string p.1).sameKey (.string k)) = _
    rw [same_key]; rfl
  rw [this]
theorem perm_insert (x : Lit × DataW Unit) (l : List (Lit × DataW Unit)) : (DataW.insert x l).Perm (x :: l) := by
  induction l with
  | nil => exact .refl _
  | cons y r ih =>
    unfold DataW.insert
    split
    · exact .refl _
    · exact (ih.cons y).trans (.swap _ _ _)
set_option maxRecDepth 100000 in
theorem FMap.put {w' : World} {m n : Nat} {E : List (Key × Nat)} {l : List (Lit × DataW Unit)} (k : Key) (j : Nat) (hp : l.Perm (E.map pairOf)) (h : w'.ownsMap Tryz.prog 9 RF m n ((DataW.map l).put (.string k) (.lit (.int .i64 j)))) : FMap w' m ((k, j) :: E.filter (keyNe k)) := by
  have hp' : (DataW.insert (Lit.string k, DataW.lit (.int .i64 j)) (l.filter fun p => !p.1.sameKey (.string k))).Perm (((k, j) :: E.filter (keyNe k)).map pairOf) :=
    (perm_insert _ _).trans ((strike k hp).cons _)
  have h2 := owns_tight (h : w'.ownsMap Tryz.prog 9 RF m n (.map _))
  refine ⟨_, ?_, hp'⟩
  rw [hp'.length_eq, List.length_map] at h2
  exact h2
set_option maxRecDepth 100000 in
theorem FMap.cut {w' : World} {m n : Nat} {E : List (Key × Nat)} {l : List (Lit × DataW Unit)} (k : Key) (hp : l.Perm (E.map pairOf)) (h : w'.ownsMap Tryz.prog 9 RF m n ((DataW.map l).del (.string k))) : FMap w' m (E.filter (keyNe k)) := by
  have hp' := strike k hp
  have h2 := owns_tight (h : w'.ownsMap Tryz.prog 9 RF m n (.map _))
  refine ⟨_, ?_, hp'⟩
  rw [hp'.length_eq, List.length_map] at h2
  exact h2

/-- 'files[name] = f'. -/
theorem wpList_put {w : World} {ops : Array Oper} {rest : List Oper} {o : Oper} {a : Act} {Q : Exit → Act → World → Prop}
    (hg : o.guard = none) (m x v : Operand) (hop : o.op = Op.mapUpdate 79 m x v) (b j : Nat) (E : List (Key × Nat)) (k : Key)
    (hm : a.eval m = .map (some b)) (hown : FMap w b E) (hn : E.length < maxLen) (hx : a.eval x = .string ⟨k.toArray⟩) (hv : a.eval v = .pointer (some ⟨j, 0, none⟩)) (hk : k.length ≤ maxLen)
    (hK : ∀ w', FMap w' b ((k, j) :: E.filter (keyNe k)) → w.grownBy w' (some b) → wpList Tryz.prog ops Q rest (a.put o.dst undef) w') :
    wpList Tryz.prog ops Q (o :: rest) a w := by
  obtain ⟨l, ho, hp⟩ := hown
  exact wpList_mapUpdate_own w hg m x v 79 hop 9 88 lawK Tryz.underlying79 RF b _ _ hm ho hn _ _ _ hx hv (keyK k hk) _ _ (RF_some j) (fun w' h1 h2 => hK w' (FMap.put k j hp h1) h2)
/-- 'delete(files, name)'. -/
theorem wpList_del {w : World} {ops : Array Oper} {rest : List Oper} {o : Oper} {a : Act} {Q : Exit → Act → World → Prop}
    (hg : o.guard = none) (m x : Operand) (hop : o.op = Op.call { callee := Callee.builtin Builtin.delete, args := #[m, x], argTypes := #[79, 9] }) (b : Nat) (E : List (Key × Nat)) (k : Key)
    (hm : a.eval m = .map (some b)) (hown : FMap w b E) (hx : a.eval x = .string ⟨k.toArray⟩) (hk : k.length ≤ maxLen)
    (hK : ∀ w', FMap w' b (E.filter (keyNe k)) → w.grownBy w' (some b) → wpList Tryz.prog ops Q rest (a.put o.dst (.tuple #[])) w') :
    wpList Tryz.prog ops Q (o :: rest) a w := by
  obtain ⟨l, ho, hp⟩ := hown
  exact wpList_delete_own w hg m x 79 9 hop 88 lawK Tryz.underlying79 RF b _ _ hm ho _ _ hx (keyK k hk) (fun w' h1 h2 => hK w' (FMap.cut k hp h1) h2.grown)
set_option maxRecDepth 100000 in
/-- 'len(files)'. -/
theorem FMap.len {w : World} {m : Nat} {E : List (Key × Nat)} (h : FMap w m E) (ty : TypeId) : (Builtin.len_ #[79] ty #[.map (some m)]).run Tryz.prog w = .ok (.int .i64 E.length) w := by
  obtain ⟨l, ho, hp⟩ := h
  have := ho.len Tryz.underlying79 ty
  rw [this]
  show Result.ok (Value.int .i64 ((l.length : Nat) : Int)) w = _
  rw [hp.length_eq, List.length_map]
end Go.Proofs.YtdaoeplblkfapaaGreatDoor.Ta
