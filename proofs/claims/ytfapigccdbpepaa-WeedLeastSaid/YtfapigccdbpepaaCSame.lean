/- THE CONTRACT OF the document's Same. -/
import Derived.Test.YtfapigccdbpepaaCEq
import Derived.Laws.StructEq
import Derived.WalkLawsBesides
import Derived.BigQuiet
import Derived.IntWalk
import Derived.Handy
namespace Go.Proofs.Ytfapigccdbpepaa
open Go.RowKit

set_option maxHeartbeats 2000000 in
set_option maxRecDepth 100000 in
/-- The loop, the heads being the same. -/
theorem rsame_tail (base count prod seq time : Int) (ls ms : List Pl.Rc) (v u : Value) (w : World) (h : Recs v ls w) (k : Recs u ms w) (hl : ls.length ≤ 1099511627776) (hlm : ls.length = ms.length) :
    Calls Try.prog 22 #[.agg #[.int .i64 base, .int .i64 count, .int .i64 prod, .int .i64 seq, .int .i64 time, v], .agg #[.int .i64 base, .int .i64 count, .int .i64 prod, .int .i64 seq, .int .i64 time, u]] w fun e w' => e = .returned (.bool (Pl.eqRs ls ms)) ∧ Below w.heap.size w w' := by
  obtain ⟨m, hm⟩ : ∃ m, ls.length = m := ⟨_, rfl⟩
  obtain ⟨r, hr⟩ : ∃ r, Pl.eqRs ls ms = r := ⟨_, rfl⟩
  obtain ⟨a1, cap1, rfl, hc1⟩ := h
  obtain ⟨a2, cap2, rfl, hc2⟩ := k
  have hm2 : ms.length = m := by rw [← hlm]; exact hm
  rw [hr, hm, hm2]
  rw [hm] at hl
  have HM := Lib.hid hm
  have HM2 := Lib.hid hm2
  have HR := Lib.hid hr
  have HC1 := Lib.hid hc1
  have HC2 := Lib.hid hc2
  clear hm hm2 hlm hr hc1 hc2
  go_enter Try.func22, Try.ntmps22
  go_wp2_with fail
  have x1 := cells_six' w (.int .i64 base) (.int .i64 count) (.int .i64 prod) (.int .i64 seq) (.int .i64 time) (.slice a1 m cap1) 42 5 _ rfl
  have x2 := cells_six' (w.alloc (.cells #[.int .i64 base, .int .i64 count, .int .i64 prod, .int .i64 seq, .int .i64 time, .slice a1 m cap1] 42)) (.int .i64 base) (.int .i64 count) (.int .i64 prod) (.int .i64 seq) (.int .i64 time) (.slice a2 m cap2) 42 5 _ rfl
  have b1 : Below w.heap.size w (w.alloc (.cells #[.int .i64 base, .int .i64 count, .int .i64 prod, .int .i64 seq, .int .i64 time, .slice a1 m cap1] 42)) := (Below.refl _ _).alloc (Nat.le_refl _) _
  have b2 : Below (w.alloc (.cells #[.int .i64 base, .int .i64 count, .int .i64 prod, .int .i64 seq, .int .i64 time, .slice a1 m cap1] 42)).heap.size (w.alloc (.cells #[.int .i64 base, .int .i64 count, .int .i64 prod, .int .i64 seq, .int .i64 time, .slice a1 m cap1] 42)) ((w.alloc (.cells #[.int .i64 base, .int .i64 count, .int .i64 prod, .int .i64 seq, .int .i64 time, .slice a1 m cap1] 42)).alloc (.cells #[.int .i64 base, .int .i64 count, .int .i64 prod, .int .i64 seq, .int .i64 time, .slice a2 m cap2] 42)) := (Below.refl _ _).alloc (Nat.le_refl _) _
  have s1 : (w.alloc (.cells #[.int .i64 base, .int .i64 count, .int .i64 prod, .int .i64 seq, .int .i64 time, .slice a1 m cap1] 42)).heap.size = w.heap.size + 1 := by simp
  obtain ⟨W2, hW2⟩ : ∃ W2, (w.alloc (.cells #[.int .i64 base, .int .i64 count, .int .i64 prod, .int .i64 seq, .int .i64 time, .slice a1 m cap1] 42)).alloc (.cells #[.int .i64 base, .int .i64 count, .int .i64 prod, .int .i64 seq, .int .i64 time, .slice a2 m cap2] 42) = W2 := ⟨_, rfl⟩
  rw [hW2] at x2 b2 ⊢
  have x3 := (b2.cell (p := ⟨w.heap.size, 5, none⟩) (by rw [s1]; exact Nat.lt_succ_self _)).trans x1
  rw [s1] at x2
  have hb : Below w.heap.size w W2 := b1.trans (b2.mono b1.size)
  have HB := Lib.hid hb
  clear x1 b1 b2 s1 hW2 hb
  go_loopw [5] (fun iv wr => ∃ k n : Nat, k ≤ m ∧ iv = .int .i64 k ∧ wr = W2.drewN n ∧ Pl.eqRs (ls.drop k) (ms.drop k) = r) (fun iv _ => m - (intOf iv).toNat)
  case atStart => exact ⟨0, 0, Nat.zero_le _, rfl, rfl, HR.out⟩
  case round =>
    obtain ⟨k, n, hk, rfl, rfl, heq⟩ := hrel
    have HE := Lib.hid heq
    clear heq
    by_cases hlt : k < m
    · obtain ⟨x, hg⟩ : ∃ x, ls[k]? = some x := ⟨_, List.getElem?_eq_getElem (by rw [HM.out]; exact hlt)⟩
      obtain ⟨y, hg2⟩ : ∃ y, ms[k]? = some y := ⟨_, List.getElem?_eq_getElem (by rw [HM2.out]; exact hlt)⟩
      have hd1 : ls.drop k = x :: ls.drop (k + 1) := by
        rw [List.drop_eq_getElem_cons (show k < ls.length by rw [HM.out]; exact hlt), Option.some.inj ((List.getElem?_eq_getElem (show k < ls.length by rw [HM.out]; exact hlt)).symm.trans hg)]
      have hd2 : ms.drop k = y :: ms.drop (k + 1) := by
        rw [List.drop_eq_getElem_cons (show k < ms.length by rw [HM2.out]; exact hlt), Option.some.inj ((List.getElem?_eq_getElem (show k < ms.length by rw [HM2.out]; exact hlt)).symm.trans hg2)]
      have HE2 : Hid ((Pl.eqR x y && Pl.eqRs (ls.drop (k + 1)) (ms.drop (k + 1))) = r) := by rw [← HE.out, hd1, hd2]; rfl
      obtain ⟨b, off, rfl, hbl, c0, c1, c2, c3⟩ := HC1.out k x hg
      obtain ⟨b', off', rfl, hbl', c0', c1', c2', c3'⟩ := HC2.out k y hg2
      have e : ∀ o, W2.cell? ⟨b, o, none⟩ = w.cell? ⟨b, o, none⟩ := fun o => HB.out.cell (p := ⟨b, o, none⟩) hbl
      have e' : ∀ o, W2.cell? ⟨b', o, none⟩ = w.cell? ⟨b', o, none⟩ := fun o => HB.out.cell (p := ⟨b', o, none⟩) hbl'
      rw [← e] at c0 c1 c2 c3
      rw [← e'] at c0' c1' c2' c3'
      clear e e' hg hg2 hd1 hd2 hbl hbl'
      have hgu := rec_guard
      have hne := fun wx => rec_neq x.off y.off ⟨x.key.toArray⟩ ⟨y.key.toArray⟩ ⟨x.val.toArray⟩ ⟨y.val.toArray⟩ x.gone y.gone wx
      go_wp2_with fail
      go_quiet (fail)
      go_wp2_with fail
      · go_ret
        have hd := rec_differ ‹_›
        exact ⟨congrArg (fun b => Ending.returned (.bool b)) (by rw [← HE2.out, hd]; rfl), (HB.out.trans (below_drewN W2 n)).trans (below_drewN _ _)⟩
      · have hd := rec_agree ‹_›
        go_roundw
        case rel => exact ⟨k + 1, n + nq, by omega, by go_num, rfl, by rw [← HE2.out, hd]; rfl⟩
        case measure => simp [intOf]; omega
    · go_wp2_with fail
      go_ret
      have h := HE.out
      rw [List.drop_of_length_le (by rw [HM.out]; omega), List.drop_of_length_le (by rw [HM2.out]; omega)] at h
      exact ⟨congrArg (fun b => Ending.returned (.bool b)) (by rw [← h]; rfl), HB.out.trans (below_drewN _ _)⟩

set_option maxHeartbeats 2000000 in
set_option maxRecDepth 100000 in
theorem rsame (base count prod seq time base' count' prod' seq' time' : Int) (ls ms : List Pl.Rc) (v u : Value) (w : World) (h : Recs v ls w) (k : Recs u ms w) (hl : ls.length ≤ 1099511627776) (_ : ms.length ≤ 1099511627776) :
    Calls Try.prog 22 #[.agg #[.int .i64 base, .int .i64 count, .int .i64 prod, .int .i64 seq, .int .i64 time, v], .agg #[.int .i64 base', .int .i64 count', .int .i64 prod', .int .i64 seq', .int .i64 time', u]] w fun e w' => e = .returned (.bool (Pl.sameB ⟨base, count, prod, seq, time, ls⟩ ⟨base', count', prod', seq', time', ms⟩)) ∧ Below w.heap.size w w' := by
  have hb2 : Below w.heap.size w ((w.alloc (.cells #[.int .i64 base, .int .i64 count, .int .i64 prod, .int .i64 seq, .int .i64 time, v] 42)).alloc (.cells #[.int .i64 base', .int .i64 count', .int .i64 prod', .int .i64 seq', .int .i64 time', u] 42)) := ((Below.refl _ _).alloc (Nat.le_refl _) _).alloc (by simp) _
  have HB := Lib.hid hb2
  clear hb2
  by_cases e_base : base = base'
  · subst e_base
    by_cases e_count : count = count'
    · subst e_count
      by_cases e_prod : prod = prod'
      · subst e_prod
        by_cases e_seq : seq = seq'
        · subst e_seq
          by_cases e_time : time = time'
          · subst e_time
            by_cases e_len : ls.length = ms.length
            · rw [show Pl.sameB ⟨base, count, prod, seq, time, ls⟩ ⟨base, count, prod, seq, time, ms⟩ = Pl.eqRs ls ms by simp [Pl.sameB, e_len]]
              exact rsame_tail base count prod seq time ls ms v u w h k hl e_len
            · obtain ⟨a1, cap1, rfl, hc1⟩ := h
              obtain ⟨a2, cap2, rfl, hc2⟩ := k
              have hs : Pl.sameB ⟨base, count, prod, seq, time, ls⟩ ⟨base, count, prod, seq, time, ms⟩ = false := by
                rw [Bool.eq_false_iff]
                intro h
                exact e_len (congrArg (fun b => b.recs.length) (Pl.sameB_iff.1 h))
              rw [hs]
              obtain ⟨m, hm⟩ : ∃ m, ls.length = m := ⟨_, rfl⟩
              obtain ⟨m', hm'⟩ : ∃ m, ms.length = m := ⟨_, rfl⟩
              rw [hm, hm'] at e_len HB ⊢
              have hne : ((m : Int) != (m' : Int)) = true := by rw [bne_iff_ne]; omega
              clear hs hc1 hc2 hm hm' hl
              go_enter Try.func22, Try.ntmps22
              go_wp2_with fail
              go_ret
              exact ⟨rfl, HB.out⟩
          · have hs : Pl.sameB ⟨base, count, prod, seq, time, ls⟩ ⟨base, count, prod, seq, time', ms⟩ = false := by
              rw [Bool.eq_false_iff]
              intro h
              exact e_time (congrArg Pl.Bt.time (Pl.sameB_iff.1 h))
            rw [hs]
            have hne : (time != time') = true := by rw [bne_iff_ne]; exact e_time
            clear hs e_time
            go_enter Try.func22, Try.ntmps22
            go_wp2_with fail
            go_ret
            exact ⟨rfl, HB.out⟩
        · have hs : Pl.sameB ⟨base, count, prod, seq, time, ls⟩ ⟨base, count, prod, seq', time', ms⟩ = false := by
            rw [Bool.eq_false_iff]
            intro h
            exact e_seq (congrArg Pl.Bt.seq (Pl.sameB_iff.1 h))
          rw [hs]
          have hne : (seq != seq') = true := by rw [bne_iff_ne]; exact e_seq
          clear hs e_seq
          go_enter Try.func22, Try.ntmps22
          go_wp2_with fail
          go_ret
          exact ⟨rfl, HB.out⟩
      · have hs : Pl.sameB ⟨base, count, prod, seq, time, ls⟩ ⟨base, count, prod', seq', time', ms⟩ = false := by
          rw [Bool.eq_false_iff]
          intro h
          exact e_prod (congrArg Pl.Bt.prod (Pl.sameB_iff.1 h))
        rw [hs]
        have hne : (prod != prod') = true := by rw [bne_iff_ne]; exact e_prod
        clear hs e_prod
        go_enter Try.func22, Try.ntmps22
        go_wp2_with fail
        go_ret
        exact ⟨rfl, HB.out⟩
    · have hs : Pl.sameB ⟨base, count, prod, seq, time, ls⟩ ⟨base, count', prod', seq', time', ms⟩ = false := by
        rw [Bool.eq_false_iff]
        intro h
        exact e_count (congrArg Pl.Bt.count (Pl.sameB_iff.1 h))
      rw [hs]
      have hne : (count != count') = true := by rw [bne_iff_ne]; exact e_count
      clear hs e_count
      go_enter Try.func22, Try.ntmps22
      go_wp2_with fail
      go_ret
      exact ⟨rfl, HB.out⟩
  · have hs : Pl.sameB ⟨base, count, prod, seq, time, ls⟩ ⟨base', count', prod', seq', time', ms⟩ = false := by
      rw [Bool.eq_false_iff]
      intro h
      exact e_base (congrArg Pl.Bt.base (Pl.sameB_iff.1 h))
    rw [hs]
    have hne : (base != base') = true := by rw [bne_iff_ne]; exact e_base
    clear hs e_base
    go_enter Try.func22, Try.ntmps22
    go_wp2_with fail
    go_ret
    exact ⟨rfl, HB.out⟩
end Go.Proofs.Ytfapigccdbpepaa
