import Derived.Test.YtdaoeplblkfapaaGreatDoorM28
import Derived.Test.YtdaoeplblkfapaaGreatDoorM03
import Derived.Laws.StructEq
import Derived.WalkLawsBesides
import Derived.Test.YtdaoeplblkfapaaGreatDoorM04
import Derived.Test.YtdaoeplblkfapaaGreatDoorM06

/- THE CONTRACT OF the document's Same. -/
namespace Go.Proofs.YtdaoeplblkfapaaGreatDoor
open Go.RowKit

set_option maxHeartbeats 2000000 in
set_option maxRecDepth 100000 in
/-- The loop, the heads being the same. -/
theorem rsame_tail (base count prod seq time : Int) (ls ms : List Pl.Rc) (v u : Value) (w : World) (h : Recs v ls w) (k : Recs u ms w) (hl : ls.length ≤ 1099511627776) (hlm : ls.length = ms.length) :
    Calls Tryz.prog 86 #[.agg #[.int .i64 base, .int .i64 count, .int .i64 prod, .int .i64 seq, .int .i64 time, v], .agg #[.int .i64 base, .int .i64 count, .int .i64 prod, .int .i64 seq, .int .i64 time, u]] w fun e w' => e = .returned (.bool (Pl.eqRs ls ms)) ∧ Below w.heap.size w w' := by
  obtain ⟨m, hm⟩ : ∃ m, ls.length = m := ⟨_, rfl⟩
  obtain ⟨r, hr⟩ : ∃ r, Pl.eqRs ls ms = r := ⟨_, rfl⟩
  obtain ⟨a1, cap1, rfl, hc1⟩ := h
  obtain ⟨a2, cap2, rfl, hc2⟩ := k
  have hm2 : ms.length = m := by rw [← hlm]; exact hm
  rw [hr, hm, hm2]
  rw [hm] at hl
  have HM := Lib.hid hm
  have HM2 := Lib.hid hm2
  have HR := Lib.hid hr
  have HC1 := Lib.hid hc1
  have HC2 := Lib.hid hc2
  clear hm hm2 hlm hr hc1 hc2
  go_enter Tryz.func86, Tryz.ntmps86
  go_wp2_with fail
  have x1 := cells_six' w (.int .i64 base) (.int .i64 count) (.int .i64 prod) (.int .i64 seq) (.int .i64 time) (.slice a1 m cap1) 34 5 _ rfl
  have x2 := cells_six' (w.alloc (.cells #[.int .i64 base, .int .i64 count, .int .i64 prod, .int .i64 seq, .int .i64 time, .slice a1 m cap1] 34)) (.int .i64 base) (.int .i64 count) (.int .i64 prod) (.int .i64 seq) (.int .i64 time) (.slice a2 m cap2) 34 5 _ rfl
  have b1 : Below w.heap.size w (w.alloc (.cells #[.int .i64 base, .int .i64 count, .int .i64 prod, .int .i64 seq, .int .i64 time, .slice a1 m cap1] 34)) := (Below.refl _ _).alloc (Nat.le_refl _) _
  have b2 : Below (w.alloc (.cells #[.int .i64 base, .int .i64 count, .int .i64 prod, .int .i64 seq, .int .i64 time, .slice a1 m cap1] 34)).heap.size (w.alloc (.cells #[.int .i64 base, .int .i64 count, .int .i64 prod, .int .i64 seq, .int .i64 time, .slice a1 m cap1] 34)) ((w.alloc (.cells #[.int .i64 base, .int .i64 count, .int .i64 prod, .int .i64 seq, .int .i64 time, .slice a1 m cap1] 34)).alloc (.cells #[.int .i64 base, .int .i64 count, .int .i64 prod, .int .i64 seq, .int .i64 time, .slice a2 m cap2] 34)) := (Below.refl _ _).alloc (Nat.le_refl _) _
  have s1 : (w.alloc (.cells #[.int .i64 base, .int .i64 count, .int .i64 prod, .int .i64 seq, .int .i64 time, .slice a1 m cap1] 34)).heap.size = w.heap.size + 1 := by simp
  obtain ⟨W2, hW2⟩ : ∃ W2, (w.alloc (.cells #[.int .i64 base, .int .i64 count, .int .i64 prod, .int .i64 seq, .int .i64 time, .slice a1 m cap1] 34)).alloc (.cells #[.int .i64 base, .int .i64 count, .int .i64 prod, .int .i64 seq, .int .i64 time, .slice a2 m cap2] 34) = W2 := ⟨_, rfl⟩
  rw [hW2] at x2 b2 ⊢
  have x3 := (b2.cell (p := ⟨w.heap.size, 5, none⟩) (by rw [s1]; exact Nat.lt_succ_self _)).trans x1
  rw [s1] at x2
  have hb : Below w.heap.size w W2 := b1.trans (b2.mono b1.size)
  have HB := Lib.hid hb
  clear x1 b1 b2 s1 hW2 hb
  go_loopw [5] (fun iv wr => ∃ k n : Nat, k ≤ m ∧ iv = .int .i64 k ∧ wr = W2.drewN n ∧ Pl.eqRs (ls.drop k) (ms.drop k) = r) (fun iv _ => m - (intOf iv).toNat)
  case atStart => exact ⟨0, 0, Nat.zero_le _, rfl, rfl, HR.out⟩
  case round =>
    obtain ⟨k, n, hk, rfl, rfl, heq⟩ := hrel
    have HE := Lib.hid heq
    clear heq
    by_cases hlt : k < m
    · obtain ⟨x, hg⟩ : ∃ x, ls[k]? = some x := ⟨_, List.getElem?_eq_getElem (by rw [HM.out]; exact hlt)⟩
      obtain ⟨y, hg2⟩ : ∃ y, ms[k]? = some y := ⟨_, List.getElem?_eq_getElem (by rw [HM2.out]; exact hlt)⟩
      have hd1 : ls.drop k = x :: ls.drop (k + 1) := by
        rw [List.drop_eq_getElem_cons (show k < ls.length by rw [HM.out]; exact hlt), Option.some.inj ((List.getElem?_eq_getElem (show k < ls.length by rw [HM.out]; exact hlt)).symm.trans hg)]
      have hd2 : ms.drop k = y :: ms.drop (k + 1) := by
        rw [List.drop_eq_getElem_cons (show k < ms.length by rw [HM2.out]; exact hlt), Option.some.inj ((List.getElem?_eq_getElem (show k < ms.length by rw [HM2.out]; exact hlt)).symm.trans hg2)]
      have HE2 : Hid ((Pl.eqR x y && Pl.eqRs (ls.drop (k + 1)) (ms.drop (k + 1))) = r) := by rw [← HE.out, hd1, hd2]; rfl
      obtain ⟨b, off, rfl, hbl, c0, c1, c2, c3⟩ := HC1.out k x hg
      obtain ⟨b', off', rfl, hbl', c0', c1', c2', c3'⟩ := HC2.out k y hg2
      have e : ∀ o, W2.cell? ⟨b, o, none⟩ = w.cell? ⟨b, o, none⟩ := fun o => HB.out.cell (p := ⟨b, o, none⟩) hbl
      have e' : ∀ o, W2.cell? ⟨b', o, none⟩ = w.cell? ⟨b', o, none⟩ := fun o => HB.out.cell (p := ⟨b', o, none⟩) hbl'
      rw [← e] at c0 c1 c2 c3
      rw [← e'] at c0' c1' c2' c3'
      clear e e' hg hg2 hd1 hd2 hbl hbl'
      have hgu := rec_guard
      have hne := fun wx => rec_neq x.off y.off ⟨x.key.toArray⟩ ⟨y.key.toArray⟩ ⟨x.val.toArray⟩ ⟨y.val.toArray⟩ x.gone y.gone wx
      go_wp2_with fail
      go_quiet (fail)
      go_wp2_with fail
      · go_ret
        have hd := rec_differ ‹_›
        exact ⟨congrArg (fun b => Ending.returned (.bool b)) (by rw [← HE2.out, hd]; rfl), (HB.out.trans (below_drewN W2 n)).trans (below_drewN _ _)⟩
      · have hd := rec_agree ‹_›
        go_roundw
        case rel => exact ⟨k + 1, n + nq, by omega, by go_num, rfl, by rw [← HE2.out, hd]; rfl⟩
        case measure => simp [intOf]; omega
    · go_wp2_with fail
      go_ret
      have h := HE.out
      rw [List.drop_of_length_le (by rw [HM.out]; omega), List.drop_of_length_le (by rw [HM2.out]; omega)] at h
      exact ⟨congrArg (fun b => Ending.returned (.bool b)) (by rw [← h]; rfl), HB.out.trans (below_drewN _ _)⟩

set_option maxHeartbeats 2000000 in
set_option maxRecDepth 100000 in
theorem rsame (base count prod seq time base' count' prod' seq' time' : Int) (ls ms : List Pl.Rc) (v u : Value) (w : World) (h : Recs v ls w) (k : Recs u ms w) (hl : ls.length ≤ 1099511627776) (_ : ms.length ≤ 1099511627776) :
    Calls Tryz.prog 86 #[.agg #[.int .i64 base, .int .i64 count, .int .i64 prod, .int .i64 seq, .int .i64 time, v], .agg #[.int .i64 base', .int .i64 count', .int .i64 prod', .int .i64 seq', .int .i64 time', u]] w fun e w' => e = .returned (.bool (Pl.sameB ⟨base, count, prod, seq, time, ls⟩ ⟨base', count', prod', seq', time', ms⟩)) ∧ Below w.heap.size w w' := by
  have hb2 : Below w.heap.size w ((w.alloc (.cells #[.int .i64 base, .int .i64 count, .int .i64 prod, .int .i64 seq, .int .i64 time, v] 34)).alloc (.cells #[.int .i64 base', .int .i64 count', .int .i64 prod', .int .i64 seq', .int .i64 time', u] 34)) := ((Below.refl _ _).alloc (Nat.le_refl _) _).alloc (by simp) _
  have HB := Lib.hid hb2
  clear hb2
  by_cases e_base : base = base'
  · subst e_base
    by_cases e_count : count = count'
    · subst e_count
      by_cases e_prod : prod = prod'
      · subst e_prod
        by_cases e_seq : seq = seq'
        · subst e_seq
          by_cases e_time : time = time'
          · subst e_time
            by_cases e_len : ls.length = ms.length
            · rw [show Pl.sameB ⟨base, count, prod, seq, time, ls⟩ ⟨base, count, prod, seq, time, ms⟩ = Pl.eqRs ls ms by simp [Pl.sameB, e_len]]
              exact rsame_tail base count prod seq time ls ms v u w h k hl e_len
            · obtain ⟨a1, cap1, rfl, hc1⟩ := h
              obtain ⟨a2, cap2, rfl, hc2⟩ := k
              have hs : Pl.sameB ⟨base, count, prod, seq, time, ls⟩ ⟨base, count, prod, seq, time, ms⟩ = false := by
                rw [Bool.eq_false_iff]
                intro h
                exact e_len (congrArg (fun b => b.recs.length) (Pl.sameB_iff.1 h))
              rw [hs]
              obtain ⟨m, hm⟩ : ∃ m, ls.length = m := ⟨_, rfl⟩
              obtain ⟨m', hm'⟩ : ∃ m, ms.length = m := ⟨_, rfl⟩
              rw [hm, hm'] at e_len HB ⊢
              have hne : ((m : Int) != (m' : Int)) = true := by rw [bne_iff_ne]; omega
              clear hs hc1 hc2 hm hm' hl
              go_enter Tryz.func86, Tryz.ntmps86
              go_wp2_with fail
              go_ret
              exact ⟨rfl, HB.out⟩
          · have hs : Pl.sameB ⟨base, count, prod, seq, time, ls⟩ ⟨base, count, prod, seq, time', ms⟩ = false := by
              rw [Bool.eq_false_iff]
              intro h
              exact e_time (congrArg Pl.Bt.time (Pl.sameB_iff.1 h))
            rw [hs]
            have hne : (time != time') = true := by rw [bne_iff_ne]; exact e_time
            clear hs e_time
            go_enter Tryz.func86, Tryz.ntmps86
            go_wp2_with fail
            go_ret
            exact ⟨rfl, HB.out⟩
        · have hs : Pl.sameB ⟨base, count, prod, seq, time, ls⟩ ⟨base, count, prod, seq', time', ms⟩ = false := by
            rw [Bool.eq_false_iff]
            intro h
            exact e_seq (congrArg Pl.Bt.seq (Pl.sameB_iff.1 h))
          rw [hs]
          have hne : (seq != seq') = true := by rw [bne_iff_ne]; exact e_seq
          clear hs e_seq
          go_enter Tryz.func86, Tryz.ntmps86
          go_wp2_with fail
          go_ret
          exact ⟨rfl, HB.out⟩
      · have hs : Pl.sameB ⟨base, count, prod, seq, time, ls⟩ ⟨base, count, prod', seq', time', ms⟩ = false := by
          rw [Bool.eq_false_iff]
          intro h
          exact e_prod (congrArg Pl.Bt.prod (Pl.sameB_iff.1 h))
        rw [hs]
        have hne : (prod != prod') = true := by rw [bne_iff_ne]; exact e_prod
        clear hs e_prod
        go_enter Tryz.func86, Tryz.ntmps86
        go_wp2_with fail
        go_ret
        exact ⟨rfl, HB.out⟩
    · have hs : Pl.sameB ⟨base, count, prod, seq, time, ls⟩ ⟨base, count', prod', seq', time', ms⟩ = false := by
        rw [Bool.eq_false_iff]
        intro h
        exact e_count (congrArg Pl.Bt.count (Pl.sameB_iff.1 h))
      rw [hs]
      have hne : (count != count') = true := by rw [bne_iff_ne]; exact e_count
      clear hs e_count
      go_enter Tryz.func86, Tryz.ntmps86
      go_wp2_with fail
      go_ret
      exact ⟨rfl, HB.out⟩
  · have hs : Pl.sameB ⟨base, count, prod, seq, time, ls⟩ ⟨base', count', prod', seq', time', ms⟩ = false := by
      rw [Bool.eq_false_iff]
      intro h
      exact e_base (congrArg Pl.Bt.base (Pl.sameB_iff.1 h))
    rw [hs]
    have hne : (base != base') = true := by rw [bne_iff_ne]; exact e_base
    clear hs e_base
    go_enter Tryz.func86, Tryz.ntmps86
    go_wp2_with fail
    go_ret
    exact ⟨rfl, HB.out⟩
end Go.Proofs.YtdaoeplblkfapaaGreatDoor

/- THE CONTRACTS of the document's Recs and Batches, where both are the same. -/
namespace Go.Proofs.YtdaoeplblkfapaaGreatDoor
open Go.RowKit

set_option maxHeartbeats 2000000 in
set_option maxRecDepth 100000 in
theorem recs_true {A A' : Nat → Prop} (u v : Value) (l : List Pl.Rc) (w : World) (hu : RcIn A w u l) (hv : RcIn A' w v l) (hl : l.length ≤ 1099511627776) :
    Calls Tryz.prog 43 #[u, v] w fun e w' => e = .returned (.bool true) ∧ Below w.heap.size w w' := by
  obtain ⟨a1, cap1, rfl, hc1⟩ := hu.recs
  obtain ⟨a2, cap2, rfl, hc2⟩ := hv.recs
  obtain ⟨m, hm⟩ : ∃ m, l.length = m := ⟨_, rfl⟩
  rw [hm] at hl ⊢
  have HM := Lib.hid hm
  have HC1 := Lib.hid hc1
  have HC2 := Lib.hid hc2
  clear hm hc1 hc2 hu hv
  go_enter Tryz.func43, Tryz.ntmps43
  go_wp2_with fail
  go_loopw [5] (fun iv wr => ∃ k n : Nat, k ≤ m ∧ iv = .int .i64 k ∧ wr = w.drewN n) (fun iv _ => m - (intOf iv).toNat)
  case atStart => exact ⟨0, 0, Nat.zero_le _, rfl, rfl⟩
  case round =>
    obtain ⟨k, n, hk, rfl, rfl⟩ := hrel
    by_cases hlt : k < m
    · obtain ⟨x, hg⟩ : ∃ x, l[k]? = some x := ⟨_, List.getElem?_eq_getElem (by rw [HM.out]; exact hlt)⟩
      obtain ⟨b, off, rfl, hbl, c0, c1, c2, c3⟩ := HC1.out k x hg
      obtain ⟨b', off', rfl, hbl', c0', c1', c2', c3'⟩ := HC2.out k x hg
      clear hg hbl hbl'
      have hgu := rec_guard
      have hne : ∀ wx, (binOp .neq 75 (.agg #[.int .i64 x.off, .string ⟨x.key.toArray⟩, .string ⟨x.val.toArray⟩, .bool x.gone]) (.agg #[.int .i64 x.off, .string ⟨x.key.toArray⟩, .string ⟨x.val.toArray⟩, .bool x.gone])).run Tryz.prog wx = .ok (.bool false) wx := fun wx => by
        rw [rec_neq x.off x.off ⟨x.key.toArray⟩ ⟨x.key.toArray⟩ ⟨x.val.toArray⟩ ⟨x.val.toArray⟩ x.gone x.gone wx]
        simp
      go_wp2_with fail
      go_quiet (fail)
      go_wp2_with fail
      go_roundw
      case rel => exact ⟨k + 1, n + nq, by omega, by go_num, rfl⟩
      case measure => simp [intOf]; omega
    · go_wp2_with fail
      go_ret
      exact ⟨rfl, below_drewN _ _⟩

set_option maxHeartbeats 4000000 in
set_option maxRecDepth 100000 in
theorem batches_true {A A' : Nat → Prop} (u v : Value) (L M : List (Pl.Bt × Value)) (w : World) (hu : BtIn A w u L) (hv : BtIn A' w v M) (hLM : L.map (·.1) = M.map (·.1)) (hl : L.length ≤ 1099511627776) (hr : ∀ p ∈ L, p.1.recs.length ≤ 1099511627776) :
    Calls Tryz.prog 36 #[u, v] w fun e w' => e = .returned (.bool true) ∧ Below w.heap.size w w' := by
  have hML : M.length = L.length := by have := congrArg List.length hLM; simpa using this.symm
  obtain ⟨a1, cap1, rfl⟩ := hu.1.form
  obtain ⟨a2, cap2, rfl⟩ := hv.1.form
  obtain ⟨m, hm⟩ : ∃ m, L.length = m := ⟨_, rfl⟩
  have HHU := Lib.hid hu
  have HHV := Lib.hid hv
  have HLM := Lib.hid hLM
  have HML := Lib.hid (hML.trans hm)
  have HR := Lib.hid hr
  rw [hML, hm]
  rw [hm] at hl
  have HM := Lib.hid hm
  clear hm hu hv hLM hr
  go_enter Tryz.func36, Tryz.ntmps36
  go_wp2_with fail
  go_loopw [5] (fun iv wr => ∃ k : Nat, k ≤ m ∧ iv = .int .i64 k ∧ Below w.heap.size w wr) (fun iv _ => m - (intOf iv).toNat)
  case atStart => exact ⟨0, Nat.zero_le _, rfl, Below.refl _ _⟩
  case round =>
    obtain ⟨k, hk, rfl, hb⟩ := hrel
    by_cases hlt : k < m
    · obtain ⟨⟨⟨base, count, prod, seq, time, recs⟩, rv⟩, hg⟩ : ∃ x, L[k]? = some x := ⟨_, List.getElem?_eq_getElem (by rw [HM.out]; exact hlt)⟩
      obtain ⟨⟨y, rv2⟩, hg2⟩ : ∃ y, M[k]? = some y := ⟨_, List.getElem?_eq_getElem (by rw [HML.out]; exact hlt)⟩
      have hy : (⟨base, count, prod, seq, time, recs⟩ : Pl.Bt) = y := by
        have h1 := congrArg (fun l => l[k]?) HLM.out
        simp only [List.getElem?_map, hg, hg2, Option.map_some] at h1
        exact Option.some.inj h1
      subst hy
      have hu1 := HHU.out.below hb
      have hv1 := HHV.out.below hb
      obtain ⟨b1, o1, cp1, e1, -, -, hc1, hr1⟩ := hu1.at hg
      obtain ⟨b2, o2, cp2, e2, -, -, hc2, hr2⟩ := hv1.at hg2
      obtain rfl : a1 = some ⟨b1, o1, none⟩ := by injection e1
      obtain rfl : a2 = some ⟨b2, o2, none⟩ := by injection e2
      have c0 : wr.cell? ⟨b1, o1 + k * 6, none⟩ = some (.int .i64 base) := hc1 0 _ (by decide) rfl
      have c1 : wr.cell? ⟨b1, o1 + k * 6 + 1, none⟩ = some (.int .i64 count) := hc1 1 _ (by decide) rfl
      have c2 : wr.cell? ⟨b1, o1 + k * 6 + 2, none⟩ = some (.int .i64 prod) := hc1 2 _ (by decide) rfl
      have c3 : wr.cell? ⟨b1, o1 + k * 6 + 3, none⟩ = some (.int .i64 seq) := hc1 3 _ (by decide) rfl
      have c4 : wr.cell? ⟨b1, o1 + k * 6 + 4, none⟩ = some (.int .i64 time) := hc1 4 _ (by decide) rfl
      have c5 : wr.cell? ⟨b1, o1 + k * 6 + 5, none⟩ = some rv := hc1 5 _ (by decide) rfl
      have d0 : wr.cell? ⟨b2, o2 + k * 6, none⟩ = some (.int .i64 base) := hc2 0 _ (by decide) rfl
      have d1 : wr.cell? ⟨b2, o2 + k * 6 + 1, none⟩ = some (.int .i64 count) := hc2 1 _ (by decide) rfl
      have d2 : wr.cell? ⟨b2, o2 + k * 6 + 2, none⟩ = some (.int .i64 prod) := hc2 2 _ (by decide) rfl
      have d3 : wr.cell? ⟨b2, o2 + k * 6 + 3, none⟩ = some (.int .i64 seq) := hc2 3 _ (by decide) rfl
      have d4 : wr.cell? ⟨b2, o2 + k * 6 + 4, none⟩ = some (.int .i64 time) := hc2 4 _ (by decide) rfl
      have d5 : wr.cell? ⟨b2, o2 + k * 6 + 5, none⟩ = some rv2 := hc2 5 _ (by decide) rfl
      have hs := fun (wx : World) (hbx : Below wr.heap.size wr wx) => rsame base count prod seq time base count prod seq time recs recs rv rv2 wx (RcIn.recs (hr1.below hbx)) (RcIn.recs (hr2.below hbx)) (HR.out _ (List.mem_of_getElem? hg)) (HR.out _ (List.mem_of_getElem? hg))
      have hsame : Pl.sameB ⟨base, count, prod, seq, time, recs⟩ ⟨base, count, prod, seq, time, recs⟩ = true := Pl.sameB_iff.2 rfl
      rw [hsame] at hs
      have HS := Lib.hid fun d os => Calls.regrown_of (hs _ (below_regrown wr d os))
      have HB := Lib.hid hb
      have k0 : ∀ d os, _ := cell_regrown c0
      have k1 : ∀ d os, _ := cell_regrown c1
      have k2 : ∀ d os, _ := cell_regrown c2
      have k3 : ∀ d os, _ := cell_regrown c3
      have k4 : ∀ d os, _ := cell_regrown c4
      have k5 : ∀ d os, _ := cell_regrown c5
      have j0 : ∀ d os, _ := cell_regrown d0
      have j1 : ∀ d os, _ := cell_regrown d1
      have j2 : ∀ d os, _ := cell_regrown d2
      have j3 : ∀ d os, _ := cell_regrown d3
      have j4 : ∀ d os, _ := cell_regrown d4
      have j5 : ∀ d os, _ := cell_regrown d5
      clear hs hsame hg hg2 hu1 hv1 hb hc1 hc2 hr1 hr2 e1 e2
      go_upto_region 6 with fail
      refine wp_region_below_tail 9 (by kernel_rfl) (by kernel_rfl) ?_
      simp only [List.take_succ_cons, List.take_zero, List.drop_succ_cons, List.drop_zero]
      repeat (go_big_quiet_step ((go_at_call 86; with_reducible exact HS.out _ _)))
      refine wpQuiet_nil ?_
      intro w3 hw3
      obtain ⟨⟨dq, osq⟩, hw3'⟩ := hw3
      have H3 : Hid (Below wr.heap.size wr w3) := by rw [hw3']; exact below_regrown wr dq osq
      clear hw3' HS k0 k1 k2 k3 k4 k5 j0 j1 j2 j3 j4 j5 c0 c1 c2 c3 c4 c5 d0 d1 d2 d3 d4 d5
      go_wp2_with fail
      go_roundw
      case rel => exact ⟨k + 1, by omega, by go_num, HB.out.trans (H3.out.mono HB.out.size)⟩
      case measure => simp [intOf]; omega
    · have HB := Lib.hid hb
      clear hb
      go_wp2_with fail
      go_ret
      exact ⟨rfl, HB.out⟩
end Go.Proofs.YtdaoeplblkfapaaGreatDoor

/- Batches that a law gathers: a slice of its own. -/
namespace Go.Proofs.YtdaoeplblkfapaaGreatDoor
open Go.RowKit

theorem Sl.empty (w : World) (e size : Nat) : Sl (w.alloc (.cells #[] e)) (.slice (some ⟨w.heap.size, 0, none⟩) 0 0) (some w.heap.size) e size 0 [] :=
  ⟨by simp, .inr ⟨w.heap.size, 0, 0, #[], rfl, rfl, heap_alloc_new w _, Nat.le_refl _, by simp, by simp⟩⟩
/-- Batches in a slice of the law's own, all of it behind z. -/
def Wn (z : Nat) (v : Value) (l : List Pl.Bt) (W : World) : Prop :=
  ∃ gb L, Sl W v gb 34 6 L.length (L.flatMap bc6) ∧ (∀ b, gb = some b → z ≤ b) ∧ All (fun b => z ≤ b ∧ gb ≠ some b) W L ∧ L.map (·.1) = l
theorem Wn.empty (w : World) {z : Nat} (hz : z ≤ w.heap.size) : Wn z (.slice (some ⟨w.heap.size, 0, none⟩) 0 0) [] (w.alloc (.cells #[] 34)) :=
  ⟨some w.heap.size, [], Sl.empty w _ _, fun b e => by cases e; exact hz, fun p hp => (by cases hp), rfl⟩
theorem Wn.below {z : Nat} {v : Value} {l : List Pl.Bt} {W W' : World} (h : Wn z v l W) (b : Below W.heap.size W W') : Wn z v l W' := by
  obtain ⟨gb, L, h1, h2, h3, h4⟩ := h
  exact ⟨gb, L, h1.same fun k hk => b.block k (h1.lt k hk), h2, h3.below b, h4⟩
theorem Wn.bts {z : Nat} {v : Value} {l : List Pl.Bt} {W : World} (h : Wn z v l W) : ∃ L, BtIn (fun b => z ≤ b) W v L ∧ L.map (·.1) = l := by
  obtain ⟨gb, L, h1, h2, h3, h4⟩ := h
  exact ⟨L, ⟨Rds.of_sl h1 h2, fun p hp => Rds.mono (h3 p hp) fun _ h => h.1⟩, h4⟩
theorem fla_part (G : List Sg) (k j : Nat) : (fla ((G.drop k).take j)).length ≤ (fla G).length := by
  have e1 : fla G = fla (G.take k) ++ fla (G.drop k) := by rw [← fla_append, List.take_append_drop]
  have e2 : fla (G.drop k) = fla ((G.drop k).take j) ++ fla ((G.drop k).drop j) := by rw [← fla_append, List.take_append_drop]
  rw [e1, e2]
  simp only [List.length_append]
  omega
theorem fla_step {G : List Sg} {k i : Nat} {g : Sg} (hk : k ≤ i) (hg : G[i]? = some g) : fla ((G.drop k).take (i + 1 - k)) = fla ((G.drop k).take (i - k)) ++ g.l := by
  have h : (G.drop k)[i - k]? = some g := by rw [List.getElem?_drop, show k + (i - k) = i by omega]; exact hg
  rw [show i + 1 - k = (i - k) + 1 by omega, take_next h, fla_append, fla_one]
/-- A segment's clones more. -/
theorem Wn.more {z : Nat} {w w3 w9 : World} {L L2 : List (Pl.Bt × Value)} {gb gb2 gb9 : Option Nat} {v9 v2 : Value} {g9 : Nat}
    (hz : z ≤ w.heap.size) (hb : Below w.heap.size w w3) (hs : ∀ b, gb = some b → z ≤ b ∧ b < w.heap.size) (ha : All (fun b => z ≤ b ∧ gb ≠ some b) w L)
    (_hs2 : Sl w3 v2 gb2 34 6 L2.length (L2.flatMap bc6)) (ha2 : All (fun b => w.heap.size ≤ b ∧ gb2 ≠ some b) w3 L2)
    (h9 : Sl w9 v9 gb9 34 6 (L.length + L2.length) (L.flatMap bc6 ++ L2.flatMap bc6)) (hg : w3.grownBy w9 gb) (e9 : gb9 = some g9) (hn : gb9 = gb ∨ w3.heap.size ≤ g9) :
    Wn z v9 (L.map (·.1) ++ L2.map (·.1)) w9 := by
  have hne : ∀ b, b < w3.heap.size → gb ≠ some b → gb9 ≠ some b := fun b hl hgb e => by
    rcases hn with h | h
    · exact hgb (h ▸ e)
    · rw [e9] at e; cases e; omega
  refine ⟨gb9, L ++ L2, ?_, fun b e => ?_, fun p hp => ?_, List.map_append ..⟩
  · rw [List.length_append, List.flatMap_append]; exact h9
  · rcases hn with h | h
    · exact (hs b (h ▸ e)).1
    · rw [e9] at e; cases e; have := hb.size; omega
  · rcases List.mem_append.1 hp with hp | hp
    · refine Rds.keep (ha p hp) (by have := hg.size; have := hb.size; omega) fun k hk hl => ⟨(hg.block k (by have := hb.size; omega) fun e => hk.2 e.symm).trans (hb.block k hl), hk.1, hne k (by have := hb.size; omega) hk.2⟩
    · refine Rds.keep (ha2 p hp) hg.size fun k hk hl => ?_
      have hk2 : gb ≠ some k := fun e => by have := (hs k e).2; omega
      exact ⟨hg.block k hl fun e => hk2 e.symm, by omega, hne k hl hk2⟩
/-- What the law keeps beside the strand, in blocks of A: what it wants, and the bases. -/
def Kd (A : Nat → Prop) (wv : Value) (l : List Pl.Bt) (bv : Value) (bs : List Value) (W : World) : Prop := (∃ L, BtIn A W wv L ∧ L.map (·.1) = l) ∧ Rds A W bv 1 bs.length bs
theorem Kd.below {A : Nat → Prop} {wv bv : Value} {l : List Pl.Bt} {bs : List Value} {W W' : World} (h : Kd A wv l bv bs W) (b : Below W.heap.size W W') : Kd A wv l bv bs W' :=
  let ⟨⟨L, h1, h2⟩, h3⟩ := h; ⟨⟨L, h1.below b, h2⟩, h3.below b⟩
theorem Kd.kq {A Q : Nat → Prop} {wv bv : Value} {l : List Pl.Bt} {bs : List Value} {W W' : World} (h : Kd A wv l bv bs W) (k : Kq Q W W') (hq : ∀ b, A b → Q b) : Kd A wv l bv bs W' :=
  let ⟨⟨L, h1, h2⟩, h3⟩ := h
  have key : ∀ b, A b → b < W.heap.size → W'.heap[b]? = W.heap[b]? ∧ A b := fun b hb hl => ⟨k.block b hl (hq b hb), hb⟩
  ⟨⟨L, ⟨Rds.keep h1.1 k.size key, fun p hp => Rds.keep (h1.2 p hp) k.size key⟩, h2⟩, Rds.keep h3 k.size key⟩
theorem Kd.upto {z : Nat} {wv bv : Value} {l : List Pl.Bt} {bs : List Value} {W : World} (h : Kd (fun b => z ≤ b) wv l bv bs W) : Kd (fun b => z ≤ b ∧ b < W.heap.size) wv l bv bs W :=
  let ⟨⟨L, h1, h2⟩, h3⟩ := h
  have key : ∀ b, z ≤ b → b < W.heap.size → W.heap[b]? = W.heap[b]? ∧ (z ≤ b ∧ b < W.heap.size) := fun _ hb hl => ⟨rfl, hb, hl⟩
  ⟨⟨L, ⟨Rds.keep h1.1 (Nat.le_refl _) key, fun p hp => Rds.keep (h1.2 p hp) (Nat.le_refl _) key⟩, h2⟩, Rds.keep h3 (Nat.le_refl _) key⟩
/-- The document's Batches says that all is what was wanted. -/
theorem Kd.same {A A' : Nat → Prop} {wv bv va : Value} {l : List Pl.Bt} {bs : List Value} {W : World} {M : List (Pl.Bt × Value)} (h : Kd A wv l bv bs W) (ha : BtIn A' W va M) (hM : M.map (·.1) = l) (hl : l.length ≤ 200) (hg : ∀ b ∈ l, Pl.goodB b = true) :
    Calls Tryz.prog 36 #[va, wv] W fun e w' => e = .returned (.bool true) ∧ Below W.heap.size W w' := by
  obtain ⟨⟨L, h1, h2⟩, -⟩ := h
  have hm : M.length = l.length := by rw [← hM, List.length_map]
  refine batches_true va wv M L W ha h1 (hM.trans h2.symm) (by omega) fun p hp => ?_
  have := (Pl.enc_short (hg p.1 (by rw [← hM]; exact List.mem_map.2 ⟨p, hp, rfl⟩))).2.2
  omega
theorem AllOut.bts {w W' : World} {l : List Pl.Bt} {e : Ending} (h : AllOut w l e W') : ∃ v M, e = .returned v ∧ BtIn (fun _ => True) W' v M ∧ M.map (·.1) = l ∧ Below w.heap.size w W' := by
  obtain ⟨v, gb, L, rfl, h1, -, h3, h4, h5⟩ := h
  exact ⟨v, L, rfl, ⟨Rds.of_sl h1 fun _ _ => trivial, fun p hp => Rds.mono (h3 p hp) fun _ _ => trivial⟩, h4, h5⟩
section
variable {w0 W : World} {t s m l : Nat} {E : En} {G : List Sg} {A : Nat → Prop} {y : Bool}
theorem Opd.dropA (L : Opd w0 t s E m l G A y W) (hA : ∀ b, A b → b < W.heap.size) (hm : m < E.M) (nn : Nat) (hnn : nn ≤ G.length - 1) :
    Calls Tryz.prog 41 #[.pointer (some ⟨s, 0, none⟩), .int .i64 nn] W fun e W' => e = .returned (.int .i64 0) ∧ Opd w0 t s E (m + 1) l (G.drop nn) A false W' ∧ Kq A W W' :=
  (L.drop hm nn hnn).mono fun _ _ ⟨h1, h2, h3⟩ => ⟨h1, h2.mono fun b _ hb => ⟨hb, hA b hb⟩, h3.mono fun b _ hb => ⟨hb, hA b hb⟩⟩
theorem Opd.syncA (L : Opd w0 t s E m l G A y W) (hA : ∀ b, A b → b < W.heap.size) (hm : m < E.M) :
    Calls Tryz.prog 31 #[.pointer (some ⟨s, 0, none⟩)] W fun e W' => e = .returned (.int .i64 0) ∧ Opd w0 t s E (m + 1) l G A true W' ∧ Kq A W W' :=
  (L.sync hm).mono fun _ _ ⟨h1, h2, h3⟩ => ⟨h1, h2.mono fun b _ hb => ⟨hb, hA b hb⟩, h3.mono fun b _ hb => ⟨hb, hA b hb⟩⟩
theorem Opd.belowA {W' : World} (L : Opd w0 t s E m l G A y W) (b : Below W.heap.size W W') : Opd w0 t s E m l G A y W' := (L.below b).mono fun _ _ h => .inl h
end
end Go.Proofs.YtdaoeplblkfapaaGreatDoor
