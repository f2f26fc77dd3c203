/- THE CONTRACTS OF the document's Shift, Set. -/
import Derived.Test.YtdkngocinimjdaaRef3
namespace Go.Proofs.Ytdkngocinimjdaa
open Go.RowKit
attribute [local go_sem] run_store_complex

theorem shift_ret {W : World} {rb : Nat} {a0 a1 n : Value} {tmps : Array Value} (hb : Blk W rb #[a0, a1] 39) (h2 : tmps.getD 2 undef = .pointer (some ⟨rb, 0, none⟩)) (h3 : tmps.getD 3 undef = n) :
    (results Try.f14 tmps).run Try.prog W = .ok (.tuple #[.agg #[a0, a1], n]) W := by
  rw [results_cell_tmp (p := 2) (u := 3) (ty := 39) rfl, h2, h3]
  have hl := load_size hb
  simp [asAddr, hl]

/-- A slice of which the first element, two cells, has gone. -/
theorem Sl.tail2 {w : World} {k q n cap e : Nat} {xs : List Value} (h : Sl w (.slice (some ⟨k, q, none⟩) (n + 1) cap) (some k) e 2 (n + 1) xs) {q' cap' : Nat} (hq : (q' = q + 2 ∧ cap' = cap - 1) ∨ (n = 0 ∧ q' = q ∧ cap' = 0)) : Sl w (.slice (some ⟨k, q', none⟩) n cap') (some k) e 2 n (xs.drop 2) := by
  obtain ⟨h1, h2⟩ := h
  refine ⟨by rw [List.length_drop]; omega, .inr ?_⟩
  rcases h2 with ⟨hv, _⟩ | ⟨g, p, cap0, cur, hg, hv, hc, hn, hs, ht⟩
  · cases hv
  · cases hg; cases hv
    refine ⟨k, q', cap', cur, rfl, rfl, hc, by omega, by omega, ?_⟩
    rcases hq with ⟨rfl, rfl⟩ | ⟨rfl, rfl, rfl⟩
    · rw [← ht, List.drop_take, List.drop_drop]; congr 1; omega
    · rw [Nat.zero_mul, List.take_zero, List.drop_of_length_le (by omega)]
theorem Sl.setAny {w : World} {k q n cap e size i : Nat} {x : Value} {xs : List Value} (h : Sl w (.slice (some ⟨k, q, none⟩) n cap) (some k) e size n xs) : Sl (w.setCell ⟨k, q + i, none⟩ x) (.slice (some ⟨k, q, none⟩) n cap) (some k) e size n (xs.set i x) := by
  obtain ⟨h1, h2⟩ := h
  refine ⟨by rw [List.length_set]; exact h1, .inr ?_⟩
  rcases h2 with ⟨hv, _⟩ | ⟨g, p, cap0, cur, hg, hv, hc, hn, hs, ht⟩
  · cases hv
  · cases hg; cases hv
    have hb : Blk w k cur e := hc
    refine ⟨k, q, cap, _, rfl, rfl, hb.set x, hn, by simpa using hs, ?_⟩
    rw [← ht, Array.toList_setIfInBounds, List.drop_set, if_neg (by omega), Nat.add_sub_cancel_left, List.take_set]
theorem two_set (L : List P2) (j : Nat) (p : P2) (hj : j < L.length) : (L.set j p).flatMap two = ((L.flatMap two).set (j * 2) (.int .i64 p.1)).set (j * 2 + 1) (.int .i64 p.2) := by
  induction L generalizing j with
  | nil => simp at hj
  | cons q L ih =>
    cases j with
    | zero => rfl
    | succ j =>
      have := ih j (by simpa using hj)
      rw [List.set_cons_succ, List.flatMap_cons, this, List.flatMap_cons, show (j + 1) * 2 = j * 2 + 2 by omega]
      rfl

set_option maxHeartbeats 1000000 in
theorem rshift_none (w : World) (g : Nat) (gb : Option Nat) (h : Ru w g gb []) :
    Calls Try.prog 14 #[.pointer (some ⟨g, 0, none⟩)] w fun e w' => e = .returned (.tuple #[.agg #[.int .i64 0, .int .i64 0], .bool false]) ∧ Below w.heap.size w w' := by
  obtain ⟨v, h1, h2⟩ := h.lies
  obtain ⟨ao, cap, rfl, hc, -⟩ := h2.make
  have hr := Blk.new w #[.int .i64 0, .int .i64 0] 39
  have hw : Below w.heap.size w (w.alloc (.cells #[.int .i64 0, .int .i64 0] 39)) := (Below.refl _ _).alloc (Nat.le_refl _) _
  have hg := h1.below hw
  obtain ⟨W1, hW1⟩ : ∃ W, w.alloc (.cells #[.int .i64 0, .int .i64 0] 39) = W := ⟨_, rfl⟩
  rw [hW1] at hr hw hg
  have c0 := hg.cell (i := 0) rfl
  have r0 := hr.cell (i := 0) rfl
  have r1 := hr.cell (i := 1) rfl
  have f0 := hr.free (i := 0)
  have f1 := hr.free (i := 1)
  have HR := Lib.hid hr
  have HW := Lib.hid hw
  clear h h1 h2 hr hw hg
  go_enter Try.func14, Try.ntmps14
  go_wp2_with fail
  exact bodyPost_ret (shift_ret ((HR.out.set (i := 0) (.int .i64 0)).set (i := 1) (.int .i64 0)) rfl rfl) rfl ⟨rfl, (HW.out.setCell (p := ⟨w.heap.size, 0, none⟩) (Nat.le_refl _) (.int .i64 0)).setCell (p := ⟨w.heap.size, 1, none⟩) (Nat.le_refl _) (.int .i64 0)⟩

set_option maxHeartbeats 1000000 in
theorem rset_no (i : Int) (x y : Nat) (w : World) (g : Nat) (gb : Option Nat) (L : List P2) (h : Ru w g gb L) (hno : i < 0 ∨ (L.length : Int) ≤ i ∨ Fl.part x = none ∨ Fl.part y = none) :
    Calls Try.prog 17 #[.pointer (some ⟨g, 0, none⟩), .int .i64 i, .complex .f64 x y] w fun e w' => e = .returned (.int .i64 1) ∧ Below w.heap.size w w' := by
  obtain ⟨v, h1, h2⟩ := h.lies
  obtain ⟨ao, cap, rfl, hc, -⟩ := h2.make
  obtain ⟨N, hN⟩ : ∃ N, L.length = N := ⟨_, rfl⟩
  rw [hN] at h1 hno
  have H1 := Lib.hid h1
  clear hN
  cases hz : ((Fl.part x).isSome && (Fl.part y).isSome) with
  | false =>
    have HF := Lib.hid (fun w => from_no hz w)
    clear h h1 h2 hz hno
    go_enter Try.func17, Try.ntmps17
    go_wp2_with fail
    refine (HF.out _).mono ?_
    rintro e w1 ⟨⟨a, b, rfl⟩, b1⟩
    have hw := b1.alloc b1.size (.cells #[.int .i64 a, .int .i64 b] 39)
    have HW := Lib.hid hw
    clear hw b1
    go_wp2_with fail
    go_ret
    exact ⟨rfl, HW.out⟩
  | true =>
    rw [Bool.and_eq_true] at hz
    obtain ⟨m, hm⟩ := Option.isSome_iff_exists.1 hz.1
    obtain ⟨n, hn⟩ := Option.isSome_iff_exists.1 hz.2
    have hl : i < 0 ∨ (N : Int) ≤ i := by
      rcases hno with h | h | h | h
      · exact .inl h
      · exact .inr h
      · rw [h] at hm; cases hm
      · rw [h] at hn; cases hn
    have HF := Lib.hid (fun w => from_ok hm hn w)
    clear h h1 h2 hz hno hm hn
    by_cases d1 : i < 0
    · clear hl
      go_enter Try.func17, Try.ntmps17
      go_wp2_with fail
      refine (HF.out _).mono ?_
      rintro e w1 ⟨rfl, b1⟩
      have hw := b1.alloc b1.size (.cells #[.int .i64 m, .int .i64 n] 39)
      have HW := Lib.hid hw
      clear hw b1
      go_wp2_with fail
      go_ret
      exact ⟨rfl, HW.out⟩
    · have d2 : (N : Int) ≤ i := by omega
      clear hl
      go_enter Try.func17, Try.ntmps17
      go_wp2_with fail
      refine (HF.out _).mono ?_
      rintro e w1 ⟨rfl, b1⟩
      have hw := b1.alloc b1.size (.cells #[.int .i64 m, .int .i64 n] 39)
      have c0 := (H1.out.below hw).cell (i := 0) rfl
      have HW := Lib.hid hw
      clear hw b1
      go_wp2_with fail
      go_ret
      exact ⟨rfl, HW.out⟩

set_option maxHeartbeats 1000000 in
set_option maxRecDepth 100000 in
theorem rset_ok (j x y m n : Nat) (w : World) (g : Nat) (gb : Option Nat) (L : List P2) (h : Ru w g gb L) (hl : L.length ≤ 4096) (hj : j < L.length) (hx : Fl.part x = some m) (hy : Fl.part y = some n) :
    Calls Try.prog 17 #[.pointer (some ⟨g, 0, none⟩), .int .i64 j, .complex .f64 x y] w fun e w' => e = .returned (.int .i64 0) ∧ Ru w' g gb (L.set j ((m : Int), (n : Int))) ∧ Kb2 (some g) gb w w' := by
  obtain ⟨v, h1, h2⟩ := h.lies
  obtain ⟨ao, cap, rfl, hc, hsome⟩ := h2.make
  obtain ⟨k, q, rfl, rfl⟩ := hsome (by omega)
  obtain ⟨N, hN⟩ : ∃ N, L.length = N := ⟨_, rfl⟩
  obtain ⟨p, hp⟩ : ∃ p, L[j]? = some p := ⟨_, List.getElem?_eq_getElem hj⟩
  have ht := two_at hp
  have hset := two_set L j ((m : Int), (n : Int)) hj
  rw [hN] at h1 h2 hc hj hl
  have H1 := Lib.hid h1
  have H2 := Lib.hid h2
  have HT := Lib.hid ht
  have HS := Lib.hid hset
  have HN := Lib.hid hN
  have HNE := Lib.hid h.ne
  have HF := Lib.hid (fun w => from_ok hx hy w)
  clear h h1 h2 hx hy hp ht hset hN hsome
  go_enter Try.func17, Try.ntmps17
  go_wp2_with fail
  refine (HF.out _).mono ?_
  rintro e w1 ⟨rfl, b1⟩
  have hb5 := Blk.new w1 #[.int .i64 m, .int .i64 n] 39
  have hw := b1.alloc b1.size (.cells #[.int .i64 m, .int .i64 n] 39)
  obtain ⟨W2, hW2⟩ : ∃ W2, w1.alloc (.cells #[.int .i64 m, .int .i64 n] 39) = W2 := ⟨_, rfl⟩
  rw [hW2] at hb5 hw
  have hg2 := H1.out.below hw
  have hs2 := H2.out.same (fun k hk => hw.block k (H2.out.lt k hk))
  have c0 := hg2.cell (i := 0) rfl
  have d0 := hb5.cell (i := 0) rfl
  have d1 := hb5.cell (i := 1) rfl
  have e0 := hs2.cell rfl (j * 2) _ HT.out.1
  have e1 := hs2.cell rfl (j * 2 + 1) _ HT.out.2
  have f0 := hs2.frozen rfl (q + j * 2)
  have f1 := hs2.frozen rfl (q + (j * 2 + 1))
  rw [← Nat.add_assoc] at e1 f1
  have HG2 := Lib.hid hg2
  have HS2 := Lib.hid hs2
  have HW := Lib.hid hw
  clear hb5 hg2 hs2 hw b1
  go_wp2_with fail
  go_region
  go_wp2_with fail
  go_ret
  have hne : some g ≠ some k := HNE.out
  have hkb : Kb2 (some g) (some k) W2 (((W2.setCell ⟨k, q + j * 2, none⟩ (.int .i64 m)).setCell ⟨k, q + j * 2 + 1, none⟩ (.int .i64 n)).drew) :=
    ((Kb2.setCell _ ⟨k, q + j * 2, none⟩ _ (.inr rfl)).trans (Kb2.setCell _ ⟨k, q + j * 2 + 1, none⟩ _ (.inr rfl))).trans (Kb2.drew _)
  have hkb' : Kb2 (some k) none W2 (((W2.setCell ⟨k, q + j * 2, none⟩ (.int .i64 m)).setCell ⟨k, q + j * 2 + 1, none⟩ (.int .i64 n)).drew) :=
    ((Kb2.setCell _ ⟨k, q + j * 2, none⟩ _ (.inl rfl)).trans (Kb2.setCell _ ⟨k, q + j * 2 + 1, none⟩ _ (.inl rfl))).trans (Kb2.drew _)
  refine ⟨rfl, ⟨hne, _, HG2.out.kb hkb' hne (by simp), ?_⟩, (Kb2.of_below HW.out).trans hkb⟩
  rw [List.length_set, HN.out, HS.out]
  exact ((HS2.out.setAny (i := j * 2) (x := .int .i64 m)).setAny (i := j * 2 + 1) (x := .int .i64 n)).same (fun _ _ => rfl)

theorem rshift_end {w W2 : World} {g k q n cap rb : Nat} {p : P2} {L : List P2} (hr : Ru w g (some k) (p :: L)) (hn : L.length = n) (hrb : w.heap.size ≤ rb) (hw : Below w.heap.size w W2) (hb : Blk W2 g #[.slice (some ⟨k, q, none⟩) (n + 1) cap] 29) (hs : Sl W2 (.slice (some ⟨k, q, none⟩) (n + 1) cap) (some k) 39 2 (n + 1) ((p :: L).flatMap two))
    {q' cap' : Nat} (hq : (q' = q + 2 ∧ cap' = cap - 1) ∨ (n = 0 ∧ q' = q ∧ cap' = 0)) (a b : Value) :
    Ru (((W2.setCell ⟨g, 0, none⟩ (.slice (some ⟨k, q', none⟩) n cap')).setCell ⟨rb, 0, none⟩ a).setCell ⟨rb, 1, none⟩ b) g (some k) L ∧ Kb2 (some g) (some k) w (((W2.setCell ⟨g, 0, none⟩ (.slice (some ⟨k, q', none⟩) n cap')).setCell ⟨rb, 0, none⟩ a).setCell ⟨rb, 1, none⟩ b) := by
  have h1 := hr.lt
  have h2 := hr.ltb k rfl
  have hne := hr.ne
  have hg : g ≠ rb := by omega
  have hk : some rb ≠ some k := by intro e; cases e; omega
  have hgr : some g ≠ some rb := by intro e; cases e; omega
  have kb : Kb2 (some rb) none (W2.setCell ⟨g, 0, none⟩ (.slice (some ⟨k, q', none⟩) n cap')) (((W2.setCell ⟨g, 0, none⟩ (.slice (some ⟨k, q', none⟩) n cap')).setCell ⟨rb, 0, none⟩ a).setCell ⟨rb, 1, none⟩ b) :=
    (Kb2.setCell _ ⟨rb, 0, none⟩ _ (.inl rfl)).trans (Kb2.setCell _ ⟨rb, 1, none⟩ _ (.inl rfl))
  have kw : Kb2 (some g) (some k) w (W2.setCell ⟨g, 0, none⟩ (.slice (some ⟨k, q', none⟩) n cap')) := (Kb2.of_below hw).trans (Kb2.setCell _ ⟨g, 0, none⟩ _ (.inl rfl))
  refine ⟨⟨hne, _, (hb.set (i := 0) _).kb kb hgr (by simp), ?_⟩, ⟨kb.os.trans kw.os, kb.tape.trans kw.tape, kb.output.trans kw.output, Nat.le_trans kw.size kb.size, fun i hi e1 e2 => (kb.block i (Nat.lt_of_lt_of_le hi kw.size) (by intro e; cases e; omega) (by simp)).trans (kw.block i hi e1 e2)⟩⟩
  have ht := ((hs.tail2 hq).setCell ⟨g, 0, none⟩ (.slice (some ⟨k, q', none⟩) n cap') hne)
  rw [hn]
  exact ((ht.setCell ⟨rb, 0, none⟩ a hk).setCell ⟨rb, 1, none⟩ b hk)

set_option maxHeartbeats 1000000 in
set_option maxRecDepth 100000 in
theorem rshift_some (w : World) (g : Nat) (gb : Option Nat) (p : P2) (L : List P2) (h : Ru w g gb (p :: L)) (hl : L.length < 4096) :
    Calls Try.prog 14 #[.pointer (some ⟨g, 0, none⟩)] w fun e w' => e = .returned (.tuple #[.agg #[.int .i64 p.1, .int .i64 p.2], .bool true]) ∧ Ru w' g gb L ∧ Kb2 (some g) gb w w' := by
  obtain ⟨v, h1, h2⟩ := h.lies
  obtain ⟨ao, cap, rfl, hc, hsome⟩ := h2.make
  obtain ⟨k, q, rfl, rfl⟩ := hsome (by simp)
  obtain ⟨n, hn⟩ : ∃ n, L.length = n := ⟨_, rfl⟩
  have hlen : (p :: L).length = n + 1 := by rw [← hn]; rfl
  rw [hlen] at h1 h2 hc
  rw [hn] at hl
  have hr1 := Blk.new w #[.int .i64 0, .int .i64 0] 39
  have hw1 : Below w.heap.size w (w.alloc (.cells #[.int .i64 0, .int .i64 0] 39)) := (Below.refl _ _).alloc (Nat.le_refl _) _
  have hs1 : (w.alloc (.cells #[.int .i64 0, .int .i64 0] 39)).heap.size = w.heap.size + 1 := by simp
  obtain ⟨W1, hW1⟩ : ∃ W, w.alloc (.cells #[.int .i64 0, .int .i64 0] 39) = W := ⟨_, rfl⟩
  rw [hW1] at hr1 hw1 hs1
  have hd2 := Blk.new W1 #[.int .i64 p.1, .int .i64 p.2] 39
  have hal : Below W1.heap.size W1 (W1.alloc (.cells #[.int .i64 p.1, .int .i64 p.2] 39)) := (Below.refl _ _).alloc (Nat.le_refl _) _
  have hr2 := hr1.below hal
  have hw2 := hw1.trans (hal.mono hw1.size)
  obtain ⟨W2, hW2⟩ : ∃ W, W1.alloc (.cells #[.int .i64 p.1, .int .i64 p.2] 39) = W := ⟨_, rfl⟩
  rw [hW2] at hd2 hr2 hw2
  have hg1 := h1.below hw1
  have hg2 := h1.below hw2
  have hsl1 := h2.same (fun k hk => hw1.block k (h2.lt k hk))
  have hsl2 := h2.same (fun k hk => hw2.block k (h2.lt k hk))
  have c0 := hg1.cell (i := 0) rfl
  have c0' := hg2.cell (i := 0) rfl
  have f0' := hg2.free (i := 0)
  have e0 : W1.cell? ⟨k, q, none⟩ = some (.int .i64 p.1) := hsl1.cell rfl 0 _ rfl
  have e1 : W1.cell? ⟨k, q + 1, none⟩ = some (.int .i64 p.2) := hsl1.cell rfl 1 _ rfl
  have hgw : g < w.heap.size := h1.lt
  have hz : (((n : Int) + 1) == 0) = false := by simp; omega
  have hle : (1 : Int) ≤ (n : Int) + 1 := by omega
  have HH := Lib.hid h
  have HN := Lib.hid hn
  have HW2 := Lib.hid hw2
  have HG2 := Lib.hid hg2
  have HS2 := Lib.hid hsl2
  have HD2 := Lib.hid hd2
  have HR2 := Lib.hid hr2
  have HGW := Lib.hid hgw
  have HS1 := Lib.hid hs1
  clear h h1 h2 hsome hn hlen hr1 hw1 hs1 hd2 hal hr2 hw2 hg1 hg2 hsl1 hsl2 hgw
  have key : ∀ q' cap', (q' = q + 2 ∧ cap' = cap - 1) ∨ (n = 0 ∧ q' = q ∧ cap' = 0) → ∃ W3, W2.setCell ⟨g, 0, none⟩ (.slice (some ⟨k, q', none⟩) n cap') = W3 ∧ Blk W3 W1.heap.size #[.int .i64 p.1, .int .i64 p.2] 39 ∧ Blk W3 w.heap.size #[.int .i64 0, .int .i64 0] 39 := fun q' cap' _ => by
    have hgw := HGW.out
    have hs1 := HS1.out
    have kb : Kb2 (some g) none W2 (W2.setCell ⟨g, 0, none⟩ (.slice (some ⟨k, q', none⟩) n cap')) := Kb2.setCell _ ⟨g, 0, none⟩ _ (.inl rfl)
    exact ⟨_, rfl, HD2.out.kb kb (by intro e; cases e; omega) (by simp), HR2.out.kb kb (by intro e; cases e; omega) (by simp)⟩
  by_cases hcap : cap = 1
  · subst hcap
    obtain rfl : n = 0 := by omega
    obtain ⟨W3, hW3, k1, k2⟩ := key q 0 (.inr ⟨rfl, rfl, rfl⟩)
    have d0 := k1.cell (i := 0) rfl
    have d1 := k1.cell (i := 1) rfl
    have r0 := k2.cell (i := 0) rfl
    have r1 := k2.cell (i := 1) rfl
    have f0 := k2.free (i := 0)
    have f1 := k2.free (i := 1)
    have K2 := Lib.hid k2
    clear k1 k2 key
    go_enter Try.func14, Try.ntmps14
    go_wp2_with fail
    refine bodyPost_ret (shift_ret ((K2.out.set (i := 0) (.int .i64 p.1)).set (i := 1) (.int .i64 p.2)) rfl rfl) rfl ⟨rfl, ?_⟩
    rw [← hW3]
    exact rshift_end HH.out HN.out (Nat.le_refl _) HW2.out HG2.out HS2.out (.inr ⟨rfl, rfl, rfl⟩) _ _
  · obtain ⟨W3, hW3, k1, k2⟩ := key (q + 2) (cap - 1) (.inl ⟨rfl, rfl⟩)
    have d0 := k1.cell (i := 0) rfl
    have d1 := k1.cell (i := 1) rfl
    have r0 := k2.cell (i := 0) rfl
    have r1 := k2.cell (i := 1) rfl
    have f0 := k2.free (i := 0)
    have f1 := k2.free (i := 1)
    have K2 := Lib.hid k2
    clear k1 k2 key
    go_enter Try.func14, Try.ntmps14
    go_wp2_with fail
    refine bodyPost_ret (shift_ret ((K2.out.set (i := 0) (.int .i64 p.1)).set (i := 1) (.int .i64 p.2)) rfl rfl) rfl ⟨rfl, ?_⟩
    rw [← hW3]
    exact rshift_end HH.out HN.out (Nat.le_refl _) HW2.out HG2.out HS2.out (.inl ⟨rfl, rfl⟩) _ _
end Go.Proofs.Ytdkngocinimjdaa
