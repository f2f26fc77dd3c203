/- THE CONTRACTS OF gauge's Shift, Set. -/
import Derived.Test.YtdkngocinimjdaaWalk2
import Derived.Laws.Slices
namespace Go.Proofs.Ytdkngocinimjdaa
open Go.RowKit
attribute [local go_sem] run_store_complex

theorem shift_nil (w : World) :
    Calls Try.prog 13 #[.pointer none] w fun e w' => e = .returned (.tuple #[.complex .f64 0 0, .bool false]) ∧ w = w' := by
  go_enter Try.func13, Try.ntmps13
  go_wp2_with fail
  refine (len_nil _).mono ?_
  rintro e w' ⟨rfl, rfl⟩
  go_wp2_with fail
  go_ret2
  exact ⟨rfl, rfl⟩
theorem shift_none (w : World) (g : Nat) (gb : Option Nat) (h : Rw w g gb []) :
    Calls Try.prog 13 #[.pointer (some ⟨g, 0, none⟩)] w fun e w' => e = .returned (.tuple #[.complex .f64 0 0, .bool false]) ∧ w = w' := by
  have HL := Lib.hid (len_any w g gb [] h)
  clear h
  go_enter Try.func13, Try.ntmps13
  go_wp2_with fail
  refine HL.out.mono ?_
  rintro e w' ⟨rfl, rfl⟩
  go_wp2_with fail
  go_ret2
  exact ⟨rfl, rfl⟩

/-- A slice of which the first element has gone. -/
theorem Sl.tail {w : World} {k q n cap e : Nat} {x : Value} {xs : List Value} (h : Sl w (.slice (some ⟨k, q, none⟩) (n + 1) cap) (some k) e 1 (n + 1) xs) (_hx : xs[0]? = some x) {q' cap' : Nat} (hq : (q' = q + 1 ∧ cap' = cap - 1) ∨ (n = 0 ∧ q' = q ∧ cap' = 0)) : Sl w (.slice (some ⟨k, q', none⟩) n cap') (some k) e 1 n (xs.drop 1) := by
  obtain ⟨h1, h2⟩ := h
  refine ⟨by rw [List.length_drop]; omega, .inr ?_⟩
  rcases h2 with ⟨hv, _⟩ | ⟨g, p, cap0, cur, hg, hv, hc, hn, hs, ht⟩
  · cases hv
  · cases hg; cases hv
    refine ⟨k, q', cap', cur, rfl, rfl, hc, by omega, by omega, ?_⟩
    rcases hq with ⟨rfl, rfl⟩ | ⟨rfl, rfl, rfl⟩
    · rw [← ht, List.drop_take, List.drop_drop]; congr 1
    · rw [Nat.zero_mul, List.take_zero, List.drop_of_length_le (by omega)]

theorem shift_end {w : World} {g k q n cap : Nat} {p : P2} {L : List P2} {a b r s : Nat} {x : Value} {xs : List Value} (h : Rw w g (some k) (p :: L)) (hn : L.length = n) (h1 : Blk w g #[.slice (some ⟨k, q, none⟩) (n + 1) cap, .complex .f64 a b] 64)
    (hs : Sl w (.slice (some ⟨k, q, none⟩) (n + 1) cap) (some k) 33 1 (n + 1) xs) (h5 : ∀ (j : Nat) (p_1 : P2), (p :: L)[j]? = some p_1 → ∃ x, xs[j]? = some x ∧ CV x p_1) (hx : xs[0]? = some x) (hi : Fl.Is r (p.1 + (tot L).1 - p.1) ∧ Fl.Is s (p.2 + (tot L).2 - p.2))
    {q' cap' : Nat} (hq : (q' = q + 1 ∧ cap' = cap - 1) ∨ (n = 0 ∧ q' = q ∧ cap' = 0)) :
    Rw ((w.setCell ⟨g, 0, none⟩ (.slice (some ⟨k, q', none⟩) n cap')).setCell ⟨g, 1, none⟩ (.complex .f64 r s)) g (some k) L ∧ Kb2 (some g) (some k) w ((w.setCell ⟨g, 0, none⟩ (.slice (some ⟨k, q', none⟩) n cap')).setCell ⟨g, 1, none⟩ (.complex .f64 r s)) := by
  have e1 : p.1 + (tot L).1 - p.1 = (tot L).1 := by omega
  have e2 : p.2 + (tot L).2 - p.2 = (tot L).2 := by omega
  rw [e1, e2] at hi
  refine ⟨⟨fun p' hp => h.ok p' (by simp [hp]), by have := h.few; simp at this; omega, h.ne, _, r, s, xs.drop 1, (h1.set (i := 0) _).set (i := 1) (.complex .f64 r s), ?_, hi.1, hi.2, ?_⟩, (Kb2.setCell _ ⟨g, 0, none⟩ _ (.inl rfl)).trans (Kb2.setCell _ ⟨g, 1, none⟩ _ (.inl rfl))⟩
  · rw [hn]
    exact ((hs.tail hx hq).setCell ⟨g, 0, none⟩ _ h.ne).setCell ⟨g, 1, none⟩ _ h.ne
  · intro j p' hj
    obtain ⟨y, hy, hc⟩ := h5 (j + 1) p' (by simpa using hj)
    exact ⟨y, by rw [List.getElem?_drop, Nat.add_comm]; exact hy, hc⟩

set_option maxHeartbeats 1000000 in
theorem shift_some (w : World) (g : Nat) (gb : Option Nat) (p : P2) (L : List P2) (h : Rw w g gb (p :: L)) :
    Calls Try.prog 13 #[.pointer (some ⟨g, 0, none⟩)] w fun e w' => (∃ v, e = .returned (.tuple #[v, .bool true]) ∧ CV v p) ∧ Rw w' g gb L ∧ Kb2 (some g) gb w w' := by
  have HL := Lib.hid (len_any w g gb _ h)
  obtain ⟨v, a, b, xs, h1, h2, h3, h4, h5⟩ := h.lies
  obtain ⟨ao, cap, rfl, hc, hsome⟩ := h2.make
  obtain ⟨k, q, rfl, rfl⟩ := hsome (by simp)
  obtain ⟨x0, hx0, x, y, rfl, ix, iy⟩ := h5 0 p rfl
  have cx : w.cell? ⟨k, q, none⟩ = some (.complex .f64 x y) := h2.cell rfl 0 _ hx0
  have c0 := h1.cell (i := 0) rfl
  have hb := tot_bound _ h.ok
  have hbl := tot_bound L (fun p hp => h.ok p (by simp [hp]))
  have hfew := h.few
  have hok := h.ok p (by simp)
  have htot : tot (p :: L) = add2 p (tot L) := rfl
  rw [htot] at h3 h4
  simp only [add2] at h3 h4
  obtain ⟨r, hr, ir⟩ := Fl.sub_is h3 ix (by unfold Ok at hok; simp only [List.length_cons] at hfew; omega)
  obtain ⟨s, hs, is⟩ := Fl.sub_is h4 iy (by unfold Ok at hok; simp only [List.length_cons] at hfew; omega)
  have hsub : ∀ w, (binOp .sub 33 (.complex .f64 a b) (.complex .f64 x y)).run Try.prog w = .ok (.complex .f64 r s) w := fun w => run_complex_sum w .sub (.inr rfl) _ _ _ _ _ _ _ _ (by unfold cSumBits; simp only [floatBits]; rw [show FloatKind.f64.format = Ieee.double from rfl, hr, hs]; rfl)
  obtain ⟨n, hn⟩ : ∃ n, L.length = n := ⟨_, rfl⟩
  have hlen : (p :: L).length = n + 1 := by rw [← hn]; rfl
  rw [hlen] at HL hc h1 h2 c0
  have hz : (((n : Int) + 1) == 0) = false := by simp; omega
  have HN := Lib.hid hn
  have HS := Lib.hid h2
  have H1 := Lib.hid h1
  have HW := Lib.hid h
  have H5 := Lib.hid h5
  have HI := Lib.hid (And.intro ir is)
  have HX := Lib.hid (And.intro ix iy)
  have HX0 := Lib.hid hx0
  clear h h1 h2 h3 h4 h5 hx0 hr hs hb hbl hfew hok htot hlen ix iy ir is hsome hn
  have f0 := H1.out.free (i := 0)
  have f1 := H1.out.free (i := 1)
  have hle : (1 : Int) ≤ (n : Int) + 1 := by omega
  by_cases hcap : cap = 1
  · subst hcap
    obtain rfl : n = 0 := by omega
    have c1 := (H1.out.set (i := 0) (.slice (some ⟨k, q, none⟩) 0 0)).cell (i := 1) rfl
    go_enter Try.func13, Try.ntmps13
    go_wp2_with fail
    refine HL.out.mono ?_
    rintro e w' ⟨rfl, rfl⟩
    go_wp2_with fail
    go_ret2
    exact ⟨⟨_, rfl, x, y, rfl, HX.out⟩, shift_end HW.out HN.out H1.out HS.out H5.out HX0.out HI.out (.inr ⟨rfl, rfl, rfl⟩)⟩
  · have c1 := (H1.out.set (i := 0) (.slice (some ⟨k, q + 1, none⟩) n (cap - 1))).cell (i := 1) rfl
    go_enter Try.func13, Try.ntmps13
    go_wp2_with fail
    refine HL.out.mono ?_
    rintro e w' ⟨rfl, rfl⟩
    go_wp2_with fail
    go_ret2
    exact ⟨⟨_, rfl, x, y, rfl, HX.out⟩, shift_end HW.out HN.out H1.out HS.out H5.out HX0.out HI.out (.inl ⟨rfl, rfl⟩)⟩

theorem set_nil (i : Int) (x y : Nat) (w : World) :
    Calls Try.prog 16 #[.pointer none, .int .i64 i, .complex .f64 x y] w fun e w' => e = .returned (.int .i64 2) ∧ w = w' := by
  go_enter Try.func16, Try.ntmps16
  go_wp2
  go_ret
  exact ⟨rfl, rfl⟩
set_option maxHeartbeats 1000000 in
theorem set_no (i : Int) (x y : Nat) (w : World) (g : Nat) (gb : Option Nat) (L : List P2) (h : Rw w g gb L) (hno : i < 0 ∨ (L.length : Int) ≤ i ∨ Fl.part x = none ∨ Fl.part y = none) :
    Calls Try.prog 16 #[.pointer (some ⟨g, 0, none⟩), .int .i64 i, .complex .f64 x y] w fun e w' => e = .returned (.int .i64 1) ∧ w = w' := by
  obtain ⟨v, a, b, xs, h1, h2, h3⟩ := h.lies
  obtain ⟨ao, cap, rfl, hc, -⟩ := h2.make
  have c0 := h1.cell (i := 0) rfl
  have HZ := Lib.hid (size_any x y)
  obtain ⟨n, hn⟩ : ∃ n, L.length = n := ⟨_, rfl⟩
  rw [hn] at c0 hno
  clear h h1 h2 h3
  by_cases d1 : i < 0
  · clear hno
    go_enter Try.func16, Try.ntmps16
    go_wp2_with fail
    go_ret
    exact ⟨rfl, rfl⟩
  · by_cases d2 : (n : Int) ≤ i
    · clear hno
      go_enter Try.func16, Try.ntmps16
      go_wp2_with fail
      go_ret
      exact ⟨rfl, rfl⟩
    · have hz : ((Fl.part x).isSome && (Fl.part y).isSome) = false := by
        rcases hno with h | h | h | h
        · omega
        · omega
        · rw [h]; simp
        · rw [h]; simp
      rw [hz] at HZ
      clear hno hz
      go_enter Try.func16, Try.ntmps16
      go_wp2_with fail
      refine (HZ.out _).mono ?_
      rintro e w' ⟨rfl, rfl⟩
      go_wp2_with fail
      go_ret
      exact ⟨rfl, rfl⟩

/-- A list of which one pair is another one. -/
theorem tot_set (L : List P2) (j : Nat) (p o : P2) (h : L[j]? = some o) : tot (L.set j p) = add2 (tot L) (sub2 p o) := by
  induction L generalizing j with
  | nil => simp at h
  | cons z L ih =>
    cases j with
    | zero =>
      simp at h; subst h
      simp only [List.set_cons_zero, tot, add2, sub2, Prod.mk.injEq]; omega
    | succ j =>
      have := ih j (by simpa using h)
      simp only [List.set_cons_succ, tot, this, add2, sub2, Prod.mk.injEq]; omega
theorem Sl.setAt {w : World} {k q n cap e j : Nat} {x : Value} {xs : List Value} (h : Sl w (.slice (some ⟨k, q, none⟩) n cap) (some k) e 1 n xs) (_hj : j < n) : Sl (w.setCell ⟨k, q + j, none⟩ x) (.slice (some ⟨k, q, none⟩) n cap) (some k) e 1 n (xs.set j x) := by
  obtain ⟨h1, h2⟩ := h
  refine ⟨by rw [List.length_set]; exact h1, .inr ?_⟩
  rcases h2 with ⟨hv, _⟩ | ⟨g, p, cap0, cur, hg, hv, hc, hn, hs, ht⟩
  · cases hv
  · cases hg; cases hv
    have hb : Blk w k cur e := hc
    refine ⟨k, q, cap, _, rfl, rfl, hb.set x, hn, by simpa using hs, ?_⟩
    rw [← ht, Array.toList_setIfInBounds, List.drop_set, if_neg (by omega), Nat.add_sub_cancel_left, List.take_set]

set_option maxHeartbeats 1000000 in
theorem set_ok (j x y m n : Nat) (w : World) (g : Nat) (gb : Option Nat) (L : List P2) (h : Rw w g gb L) (hj : j < L.length) (hx : Fl.part x = some m) (hy : Fl.part y = some n) :
    Calls Try.prog 16 #[.pointer (some ⟨g, 0, none⟩), .int .i64 j, .complex .f64 x y] w fun e w' => e = .returned (.int .i64 0) ∧ Rw w' g gb (L.set j ((m : Int), (n : Int))) ∧ Kb2 (some g) gb w w' := by
  obtain ⟨v, a, b, xs, h1, h2, h3, h4, h5⟩ := h.lies
  obtain ⟨ao, cap, rfl, hc, hsome⟩ := h2.make
  obtain ⟨k, q, rfl, rfl⟩ := hsome (by omega)
  obtain ⟨o, ho⟩ : ∃ o, L[j]? = some o := ⟨_, List.getElem?_eq_getElem hj⟩
  obtain ⟨x0, hx0, x1, y1, rfl, ix1, iy1⟩ := h5 j o ho
  have cx := h2.cell rfl j _ hx0
  have c0 := h1.cell (i := 0) rfl
  have c1 := h1.cell (i := 1) rfl
  have f1 := h1.free (i := 1)
  have fj := h2.frozen rfl (q + j)
  obtain ⟨ix, bx⟩ := Fl.part_is hx
  obtain ⟨iy, bY⟩ := Fl.part_is hy
  have HZ := Lib.hid (size_any x y)
  rw [hx, hy] at HZ
  have hb := tot_bound _ h.ok
  have hfew := h.few
  have hok := h.ok o (List.mem_of_getElem? ho)
  have ha := tot_append (L.take j) (L.drop j)
  rw [List.take_append_drop] at ha
  unfold Ok at hok
  obtain ⟨r, hr, ir⟩ := Fl.sub_is ix ix1 (by omega)
  obtain ⟨s, hs, is⟩ := Fl.sub_is iy iy1 (by omega)
  have hsub : ∀ w, (binOp .sub 33 (.complex .f64 x y) (.complex .f64 x1 y1)).run Try.prog w = .ok (.complex .f64 r s) w := fun w => run_complex_sum w .sub (.inr rfl) _ _ _ _ _ _ _ _ (by unfold cSumBits; simp only [floatBits]; rw [show FloatKind.f64.format = Ieee.double from rfl, hr, hs]; rfl)
  obtain ⟨r2, hr2, ir2⟩ := Fl.add_is h3 ir (by omega)
  obtain ⟨s2, hs2, is2⟩ := Fl.add_is h4 is (by omega)
  have hadd : ∀ w, (binOp .add 33 (.complex .f64 a b) (.complex .f64 r s)).run Try.prog w = .ok (.complex .f64 r2 s2) w := fun w => run_complex_sum w .add (.inl rfl) _ _ _ _ _ _ _ _ (by unfold cSumBits; simp only [floatBits]; rw [show FloatKind.f64.format = Ieee.double from rfl, hr2, hs2]; rfl)
  obtain ⟨N, hN⟩ : ∃ N, L.length = N := ⟨_, rfl⟩
  rw [hN] at hc h2 c0 h1 hj
  have hbk : g ≠ k := fun e => h.ne (by rw [e])
  have HS := Lib.hid h2
  have H1 := Lib.hid h1
  have HW := Lib.hid h
  have H5 := Lib.hid h5
  have HI := Lib.hid (And.intro ir2 is2)
  have HX := Lib.hid (And.intro ix iy)
  have HPB : Hid (Ok ((m : Int), (n : Int))) := Lib.hid ⟨by simp, by simp; omega, by simp, by simp; omega⟩
  have HNN := Lib.hid hN
  have HO := Lib.hid ho
  have b2 := h1.set (i := 1) (.complex .f64 r2 s2)
  have c0' := b2.cell (i := 0) rfl
  have cj' := (h2.setCell ⟨g, 1, none⟩ (.complex .f64 r2 s2) (by intro e; cases e; exact hbk rfl)).cell rfl j _ hx0
  have HB := Lib.hid b2
  clear h h1 h2 h3 h4 h5 hx0 hr hs hr2 hs2 hb hfew hok ix iy ix1 iy1 ir is ir2 is2 hsome ho ha hN b2 hx hy bx bY
  go_enter Try.func16, Try.ntmps16
  go_wp2_with fail
  refine (HZ.out _).mono ?_
  rintro e w' ⟨rfl, rfl⟩
  go_wp2_with fail
  go_region
  go_wp2_with fail
  go_ret
  have hne : g ≠ k := hbk
  have HSL : Sl ((w.setCell ⟨g, 1, none⟩ (.complex .f64 r2 s2)).setCell ⟨k, q + j, none⟩ (.complex .f64 x y)) (.slice (some ⟨k, q, none⟩) N cap) (some k) 33 1 N (xs.set j (.complex .f64 x y)) :=
    (HS.out.setCell ⟨g, 1, none⟩ _ (by intro e; cases e; exact hne rfl)).setAt hj
  have HBK : Blk ((w.setCell ⟨g, 1, none⟩ (.complex .f64 r2 s2)).setCell ⟨k, q + j, none⟩ (.complex .f64 x y)) g #[.slice (some ⟨k, q, none⟩) N cap, .complex .f64 r2 s2] 64 :=
    HB.out.kb (a := some k) (c := none) (Kb2.setCell _ ⟨k, q + j, none⟩ _ (.inl rfl)) (by intro e; cases e; exact hne rfl) (by simp)
  have HKB : Kb2 (some g) (some k) w ((w.setCell ⟨g, 1, none⟩ (.complex .f64 r2 s2)).setCell ⟨k, q + j, none⟩ (.complex .f64 x y)) :=
    (Kb2.setCell _ ⟨g, 1, none⟩ _ (.inl rfl)).trans (Kb2.setCell _ ⟨k, q + j, none⟩ _ (.inr rfl))
  have ht := tot_set L j ((m : Int), (n : Int)) o HO.out
  have hlen : xs.length = L.length := by have h1 := HS.out.1; have h2 := HNN.out; omega
  refine ⟨rfl, ⟨?_, by rw [List.length_set]; exact HW.out.few, HW.out.ne, _, r2, s2, _, HBK, by rw [List.length_set, HNN.out]; exact HSL, ?_, ?_, ?_⟩, HKB.trans (Kb2.drew _)⟩
  · intro p hp
    rcases List.mem_or_eq_of_mem_set hp with hp | rfl
    · exact HW.out.ok p hp
    · exact HPB.out
  · rw [ht]; exact HI.out.1
  · rw [ht]; exact HI.out.2
  · intro i p hi
    by_cases hij : j = i
    · subst hij
      rw [List.getElem?_set_self (by rw [HNN.out]; exact hj)] at hi
      cases hi
      exact ⟨_, List.getElem?_set_self (by rw [hlen, HNN.out]; exact hj), x, y, rfl, HX.out⟩
    · rw [List.getElem?_set_ne hij] at hi
      obtain ⟨z, hz, hc⟩ := H5.out i p hi
      exact ⟨z, by rw [List.getElem?_set_ne hij]; exact hz, hc⟩
end Go.Proofs.Ytdkngocinimjdaa
