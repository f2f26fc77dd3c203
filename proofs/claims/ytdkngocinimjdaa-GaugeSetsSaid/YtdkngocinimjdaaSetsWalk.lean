/- The walk of the law GaugeSets. -/
import Derived.Test.YtdkngocinimjdaaOverWalk
namespace Go.Proofs.Ytdkngocinimjdaa
open Go.RowKit
attribute [local go_sem] run_store_complex

theorem my_set {B : Nat} {w0 w : World} {g : Nat} {gb : Option Nat} {L : List P2} (h : Mine B w0 w g gb L) (j x y m n : Nat) (hj : j < L.length) (hx : Fl.part x = some m) (hy : Fl.part y = some n) :
    Calls Try.prog 16 #[.pointer (some ⟨g, 0, none⟩), .int .i64 j, .complex .f64 x y] w fun e w' => e = .returned (.int .i64 0) ∧ Mine B w0 w' g gb (L.set j ((m : Int), (n : Int))) :=
  (set_ok j x y m n w g gb L h.row hj hx hy).mono fun _ _ ⟨he, hr, hk⟩ => ⟨he, h.turn hr hk (.inl rfl)⟩

theorem u_len (i : Int) (q : Nat) (hq : 0 < q) : ∃ k : Nat, k < q ∧ (IntKind.u64.wrap i).tmod (q : Int) = (k : Int) := by
  rw [IntKind.wrap_u64, Int.tmod_eq_emod_of_nonneg (by omega)]
  have h1 := Int.emod_nonneg (i % 18446744073709551616) (b := (q : Int)) (by omega)
  have h2 := Int.emod_lt_of_pos (i % 18446744073709551616) (b := (q : Int)) (by omega)
  exact ⟨(i % 18446744073709551616 % (q : Int)).toNat, by omega, by omega⟩
theorem set_take (L : List P2) (k : Nat) (c : P2) : (L.set k c).take k = L.take k := by
  rw [List.take_set, List.set_eq_of_length_le (by rw [List.length_take]; omega)]
theorem set_take_succ (L : List P2) (k : Nat) (c : P2) (hk : k < L.length) : (L.set k c).take (k + 1) = L.take k ++ [c] := by
  rw [List.take_add_one, set_take, List.getElem?_set_self hk]
  rfl

set_option maxHeartbeats 4000000 in
theorem sets_law (v : Value) (zs : List P2) (i : Int) (z : P2) (w : World) (h : Pairs w w.heap.size v zs) :
    Calls Try.prog 7 #[v, .int .i64 i, .agg #[.int .i64 z.1, .int .i64 z.2]] w fun e w' => e = .returned (.bool true) ∧ Below w.heap.size w w' := by
  have HP := Lib.hid h
  clear h
  go_enter Try.func7, Try.ntmps7
  go_wp2_with fail
  obtain ⟨W0, hW0⟩ : ∃ W0, w.alloc (.cells #[.int .i64 z.1, .int .i64 z.2] 59) = W0 := ⟨_, rfl⟩
  have hb0 : Below w.heap.size w W0 := by rw [← hW0]; exact (Below.refl _ _).alloc (Nat.le_refl _) _
  have hk0 : Blk W0 w.heap.size #[.int .i64 z.1, .int .i64 z.2] 59 := by rw [← hW0]; exact Blk.new _ _ _
  rw [hW0]
  have HB0 := Lib.hid hb0
  have HK0 := Lib.hid hk0
  have HP0 := Lib.hid (HP.out.later hb0)
  obtain ⟨bx, hbx⟩ : ∃ bx, w.heap.size = bx := ⟨_, rfl⟩
  rw [hbx] at HK0 ⊢
  clear hW0 hb0 hk0
  refine (awake_any _).mono ?_
  rintro e w1 ⟨rfl, b1⟩
  have HB1 := Lib.hid b1
  clear b1
  go_wp2_with fail
  refine (filled_any v zs w1 (HP0.out.later HB1.out)).mono ?_
  rintro e w2 ⟨g, gb, rfl, M⟩
  have M2 := Lib.hid (M.back HB1.out)
  clear M
  have hlow : Below w.heap.size w w2 := HB0.out.trans (M2.out.low.mono HB0.out.size)
  have HLOW := Lib.hid hlow
  obtain ⟨q, hq⟩ : ∃ q, (rowOf zs).length = q := ⟨_, rfl⟩
  have HQ := Lib.hid hq
  have HL : Hid (Calls Try.prog 22 #[.pointer (some ⟨g, 0, none⟩)] w2 fun e w' => e = .returned (.int .i64 q) ∧ w2 = w') := by
    rw [← hq]; exact Lib.hid (len_any _ _ _ _ M2.out.row)
  have hq60 : q ≤ 60 := by rw [← hq]; exact rowOf_len zs
  clear hq hlow
  go_wp2_with fail
  refine HL.out.mono ?_
  rintro e w' ⟨rfl, rfl⟩
  rcases Nat.eq_zero_or_pos q with h0 | hpos
  · subst h0
    go_wp2_with fail
    refine (set_no 0 _ _ _ _ _ _ M2.out.row (.inr (.inl (by rw [HQ.out]; exact Int.le_refl _)))).mono ?_
    rintro e w' ⟨rfl, rfl⟩
    go_wp2_with fail
    go_ret
    exact ⟨rfl, HLOW.out⟩
  · have h0 : ((q : Int) == 0) = false := by simp; omega
    have hq0 : ¬ (q : Int) = 0 := by omega
    go_wp2_with fail
    refine HL.out.mono ?_
    rintro e w' ⟨rfl, rfl⟩
    have c0 : w2.cell? ⟨bx, 0, none⟩ = some (.int .i64 z.1) := (HK0.out.below M2.out.low).cell (i := 0) rfl
    have c1 : w2.cell? ⟨bx, 1, none⟩ = some (.int .i64 z.2) := (HK0.out.below M2.out.low).cell (i := 1) rfl
    obtain ⟨k, hk, ek⟩ := u_len i q hpos
    have ew : wrap64 (k : Int) = k := by unfold wrap64; omega
    have ew1 : wrap64 ((k : Int) + 1) = k + 1 := by unfold wrap64; omega
    have PX := Lib.hid (u_word z.1)
    have PY := Lib.hid (u_word z.2)
    have hkl : k < (rowOf zs).length := by rw [HQ.out]; exact hk
    obtain ⟨o, ho⟩ : ∃ o, (rowOf zs)[k]? = some o := ⟨_, List.getElem?_eq_getElem hkl⟩
    obtain ⟨L, hL⟩ : ∃ L, rowOf zs = L := ⟨_, rfl⟩
    have bt := rowOf_take zs k
    have bt1 := rowOf_take zs (k + 1)
    have bT := rowOf_tot zs
    have bo := rowOf_small zs o (List.mem_of_getElem? ho)
    have ht1 := tot_take_succ ho
    have hsp := tot_split (rowOf zs) (k + 1)
    rw [hL] at M2 hkl ho bt bt1 bT ht1 hsp
    obtain ⟨c, hc⟩ : ∃ c : P2, szOf z = c := ⟨_, rfl⟩
    have bc : 0 ≤ c.1 ∧ c.1 < 1048576 ∧ 0 ≤ c.2 ∧ c.2 < 1048576 := by rw [← hc]; unfold szOf; simp only; omega
    have hset := tot_set L k c o ho
    have hs1 := set_take L k c
    have hs2 := congrArg tot (set_take_succ L k c hkl)
    rw [tot_snoc] at hs2
    have HKL := Lib.hid hkl
    have HBT := Lib.hid bt
    have HBT1 := Lib.hid bt1
    have HBTT := Lib.hid bT
    have HBO := Lib.hid bo
    have HT1 := Lib.hid ht1
    have HSP := Lib.hid hsp
    have HC := Lib.hid hc
    have HBC := Lib.hid bc
    have HSET := Lib.hid hset
    have HS1 := Lib.hid hs1
    have HS2 := Lib.hid hs2
    clear hkl ho hL bt bt1 bT bo ht1 hsp hc bc hset hs1 hs2
    go_wp2_with fail
    have ecz : (((z.1 % 1048576).toNat : Nat) : Int) = c.1 ∧ (((z.2 % 1048576).toNat : Nat) : Int) = c.2 := by
      have h := HC.out
      constructor
      · rw [← h]; unfold szOf; simp only; omega
      · rw [← h]; unfold szOf; simp only; omega
    have ECZ := Lib.hid ecz
    clear ecz
    generalize floatOfInt FloatKind.f64 ((IntKind.u64.wrap z.1).tmod 1048576) = X at PX ⊢
    generalize floatOfInt FloatKind.f64 ((IntKind.u64.wrap z.2).tmod 1048576) = Y at PY ⊢
    refine (ahead_any _ _ _ _ _ M2.out.row).mono ?_
    rintro e w3 ⟨⟨v1, rfl, hcv⟩, b3⟩
    rw [show ((k : Int) + 1).toNat = k + 1 by omega] at hcv
    obtain ⟨x1, y1, rfl, hx1, hy1⟩ := hcv
    have M3 := Lib.hid (M2.out.step b3)
    have H1 := Lib.hid (And.intro hx1 hy1)
    clear b3 hx1 hy1
    go_wp2_with fail
    refine (ahead_any _ _ _ _ _ M3.out.row).mono ?_
    rintro e w4 ⟨⟨v1, rfl, hcv⟩, b4⟩
    rw [show ((k : Int)).toNat = k by omega] at hcv
    obtain ⟨x2, y2, rfl, hx2, hy2⟩ := hcv
    have M4 := Lib.hid (M3.out.step b4)
    have a1 := HBT.out
    have a2 := HBT1.out
    obtain ⟨x3, y3, hsub3, hx3, hy3⟩ := complex_sub H1.out.1 H1.out.2 hx2 hy2 (by omega) (by omega)
    have e3 : sub2 (tot (L.take (k + 1))) (tot (L.take k)) = o := by rw [HT1.out]; simp only [sub2, add2]; ext <;> simp <;> omega
    rw [e3] at hx3 hy3
    have H3 := Lib.hid (And.intro hx3 hy3)
    clear b4 hx2 hy2 a1 a2 hx3 hy3 e3
    go_wp2_with fail
    refine (sum_any _ _ _ _ M4.out.row).mono ?_
    rintro e w' ⟨⟨v1, rfl, hcv⟩, rfl⟩
    obtain ⟨a, b, rfl, ha, hb⟩ := hcv
    have HA := Lib.hid (And.intro ha hb)
    clear ha hb
    go_wp2_with fail
    refine (ahead_any _ _ _ _ _ M4.out.row).mono ?_
    rintro e w5 ⟨⟨v1, rfl, hcv⟩, b5⟩
    rw [show ((k : Int)).toNat = k by omega] at hcv
    obtain ⟨x4, y4, rfl, hx4, hy4⟩ := hcv
    have M5 := Lib.hid (M4.out.step b5)
    have H4 := Lib.hid (And.intro hx4 hy4)
    clear b5 hx4 hy4
    go_wp2_with fail
    refine (ahead_any _ _ _ _ _ M5.out.row).mono ?_
    rintro e w6 ⟨⟨v1, rfl, hcv⟩, b6⟩
    rw [show ((k : Int) + 1).toNat = k + 1 by omega] at hcv
    obtain ⟨x5, y5, rfl, hx5, hy5⟩ := hcv
    have M6 := Lib.hid (M5.out.step b6)
    have a1 := HBT1.out
    have a2 := HBTT.out
    obtain ⟨x6, y6, hsub6, hx6, hy6⟩ := complex_sub HA.out.1 HA.out.2 hx5 hy5 (by omega) (by omega)
    have e6 : sub2 (tot L) (tot (L.take (k + 1))) = tot (L.drop (k + 1)) := by rw [HSP.out]; simp only [sub2, add2]; ext <;> simp <;> omega
    rw [e6] at hx6 hy6
    have H6 := Lib.hid (And.intro hx6 hy6)
    clear b6 hx5 hy5 hx6 hy6 e6 a1 a2
    have CS := my_set M6.out k X Y _ _ HKL.out PX.out PY.out
    rw [ECZ.out.1, ECZ.out.2] at CS
    have HCS := Lib.hid CS
    clear CS
    go_wp2_with fail
    refine HCS.out.mono ?_
    rintro e w7 ⟨rfl, M⟩
    have M7 : Hid (Mine W0.heap.size W0 w7 g gb (L.set k c)) := Lib.hid M
    clear M HCS
    go_wp2_with fail
    refine (sum_any _ _ _ _ M7.out.row).mono ?_
    rintro e w' ⟨⟨v1, rfl, hcv⟩, rfl⟩
    obtain ⟨a7, b7, rfl, ha7, hb7⟩ := hcv
    have q1 := HBTT.out
    have q2 := HBO.out
    have q3 := HBC.out
    have q4 := HBT.out
    obtain ⟨x8, y8, hsub8, hx8, hy8⟩ := complex_sub HA.out.1 HA.out.2 H3.out.1 H3.out.2 (by omega) (by omega)
    obtain ⟨jx, -⟩ := Fl.part_is PX.out
    obtain ⟨jy, -⟩ := Fl.part_is PY.out
    rw [ECZ.out.1] at jx
    rw [ECZ.out.2] at jy
    obtain ⟨x9, y9, hadd9, hx9, hy9⟩ := complex_add hx8 hy8 jx jy (by simp only [sub2]; omega) (by simp only [sub2]; omega)
    have e9 : add2 (sub2 (tot L) o) c = tot (L.set k c) := by rw [HSET.out]; simp only [sub2, add2]; ext <;> simp <;> omega
    rw [e9] at hx9 hy9
    have o1 := ord_is ha7 hx9
    have o2 := ord_is hb7 hy9
    have HA7 := Lib.hid (And.intro ha7 hb7)
    clear ha7 hb7 hx8 hy8 hx9 hy9 jx jy e9 q1 q2 q3 q4
    go_wp2_with fail
    refine (ahead_any _ _ _ _ _ M7.out.row).mono ?_
    rintro e w8 ⟨⟨v1, rfl, hcv⟩, b8⟩
    rw [show ((k : Int)).toNat = k by omega, HS1.out] at hcv
    obtain ⟨x10, y10, rfl, hx10, hy10⟩ := hcv
    have o3 := ord_is hx10 H4.out.1
    have o4 := ord_is hy10 H4.out.2
    have M8 := Lib.hid (M7.out.step b8)
    clear b8 hx10 hy10
    go_wp2_with fail
    refine (sum_any _ _ _ _ M8.out.row).mono ?_
    rintro e w' ⟨⟨v1, rfl, hcv⟩, rfl⟩
    obtain ⟨a8, b8, rfl, ha8, hb8⟩ := hcv
    have HA8 := Lib.hid (And.intro ha8 hb8)
    clear ha8 hb8
    go_wp2_with fail
    refine (ahead_any _ _ _ _ _ M8.out.row).mono ?_
    rintro e w9 ⟨⟨v1, rfl, hcv⟩, b9⟩
    rw [show ((k : Int) + 1).toNat = k + 1 by omega, HS2.out] at hcv
    obtain ⟨x11, y11, rfl, hx11, hy11⟩ := hcv
    have M9 := Lib.hid (M8.out.step b9)
    have q1 := HBTT.out
    have q2 := HBO.out
    have q3 := HBC.out
    have q4 := HBT.out
    have hA8 := HA8.out
    rw [HSET.out] at hA8
    obtain ⟨x12, y12, hsub12, hx12, hy12⟩ := complex_sub hA8.1 hA8.2 hx11 hy11 (by simp only [sub2, add2]; omega) (by simp only [sub2, add2]; omega)
    have e12 : sub2 (add2 (tot L) (sub2 c o)) (add2 (tot (L.take k)) c) = tot (L.drop (k + 1)) := by rw [HSP.out, HT1.out]; simp only [sub2, add2]; ext <;> simp <;> omega
    rw [e12] at hx12 hy12
    have o5 := ord_is hx12 H6.out.1
    have o6 := ord_is hy12 H6.out.2
    clear b9 hx11 hy11 hx12 hy12 e12 q1 q2 q3 q4 hA8
    go_wp2_with fail
    go_ret
    exact ⟨rfl, HB0.out.trans (M9.out.low.mono HB0.out.size)⟩
end Go.Proofs.Ytdkngocinimjdaa
