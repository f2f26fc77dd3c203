/- THE CONTRACT of the laws' awake. -/
import Derived.Test.YtmkinnheoejphaaDoorLwA
namespace Go.Proofs.YtmkinnheoejphaaDoor
open Go.RowKit

theorem PlR.ps {A : Nat → Prop} {w : World} {a b s l : Value} {p : Pn.P} (h : PlR A w (.agg #[a, b, s, l]) p) : PsR A w s p.parts ∧ Lvs A w l p.lives := by
  obtain ⟨sv, lv, e, h1, h2⟩ := h
  unfold plv at e
  injection e with e
  simp only [Array.mk.injEq, List.cons.injEq, and_true] at e
  obtain ⟨-, -, rfl, rfl⟩ := e
  exact ⟨h1, h2⟩
theorem cell_below {w w' : World} {b o : Nat} {v : Value} (hb : Below w.heap.size w w') (h : w.cell? ⟨b, o, none⟩ = some v) : w'.cell? ⟨b, o, none⟩ = some v :=
  (Below.cell (p := ⟨b, o, none⟩) hb (block_lt_of_cell h)).trans h
theorem ints_lit {A : Nat → Prop} (u : Value) (xs : List Int) (n : Nat) (hn : xs.length = n) (w : World) (hu : Ns A w u xs) (hl : n ≤ 64) :
    Calls Tryd.prog 20 #[u, .slice (some ⟨w.heap.size, 0, none⟩) n n] (w.alloc (.cells (xs.map (Value.int .i64)).toArray 3)) fun e w' => e = .returned (.bool true) ∧ Below w.heap.size w w' := by
  have hb : Below w.heap.size w (w.alloc (.cells (xs.map (Value.int .i64)).toArray 3)) := (Below.refl _ _).alloc (Nat.le_refl _) _
  subst hn
  refine (ints_any u _ xs xs _ (hu.below hb) (Rds.lit (w := w) (n := xs.length) (size := 1) (cs := xs.map (Value.int .i64)) 3 (by simp)) (by omega)).mono ?_
  rintro e w' ⟨rfl, k, rfl⟩
  exact ⟨by rw [decide_eq_true rfl], hb.trans ((below_drewN _ k).mono hb.size)⟩
abbrev awS : ByteArray := ⟨#[108, 105, 49, 101, 105, 50, 101, 105, 48, 101, 105, 57, 101, 101]⟩
set_option maxHeartbeats 4000000 in
set_option maxRecDepth 100000 in
theorem awake_any (w : World) (lb : Lb w) : Calls Tryd.prog 8 #[] w fun e w' => e = .returned (.bool true) ∧ Below w.heap.size w w' := by
  have HLB : Hid (∀ wx, Below w.heap.size w wx → Lb wx) := Lib.hid fun wx hb => lb.below lb.size hb
  have HN : Hid (Calls Tryd.prog 19 #[.agg #[.int .i64 3, .int .i64 0, .int .i64 2, .int .i64 2, .int .i64 0, .int .i64 0, .int .i64 0, .int .i64 0]] w fun e w' => Below w.heap.size w w' ∧ ∃ sa sc la lc, e = .returned (.tuple #[.agg #[.int .i64 3, .int .i64 2, .slice sa 2 sc, .slice la 0 lc], .int .i64 0]) ∧ PlR (fun b => w.heap.size ≤ b) w' (.agg #[.int .i64 3, .int .i64 2, .slice sa 2 sc, .slice la 0 lc]) ⟨3, 2, [⟨1, [1, 2], 0⟩, ⟨1, [2, 3], 0⟩], []⟩) := Lib.hid (by
    have h := new_any 3 0 2 2 0 0 0 0 w
    unfold NewOut at h
    rw [aw_lay, aw_new] at h
    refine h.mono ?_
    rintro e w' ⟨hb, pv, rfl, hp⟩
    obtain ⟨sa, sc, la, lc, rfl⟩ := hp.rd.val
    exact ⟨hb, sa, sc, la, lc, rfl, hp.rd⟩)
  have HA : Hid (∀ (A : Nat → Prop) pv wx, PlR A wx pv ⟨3, 2, [⟨1, [1, 2], 0⟩, ⟨1, [2, 3], 0⟩], []⟩ → Calls Tryd.prog 10 #[pv, .agg #[.int .i64 2, .int .i64 2, .int .i64 0, .int .i64 0]] wx fun e w' => Below wx.heap.size wx w' ∧ ∃ sa sc la lc ta tc, e = .returned (.tuple #[.agg #[.int .i64 3, .int .i64 2, .slice sa 2 sc, .slice la 0 lc], .slice ta 2 tc, .int .i64 0]) ∧ PlR (fun b => wx.heap.size ≤ b) w' (.agg #[.int .i64 3, .int .i64 2, .slice sa 2 sc, .slice la 0 lc]) ⟨3, 2, [⟨2, [1], 0⟩, ⟨2, [3], 0⟩], []⟩) := Lib.hid fun A pv wx hp => by
    have h := lapply pv _ 2 2 0 0 wx hp aw_good
    rw [aw_apply] at h
    refine h.mono ?_
    rintro e w' ⟨hb, sa, sc, la, lc, ta, tc, rfl, h1, h2⟩
    exact ⟨hb, sa, sc, la, lc, ta, tc, rfl, h1⟩
  have HE : Hid (∀ wx, Below w.heap.size w wx → Calls Tryd.prog 16 #[.agg #[.int .i64 1, .int .i64 2, .int .i64 0, .int .i64 9]] wx fun e w' => Below wx.heap.size wx w' ∧ e = .returned (.tuple #[.string awS, .int .i64 0])) := Lib.hid fun wx hb => by
    have h := encode_any ⟨1, 2, 0, 9⟩ wx (HLB.out wx hb)
    unfold EncOut at h
    rw [aw_ev, aw_enc] at h
    exact h
  have HD : Hid (∀ wx, Below w.heap.size w wx → Calls Tryd.prog 17 #[.string awS] wx fun e w' => Below wx.heap.size wx w' ∧ e = .returned (.tuple #[.agg #[.int .i64 1, .int .i64 2, .int .i64 0, .int .i64 9], .int .i64 0])) := Lib.hid fun wx hb => by
    have h := decode_any awS wx (HLB.out wx hb) (by decide)
    unfold DecOut at h
    rw [show Pn.decE awS.data.toList = some ⟨1, 2, 0, 9⟩ by rw [show awS.data.toList = Pn.encE ⟨1, 2, 0, 9⟩ from aw_enc.symm]; exact Pn.dec_enc aw_ev] at h
    exact h
  have HX0 := Lib.hid (Below.refl w.heap.size w)
  clear lb
  go_enter Tryd.func8, Tryd.ntmps8
  go_wp2_with fail
  refine HN.out.mono ?_
  rintro e w1 ⟨hb1, sa, sc, la, lc, rfl, hp1⟩
  have HP1 := Lib.hid hp1
  have HB1 := Lib.hid hb1
  clear hb1 hp1
  go_upto_region 2 with fail
  obtain ⟨W2, hW2⟩ : ∃ W, w1.alloc (.cells #[.int .i64 3, .int .i64 2, .slice sa 2 sc, .slice la 0 lc] 28) = W := ⟨_, rfl⟩
  have hb2 : Below w1.heap.size w1 W2 := by rw [← hW2]; exact (Below.refl _ _).alloc (Nat.le_refl _) _
  have k2 : Blk W2 w1.heap.size #[.int .i64 3, .int .i64 2, .slice sa 2 sc, .slice la 0 lc] 28 := by rw [← hW2]; exact Blk.new _ _ _
  rw [hW2]
  have HP2 := Lib.hid (HP1.out.below hb2)
  have HB2 := Lib.hid (HB1.out.trans (hb2.mono HB1.out.size))
  have HK2 := Lib.hid k2
  obtain ⟨c0, c1, c2, c3⟩ := k2.cells4
  clear hW2 hb2 k2
  go_wp2_with fail
  refine (HA.out _ _ _ HP2.out).mono ?_
  rintro e w3 ⟨hb3, sa', sc', la', lc', ta, tc, rfl, hp3⟩
  have HP3 := Lib.hid (HP2.out.below hb3)
  have HQ3 := Lib.hid hp3
  have HB3 := Lib.hid (HB2.out.trans (hb3.mono HB2.out.size))
  have HK3 := Lib.hid (HK2.out.below hb3)
  clear hb3 hp3 c0 c1 c2 c3
  go_upto_region 3 with fail
  obtain ⟨W4, hW4⟩ : ∃ W, w3.alloc (.cells #[.int .i64 3, .int .i64 2, .slice sa' 2 sc', .slice la' 0 lc'] 28) = W := ⟨_, rfl⟩
  have hb4 : Below w3.heap.size w3 W4 := by rw [← hW4]; exact (Below.refl _ _).alloc (Nat.le_refl _) _
  have k4 : Blk W4 w3.heap.size #[.int .i64 3, .int .i64 2, .slice sa' 2 sc', .slice la' 0 lc'] 28 := by rw [← hW4]; exact Blk.new _ _ _
  rw [hW4]
  have HP4 := Lib.hid (HP3.out.below hb4)
  have HQ4 := Lib.hid (HQ3.out.below hb4)
  have HB4 := Lib.hid (HB3.out.trans (hb4.mono HB3.out.size))
  have HK4 := Lib.hid (HK3.out.below hb4)
  have HL4 := Lib.hid k4
  clear hW4 hb4 k4
  go_wp2_with fail
  refine (HE.out _ HB4.out).mono ?_
  rintro e w5 ⟨hb5, rfl⟩
  have HP5 := Lib.hid (HP4.out.below hb5)
  have HQ5 := Lib.hid (HQ4.out.below hb5)
  have HB5 := Lib.hid (HB4.out.trans (hb5.mono HB4.out.size))
  have HK5 := Lib.hid (HK4.out.below hb5)
  have HL5 := Lib.hid (HL4.out.below hb5)
  clear hb5
  go_wp2_with fail
  refine (HD.out _ HB5.out).mono ?_
  rintro e w6 ⟨hb6, rfl⟩
  have hp6 := HP5.out.below hb6
  have hq6 := HQ5.out.below hb6
  have HB6 := Lib.hid (HB5.out.trans (hb6.mono HB5.out.size))
  have HK6 := Lib.hid (HK5.out.below hb6)
  have HL6 := Lib.hid (HL5.out.below hb6)
  clear hb6
  obtain ⟨hps, -⟩ := hp6.ps
  obtain ⟨hqs, -⟩ := hq6.ps
  obtain ⟨b1, p1, k1, v1, e1, -, -, n1, -, g1, -⟩ := hps.at (j := 1) (x := ⟨1, [2, 3], 0⟩) rfl
  obtain ⟨b2, p2, k2, v2, e2, -, -, n2, -, h1, -⟩ := hqs.at (j := 0) (x := ⟨2, [1], 0⟩) rfl
  obtain ⟨b3, p3, k3, v3, e3, -, -, -, i0, -, -⟩ := hqs.at (j := 1) (x := ⟨2, [3], 0⟩) rfl
  obtain rfl : sa = some ⟨b1, p1, none⟩ := by injection e1
  obtain rfl : sa' = some ⟨b2, p2, none⟩ := by injection e2
  obtain ⟨rfl, rfl⟩ : b2 = b3 ∧ p2 = p3 := by injection e3 with e3; injection e3 with e3; injection e3 with e3 e4; exact ⟨e3, e4⟩
  simp only at n1 n2
  obtain ⟨a1, d1, rfl⟩ := n1.form
  obtain ⟨a2, d2, rfl⟩ := n2.form
  simp only [List.length_cons, List.length_nil, Nat.zero_add, Nat.reduceAdd, Nat.zero_mul, Nat.add_zero, Nat.one_mul] at n1 n2 g1 h1 i0
  have HG1 := Lib.hid g1
  have HH1 := Lib.hid h1
  have HI0 := Lib.hid i0
  have HN1 := Lib.hid n1
  have HN2 := Lib.hid n2
  have HP6 := Lib.hid hp6
  clear e1 e2 e3 n1 n2 g1 h1 i0 hps hqs hp6 hq6
  obtain ⟨W7, hW7⟩ : ∃ W, w6.alloc (.cells #[.int .i64 1, .int .i64 2, .int .i64 0, .int .i64 9] 35) = W := ⟨_, rfl⟩
  have hb7 : Below w6.heap.size w6 W7 := by rw [← hW7]; exact (Below.refl _ _).alloc (Nat.le_refl _) _
  have k7 : Blk W7 w6.heap.size #[.int .i64 1, .int .i64 2, .int .i64 0, .int .i64 9] 35 := by rw [← hW7]; exact Blk.new _ _ _
  have HB7 := Lib.hid hb7
  have HK7 := Lib.hid k7
  obtain ⟨c0, c1, c2, c3⟩ := (HK6.out.below hb7).cells4
  have g1 := cell_below hb7 HG1.out
  have HI1 := Lib.hid (ints_lit _ [2, 3] 2 rfl W7 (HN1.out.below hb7) (by decide))
  clear hb7 k7
  go_wp2_with fail
  refine HI1.out.mono ?_
  rintro e w8 ⟨rfl, hb8⟩
  have HB8 := Lib.hid (HB7.out.trans (hb8.mono HB7.out.size))
  have HK8 := Lib.hid (HK7.out.below hb8)
  obtain ⟨x0, x1, x2, x3⟩ := (HL6.out.below HB8.out).cells4
  have h1 := cell_below HB8.out HH1.out
  have HI2 := Lib.hid (ints_lit _ [1] 1 rfl w8 (HN2.out.below HB8.out) (by decide))
  clear hb8 c0 c1 c2 c3 g1 hW7
  go_wp2_with fail
  refine HI2.out.mono ?_
  rintro e w9 ⟨rfl, hb9⟩
  have HB9 := Lib.hid (HB8.out.trans (hb9.mono HB8.out.size))
  have HK9 := Lib.hid (HK8.out.below hb9)
  clear x0 x1 x2 x3 h1
  obtain ⟨x0, x1, x2, x3⟩ := (HL6.out.below HB9.out).cells4
  obtain ⟨c0, c1, c2, c3⟩ := (HK6.out.below HB9.out).cells4
  obtain ⟨y0, y1, y2, y3⟩ := HK9.out.cells4
  have i0 := cell_below HB9.out HI0.out
  have HGD := Lib.hid (lgood _ _ w9 (HP6.out.below HB9.out) aw_good)
  clear hb9
  go_wp2_with fail
  refine HGD.out.mono ?_
  rintro e w10 ⟨rfl, hb10⟩
  have HB10 := Lib.hid (HB9.out.trans (hb10.mono HB9.out.size))
  clear c0 c1 c2 c3 x0 x1 x2 x3 y0 y1 y2 y3 i0 hb10
  obtain ⟨c0, c1, c2, c3⟩ := (HK6.out.below HB10.out).cells4
  have HLF := Lib.hid (llife _ _ 1 w10 (HP6.out.below HB10.out) aw_good)
  go_wp2_with fail
  refine HLF.out.mono ?_
  rintro e w11 ⟨rfl, hb11⟩
  have h0 : Pn.life ([] : List (Int × Int)) 1 = 0 := rfl
  rw [h0]
  go_wp2_with fail
  go_ret
  have hB11 := HB10.out.trans (hb11.mono HB10.out.size)
  exact ⟨rfl, HB6.out.trans (hB11.mono HB6.out.size)⟩
end Go.Proofs.YtmkinnheoejphaaDoor
