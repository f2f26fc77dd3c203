import Derived.Test.YtjccfilbihkfpaaGreatDoorM12
import Derived.Test.YtjccfilbihkfpaaGreatDoorM13

/- THE CONTRACT OF read: a turn. -/
namespace Go.Proofs.YtjccfilbihkfpaaGreatDoor
open Go.RowKit

set_option maxHeartbeats 4000000 in
set_option maxRecDepth 100000 in
theorem read_turn (off : Int) (k v : ByteArray) (r : List UInt8) (w : World) (lb : Lb w) (hkl : k.size ≤ 1000) (hvl : v.size ≤ 1000) (hk : k.data.toList = 116 :: r) :
    Calls Tryz.prog 24 #[.agg #[.int .i64 off, .string k, .string v, .bool false]] w fun e w' => RdOut w (Fk.rdT ⟨r.toArray⟩ (St.byte 108 ⟨v.data.toList, false⟩)) e w' := by
  obtain ⟨c, hc0⟩ : ∃ c : UInt8, 116 = c := ⟨_, rfl⟩
  rw [hc0] at hk
  obtain ⟨W1, W2, W3, g1, g2, g3, hb3, hc2, hst⟩ := read_start off k v false w
  have HLB3 := Lib.hid (lb.below lb.size hb3)
  have HST := Lib.hid hst
  have hl6 := lb.size
  have HNW := Lib.hid (rd_new v W3)
  have HLB := Lib.hid lb
  clear hb3 hst lb
  obtain ⟨S, hS⟩ : ∃ S : ByteArray, (⟨#[c]⟩ : ByteArray) = S := ⟨_, rfl⟩
  obtain ⟨N, hN⟩ : ∃ N : ByteArray, (⟨r.toArray⟩ : ByteArray) = N := ⟨_, rfl⟩
  have hk1 : k.extract 0 1 = S := by rw [← hS, ofList_eq k _ hk.symm]; exact ext_take (c :: r) 1
  have hks : k.size = r.length + 1 := by rw [← data_len', hk]; rfl
  have hk2 : k.extract 1 k.size = N := by rw [hks, ← hN, ofList_eq k _ hk.symm]; exact ext_drop (c :: r) 1
  have hkn : (k.toList == []) = false := by rw [Lib.toList_data, hk]; rfl
  have hn1 : 1 ≤ k.size := by omega
  have hn1' : (1 : Int) ≤ (k.size : Int) := by omega
  have HKS := Lib.hid hks
  clear hks
  subst hc0
  have t1 : (S.toList == [116]) = true := by rw [← hS, Lib.toList_data]; rfl
  have t2 : (S.toList == [99]) = false := by rw [← hS, Lib.toList_data]; rfl
  have t3 : (S.toList == [110]) = false := by rw [← hS, Lib.toList_data]; rfl
  rw [hN]
  obtain ⟨X, hX⟩ : ∃ X, Fk.rdT N (St.byte 108 ⟨v.data.toList, false⟩) = X := ⟨_, rfl⟩
  rw [hX]
  have HXX := Lib.hid hX
  have HSN := Lib.hid hS
  clear hN hk hS hX
  go_enter Tryz.func24, Tryz.ntmps24
  go_wp2_with fail
  refine wp_scope_fwd 0 rfl ?_
  go_wp2_with fail
  refine HNW.out.mono ?_
  rintro e w4 ⟨rfl, r4, b4⟩
  obtain ⟨bx, hbx⟩ : ∃ b, w.heap.size = b := ⟨_, rfl⟩
  have HS4 := Lib.hid (HST.out w4 _ r4 b4)
  have q1 : w4.cell? ⟨w.heap.size, 1, none⟩ = some (.string k) := HS4.out.kx.cell rfl
  have q3 : w4.cell? ⟨w.heap.size, 3, none⟩ = some (.bool false) := HS4.out.kx.cell rfl
  clear r4 b4 HNW HST hbx
  go_wp2_with fail
  go_upto_region 4 with fail
  have HS5 := Lib.hid (HS4.out.below ((Below.refl w4.heap.size w4).drew))
  have HNE : Hid (w.heap.size ≠ W2.heap.size) := Lib.hid (by have := HS5.out.lr; have := HS5.out.lw; omega)
  have q1 : w4.drew.cell? ⟨w.heap.size, 1, none⟩ = some (.string k) := q1
  have u0' : w4.cell? ⟨W2.heap.size, 0, none⟩ = some (.string ⟨#[]⟩) := HS5.out.kw.cell rfl
  have u1 : w4.cell? ⟨W2.heap.size, 1, none⟩ = some (.string ⟨#[]⟩) := HS5.out.kw.cell rfl
  have p0 : w4.frozen? ⟨W2.heap.size, 0, none⟩ = false := HS5.out.kw.free
  have p1 : w4.frozen? ⟨W2.heap.size, 1, none⟩ = false := HS5.out.kw.free
  have x0 : w4.drew.cell? ⟨W2.heap.size, 0, none⟩ = some (.string ⟨#[]⟩) := HS5.out.kw.cell rfl
  have x1 : w4.drew.cell? ⟨W2.heap.size, 1, none⟩ = some (.string ⟨#[]⟩) := HS5.out.kw.cell rfl
  have y0 : w4.drew.frozen? ⟨W2.heap.size, 0, none⟩ = false := HS5.out.kw.free
  have y1 : w4.drew.frozen? ⟨W2.heap.size, 1, none⟩ = false := HS5.out.kw.free
  go_region_held3 (fun w' => w'.cell? ⟨w.heap.size, 1, none⟩ = some (.string k)) (first | exact q1 | exact cellD1 HNE.out q1 | exact cellD2 HNE.out HNE.out q1 | go_keep | fail) (fail)
  have hS6 : RSt w w.heap.size W1.heap.size W2.heap.size W3.heap.size (recC off k v false) #[.string S, .string N, .int .i64 0, .int .i64 0, .slice none 0 0, .slice none 0 0, .int .i64 0, .int .i64 0, .int .i64 0] ⟨v.data.toList, false⟩ ((w4.setCell ⟨W2.heap.size, 0, none⟩ (.string S)).setCell ⟨W2.heap.size, 1, none⟩ (.string N)).drew := ((HS4.out.set 0 (.string S)).set 1 (.string N)).below ((Below.refl _ _).drew)
  obtain ⟨W5, hW5⟩ : ∃ W, ((w4.setCell ⟨W2.heap.size, 0, none⟩ (.string S)).setCell ⟨W2.heap.size, 1, none⟩ (.string N)).drew = W := ⟨_, rfl⟩
  rw [hW5] at hS6
  rw [hW5]
  have HS6 := Lib.hid hS6
  have hvl : v.data.toList.length ≤ 281474976710656 := by rw [data_len']; omega
  have HOP := Lib.hid (rd_open W3.heap.size _ W5 hS6.hr hvl)
  have h0l := byte_len 108 ⟨v.data.toList, false⟩
  obtain ⟨u0, hu0⟩ : ∃ u, St.byte 108 ⟨v.data.toList, false⟩ = u := ⟨_, rfl⟩
  rw [hu0] at HOP h0l
  have HU0 := Lib.hid hu0
  have HL0 : Hid (u0.s.length ≤ 281474976710656) := Lib.hid (Nat.le_trans h0l hvl)
  clear q1 q3 u0' u1 p0 p1 x0 x1 y0 y1 hS6 hW5 HS5 HS4 hu0 hvl h0l g1 g2 g3 hc2
  go_wp2_with fail
  refine HOP.out.mono ?_
  rintro e w6 ⟨rfl, r6, k6⟩
  have HS7 := Lib.hid (HS6.out.call r6 k6)
  have d0 : w6.cell? ⟨W2.heap.size, 0, none⟩ = some (.string S) := HS7.out.kw.cell rfl
  clear r6 k6 HOP
  have CI := rd_int W3.heap.size u0 w6 (HLB.out.below hl6 HS7.out.low) HS7.out.hr HL0.out
  obtain ⟨G, hG⟩ : ∃ z, u0.int.1 = z := ⟨_, rfl⟩
  obtain ⟨u1, hu1⟩ : ∃ z, u0.int.2 = z := ⟨_, rfl⟩
  have h1l := int_len u0
  rw [hu1] at CI h1l
  rw [hG] at CI
  have HL1 : Hid (u1.s.length ≤ 281474976710656) := Lib.hid (Nat.le_trans h1l HL0.out)
  obtain ⟨P, hP⟩ : ∃ z, u1.int.1 = z := ⟨_, rfl⟩
  obtain ⟨u2, hu2⟩ : ∃ z, u1.int.2 = z := ⟨_, rfl⟩
  have h2l := int_len u1
  rw [hu2] at h2l
  have HL2 : Hid (u2.s.length ≤ 281474976710656) := Lib.hid (Nat.le_trans h2l HL1.out)
  obtain ⟨ms, hms⟩ : ∃ z, (Fk.mems u2).1 = z := ⟨_, rfl⟩
  obtain ⟨u3, hu3⟩ : ∃ z, (Fk.mems u2).2 = z := ⟨_, rfl⟩
  have h3l := Fk.mems_len u2
  rw [hu3] at h3l
  have HL3 : Hid (u3.s.length ≤ 281474976710656) := Lib.hid (Nat.le_trans h3l HL2.out)
  have HCI := Lib.hid CI
  have HGU : Hid (u1.int.1 = P ∧ u1.int.2 = u2) := Lib.hid ⟨hP, hu2⟩
  have HMU : Hid (Fk.mems u2 = (ms, u3)) := Lib.hid (by rw [← hms, ← hu3])
  have HR : Hid (X = if Sh.nameB N = true ∧ 0 ≤ P ∧ P ≤ 4 ∧ Sh.goodB ms = true then Fk.finW u3 (.turn N G P ms) else .none) := Lib.hid (by rw [← HXX.out, HU0.out]; unfold Fk.rdT; rw [hu1, hG, hP, hu2, hms, hu3])
  clear CI hG hu1 hP hu2 h1l h2l h3l hms hu3
  go_wp2_with fail
  refine HCI.out.mono ?_
  rintro e w10 ⟨rfl, r10, k10⟩
  have HS10 := Lib.hid (HS7.out.call r10 k10)
  clear d0
  have CJ := rd_int W3.heap.size u1 w10 (HLB.out.below hl6 HS10.out.low) HS10.out.hr HL1.out
  rw [HGU.out.1, HGU.out.2] at CJ
  have HCJ := Lib.hid CJ
  clear r10 k10 HCI CJ
  go_wp2_with fail
  refine HCJ.out.mono ?_
  rintro e w11 ⟨rfl, r11, k11⟩
  have HS11 := Lib.hid (HS10.out.call r11 k11)
  have x2 : w11.cell? ⟨W2.heap.size, 2, none⟩ = some (.int .i64 0) := HS11.out.kw.cell rfl
  have y2 : w11.frozen? ⟨W2.heap.size, 2, none⟩ = false := HS11.out.kw.free
  have x3 : w11.cell? ⟨W2.heap.size, 3, none⟩ = some (.int .i64 0) := HS11.out.kw.cell rfl
  have y3 : w11.frozen? ⟨W2.heap.size, 3, none⟩ = false := HS11.out.kw.free
  have HS12 : Hid (RSt w w.heap.size W1.heap.size W2.heap.size W3.heap.size (recC off k v false) #[.string S, .string N, .int .i64 G, .int .i64 P, .slice none 0 0, .slice none 0 0, .int .i64 0, .int .i64 0, .int .i64 0] u2 ((w11.setCell ⟨W2.heap.size, 2, none⟩ (.int .i64 G)).setCell ⟨W2.heap.size, 3, none⟩ (.int .i64 P))) := Lib.hid ((HS11.out.set 2 (.int .i64 G)).set 3 (.int .i64 P))
  obtain ⟨W12, hW12⟩ : ∃ W, (w11.setCell ⟨W2.heap.size, 2, none⟩ (.int .i64 G)).setCell ⟨W2.heap.size, 3, none⟩ (.int .i64 P) = W := ⟨_, rfl⟩
  rw [hW12] at HS12
  have HC6 : Hid (6 ≤ W3.heap.size) := Lib.hid (by have := HS12.out.lx; have := HS12.out.lr; have := HS12.out.lw; have := HS12.out.lc; omega)
  have CM := membersOf_any W3.heap.size u2 W12 (HLB.out.below hl6 HS12.out.low) HS12.out.hr HC6.out HL2.out
  rw [HMU.out] at CM
  have HCM := Lib.hid CM
  clear r11 k11 HCJ HGU CM HMU
  go_wp2_with fail
  refine HCM.out.mono ?_
  rintro e w13 ⟨mv, gb, rfl, hz13, r13, k13⟩
  simp only at hz13 r13
  have HS13 := Lib.hid (HS12.out.call r13 k13)
  obtain ⟨ma, mc, rfl⟩ := hz13.form
  obtain ⟨m, hm⟩ : ∃ m, ms.length = m := ⟨_, rfl⟩
  have HM := Lib.hid hm
  rw [hm] at hz13
  rw [hm]
  have x4 : w13.cell? ⟨W2.heap.size, 4, none⟩ = some (.slice none 0 0) := HS13.out.kw.cell rfl
  have y4 : w13.frozen? ⟨W2.heap.size, 4, none⟩ = false := HS13.out.kw.free
  have HS14 : Hid (RSt w w.heap.size W1.heap.size W2.heap.size W3.heap.size (recC off k v false) #[.string S, .string N, .int .i64 G, .int .i64 P, .slice ma m mc, .slice none 0 0, .int .i64 0, .int .i64 0, .int .i64 0] u3 (w13.setCell ⟨W2.heap.size, 4, none⟩ (.slice ma m mc))) := Lib.hid (HS13.out.set 4 (.slice ma m mc))
  have HZ14 : Hid (Wz W12.heap.size (w13.setCell ⟨W2.heap.size, 4, none⟩ (.slice ma m mc)) (.slice ma m mc) gb 9 1 m (ms.map Value.string)) := Lib.hid (hz13.kb (Kb.setCell _ _) (fun e => by have := (hz13.lt _ e).1; have := HS12.out.kw.lt; omega))
  obtain ⟨W14, hW14⟩ : ∃ W, w13.setCell ⟨W2.heap.size, 4, none⟩ (.slice ma m mc) = W := ⟨_, rfl⟩
  rw [hW14] at HS14 HZ14
  have d1 : W14.cell? ⟨W2.heap.size, 1, none⟩ = some (.string N) := HS14.out.kw.cell rfl
  have HNM := fisName N W14
  obtain ⟨a, ha⟩ : ∃ a, Sh.nameB N = a := ⟨_, rfl⟩
  have HPA := fisParts P
  obtain ⟨b, hb⟩ : ∃ b, decide (0 ≤ P ∧ P ≤ 4) = b := ⟨_, rfl⟩
  have HGD : Hid (∀ wx, Below W14.heap.size W14 wx → Calls Tryz.prog 50 #[.slice ma m mc] wx fun e w' => e = .returned (.bool (Sh.goodB ms)) ∧ Below wx.heap.size wx w') := Lib.hid fun wx hx => good_any (A := fun b => W12.heap.size ≤ b) _ ms wx (by
    have h := (HZ14.out.below hx).rd
    unfold Nms
    rw [HM.out]
    exact h)
  obtain ⟨o, ho⟩ : ∃ o, Sh.goodB ms = o := ⟨_, rfl⟩
  rw [ha] at HNM
  rw [hb] at HPA
  rw [ho] at HGD
  have HNM := Lib.hid HNM
  have HPA := Lib.hid HPA
  have HH : Hid (Sh.nameB N = a ∧ decide (0 ≤ P ∧ P ≤ 4) = b ∧ Sh.goodB ms = o) := Lib.hid ⟨ha, hb, ho⟩
  clear r13 k13 HCM ha hb ho hz13 hm x2 y2 x3 y3 hW12
  go_wp2_with fail
  refine HNM.out.mono ?_
  rintro e w15 ⟨rfl, hb15⟩
  have HS15 := Lib.hid (HS14.out.below hb15)
  have HB15 := Lib.hid hb15
  have d3 : w15.cell? ⟨W2.heap.size, 3, none⟩ = some (.int .i64 P) := HS15.out.kw.cell rfl
  have d4 : w15.cell? ⟨W2.heap.size, 4, none⟩ = some (.slice ma m mc) := HS15.out.kw.cell rfl
  clear hb15 HNM x4 y4 hW14 d1
  cases a with
  | false =>
    have HRR : Hid (X = .none) := Lib.hid (by rw [HR.out, if_neg (fun h => by have h2 := HH.out; rw [h2.1] at h; exact absurd h.1 (by decide))])
    go_wp2_with fail
    obtain ⟨z0, z1, z2, z3, z4, z5, z6, z7, z8⟩ := HS15.out.kr.cells9
    have y0 := HS15.out.kr.free (i := 0)
    have y1 := HS15.out.kr.free (i := 1)
    have y2 := HS15.out.kr.free (i := 2)
    have y3 := HS15.out.kr.free (i := 3)
    have y4 := HS15.out.kr.free (i := 4)
    have y5 := HS15.out.kr.free (i := 5)
    have y6 := HS15.out.kr.free (i := 6)
    have y7 := HS15.out.kr.free (i := 7)
    have y8 := HS15.out.kr.free (i := 8)
    have HNK := Lib.hid (HS15.out.kr.nine (.string ⟨#[]⟩) (.string ⟨#[]⟩) (.int .i64 0) (.int .i64 0) (.slice none 0 0) (.slice none 0 0) (.int .i64 0) (.int .i64 0) (.int .i64 0))
    have HNL := Lib.hid (HS15.out.low.trans (((nine_kb _ _ (.string ⟨#[]⟩) (.string ⟨#[]⟩) (.int .i64 0) (.int .i64 0) (.slice none 0 0) (.slice none 0 0) (.int .i64 0) (.int .i64 0) (.int .i64 0)).below (Nat.le_of_lt (Nat.lt_of_le_of_lt HS15.out.lx HS15.out.lr)) HS15.out.kr.lt)))
    go_step3
    refine And.intro rfl ?_
    go_wp2_with fail
    rw [Exit.noGoto_ret]
    refine bodyPost_ret (read_ret HNK.out rfl rfl) rfl ?_
    rw [HRR.out]
    exact ⟨HNL.out, _, rfl, rfl⟩
  | true =>
    cases b with
    | false =>
      have HRR : Hid (X = .none) := Lib.hid (by rw [HR.out, if_neg (fun h => by have h2 := HH.out; have h3 := h2.2.1; rw [decide_eq_true ⟨h.2.1, h.2.2.1⟩] at h3; cases h3)])
      go_wp2_with fail
      refine (HPA.out _).mono ?_
      rintro e w16 ⟨rfl, rfl⟩
      go_wp2_with fail
      obtain ⟨z0, z1, z2, z3, z4, z5, z6, z7, z8⟩ := HS15.out.kr.cells9
      have y0 := HS15.out.kr.free (i := 0)
      have y1 := HS15.out.kr.free (i := 1)
      have y2 := HS15.out.kr.free (i := 2)
      have y3 := HS15.out.kr.free (i := 3)
      have y4 := HS15.out.kr.free (i := 4)
      have y5 := HS15.out.kr.free (i := 5)
      have y6 := HS15.out.kr.free (i := 6)
      have y7 := HS15.out.kr.free (i := 7)
      have y8 := HS15.out.kr.free (i := 8)
      have HNK := Lib.hid (HS15.out.kr.nine (.string ⟨#[]⟩) (.string ⟨#[]⟩) (.int .i64 0) (.int .i64 0) (.slice none 0 0) (.slice none 0 0) (.int .i64 0) (.int .i64 0) (.int .i64 0))
      have HNL := Lib.hid (HS15.out.low.trans (((nine_kb _ _ (.string ⟨#[]⟩) (.string ⟨#[]⟩) (.int .i64 0) (.int .i64 0) (.slice none 0 0) (.slice none 0 0) (.int .i64 0) (.int .i64 0) (.int .i64 0)).below (Nat.le_of_lt (Nat.lt_of_le_of_lt HS15.out.lx HS15.out.lr)) HS15.out.kr.lt)))
      go_step3
      refine And.intro rfl ?_
      go_wp2_with fail
      rw [Exit.noGoto_ret]
      refine bodyPost_ret (read_ret HNK.out rfl rfl) rfl ?_
      rw [HRR.out]
      exact ⟨HNL.out, _, rfl, rfl⟩
    | true =>
      cases o with
      | false =>
        have HRR : Hid (X = .none) := Lib.hid (by rw [HR.out, if_neg (fun h => by have h2 := HH.out; rw [h2.2.2] at h; exact absurd h.2.2.2 (by decide))])
        go_wp2_with fail
        refine (HPA.out _).mono ?_
        rintro e w16 ⟨rfl, rfl⟩
        go_wp2_with fail
        refine (HGD.out _ HB15.out).mono ?_
        rintro e w17 ⟨rfl, hb17⟩
        have HS17 := Lib.hid (HS15.out.below hb17)
        have HB17 := Lib.hid (HB15.out.trans (hb17.mono HB15.out.size))
        clear hb17
        go_wp2_with fail
        obtain ⟨z0, z1, z2, z3, z4, z5, z6, z7, z8⟩ := HS17.out.kr.cells9
        have y0 := HS17.out.kr.free (i := 0)
        have y1 := HS17.out.kr.free (i := 1)
        have y2 := HS17.out.kr.free (i := 2)
        have y3 := HS17.out.kr.free (i := 3)
        have y4 := HS17.out.kr.free (i := 4)
        have y5 := HS17.out.kr.free (i := 5)
        have y6 := HS17.out.kr.free (i := 6)
        have y7 := HS17.out.kr.free (i := 7)
        have y8 := HS17.out.kr.free (i := 8)
        have HNK := Lib.hid (HS17.out.kr.nine (.string ⟨#[]⟩) (.string ⟨#[]⟩) (.int .i64 0) (.int .i64 0) (.slice none 0 0) (.slice none 0 0) (.int .i64 0) (.int .i64 0) (.int .i64 0))
        have HNL := Lib.hid (HS17.out.low.trans (((nine_kb _ _ (.string ⟨#[]⟩) (.string ⟨#[]⟩) (.int .i64 0) (.int .i64 0) (.slice none 0 0) (.slice none 0 0) (.int .i64 0) (.int .i64 0) (.int .i64 0)).below (Nat.le_of_lt (Nat.lt_of_le_of_lt HS17.out.lx HS17.out.lr)) HS17.out.kr.lt)))
        go_step3
        refine And.intro rfl ?_
        go_wp2_with fail
        rw [Exit.noGoto_ret]
        refine bodyPost_ret (read_ret HNK.out rfl rfl) rfl ?_
        rw [HRR.out]
        exact ⟨HNL.out, _, rfl, rfl⟩
      | true =>
        have HRR : Hid (X = Fk.finW u3 (.turn N G P ms)) := Lib.hid (by rw [HR.out, if_pos ⟨HH.out.1, (of_decide_eq_true HH.out.2.1).1, (of_decide_eq_true HH.out.2.1).2, HH.out.2.2⟩])
        have HX1 : Hid ((u3.byte 101).done = 0 → X = .turn N G P ms) := Lib.hid fun h => by rw [HRR.out]; unfold Fk.finW; rw [if_pos h]
        have HX0 : Hid ((u3.byte 101).done ≠ 0 → X = .none) := Lib.hid fun h => by rw [HRR.out]; unfold Fk.finW; rw [if_neg h]
        go_wp2_with fail
        refine (HPA.out _).mono ?_
        rintro e w16 ⟨rfl, rfl⟩
        go_wp2_with fail
        refine (HGD.out _ HB15.out).mono ?_
        rintro e w17 ⟨rfl, hb17⟩
        have HS17 := Lib.hid (HS15.out.below hb17)
        have HB17 := Lib.hid (HB15.out.trans (hb17.mono HB15.out.size))
        clear hb17
        have HCL := Lib.hid (rd_close W3.heap.size u3 _ HS17.out.hr HL3.out)
        go_wp2_with fail
        refine HCL.out.mono ?_
        rintro e wA ⟨rfl, rA, kA⟩
        have HSA := Lib.hid (HS17.out.call rA kA)
        have HZA := Lib.hid ((HZ14.out.below HB17.out).kb kA (fun e => by have := (HZ14.out.lt _ e).1; have := HS12.out.hr.lt; omega))
        have CDN := rd_done W3.heap.size (u3.byte 101) wA HSA.out.hr
        obtain ⟨dn, hdn⟩ : ∃ z, (u3.byte 101).done = z := ⟨_, rfl⟩
        rw [hdn] at CDN
        have HDN := Lib.hid CDN
        have HDD := Lib.hid hdn
        clear rA kA HCL CDN hdn
        by_cases hd0 : dn = 0
        · have HDX := Lib.hid (HX1.out (HDD.out.trans hd0))
          subst hd0
          obtain ⟨z0, z1, z2, z3, z4, z5, z6, z7, z8⟩ := HSA.out.kr.cells9
          obtain ⟨b0, b1, b2, b3, b4, b5, b6, b7, b8⟩ := HSA.out.kw.cells9
          have y0 := HSA.out.kr.free (i := 0)
          have y1 := HSA.out.kr.free (i := 1)
          have y2 := HSA.out.kr.free (i := 2)
          have y3 := HSA.out.kr.free (i := 3)
          have y4 := HSA.out.kr.free (i := 4)
          have y5 := HSA.out.kr.free (i := 5)
          have y6 := HSA.out.kr.free (i := 6)
          have y7 := HSA.out.kr.free (i := 7)
          have y8 := HSA.out.kr.free (i := 8)
          have HNK := Lib.hid (HSA.out.kr.nine (.string S) (.string N) (.int .i64 G) (.int .i64 P) (.slice ma m mc) (.slice none 0 0) (.int .i64 0) (.int .i64 0) (.int .i64 0))
          have HNB := Lib.hid (nine_kb wA W1.heap.size (.string S) (.string N) (.int .i64 G) (.int .i64 P) (.slice ma m mc) (.slice none 0 0) (.int .i64 0) (.int .i64 0) (.int .i64 0))
          have HNL := Lib.hid (HSA.out.low.trans (HNB.out.below (Nat.le_of_lt (Nat.lt_of_le_of_lt HSA.out.lx HSA.out.lr)) HSA.out.kr.lt))
          go_wp2_with fail
          refine HDN.out.mono ?_
          rintro e w' ⟨rfl, rfl⟩
          go_wp2_with fail
          rw [jump_ret]
          refine bodyPost_ret (read_ret HNK.out rfl rfl) rfl ?_
          rw [HDX.out]
          refine ⟨HNL.out, _, rfl, .slice ma m mc, by rw [← HSN.out], ?_⟩
          have h := HZA.out.kb HNB.out (fun e => by have := (HZA.out.lt _ e).1; have := HS12.out.kr.lt; omega)
          have h2 := h.rd.mono (A' := fun b => w.heap.size ≤ b) (fun b hb => Nat.le_trans HS12.out.low.size hb)
          unfold Nms
          rw [HM.out]
          exact h2
        · have HDX := Lib.hid (HX0.out (fun h => hd0 (HDD.out.symm.trans h)))
          have hdd : (dn == 0) = false := by simpa using hd0
          obtain ⟨z0, z1, z2, z3, z4, z5, z6, z7, z8⟩ := HSA.out.kr.cells9
          have y0 := HSA.out.kr.free (i := 0)
          have y1 := HSA.out.kr.free (i := 1)
          have y2 := HSA.out.kr.free (i := 2)
          have y3 := HSA.out.kr.free (i := 3)
          have y4 := HSA.out.kr.free (i := 4)
          have y5 := HSA.out.kr.free (i := 5)
          have y6 := HSA.out.kr.free (i := 6)
          have y7 := HSA.out.kr.free (i := 7)
          have y8 := HSA.out.kr.free (i := 8)
          have HNK := Lib.hid (HSA.out.kr.nine (.string ⟨#[]⟩) (.string ⟨#[]⟩) (.int .i64 0) (.int .i64 0) (.slice none 0 0) (.slice none 0 0) (.int .i64 0) (.int .i64 0) (.int .i64 0))
          have HNL := Lib.hid (HSA.out.low.trans ((nine_kb wA W1.heap.size (.string ⟨#[]⟩) (.string ⟨#[]⟩) (.int .i64 0) (.int .i64 0) (.slice none 0 0) (.slice none 0 0) (.int .i64 0) (.int .i64 0) (.int .i64 0)).below (Nat.le_of_lt (Nat.lt_of_le_of_lt HSA.out.lx HSA.out.lr)) HSA.out.kr.lt))
          go_wp2_with fail
          refine HDN.out.mono ?_
          rintro e w' ⟨rfl, rfl⟩
          go_wp2_with fail
          go_step3
          go_wp2_with fail
          rw [jump_ret]
          refine bodyPost_ret (read_ret HNK.out rfl rfl) rfl ?_
          rw [HDX.out]
          exact ⟨HNL.out, _, rfl, rfl⟩
/-- THE CONTRACT OF read. -/
theorem rd_kind (k v : ByteArray) (c : UInt8) (r : List UInt8) (hk : k.data.toList = c :: r) : Fk.rd k v false = if c = 116 then Fk.rdT ⟨r.toArray⟩ (St.byte 108 ⟨v.data.toList, false⟩) else if c = 99 then Fk.rdC (Fk.digB r).2 (Fk.digB r).1 (St.byte 108 ⟨v.data.toList, false⟩) else if c = 110 then Fk.rdN ⟨r.toArray⟩ (St.byte 108 ⟨v.data.toList, false⟩) else .none := by
  unfold Fk.rd
  rw [if_neg (by decide), hk]
end Go.Proofs.YtjccfilbihkfpaaGreatDoor

/- THE CONTRACT OF read. -/
namespace Go.Proofs.YtjccfilbihkfpaaGreatDoor
open Go.RowKit

theorem read_any (off : Int) (k v : ByteArray) (gone : Bool) (w : World) (lb : Lb w) (hkl : k.size ≤ 1000) (hvl : v.size ≤ 1000) :
    Calls Tryz.prog 24 #[.agg #[.int .i64 off, .string k, .string v, .bool gone]] w fun e w' => RdOut w (Fk.rd k v gone) e w' := by
  cases gone with
  | true =>
    have e : Fk.rd k v true = .none := by unfold Fk.rd; rw [if_pos rfl]
    rw [e]
    exact read_gone off k v w lb
  | false =>
    cases hk : k.data.toList with
    | nil =>
      have e : Fk.rd k v false = .none := by unfold Fk.rd; rw [if_neg (by decide), hk]
      rw [e, ofList_eq k _ hk.symm]
      exact read_empty off v w lb
    | cons c r =>
      rw [rd_kind k v c r hk]
      by_cases h1 : c = 116
      · subst h1
        rw [if_pos rfl]
        exact read_turn off k v r w lb hkl hvl hk
      · rw [if_neg h1]
        by_cases h2 : c = 99
        · subst h2
          rw [if_pos rfl]
          exact read_point off k v r w lb hkl hvl hk
        · rw [if_neg h2]
          by_cases h3 : c = 110
          · subst h3
            rw [if_pos rfl]
            exact read_no off k v r w lb hkl hvl hk
          · rw [if_neg h3]
            exact read_other off k v c r w lb hkl hvl hk h1 h2 h3
end Go.Proofs.YtjccfilbihkfpaaGreatDoor

/- THE CONTRACTS OF Apply, Fold. -/
namespace Go.Proofs.YtjccfilbihkfpaaGreatDoor
open Go.RowKit

theorem WdV.mono {A A' : Nat → Prop} {w : World} {x : Fk.Wd} {v : Value} (h : WdV A w x v) (k : ∀ b, A b → A' b) : WdV A' w x v := by
  cases x with
  | none => exact h
  | turn n g p ms => obtain ⟨mv, e, hm⟩ := h; exact ⟨mv, e, hm.mono k⟩
  | point n p o g => exact h
  | no c => exact h
/-- Groups that few records tell. -/
structure Gk (m : Int) (L : List Fk.G) : Prop where
  ok : Fk.Ok L
  gens : ∀ g ∈ L, g.gen ≤ m
theorem Fk.pts_few {l : List (Int × Int)} (hp : l.Pairwise fun a b => a.1 < b.1) (hl : ∀ q ∈ l, 0 ≤ q.1 ∧ q.1 < 4) : l.length ≤ 4 := by
  match l, hp, hl with
  | [], _, _ => simp
  | [_], _, _ => simp
  | [_, _], _, _ => simp
  | [_, _, _], _, _ => simp
  | [_, _, _, _], _, _ => simp
  | a :: b :: c :: d :: e :: r, hp, hl =>
    simp only [List.pairwise_cons, List.mem_cons] at hp hl
    have h1 := hp.1 b (by simp)
    have h2 := hp.2.1 c (by simp)
    have h3 := hp.2.2.1 d (by simp)
    have h4 := hp.2.2.2.1 e (by simp)
    have h5 := hl a (by simp)
    have h6 := hl e (by simp)
    omega
theorem Fk.Ok.apart {L : List Fk.G} (h : Fk.Ok L) : ∀ (i j : Nat) (a b : Fk.G), L[i]? = some a → L[j]? = some b → a.name = b.name → i = j := by
  intro i j a b ha hb e
  obtain ⟨hi, rfl⟩ := List.getElem?_eq_some_iff.1 ha
  obtain ⟨hj, rfl⟩ := List.getElem?_eq_some_iff.1 hb
  have hp := List.pairwise_iff_getElem.1 h.rise
  rcases Nat.lt_trichotomy i j with k | k | k
  · exact absurd e (Fk.lt_ne (hp i j hi hj k))
  · exact k
  · exact absurd e.symm (Fk.lt_ne (hp j i hj hi k))
theorem Gk.sm {m : Int} {L : List Fk.G} (h : Gk m L) (hm : m ≤ 1099511627776) : Sm L :=
  ⟨h.ok.len, h.ok.mono, h.ok.apart, fun g hg => by
    have ho := h.ok.all g hg
    have := h.gens g hg
    have := ho.gen
    exact ⟨Sh.good_len ho.mem, Fk.pts_few ho.pts fun q hq => ⟨(ho.low q hq).1, (ho.low q hq).2.1⟩, by omega, by omega, ho.pmono, fun n => Fk.mem_mono ho.mem n⟩⟩
set_option maxHeartbeats 4000000 in
set_option maxRecDepth 100000 in
theorem apply_any {A : Nat → Prop} (v : Value) (L : List Fk.G) (off : Int) (k t : ByteArray) (gone : Bool) (w : World) (lb : Lb w) (h : GsR A w v L) (hS : Sm L) (hkl : k.size ≤ 1000) (htl : t.size ≤ 1000) :
    Calls Tryz.prog 10 #[v, .agg #[.int .i64 off, .string k, .string t, .bool gone]] w fun e w' => TrnOut w.heap.size w (Fk.step L (Fk.rd k t gone)) e w' := by
  obtain ⟨W1, hW1⟩ : ∃ W, w.alloc (.cells (recC off k t gone) 28) = W := ⟨_, rfl⟩
  have hb1 : Below w.heap.size w W1 := by rw [← hW1]; exact (Below.refl _ _).alloc (Nat.le_refl _) _
  have k1 : Blk W1 w.heap.size (recC off k t gone) 28 := by rw [← hW1]; exact Blk.new _ _ _
  have HC1 : Hid (∀ wx, Below W1.heap.size W1.drew wx → Calls Tryz.prog 23 #[v] wx fun e w' => Below wx.heap.size wx w' ∧ ∃ v' lab, e = .returned v' ∧ GsO wx.heap.size lab w' v' L) := Lib.hid fun wx hb => cloned_any v L wx ((h.below hb1).below (of_drew hb)) (by have := hS.len; omega) fun g hg => by have := hS.all g hg; omega
  have HC2 : Hid (∀ wx, Below W1.heap.size W1.drew wx → Calls Tryz.prog 24 #[.agg #[.int .i64 off, .string k, .string t, .bool gone]] wx fun e w' => RdOut wx (Fk.rd k t gone) e w') := Lib.hid fun wx hb => read_any off k t gone wx (lb.below lb.size (hb1.trans ((of_drew hb).mono hb1.size))) hkl htl
  obtain ⟨X, hX⟩ : ∃ X, Fk.rd k t gone = X := ⟨_, rfl⟩
  rw [hX] at HC2 ⊢
  have HB1 := Lib.hid hb1
  have HSM := Lib.hid hS
  have HX0 := Lib.hid (drew_refl W1)
  have x0 : W1.cell? ⟨w.heap.size, 0, none⟩ = some (.int .i64 off) := k1.cell rfl
  have x1 : W1.cell? ⟨w.heap.size, 1, none⟩ = some (.string k) := k1.cell rfl
  have x2 : W1.cell? ⟨w.heap.size, 2, none⟩ = some (.string t) := k1.cell rfl
  have x3 : W1.cell? ⟨w.heap.size, 3, none⟩ = some (.bool gone) := k1.cell rfl
  obtain ⟨a, cap, rfl⟩ := h.form
  clear h hS hb1 k1 hX lb
  go_enter Tryz.func10, Tryz.ntmps10
  go_upto_region 1 with fail
  have hB := HX0.out
  go_region_held3 (fun w' => w'.cell? ⟨w.heap.size, 0, none⟩ = some (.int .i64 off) ∧ w'.cell? ⟨w.heap.size, 1, none⟩ = some (.string k) ∧ w'.cell? ⟨w.heap.size, 2, none⟩ = some (.string t) ∧ w'.cell? ⟨w.heap.size, 3, none⟩ = some (.bool gone)) (first | exact ⟨dcell hB x0, dcell hB x1, dcell hB x2, dcell hB x3⟩ | go_keep | fail)
    (first
      | (go_at_call 23; ((with_reducible refine (HC1.out _ hB).mono ?_); rintro e w3 ⟨hb3, v3, lab, rfl, hO3⟩; obtain ⟨a3, c3, rfl⟩ := hO3.form; have hB := drew_trans hB hb3))
      | (go_at_call 24; ((with_reducible refine (HC2.out _ hB).mono ?_); rintro e w4 ⟨hb4, wv, rfl, hwv⟩; have hB := drew_trans hB hb4; have hO4 := hO3.below' hb4 (some none); have hw4 := WdV.mono (A' := fun b => W1.drew.heap.size ≤ b ∧ relab lab w3.heap.size (some none) b = some none) hwv (fun b hb => ⟨Nat.le_trans hb3.size hb, relab_ge hb⟩); have hz4 := Nat.le_trans hb3.size hb4.size))
      | (go_at_call 22; ((with_reducible refine (behind_any _ L X wv w4 hO4 HSM.out hz4 hw4).mono ?_); rintro e w5 ⟨hb5, lab5, v5, rfl, hO5⟩; have hB := hB.trans hb5))
      | fail)
  all_goals
    have HF : Hid (TrnOut w.heap.size w (Fk.step L X) (.returned v5) w5) := Lib.hid ⟨HB1.out.trans ((of_drew hB).mono HB1.out.size), lab5, v5, rfl, hO5.mono HB1.out.size⟩
    clear hb3 hb4 hb5 hO3 hO4 hO5 hwv hw4 hB
    go_wp2_with fail
    go_ret
    exact HF.out
/-- Records. -/
def rcs (l : List (Int × ByteArray × ByteArray × Bool)) : List Value := l.flatMap fun x => [.int .i64 x.1, .string x.2.1, .string x.2.2.1, .bool x.2.2.2]
theorem rcs_at {l : List (Int × ByteArray × ByteArray × Bool)} {j : Nat} {x : Int × ByteArray × ByteArray × Bool} (h : l[j]? = some x) : (rcs l)[j * 4]? = some (.int .i64 x.1) ∧ (rcs l)[j * 4 + 1]? = some (.string x.2.1) ∧ (rcs l)[j * 4 + 2]? = some (.string x.2.2.1) ∧ (rcs l)[j * 4 + 3]? = some (.bool x.2.2.2) := by
  have h0 := flat_at (fun x : Int × ByteArray × ByteArray × Bool => [Value.int .i64 x.1, .string x.2.1, .string x.2.2.1, .bool x.2.2.2]) 4 (fun _ => rfl) l j x h
  exact ⟨h0 0 (by decide), h0 1 (by decide), h0 2 (by decide), h0 3 (by decide)⟩
theorem rcs_len (l : List (Int × ByteArray × ByteArray × Bool)) : (rcs l).length = l.length * 4 := flat_length _ 4 (fun _ => rfl) l
theorem rcs_one (l : List (Int × ByteArray × ByteArray × Bool)) : ∀ u ∈ rcs l, u.oneCell' = true := flat_one _ (fun x u hu => by
  simp only [List.mem_cons, List.not_mem_nil, or_false] at hu
  rcases hu with rfl | rfl | rfl | rfl <;> rfl) l
/-- A slice that reads as these records. -/
def Rcs (A : Nat → Prop) (w : World) (v : Value) (l : List (Int × ByteArray × ByteArray × Bool)) : Prop := Rds A w v 4 l.length (rcs l)
section
variable {A : Nat → Prop} {w w' : World} {v : Value} {l : List (Int × ByteArray × ByteArray × Bool)}
theorem Rcs.form (h : Rcs A w v l) : ∃ a cap, v = .slice a l.length cap := Rds.form h
theorem Rcs.below (h : Rcs A w v l) (hb : Below w.heap.size w w') : Rcs A w' v l := Rds.below h hb
theorem Rcs.at (h : Rcs A w v l) {j : Nat} {x : Int × ByteArray × ByteArray × Bool} (hj : l[j]? = some x) : ∃ b p cap, v = .slice (some ⟨b, p, none⟩) l.length cap ∧ A b ∧ b < w.heap.size ∧ w.cell? ⟨b, p + j * 4, none⟩ = some (.int .i64 x.1) ∧ w.cell? ⟨b, p + j * 4 + 1, none⟩ = some (.string x.2.1) ∧ w.cell? ⟨b, p + j * 4 + 2, none⟩ = some (.string x.2.2.1) ∧ w.cell? ⟨b, p + j * 4 + 3, none⟩ = some (.bool x.2.2.2) := by
  obtain ⟨b, p, cap, h1, h2, h3, h4⟩ := Rds.at h (Nat.lt_of_le_of_lt (Nat.zero_le _) (List.getElem?_eq_some_iff.1 hj).1)
  obtain ⟨k0, k1, k2, k3⟩ := rcs_at hj
  exact ⟨b, p, cap, h1, h2, h3, h4 _ _ k0, h4 _ _ k1, h4 _ _ k2, h4 _ _ k3⟩
end
namespace Fk
/-- The groups behind records. -/
def told (l : List (Int × ByteArray × ByteArray × Bool)) : List G := l.foldl (fun L x => step L (rd x.2.1 x.2.2.1 x.2.2.2)) []
theorem putPt_mem {l : List (Int × Int)} {p o : Int} {q : Int × Int} (h : q ∈ putPt l p o) : q = (p, o) ∨ q ∈ l := by
  unfold putPt at h
  split at h
  · rcases List.mem_or_eq_of_mem_set h with h | h
    · exact .inr h
    · exact .inl h
  · exact ins_mem.1 h
theorem set_pair {α : Type} {R : α → α → Prop} {l : List α} {i : Nat} {x y : α} (h : l.Pairwise R) (hx : l[i]? = some x) (h1 : ∀ a, R a x → R a y) (h2 : ∀ a, R x a → R y a) : (l.set i y).Pairwise R := by
  rw [List.pairwise_iff_getElem] at h ⊢
  intro a b ha hb hab
  rw [List.length_set] at ha hb
  have := h a b ha hb hab
  have hxe := (List.getElem?_eq_some_iff.1 hx).2
  rw [List.getElem_set, List.getElem_set]
  split <;> split
  · omega
  · rename_i k _
    subst k
    rw [hxe] at this
    exact h2 _ this
  · rename_i _ k
    subst k
    rw [hxe] at this
    exact h1 _ this
  · exact this
theorem putPt_rise {l : List (Int × Int)} {p o : Int} (h : l.Pairwise fun a b => a.1 < b.1) : (putPt l p o).Pairwise fun a b => a.1 < b.1 := by
  have hm : Mono (cP p) l := mono_of (cP_rel p) h
  unfold putPt
  split
  · rename_i hs
    obtain ⟨x, hx⟩ := Option.isSome_iff_exists.1 hs
    obtain ⟨h1, h2⟩ := hit_some hx
    have e : x.1 = p := cmpI_eq.1 h2
    exact set_pair h h1 (fun a ha => by show a.1 < p; rw [← e]; exact ha) (fun a ha => by show p < a.1; rw [← e]; exact ha)
  · rename_i hs
    have hnone : hit (cP p) l = none := by
      cases hh : hit (cP p) l with
      | none => rfl
      | some x => rw [hh] at hs; exact absurd rfl hs
    refine ins_pair h (fun y hy => ?_) (fun y hy => ?_)
    · obtain ⟨t, ht, hy⟩ := mem_take_at hy
      exact cmpI_lt.1 (low_at l t y ht hy)
    · obtain ⟨t, ht, hy⟩ := mem_drop_at hy
      have h1 := low_ge l hm t y ht hy
      have h2 := hit_none hm hnone y (List.mem_of_getElem? hy)
      unfold cP cmpI at h1 h2
      show p < y.1
      split at h1
      · omega
      · rename_i h3
        split at h2
        · exact absurd (by assumption) h3
        · split at h2
          · assumption
          · omega
theorem step_ok {L : List G} {x : Wd} (h : Ok L) (hx : OkW x) : Ok (step L x) := by
  cases x with
  | none => exact h
  | no c => exact h
  | turn n g p ms =>
    obtain ⟨x1, x2, x3, x4⟩ := hx
    simp only [step]
    cases hf : fnd L n with
    | none =>
      simp only
      split
      · rename_i hg
        refine ⟨by rw [ins_len (low_le _)]; omega, ?_, fun y hy => ?_⟩
        · refine ins_pair h.rise (fun y hy => ?_) (fun y hy => ?_)
          · obtain ⟨t, ht, hy⟩ := mem_take_at hy
            exact cmp_lt.1 (low_at L t y ht hy)
          · obtain ⟨t, ht, hy⟩ := mem_drop_at hy
            have h1 := low_ge L (h.mono n) t y ht hy
            have h2 := fnd_none h hf y (List.mem_of_getElem? hy)
            have h3 : lt y.name n = false := by
              cases e : lt y.name n with
              | false => rfl
              | true => have := cmp_lt.2 e; unfold cN at h1; omega
            exact Sh.less_total _ _ h3 fun e => h2 (ByteArray.ext (Array.toList_inj.1 (by rw [← Lib.toList_data, ← Lib.toList_data]; exact e)))
        · rcases ins_mem.1 hy with rfl | hy
          · exact ⟨x1, by show (1 : Int) ≤ g; omega, x2, x3, x4, List.Pairwise.nil, fun q hq => by cases hq⟩
          · exact h.all y hy
      · exact h
    | some o =>
      simp only
      obtain ⟨h1, h2⟩ := fnd_some hf
      have ho := h.all o (List.mem_of_getElem? h1)
      split
      · rename_i hg
        refine ⟨by rw [List.length_set]; exact h.len, set_pair h.rise h1 (fun a ha => by rw [← h2]; exact ha) (fun a ha => by rw [← h2]; exact ha), fun y hy => ?_⟩
        rcases List.mem_or_eq_of_mem_set hy with hy | rfl
        · exact h.all y hy
        · have := ho.gen
          exact ⟨x1, by show (1 : Int) ≤ g; omega, x2, x3, x4, ho.pts, ho.low⟩
      · exact h
  | point n p o g =>
    obtain ⟨x1, x2, x3, x4, x5⟩ := hx
    simp only [step]
    cases hf : fnd L n with
    | none => exact h
    | some y =>
      simp only
      obtain ⟨h1, h2⟩ := fnd_some hf
      have ho := h.all y (List.mem_of_getElem? h1)
      split
      · refine ⟨by rw [List.length_set]; exact h.len, set_pair h.rise h1 (fun a ha => ha) (fun a ha => ha), fun z hz => ?_⟩
        rcases List.mem_or_eq_of_mem_set hz with hz | rfl
        · exact h.all z hz
        · refine ⟨ho.name, ho.gen, ho.p0, ho.p4, ho.mem, putPt_rise ho.pts, fun q hq => ?_⟩
          rcases putPt_mem hq with rfl | hq
          · exact ⟨x2, x3, x4, x5⟩
          · exact ho.low q hq
      · exact h
theorem ok_nil : Ok [] := ⟨by simp, List.Pairwise.nil, fun g hg => by cases hg⟩
theorem step_gens {L : List G} {x : Wd} {m : Int} (h : ∀ g ∈ L, g.gen ≤ m) (hm : 0 ≤ m) : ∀ g ∈ step L x, g.gen ≤ m + 1 := by
  have h' : ∀ g ∈ L, g.gen ≤ m + 1 := fun g hg => by have := h g hg; omega
  cases x with
  | none => exact h'
  | no c => exact h'
  | turn n g p ms =>
    simp only [step]
    cases hf : fnd L n with
    | none =>
      simp only
      split
      · intro y hy
        rcases ins_mem.1 hy with rfl | hy
        · show g ≤ m + 1; omega
        · exact h' y hy
      · exact h'
    | some o =>
      simp only
      have ho := h o (hit_mem hf)
      split
      · intro y hy
        rcases List.mem_or_eq_of_mem_set hy with hy | rfl
        · exact h' y hy
        · show g ≤ m + 1; omega
      · exact h'
  | point n p o g =>
    simp only [step]
    cases hf : fnd L n with
    | none => exact h'
    | some y =>
      simp only
      have ho := h y (hit_mem hf)
      split
      · intro z hz
        rcases List.mem_or_eq_of_mem_set hz with hz | rfl
        · exact h' z hz
        · show y.gen ≤ m + 1; omega
      · exact h'
end Fk
theorem Gk.nil : Gk 0 [] := ⟨Fk.ok_nil, fun g hg => by cases hg⟩
theorem Gk.step {m : Int} {L : List Fk.G} {x : Fk.Wd} (h : Gk m L) (hx : Fk.OkW x) (hm : 0 ≤ m) : Gk (m + 1) (Fk.step L x) := ⟨Fk.step_ok h.ok hx, Fk.step_gens h.gens hm⟩
theorem Gk.mono {m m' : Int} {L : List Fk.G} (h : Gk m L) (hm : m ≤ m') : Gk m' L := ⟨h.ok, fun g hg => by have := h.gens g hg; omega⟩
end Go.Proofs.YtjccfilbihkfpaaGreatDoor

/- THE CONTRACT OF Fold. -/
namespace Go.Proofs.YtjccfilbihkfpaaGreatDoor
open Go.RowKit

theorem Fk.told_succ {l : List (Int × ByteArray × ByteArray × Bool)} {i : Nat} {x : Int × ByteArray × ByteArray × Bool} (h : l[i]? = some x) : Fk.told (l.take (i + 1)) = Fk.step (Fk.told (l.take i)) (Fk.rd x.2.1 x.2.2.1 x.2.2.2) := by
  unfold Fk.told
  rw [List.take_add_one, h, List.foldl_append]
  rfl
theorem Fk.told_gk (l : List (Int × ByteArray × ByteArray × Bool)) : ∀ i, i ≤ l.length → Gk i (Fk.told (l.take i))
  | 0, _ => by simp only [List.take_zero]; exact Gk.nil
  | i + 1, h => by
    rw [Fk.told_succ (List.getElem?_eq_getElem h)]
    have := (Fk.told_gk l i (by omega)).step (Fk.rd_ok l[i].2.1 l[i].2.2.1 l[i].2.2.2) (by omega)
    exact this.mono (by omega)
set_option maxHeartbeats 4000000 in
set_option maxRecDepth 100000 in
theorem fold_any {A : Nat → Prop} (v : Value) (l : List (Int × ByteArray × ByteArray × Bool)) (w : World) (lb : Lb w) (h : Rcs A w v l) (hl : l.length ≤ 1000) (hs : ∀ x ∈ l, x.2.1.size ≤ 1000 ∧ x.2.2.1.size ≤ 1000) :
    Calls Tryz.prog 13 #[v] w fun e w' => TrnOut w.heap.size w (Fk.told l) e w' := by
  obtain ⟨a, cap, rfl⟩ := h.form
  have hfin : Fk.told (l.take l.length) = Fk.told l := by rw [List.take_length]
  obtain ⟨m, hm⟩ : ∃ m, l.length = m := ⟨_, rfl⟩
  rw [hm] at hl hfin
  rw [hm]
  have HM := Lib.hid hm
  have HV := Lib.hid h
  have HSZ := Lib.hid hs
  have HLB := Lib.hid lb
  have HFN := Lib.hid hfin
  have HT : Hid (∀ i, i ≤ m → Gk i (Fk.told (l.take i))) := Lib.hid fun i hi => Fk.told_gk l i (by rw [HM.out]; exact hi)
  have hl6 := lb.size
  have HR := Lib.hid (Below.refl w.heap.size w)
  have HO0 : Hid (GsO w.heap.size (fun _ => none) w (.slice none 0 0) (Fk.told (l.take 0))) := Lib.hid (GsO.nil _ _ _)
  clear h hs lb hfin hm
  go_enter Tryz.func13, Tryz.ntmps13
  go_wp2_with fail
  go_loopw [3, 5, 8] (fun s3 _ s8 wr => ∃ (i : Nat) (lab : Lab), i ≤ m ∧ s8 = .int .i64 i ∧ GsO w.heap.size lab wr s3 (Fk.told (l.take i)) ∧ Below w.heap.size w wr) (fun _ _ s8 _ => m - (intOf s8).toNat)
  case atStart => exact ⟨0, _, Nat.zero_le _, rfl, HO0.out, HR.out⟩
  case round =>
    obtain ⟨i, lab, hi, rfl, hO, hb⟩ := hrel
    have HO := Lib.hid hO
    have HB := Lib.hid hb
    by_cases hlt : i < m
    · obtain ⟨x, hx⟩ : ∃ x, l[i]? = some x := ⟨_, List.getElem?_eq_getElem (by rw [HM.out]; exact hlt)⟩
      obtain ⟨b, p, cap', ev, -, hbl, c0, c1, c2, c3⟩ := (HV.out.below hb).at hx
      rw [HM.out] at ev
      obtain rfl : a = some ⟨b, p, none⟩ := by injection ev
      have hxs := HSZ.out x (List.mem_of_getElem? hx)
      have HTS := Lib.hid (Fk.told_succ hx)
      obtain ⟨off, k, t, gone⟩ := x
      simp only at c0 c1 c2 c3 hxs HTS
      obtain ⟨W1, hW1⟩ : ∃ W, wr.alloc (.cells (recC off k t gone) 28) = W := ⟨_, rfl⟩
      have hb1 : Below wr.heap.size wr W1 := by rw [← hW1]; exact (Below.refl _ _).alloc (Nat.le_refl _) _
      have k1 : Blk W1 wr.heap.size (recC off k t gone) 28 := by rw [← hW1]; exact Blk.new _ _ _
      have x0 : W1.cell? ⟨wr.heap.size, 0, none⟩ = some (.int .i64 off) := k1.cell rfl
      have x1 : W1.cell? ⟨wr.heap.size, 1, none⟩ = some (.string k) := k1.cell rfl
      have x2 : W1.cell? ⟨wr.heap.size, 2, none⟩ = some (.string t) := k1.cell rfl
      have x3 : W1.cell? ⟨wr.heap.size, 3, none⟩ = some (.bool gone) := k1.cell rfl
      have HB1 := Lib.hid (hb.trans (hb1.mono hb.size))
      have HBW := Lib.hid hb1
      have HRD := Lib.hid (read_any off k t gone W1 (HLB.out.below hl6 HB1.out) hxs.1 hxs.2)
      obtain ⟨X, hX⟩ : ∃ X, Fk.rd k t gone = X := ⟨_, rfl⟩
      rw [hX] at HRD HTS
      have HSM := Lib.hid ((HT.out i hi).sm (by omega))
      have i0 : (0 : Int) ≤ (i : Int) := by omega
      have i1 : (i : Int) < (m : Int) := by omega
      clear hO hb hx ev hxs hb1 k1 hX
      obtain ⟨ag, cg, rfl⟩ := HO.out.form
      go_wp2_with fail
      refine HRD.out.mono ?_
      rintro e w4 ⟨hb4, wv, rfl, hwv⟩
      have hO4 := (HO.out.below HBW.out).below' hb4 (some none)
      have hw4 := WdV.mono (A' := fun b => w.heap.size ≤ b ∧ relab lab W1.heap.size (some none) b = some none) hwv (fun b hb => ⟨Nat.le_trans HB1.out.size hb, relab_ge hb⟩)
      have hz4 := Nat.le_trans HB1.out.size hb4.size
      have HBE := Lib.hid (behind_any _ _ X wv w4 hO4 HSM.out hz4 hw4)
      have HB4 := Lib.hid (HB1.out.trans (hb4.mono HB1.out.size))
      clear hb4 hwv hO4 hw4 hz4 HRD x0 x1 x2 x3 c0 c1 c2 c3
      go_wp2_with fail
      refine HBE.out.mono ?_
      rintro e w5 ⟨hb5, lab5, v5, rfl, hO5⟩
      have HO5 : Hid (GsO w.heap.size lab5 w5 v5 (Fk.told (l.take (i + 1)))) := Lib.hid (by rw [HTS.out]; exact hO5)
      have HB5 := Lib.hid (HB4.out.trans hb5)
      clear hb5 hO5 HBE
      go_wp2_with fail
      go_roundw
      case rel => exact ⟨i + 1, lab5, by omega, by go_num, HO5.out, HB5.out⟩
      case measure => simp [intOf]; omega
    · have HI : Hid (Fk.told (l.take i) = Fk.told l) := Lib.hid (by rw [← HFN.out, show i = m by omega])
      clear hO hb
      obtain ⟨ag, cg, rfl⟩ := HO.out.form
      go_wp2_with fail
      go_ret
      exact ⟨HB.out, lab, _, rfl, by rw [← HI.out]; exact HO.out⟩
end Go.Proofs.YtjccfilbihkfpaaGreatDoor
