import Derived.Test.YtjccfilbihkfpaaGreatDoorM12

/- THE CONTRACT OF read: a no. -/
namespace Go.Proofs.YtjccfilbihkfpaaGreatDoor
open Go.RowKit

set_option maxHeartbeats 4000000 in
set_option maxRecDepth 100000 in
theorem read_no (off : Int) (k v : ByteArray) (r : List UInt8) (w : World) (lb : Lb w) (hkl : k.size ≤ 1000) (hvl : v.size ≤ 1000) (hk : k.data.toList = 110 :: r) :
    Calls Tryz.prog 24 #[.agg #[.int .i64 off, .string k, .string v, .bool false]] w fun e w' => RdOut w (Fk.rdN ⟨r.toArray⟩ (St.byte 108 ⟨v.data.toList, false⟩)) e w' := by
  obtain ⟨c, hc0⟩ : ∃ c : UInt8, 110 = c := ⟨_, rfl⟩
  rw [hc0] at hk
  obtain ⟨W1, W2, W3, g1, g2, g3, hb3, hc2, hst⟩ := read_start off k v false w
  have HLB3 := Lib.hid (lb.below lb.size hb3)
  have HST := Lib.hid hst
  have hl6 := lb.size
  have HNW := Lib.hid (rd_new v W3)
  have HLB := Lib.hid lb
  clear hb3 hst lb
  obtain ⟨S, hS⟩ : ∃ S : ByteArray, (⟨#[c]⟩ : ByteArray) = S := ⟨_, rfl⟩
  obtain ⟨N, hN⟩ : ∃ N : ByteArray, (⟨r.toArray⟩ : ByteArray) = N := ⟨_, rfl⟩
  have hk1 : k.extract 0 1 = S := by rw [← hS, ofList_eq k _ hk.symm]; exact ext_take (c :: r) 1
  have hks : k.size = r.length + 1 := by rw [← data_len', hk]; rfl
  have hk2 : k.extract 1 k.size = N := by rw [hks, ← hN, ofList_eq k _ hk.symm]; exact ext_drop (c :: r) 1
  have hkn : (k.toList == []) = false := by rw [Lib.toList_data, hk]; rfl
  have hn1 : 1 ≤ k.size := by omega
  have hn1' : (1 : Int) ≤ (k.size : Int) := by omega
  have HKS := Lib.hid hks
  clear hks
  subst hc0
  have t1 : (S.toList == [116]) = false := by rw [← hS, Lib.toList_data]; rfl
  have t2 : (S.toList == [99]) = false := by rw [← hS, Lib.toList_data]; rfl
  have t3 : (S.toList == [110]) = true := by rw [← hS, Lib.toList_data]; rfl
  rw [hN]
  obtain ⟨X, hX⟩ : ∃ X, Fk.rdN N (St.byte 108 ⟨v.data.toList, false⟩) = X := ⟨_, rfl⟩
  rw [hX]
  have HXX := Lib.hid hX
  have HSN := Lib.hid hS
  clear hN hk hS hX
  go_enter Tryz.func24, Tryz.ntmps24
  go_wp2_with fail
  refine wp_scope_fwd 0 rfl ?_
  go_wp2_with fail
  refine HNW.out.mono ?_
  rintro e w4 ⟨rfl, r4, b4⟩
  obtain ⟨bx, hbx⟩ : ∃ b, w.heap.size = b := ⟨_, rfl⟩
  have HS4 := Lib.hid (HST.out w4 _ r4 b4)
  have q1 : w4.cell? ⟨w.heap.size, 1, none⟩ = some (.string k) := HS4.out.kx.cell rfl
  have q3 : w4.cell? ⟨w.heap.size, 3, none⟩ = some (.bool false) := HS4.out.kx.cell rfl
  clear r4 b4 HNW HST hbx
  go_wp2_with fail
  go_upto_region 4 with fail
  have HS5 := Lib.hid (HS4.out.below ((Below.refl w4.heap.size w4).drew))
  have HNE : Hid (w.heap.size ≠ W2.heap.size) := Lib.hid (by have := HS5.out.lr; have := HS5.out.lw; omega)
  have q1 : w4.drew.cell? ⟨w.heap.size, 1, none⟩ = some (.string k) := q1
  have u0' : w4.cell? ⟨W2.heap.size, 0, none⟩ = some (.string ⟨#[]⟩) := HS5.out.kw.cell rfl
  have u1 : w4.cell? ⟨W2.heap.size, 1, none⟩ = some (.string ⟨#[]⟩) := HS5.out.kw.cell rfl
  have p0 : w4.frozen? ⟨W2.heap.size, 0, none⟩ = false := HS5.out.kw.free
  have p1 : w4.frozen? ⟨W2.heap.size, 1, none⟩ = false := HS5.out.kw.free
  have x0 : w4.drew.cell? ⟨W2.heap.size, 0, none⟩ = some (.string ⟨#[]⟩) := HS5.out.kw.cell rfl
  have x1 : w4.drew.cell? ⟨W2.heap.size, 1, none⟩ = some (.string ⟨#[]⟩) := HS5.out.kw.cell rfl
  have y0 : w4.drew.frozen? ⟨W2.heap.size, 0, none⟩ = false := HS5.out.kw.free
  have y1 : w4.drew.frozen? ⟨W2.heap.size, 1, none⟩ = false := HS5.out.kw.free
  go_region_held3 (fun w' => w'.cell? ⟨w.heap.size, 1, none⟩ = some (.string k)) (first | exact q1 | exact cellD1 HNE.out q1 | exact cellD2 HNE.out HNE.out q1 | go_keep | fail) (fail)
  have hS6 : RSt w w.heap.size W1.heap.size W2.heap.size W3.heap.size (recC off k v false) #[.string S, .string N, .int .i64 0, .int .i64 0, .slice none 0 0, .slice none 0 0, .int .i64 0, .int .i64 0, .int .i64 0] ⟨v.data.toList, false⟩ ((w4.setCell ⟨W2.heap.size, 0, none⟩ (.string S)).setCell ⟨W2.heap.size, 1, none⟩ (.string N)).drew := ((HS4.out.set 0 (.string S)).set 1 (.string N)).below ((Below.refl _ _).drew)
  obtain ⟨W5, hW5⟩ : ∃ W, ((w4.setCell ⟨W2.heap.size, 0, none⟩ (.string S)).setCell ⟨W2.heap.size, 1, none⟩ (.string N)).drew = W := ⟨_, rfl⟩
  rw [hW5] at hS6
  rw [hW5]
  have HS6 := Lib.hid hS6
  have hvl : v.data.toList.length ≤ 281474976710656 := by rw [data_len']; omega
  have HOP := Lib.hid (rd_open W3.heap.size _ W5 hS6.hr hvl)
  have h0l := byte_len 108 ⟨v.data.toList, false⟩
  obtain ⟨u0, hu0⟩ : ∃ u, St.byte 108 ⟨v.data.toList, false⟩ = u := ⟨_, rfl⟩
  rw [hu0] at HOP h0l
  have HU0 := Lib.hid hu0
  have HL0 : Hid (u0.s.length ≤ 281474976710656) := Lib.hid (Nat.le_trans h0l hvl)
  clear q1 q3 u0' u1 p0 p1 x0 x1 y0 y1 hS6 hW5 HS5 HS4 hu0 hvl h0l g1 g2 g3 hc2
  go_wp2_with fail
  refine HOP.out.mono ?_
  rintro e w6 ⟨rfl, r6, k6⟩
  have HS7 := Lib.hid (HS6.out.call r6 k6)
  have d0 : w6.cell? ⟨W2.heap.size, 0, none⟩ = some (.string S) := HS7.out.kw.cell rfl
  clear r6 k6 HOP
  have CI := rd_int W3.heap.size u0 w6 (HLB.out.below hl6 HS7.out.low) HS7.out.hr HL0.out
  obtain ⟨C, hC⟩ : ∃ z, u0.int.1 = z := ⟨_, rfl⟩
  obtain ⟨u1, hu1⟩ : ∃ z, u0.int.2 = z := ⟨_, rfl⟩
  have h1l := int_len u0
  rw [hu1] at CI h1l
  rw [hC] at CI
  have HL1 : Hid (u1.s.length ≤ 281474976710656) := Lib.hid (Nat.le_trans h1l HL0.out)
  have HCI := Lib.hid CI
  have HR : Hid (X = if N.size = 0 then Fk.finW u1 (.no C) else .none) := Lib.hid (by rw [← HXX.out, HU0.out]; unfold Fk.rdN; rw [hC, hu1])
  clear CI hC hu1 h1l
  go_wp2_with fail
  refine HCI.out.mono ?_
  rintro e w7 ⟨rfl, r7, k7⟩
  have HS8 := Lib.hid (HS7.out.call r7 k7)
  have x8 : w7.cell? ⟨W2.heap.size, 8, none⟩ = some (.int .i64 0) := HS8.out.kw.cell rfl
  have y8 : w7.frozen? ⟨W2.heap.size, 8, none⟩ = false := HS8.out.kw.free
  have HS9 : Hid (RSt w w.heap.size W1.heap.size W2.heap.size W3.heap.size (recC off k v false) #[.string S, .string N, .int .i64 0, .int .i64 0, .slice none 0 0, .slice none 0 0, .int .i64 0, .int .i64 0, .int .i64 C] u1 (w7.setCell ⟨W2.heap.size, 8, none⟩ (.int .i64 C))) := Lib.hid (HS8.out.set 8 (.int .i64 C))
  obtain ⟨W9, hW9⟩ : ∃ W, w7.setCell ⟨W2.heap.size, 8, none⟩ (.int .i64 C) = W := ⟨_, rfl⟩
  rw [hW9] at HS9
  have d1 : W9.cell? ⟨W2.heap.size, 1, none⟩ = some (.string N) := HS9.out.kw.cell rfl
  clear r7 k7 HCI d0
  by_cases hN0 : N.size = 0
  · have tn : (N.toList == []) = true := by
      have e : N = ⟨#[]⟩ := ByteArray.ext (Array.eq_empty_of_size_eq_zero hN0)
      rw [e, Lib.toList_data]
      rfl
    have HN0 : Hid (N = ⟨#[]⟩) := Lib.hid (ByteArray.ext (Array.eq_empty_of_size_eq_zero hN0))
    have HRR : Hid (X = Fk.finW u1 (.no C)) := Lib.hid (by rw [HR.out, if_pos hN0])
    have HX1 : Hid ((u1.byte 101).done = 0 → X = .no C) := Lib.hid fun h => by rw [HRR.out]; unfold Fk.finW; rw [if_pos h]
    have HX0 : Hid ((u1.byte 101).done ≠ 0 → X = .none) := Lib.hid fun h => by rw [HRR.out]; unfold Fk.finW; rw [if_neg h]
    clear hN0
    have HCL := Lib.hid (rd_close W3.heap.size u1 _ HS9.out.hr HL1.out)
    go_wp2_with fail
    refine HCL.out.mono ?_
    rintro e wA ⟨rfl, rA, kA⟩
    have HSA := Lib.hid (HS9.out.call rA kA)
    have CDN := rd_done W3.heap.size (u1.byte 101) wA HSA.out.hr
    obtain ⟨dn, hdn⟩ : ∃ z, (u1.byte 101).done = z := ⟨_, rfl⟩
    rw [hdn] at CDN
    have HDN := Lib.hid CDN
    have HDD := Lib.hid hdn
    clear rA kA HCL CDN hdn
    by_cases hd0 : dn = 0
    · have HDX := Lib.hid (HX1.out (HDD.out.trans hd0))
      subst hd0
      obtain ⟨z0, z1, z2, z3, z4, z5, z6, z7, z8⟩ := HSA.out.kr.cells9
      obtain ⟨b0, b1, b2, b3, b4, b5, b6, b7, b8⟩ := HSA.out.kw.cells9
      have y0 := HSA.out.kr.free (i := 0)
      have y1 := HSA.out.kr.free (i := 1)
      have y2 := HSA.out.kr.free (i := 2)
      have y3 := HSA.out.kr.free (i := 3)
      have y4 := HSA.out.kr.free (i := 4)
      have y5 := HSA.out.kr.free (i := 5)
      have y6 := HSA.out.kr.free (i := 6)
      have y7 := HSA.out.kr.free (i := 7)
      have y8 := HSA.out.kr.free (i := 8)
      have HNK := Lib.hid (HSA.out.kr.nine (.string S) (.string N) (.int .i64 0) (.int .i64 0) (.slice none 0 0) (.slice none 0 0) (.int .i64 0) (.int .i64 0) (.int .i64 C))
      have HNB := Lib.hid (nine_kb wA W1.heap.size (.string S) (.string N) (.int .i64 0) (.int .i64 0) (.slice none 0 0) (.slice none 0 0) (.int .i64 0) (.int .i64 0) (.int .i64 C))
      have HNL := Lib.hid (HSA.out.low.trans (HNB.out.below (Nat.le_of_lt (Nat.lt_of_le_of_lt HSA.out.lx HSA.out.lr)) HSA.out.kr.lt))
      go_wp2_with fail
      refine HDN.out.mono ?_
      rintro e w' ⟨rfl, rfl⟩
      go_wp2_with fail
      rw [jump_ret]
      refine bodyPost_ret (read_ret HNK.out rfl rfl) rfl ?_
      rw [HDX.out]
      exact ⟨HNL.out, _, rfl, by rw [HN0.out, ← HSN.out]; rfl⟩
    · have HDX := Lib.hid (HX0.out (fun h => hd0 (HDD.out.symm.trans h)))
      have hdd : (dn == 0) = false := by simpa using hd0
      obtain ⟨z0, z1, z2, z3, z4, z5, z6, z7, z8⟩ := HSA.out.kr.cells9
      have y0 := HSA.out.kr.free (i := 0)
      have y1 := HSA.out.kr.free (i := 1)
      have y2 := HSA.out.kr.free (i := 2)
      have y3 := HSA.out.kr.free (i := 3)
      have y4 := HSA.out.kr.free (i := 4)
      have y5 := HSA.out.kr.free (i := 5)
      have y6 := HSA.out.kr.free (i := 6)
      have y7 := HSA.out.kr.free (i := 7)
      have y8 := HSA.out.kr.free (i := 8)
      have HNK := Lib.hid (HSA.out.kr.nine (.string ⟨#[]⟩) (.string ⟨#[]⟩) (.int .i64 0) (.int .i64 0) (.slice none 0 0) (.slice none 0 0) (.int .i64 0) (.int .i64 0) (.int .i64 0))
      have HNL := Lib.hid (HSA.out.low.trans ((nine_kb wA W1.heap.size (.string ⟨#[]⟩) (.string ⟨#[]⟩) (.int .i64 0) (.int .i64 0) (.slice none 0 0) (.slice none 0 0) (.int .i64 0) (.int .i64 0) (.int .i64 0)).below (Nat.le_of_lt (Nat.lt_of_le_of_lt HSA.out.lx HSA.out.lr)) HSA.out.kr.lt))
      go_wp2_with fail
      refine HDN.out.mono ?_
      rintro e w' ⟨rfl, rfl⟩
      go_wp2_with fail
      go_step3
      go_wp2_with fail
      rw [jump_ret]
      refine bodyPost_ret (read_ret HNK.out rfl rfl) rfl ?_
      rw [HDX.out]
      exact ⟨HNL.out, _, rfl, rfl⟩
  · have tn : (N.toList == []) = false := by
      rw [Lib.toList_data]
      cases h : N.data.toList with
      | nil => exact absurd (by rw [← data_len', h]; rfl) hN0
      | cons a b => rfl
    have HRR : Hid (X = .none) := Lib.hid (by rw [HR.out, if_neg hN0])
    clear hN0
    go_wp2_with fail
    obtain ⟨z0, z1, z2, z3, z4, z5, z6, z7, z8⟩ := HS9.out.kr.cells9
    have y0 := HS9.out.kr.free (i := 0)
    have y1 := HS9.out.kr.free (i := 1)
    have y2 := HS9.out.kr.free (i := 2)
    have y3 := HS9.out.kr.free (i := 3)
    have y4 := HS9.out.kr.free (i := 4)
    have y5 := HS9.out.kr.free (i := 5)
    have y6 := HS9.out.kr.free (i := 6)
    have y7 := HS9.out.kr.free (i := 7)
    have y8 := HS9.out.kr.free (i := 8)
    have HNK := Lib.hid (HS9.out.kr.nine (.string ⟨#[]⟩) (.string ⟨#[]⟩) (.int .i64 0) (.int .i64 0) (.slice none 0 0) (.slice none 0 0) (.int .i64 0) (.int .i64 0) (.int .i64 0))
    have HNL := Lib.hid (HS9.out.low.trans (((nine_kb _ _ (.string ⟨#[]⟩) (.string ⟨#[]⟩) (.int .i64 0) (.int .i64 0) (.slice none 0 0) (.slice none 0 0) (.int .i64 0) (.int .i64 0) (.int .i64 0)).below (Nat.le_of_lt (Nat.lt_of_le_of_lt HS9.out.lx HS9.out.lr)) HS9.out.kr.lt)))
    go_step3
    refine And.intro rfl ?_
    go_wp2_with fail
    rw [Exit.noGoto_ret]
    refine bodyPost_ret (read_ret HNK.out rfl rfl) rfl ?_
    rw [HRR.out]
    exact ⟨HNL.out, _, rfl, rfl⟩
end Go.Proofs.YtjccfilbihkfpaaGreatDoor

/- THE CONTRACT OF read: a point. -/
namespace Go.Proofs.YtjccfilbihkfpaaGreatDoor
open Go.RowKit

set_option maxHeartbeats 4000000 in
set_option maxRecDepth 100000 in
theorem read_point (off : Int) (k v : ByteArray) (r : List UInt8) (w : World) (lb : Lb w) (hkl : k.size ≤ 1000) (hvl : v.size ≤ 1000) (hk : k.data.toList = 99 :: r) :
    Calls Tryz.prog 24 #[.agg #[.int .i64 off, .string k, .string v, .bool false]] w fun e w' => RdOut w (Fk.rdC (Fk.digB r).2 (Fk.digB r).1 (St.byte 108 ⟨v.data.toList, false⟩)) e w' := by
  obtain ⟨c, hc0⟩ : ∃ c : UInt8, 99 = c := ⟨_, rfl⟩
  rw [hc0] at hk
  obtain ⟨W1, W2, W3, g1, g2, g3, hb3, hc2, hst⟩ := read_start off k v false w
  have HLB3 := Lib.hid (lb.below lb.size hb3)
  have HST := Lib.hid hst
  have hl6 := lb.size
  have HNW := Lib.hid (rd_new v W3)
  have HLB := Lib.hid lb
  clear hb3 hst lb
  obtain ⟨S, hS⟩ : ∃ S : ByteArray, (⟨#[c]⟩ : ByteArray) = S := ⟨_, rfl⟩
  obtain ⟨N, hN⟩ : ∃ N : ByteArray, (⟨r.toArray⟩ : ByteArray) = N := ⟨_, rfl⟩
  have hk1 : k.extract 0 1 = S := by rw [← hS, ofList_eq k _ hk.symm]; exact ext_take (c :: r) 1
  have hks : k.size = r.length + 1 := by rw [← data_len', hk]; rfl
  have hk2 : k.extract 1 k.size = N := by rw [hks, ← hN, ofList_eq k _ hk.symm]; exact ext_drop (c :: r) 1
  have hkn : (k.toList == []) = false := by rw [Lib.toList_data, hk]; rfl
  have hn1 : 1 ≤ k.size := by omega
  have hn1' : (1 : Int) ≤ (k.size : Int) := by omega
  have HKS := Lib.hid hks
  subst hc0
  have t1 : (S.toList == [116]) = false := by rw [← hS, Lib.toList_data]; rfl
  have t2 : (S.toList == [99]) = true := by rw [← hS, Lib.toList_data]; rfl
  have t3 : (S.toList == [110]) = false := by rw [← hS, Lib.toList_data]; rfl
  have CD := fun wx => fdigit r (by omega) wx
  rw [hN] at CD
  obtain ⟨D, hD⟩ : ∃ D, (Fk.digB r).1 = D := ⟨_, rfl⟩
  obtain ⟨M, hM⟩ : ∃ M, (Fk.digB r).2 = M := ⟨_, rfl⟩
  have HCD : Hid (∀ wx, Calls Tryz.prog 51 #[.string N] wx fun e w' => e = .returned (.tuple #[.int .i64 D, .string M]) ∧ Below wx.heap.size wx w') := Lib.hid fun wx => by rw [← hD, ← hM]; exact CD wx
  rw [hD, hM]
  obtain ⟨X, hX⟩ : ∃ X, Fk.rdC M D (St.byte 108 ⟨v.data.toList, false⟩) = X := ⟨_, rfl⟩
  rw [hX]
  have HXX := Lib.hid hX
  have HSN := Lib.hid hS
  clear hN hk hS hX CD hD hM hks
  go_enter Tryz.func24, Tryz.ntmps24
  go_wp2_with fail
  refine wp_scope_fwd 0 rfl ?_
  go_wp2_with fail
  refine HNW.out.mono ?_
  rintro e w4 ⟨rfl, r4, b4⟩
  obtain ⟨bx, hbx⟩ : ∃ b, w.heap.size = b := ⟨_, rfl⟩
  have HS4 := Lib.hid (HST.out w4 _ r4 b4)
  have q1 : w4.cell? ⟨w.heap.size, 1, none⟩ = some (.string k) := HS4.out.kx.cell rfl
  have q3 : w4.cell? ⟨w.heap.size, 3, none⟩ = some (.bool false) := HS4.out.kx.cell rfl
  clear r4 b4 HNW HST hbx
  go_wp2_with fail
  go_upto_region 4 with fail
  have HS5 := Lib.hid (HS4.out.below ((Below.refl w4.heap.size w4).drew))
  have HNE : Hid (w.heap.size ≠ W2.heap.size) := Lib.hid (by have := HS5.out.lr; have := HS5.out.lw; omega)
  have q1 : w4.drew.cell? ⟨w.heap.size, 1, none⟩ = some (.string k) := q1
  have u0' : w4.cell? ⟨W2.heap.size, 0, none⟩ = some (.string ⟨#[]⟩) := HS5.out.kw.cell rfl
  have u1 : w4.cell? ⟨W2.heap.size, 1, none⟩ = some (.string ⟨#[]⟩) := HS5.out.kw.cell rfl
  have p0 : w4.frozen? ⟨W2.heap.size, 0, none⟩ = false := HS5.out.kw.free
  have p1 : w4.frozen? ⟨W2.heap.size, 1, none⟩ = false := HS5.out.kw.free
  have x0 : w4.drew.cell? ⟨W2.heap.size, 0, none⟩ = some (.string ⟨#[]⟩) := HS5.out.kw.cell rfl
  have x1 : w4.drew.cell? ⟨W2.heap.size, 1, none⟩ = some (.string ⟨#[]⟩) := HS5.out.kw.cell rfl
  have y0 : w4.drew.frozen? ⟨W2.heap.size, 0, none⟩ = false := HS5.out.kw.free
  have y1 : w4.drew.frozen? ⟨W2.heap.size, 1, none⟩ = false := HS5.out.kw.free
  go_region_held3 (fun w' => w'.cell? ⟨w.heap.size, 1, none⟩ = some (.string k)) (first | exact q1 | exact cellD1 HNE.out q1 | exact cellD2 HNE.out HNE.out q1 | go_keep | fail) (fail)
  have hS6 : RSt w w.heap.size W1.heap.size W2.heap.size W3.heap.size (recC off k v false) #[.string S, .string N, .int .i64 0, .int .i64 0, .slice none 0 0, .slice none 0 0, .int .i64 0, .int .i64 0, .int .i64 0] ⟨v.data.toList, false⟩ ((w4.setCell ⟨W2.heap.size, 0, none⟩ (.string S)).setCell ⟨W2.heap.size, 1, none⟩ (.string N)).drew := ((HS4.out.set 0 (.string S)).set 1 (.string N)).below ((Below.refl _ _).drew)
  obtain ⟨W5, hW5⟩ : ∃ W, ((w4.setCell ⟨W2.heap.size, 0, none⟩ (.string S)).setCell ⟨W2.heap.size, 1, none⟩ (.string N)).drew = W := ⟨_, rfl⟩
  rw [hW5] at hS6
  rw [hW5]
  have HS6 := Lib.hid hS6
  have hvl : v.data.toList.length ≤ 281474976710656 := by rw [data_len']; omega
  have HOP := Lib.hid (rd_open W3.heap.size _ W5 hS6.hr hvl)
  have h0l := byte_len 108 ⟨v.data.toList, false⟩
  obtain ⟨u0, hu0⟩ : ∃ u, St.byte 108 ⟨v.data.toList, false⟩ = u := ⟨_, rfl⟩
  rw [hu0] at HOP h0l
  have HU0 := Lib.hid hu0
  have HL0 : Hid (u0.s.length ≤ 281474976710656) := Lib.hid (Nat.le_trans h0l hvl)
  clear q1 q3 u0' u1 p0 p1 x0 x1 y0 y1 hS6 hW5 HS5 HS4 hu0 hvl h0l g1 g2 g3 hc2
  go_wp2_with fail
  refine HOP.out.mono ?_
  rintro e w6 ⟨rfl, r6, k6⟩
  have HS7 := Lib.hid (HS6.out.call r6 k6)
  have d0 : w6.cell? ⟨W2.heap.size, 0, none⟩ = some (.string S) := HS7.out.kw.cell rfl
  clear r6 k6 HOP
  have d1 : w6.cell? ⟨W2.heap.size, 1, none⟩ = some (.string N) := HS7.out.kw.cell rfl
  go_wp2_with fail
  refine (HCD.out _).mono ?_
  rintro e w7 ⟨rfl, hb7⟩
  have HS8 := Lib.hid (HS7.out.below hb7)
  have x6 : w7.cell? ⟨W2.heap.size, 6, none⟩ = some (.int .i64 0) := HS8.out.kw.cell rfl
  have y6 : w7.frozen? ⟨W2.heap.size, 6, none⟩ = false := HS8.out.kw.free
  have x1 : w7.cell? ⟨W2.heap.size, 1, none⟩ = some (.string N) := HS8.out.kw.cell rfl
  have y1 : w7.frozen? ⟨W2.heap.size, 1, none⟩ = false := HS8.out.kw.free
  have HS9 : Hid (RSt w w.heap.size W1.heap.size W2.heap.size W3.heap.size (recC off k v false) #[.string S, .string M, .int .i64 0, .int .i64 0, .slice none 0 0, .slice none 0 0, .int .i64 D, .int .i64 0, .int .i64 0] u0 ((w7.setCell ⟨W2.heap.size, 6, none⟩ (.int .i64 D)).setCell ⟨W2.heap.size, 1, none⟩ (.string M))) := Lib.hid ((HS8.out.set 6 (.int .i64 D)).set 1 (.string M))
  obtain ⟨W9, hW9⟩ : ∃ W, (w7.setCell ⟨W2.heap.size, 6, none⟩ (.int .i64 D)).setCell ⟨W2.heap.size, 1, none⟩ (.string M) = W := ⟨_, rfl⟩
  rw [hW9] at HS9
  have CI := rd_int W3.heap.size u0 W9 (HLB.out.below hl6 HS9.out.low) HS9.out.hr HL0.out
  obtain ⟨O, hO⟩ : ∃ z, u0.int.1 = z := ⟨_, rfl⟩
  obtain ⟨u1, hu1⟩ : ∃ z, u0.int.2 = z := ⟨_, rfl⟩
  have h1l := int_len u0
  rw [hu1] at CI h1l
  rw [hO] at CI
  have HL1 : Hid (u1.s.length ≤ 281474976710656) := Lib.hid (Nat.le_trans h1l HL0.out)
  obtain ⟨G, hG⟩ : ∃ z, u1.int.1 = z := ⟨_, rfl⟩
  obtain ⟨u2, hu2⟩ : ∃ z, u1.int.2 = z := ⟨_, rfl⟩
  have h2l := int_len u1
  rw [hu2] at h2l
  have HL2 : Hid (u2.s.length ≤ 281474976710656) := Lib.hid (Nat.le_trans h2l HL1.out)
  have HCI := Lib.hid CI
  have HGU : Hid (u1.int.1 = G ∧ u1.int.2 = u2) := Lib.hid ⟨hG, hu2⟩
  have HR : Hid (X = if Sh.nameB M = true ∧ 0 ≤ D ∧ D < 4 ∧ 0 ≤ O ∧ O ≤ 1099511627776 then Fk.finW u2 (.point M D O G) else .none) := Lib.hid (by rw [← HXX.out, HU0.out]; unfold Fk.rdC; rw [hu1, hO, hG, hu2])
  clear CI hO hu1 hG hu2 h1l h2l hb7 HCD d0 d1
  go_wp2_with fail
  refine HCI.out.mono ?_
  rintro e w10 ⟨rfl, r10, k10⟩
  have HS10 := Lib.hid (HS9.out.call r10 k10)
  have CJ := rd_int W3.heap.size u1 w10 (HLB.out.below hl6 HS10.out.low) HS10.out.hr HL1.out
  rw [HGU.out.1, HGU.out.2] at CJ
  have HCJ := Lib.hid CJ
  clear r10 k10 HCI CJ x6 y6 x1 y1 hW9
  go_wp2_with fail
  refine HCJ.out.mono ?_
  rintro e w11 ⟨rfl, r11, k11⟩
  have HS11 := Lib.hid (HS10.out.call r11 k11)
  have x7 : w11.cell? ⟨W2.heap.size, 7, none⟩ = some (.int .i64 0) := HS11.out.kw.cell rfl
  have y7 : w11.frozen? ⟨W2.heap.size, 7, none⟩ = false := HS11.out.kw.free
  have x2 : w11.cell? ⟨W2.heap.size, 2, none⟩ = some (.int .i64 0) := HS11.out.kw.cell rfl
  have y2 : w11.frozen? ⟨W2.heap.size, 2, none⟩ = false := HS11.out.kw.free
  have HS12 : Hid (RSt w w.heap.size W1.heap.size W2.heap.size W3.heap.size (recC off k v false) #[.string S, .string M, .int .i64 G, .int .i64 0, .slice none 0 0, .slice none 0 0, .int .i64 D, .int .i64 O, .int .i64 0] u2 ((w11.setCell ⟨W2.heap.size, 7, none⟩ (.int .i64 O)).setCell ⟨W2.heap.size, 2, none⟩ (.int .i64 G))) := Lib.hid ((HS11.out.set 7 (.int .i64 O)).set 2 (.int .i64 G))
  obtain ⟨W12, hW12⟩ : ∃ W, (w11.setCell ⟨W2.heap.size, 7, none⟩ (.int .i64 O)).setCell ⟨W2.heap.size, 2, none⟩ (.int .i64 G) = W := ⟨_, rfl⟩
  rw [hW12] at HS12
  have d1 : W12.cell? ⟨W2.heap.size, 1, none⟩ = some (.string M) := HS12.out.kw.cell rfl
  have HNM := fisName M W12
  obtain ⟨a, ha⟩ : ∃ a, Sh.nameB M = a := ⟨_, rfl⟩
  have HPA := fisPart D
  obtain ⟨b, hb⟩ : ∃ b, decide (0 ≤ D ∧ D < 4) = b := ⟨_, rfl⟩
  have HOF := fisOffset O
  obtain ⟨o, ho⟩ : ∃ o, decide (0 ≤ O ∧ O ≤ 1099511627776) = o := ⟨_, rfl⟩
  rw [ha] at HNM
  rw [hb] at HPA
  rw [ho] at HOF
  have HNM := Lib.hid HNM
  have HPA := Lib.hid HPA
  have HOF := Lib.hid HOF
  have HH : Hid (Sh.nameB M = a ∧ decide (0 ≤ D ∧ D < 4) = b ∧ decide (0 ≤ O ∧ O ≤ 1099511627776) = o) := Lib.hid ⟨ha, hb, ho⟩
  clear r11 k11 HCJ HGU ha hb ho
  go_wp2_with fail
  refine HNM.out.mono ?_
  rintro e w13 ⟨rfl, hb13⟩
  have HS13 := Lib.hid (HS12.out.below hb13)
  have d6 : w13.cell? ⟨W2.heap.size, 6, none⟩ = some (.int .i64 D) := HS13.out.kw.cell rfl
  have d7 : w13.cell? ⟨W2.heap.size, 7, none⟩ = some (.int .i64 O) := HS13.out.kw.cell rfl
  clear hb13 HNM x7 y7 x2 y2 hW12 d1
  cases a with
  | false =>
    have HRR : Hid (X = .none) := Lib.hid (by rw [HR.out, if_neg (fun h => by have h2 := HH.out; rw [h2.1] at h; exact absurd h.1 (by decide))])
    go_wp2_with fail
    obtain ⟨z0, z1, z2, z3, z4, z5, z6, z7, z8⟩ := HS13.out.kr.cells9
    have y0 := HS13.out.kr.free (i := 0)
    have y1 := HS13.out.kr.free (i := 1)
    have y2 := HS13.out.kr.free (i := 2)
    have y3 := HS13.out.kr.free (i := 3)
    have y4 := HS13.out.kr.free (i := 4)
    have y5 := HS13.out.kr.free (i := 5)
    have y6 := HS13.out.kr.free (i := 6)
    have y7 := HS13.out.kr.free (i := 7)
    have y8 := HS13.out.kr.free (i := 8)
    have HNK := Lib.hid (HS13.out.kr.nine (.string ⟨#[]⟩) (.string ⟨#[]⟩) (.int .i64 0) (.int .i64 0) (.slice none 0 0) (.slice none 0 0) (.int .i64 0) (.int .i64 0) (.int .i64 0))
    have HNL := Lib.hid (HS13.out.low.trans (((nine_kb _ _ (.string ⟨#[]⟩) (.string ⟨#[]⟩) (.int .i64 0) (.int .i64 0) (.slice none 0 0) (.slice none 0 0) (.int .i64 0) (.int .i64 0) (.int .i64 0)).below (Nat.le_of_lt (Nat.lt_of_le_of_lt HS13.out.lx HS13.out.lr)) HS13.out.kr.lt)))
    go_step3
    refine And.intro rfl ?_
    go_wp2_with fail
    rw [Exit.noGoto_ret]
    refine bodyPost_ret (read_ret HNK.out rfl rfl) rfl ?_
    rw [HRR.out]
    exact ⟨HNL.out, _, rfl, rfl⟩
  | true =>
    cases b with
    | false =>
      have HRR : Hid (X = .none) := Lib.hid (by rw [HR.out, if_neg (fun h => by have h2 := HH.out; have h3 := h2.2.1; rw [decide_eq_true ⟨h.2.1, h.2.2.1⟩] at h3; cases h3)])
      go_wp2_with fail
      refine (HPA.out _).mono ?_
      rintro e w14 ⟨rfl, rfl⟩
      go_wp2_with fail
      obtain ⟨z0, z1, z2, z3, z4, z5, z6, z7, z8⟩ := HS13.out.kr.cells9
      have y0 := HS13.out.kr.free (i := 0)
      have y1 := HS13.out.kr.free (i := 1)
      have y2 := HS13.out.kr.free (i := 2)
      have y3 := HS13.out.kr.free (i := 3)
      have y4 := HS13.out.kr.free (i := 4)
      have y5 := HS13.out.kr.free (i := 5)
      have y6 := HS13.out.kr.free (i := 6)
      have y7 := HS13.out.kr.free (i := 7)
      have y8 := HS13.out.kr.free (i := 8)
      have HNK := Lib.hid (HS13.out.kr.nine (.string ⟨#[]⟩) (.string ⟨#[]⟩) (.int .i64 0) (.int .i64 0) (.slice none 0 0) (.slice none 0 0) (.int .i64 0) (.int .i64 0) (.int .i64 0))
      have HNL := Lib.hid (HS13.out.low.trans (((nine_kb _ _ (.string ⟨#[]⟩) (.string ⟨#[]⟩) (.int .i64 0) (.int .i64 0) (.slice none 0 0) (.slice none 0 0) (.int .i64 0) (.int .i64 0) (.int .i64 0)).below (Nat.le_of_lt (Nat.lt_of_le_of_lt HS13.out.lx HS13.out.lr)) HS13.out.kr.lt)))
      go_step3
      refine And.intro rfl ?_
      go_wp2_with fail
      rw [Exit.noGoto_ret]
      refine bodyPost_ret (read_ret HNK.out rfl rfl) rfl ?_
      rw [HRR.out]
      exact ⟨HNL.out, _, rfl, rfl⟩
    | true =>
      cases o with
      | false =>
        have HRR : Hid (X = .none) := Lib.hid (by rw [HR.out, if_neg (fun h => by have h2 := HH.out; have h3 := h2.2.2; rw [decide_eq_true h.2.2.2] at h3; cases h3)])
        go_wp2_with fail
        refine (HPA.out _).mono ?_
        rintro e w14 ⟨rfl, rfl⟩
        go_wp2_with fail
        refine (HOF.out _).mono ?_
        rintro e w15 ⟨rfl, rfl⟩
        go_wp2_with fail
        obtain ⟨z0, z1, z2, z3, z4, z5, z6, z7, z8⟩ := HS13.out.kr.cells9
        have y0 := HS13.out.kr.free (i := 0)
        have y1 := HS13.out.kr.free (i := 1)
        have y2 := HS13.out.kr.free (i := 2)
        have y3 := HS13.out.kr.free (i := 3)
        have y4 := HS13.out.kr.free (i := 4)
        have y5 := HS13.out.kr.free (i := 5)
        have y6 := HS13.out.kr.free (i := 6)
        have y7 := HS13.out.kr.free (i := 7)
        have y8 := HS13.out.kr.free (i := 8)
        have HNK := Lib.hid (HS13.out.kr.nine (.string ⟨#[]⟩) (.string ⟨#[]⟩) (.int .i64 0) (.int .i64 0) (.slice none 0 0) (.slice none 0 0) (.int .i64 0) (.int .i64 0) (.int .i64 0))
        have HNL := Lib.hid (HS13.out.low.trans (((nine_kb _ _ (.string ⟨#[]⟩) (.string ⟨#[]⟩) (.int .i64 0) (.int .i64 0) (.slice none 0 0) (.slice none 0 0) (.int .i64 0) (.int .i64 0) (.int .i64 0)).below (Nat.le_of_lt (Nat.lt_of_le_of_lt HS13.out.lx HS13.out.lr)) HS13.out.kr.lt)))
        go_step3
        refine And.intro rfl ?_
        go_wp2_with fail
        rw [Exit.noGoto_ret]
        refine bodyPost_ret (read_ret HNK.out rfl rfl) rfl ?_
        rw [HRR.out]
        exact ⟨HNL.out, _, rfl, rfl⟩
      | true =>
        have HRR : Hid (X = Fk.finW u2 (.point M D O G)) := Lib.hid (by rw [HR.out, if_pos ⟨HH.out.1, (of_decide_eq_true HH.out.2.1).1, (of_decide_eq_true HH.out.2.1).2, of_decide_eq_true HH.out.2.2⟩])
        have HX1 : Hid ((u2.byte 101).done = 0 → X = .point M D O G) := Lib.hid fun h => by rw [HRR.out]; unfold Fk.finW; rw [if_pos h]
        have HX0 : Hid ((u2.byte 101).done ≠ 0 → X = .none) := Lib.hid fun h => by rw [HRR.out]; unfold Fk.finW; rw [if_neg h]
        go_wp2_with fail
        refine (HPA.out _).mono ?_
        rintro e w14 ⟨rfl, rfl⟩
        go_wp2_with fail
        refine (HOF.out _).mono ?_
        rintro e w15 ⟨rfl, rfl⟩
        have HCL := Lib.hid (rd_close W3.heap.size u2 _ HS13.out.hr HL2.out)
        go_wp2_with fail
        refine HCL.out.mono ?_
        rintro e wA ⟨rfl, rA, kA⟩
        have HSA := Lib.hid (HS13.out.call rA kA)
        have CDN := rd_done W3.heap.size (u2.byte 101) wA HSA.out.hr
        obtain ⟨dn, hdn⟩ : ∃ z, (u2.byte 101).done = z := ⟨_, rfl⟩
        rw [hdn] at CDN
        have HDN := Lib.hid CDN
        have HDD := Lib.hid hdn
        clear rA kA HCL CDN hdn
        by_cases hd0 : dn = 0
        · have HDX := Lib.hid (HX1.out (HDD.out.trans hd0))
          subst hd0
          obtain ⟨z0, z1, z2, z3, z4, z5, z6, z7, z8⟩ := HSA.out.kr.cells9
          obtain ⟨b0, b1, b2, b3, b4, b5, b6, b7, b8⟩ := HSA.out.kw.cells9
          have y0 := HSA.out.kr.free (i := 0)
          have y1 := HSA.out.kr.free (i := 1)
          have y2 := HSA.out.kr.free (i := 2)
          have y3 := HSA.out.kr.free (i := 3)
          have y4 := HSA.out.kr.free (i := 4)
          have y5 := HSA.out.kr.free (i := 5)
          have y6 := HSA.out.kr.free (i := 6)
          have y7 := HSA.out.kr.free (i := 7)
          have y8 := HSA.out.kr.free (i := 8)
          have HNK := Lib.hid (HSA.out.kr.nine (.string S) (.string M) (.int .i64 G) (.int .i64 0) (.slice none 0 0) (.slice none 0 0) (.int .i64 D) (.int .i64 O) (.int .i64 0))
          have HNB := Lib.hid (nine_kb wA W1.heap.size (.string S) (.string M) (.int .i64 G) (.int .i64 0) (.slice none 0 0) (.slice none 0 0) (.int .i64 D) (.int .i64 O) (.int .i64 0))
          have HNL := Lib.hid (HSA.out.low.trans (HNB.out.below (Nat.le_of_lt (Nat.lt_of_le_of_lt HSA.out.lx HSA.out.lr)) HSA.out.kr.lt))
          go_wp2_with fail
          refine HDN.out.mono ?_
          rintro e w' ⟨rfl, rfl⟩
          go_wp2_with fail
          rw [jump_ret]
          refine bodyPost_ret (read_ret HNK.out rfl rfl) rfl ?_
          rw [HDX.out]
          exact ⟨HNL.out, _, rfl, by rw [← HSN.out]; rfl⟩
        · have HDX := Lib.hid (HX0.out (fun h => hd0 (HDD.out.symm.trans h)))
          have hdd : (dn == 0) = false := by simpa using hd0
          obtain ⟨z0, z1, z2, z3, z4, z5, z6, z7, z8⟩ := HSA.out.kr.cells9
          have y0 := HSA.out.kr.free (i := 0)
          have y1 := HSA.out.kr.free (i := 1)
          have y2 := HSA.out.kr.free (i := 2)
          have y3 := HSA.out.kr.free (i := 3)
          have y4 := HSA.out.kr.free (i := 4)
          have y5 := HSA.out.kr.free (i := 5)
          have y6 := HSA.out.kr.free (i := 6)
          have y7 := HSA.out.kr.free (i := 7)
          have y8 := HSA.out.kr.free (i := 8)
          have HNK := Lib.hid (HSA.out.kr.nine (.string ⟨#[]⟩) (.string ⟨#[]⟩) (.int .i64 0) (.int .i64 0) (.slice none 0 0) (.slice none 0 0) (.int .i64 0) (.int .i64 0) (.int .i64 0))
          have HNL := Lib.hid (HSA.out.low.trans ((nine_kb wA W1.heap.size (.string ⟨#[]⟩) (.string ⟨#[]⟩) (.int .i64 0) (.int .i64 0) (.slice none 0 0) (.slice none 0 0) (.int .i64 0) (.int .i64 0) (.int .i64 0)).below (Nat.le_of_lt (Nat.lt_of_le_of_lt HSA.out.lx HSA.out.lr)) HSA.out.kr.lt))
          go_wp2_with fail
          refine HDN.out.mono ?_
          rintro e w' ⟨rfl, rfl⟩
          go_wp2_with fail
          go_step3
          go_wp2_with fail
          rw [jump_ret]
          refine bodyPost_ret (read_ret HNK.out rfl rfl) rfl ?_
          rw [HDX.out]
          exact ⟨HNL.out, _, rfl, rfl⟩
end Go.Proofs.YtjccfilbihkfpaaGreatDoor
