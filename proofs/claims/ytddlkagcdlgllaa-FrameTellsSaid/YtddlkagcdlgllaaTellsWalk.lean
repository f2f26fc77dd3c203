/- The walk of the law FrameTells. -/
import Derived.Test.YtddlkagcdlgllaaFindsWalk
import Derived.Test.YtddlkagcdlgllaaTellsPlain
import Derived.IntWalk
namespace Go.Proofs.Ytddlkagcdlgllaa
open Go.RowKit

theorem cells_five (w : World) (x0 x1 x2 x3 x4 : Value) (T : TypeId) : (w.alloc (.cells #[x0, x1, x2, x3, x4] T)).cell? ⟨w.heap.size, 0, none⟩ = some x0 ∧ (w.alloc (.cells #[x0, x1, x2, x3, x4] T)).cell? ⟨w.heap.size, 1, none⟩ = some x1 ∧ (w.alloc (.cells #[x0, x1, x2, x3, x4] T)).cell? ⟨w.heap.size, 2, none⟩ = some x2 ∧ (w.alloc (.cells #[x0, x1, x2, x3, x4] T)).cell? ⟨w.heap.size, 3, none⟩ = some x3 ∧ (w.alloc (.cells #[x0, x1, x2, x3, x4] T)).cell? ⟨w.heap.size, 4, none⟩ = some x4 := by
  have h := heap_alloc_new w (.cells #[x0, x1, x2, x3, x4] T)
  refine ⟨?_, ?_, ?_, ?_, ?_⟩ <;> (unfold World.cell?; rw [h]; rfl)
theorem readable_lit (w : World) (s : ByteArray) : Readable (.slice (some ⟨w.heap.size, 0, none⟩) 1 1) [s.data.toList] (w.alloc (.cells #[.string s] 9)) := by
  refine ⟨_, 1, rfl, fun j l hj => ⟨w.heap.size, 0, rfl, by simp, ?_⟩⟩
  match j, hj with
  | 0, hj =>
    obtain rfl := Option.some.inj hj
    have h := heap_alloc_new w (.cells #[.string s] 9)
    rw [← ofList_eq s _ rfl]
    unfold World.cell?
    rw [h]
    rfl
/-- A slice over four bytes of a block as a text. -/
theorem conv4o (wx : World) (b o : Nat) (n0 n1 n2 n3 : Int) (h0 : wx.cell? ⟨b, o, none⟩ = some (.int .u8 n0)) (h1 : wx.cell? ⟨b, o + 1, none⟩ = some (.int .u8 n1)) (h2 : wx.cell? ⟨b, o + 2, none⟩ = some (.int .u8 n2)) (h3 : wx.cell? ⟨b, o + 3, none⟩ = some (.int .u8 n3)) :
    (convert 42 9 (.slice (some ⟨b, o, none⟩) 4 4)).run Try.prog wx = .ok (.string ⟨#[UInt8.ofNat n0.toNat, UInt8.ofNat n1.toNat, UInt8.ofNat n2.toNat, UInt8.ofNat n3.toNat]⟩) wx := by
  rw [run_convert_bytes_string wx _ _ 5 _ _ _ Try.underlying42 Try.underlying5 Try.underlying9,
    run_bytesToString wx ⟨b, o, none⟩ 4 4 [n0, n1, n2, n3] (run_loadCells_list wx ⟨b, o, none⟩ [.int .u8 n0, .int .u8 n1, .int .u8 n2, .int .u8 n3] (fun j v hv => by
      match j, hv with
      | 0, hv => obtain rfl := Option.some.inj hv; exact h0
      | 1, hv => obtain rfl := Option.some.inj hv; exact h1
      | 2, hv => obtain rfl := Option.some.inj hv; exact h2
      | 3, hv => obtain rfl := Option.some.inj hv; exact h3
      | j + 4, hv => simp at hv))]
  rfl
theorem five_later {W : World} {b : Nat} {x0 x1 x2 x3 x4 : Value} (h : W.cell? ⟨b, 0, none⟩ = some x0 ∧ W.cell? ⟨b, 1, none⟩ = some x1 ∧ W.cell? ⟨b, 2, none⟩ = some x2 ∧ W.cell? ⟨b, 3, none⟩ = some x3 ∧ W.cell? ⟨b, 4, none⟩ = some x4) (hb : b < W.heap.size) :
    ∀ w', Below W.heap.size W w' → w'.cell? ⟨b, 0, none⟩ = some x0 ∧ w'.cell? ⟨b, 1, none⟩ = some x1 ∧ w'.cell? ⟨b, 2, none⟩ = some x2 ∧ w'.cell? ⟨b, 3, none⟩ = some x3 ∧ w'.cell? ⟨b, 4, none⟩ = some x4 := fun w' hw => by
  have e : ∀ i, w'.cell? ⟨b, i, none⟩ = W.cell? ⟨b, i, none⟩ := fun i => hw.cell (p := ⟨b, i, none⟩) hb
  rw [e, e, e, e, e]
  exact h

set_option maxHeartbeats 2000000 in
set_option maxRecDepth 100000 in
theorem tells_any (ah bo : ByteArray) (x y0 y1 y2 y3 : Int) (w : World) :
    Calls Try.prog 6 #[.string ah, .string bo, .agg #[.int .i64 x, .int .u8 y0, .int .u8 y1, .int .u8 y2, .int .u8 y3]] w fun e w' => e = .returned (.bool true) ∧ Below w.heap.size w w' := by
  by_cases h1 : 4096 < ah.size
  · go_enter Try.func6, Try.ntmps6
    go_wp2_with fail
    refine (awake_any _).mono ?_
    rintro e w1 ⟨rfl, b1⟩
    have b2 := ((Below.refl w.heap.size w).alloc (Nat.le_refl _) (.cells #[.int .i64 x, .int .u8 y0, .int .u8 y1, .int .u8 y2, .int .u8 y3] 41)).trans (b1.mono (by simp))
    clear b1
    go_wp2_with fail
    go_ret
    exact ⟨rfl, b2⟩
  · by_cases h2 : 4096 < bo.size
    · skip
      go_enter Try.func6, Try.ntmps6
      go_wp2_with fail
      refine (awake_any _).mono ?_
      rintro e w1 ⟨rfl, b1⟩
      have b2 := ((Below.refl w.heap.size w).alloc (Nat.le_refl _) (.cells #[.int .i64 x, .int .u8 y0, .int .u8 y1, .int .u8 y2, .int .u8 y3] 41)).trans (b1.mono (by simp))
      clear b1
      go_wp2_with fail
      go_ret
      exact ⟨rfl, b2⟩
    · by_cases h3 : bo.size < 4
      · skip
        go_enter Try.func6, Try.ntmps6
        go_wp2_with fail
        refine (awake_any _).mono ?_
        rintro e w1 ⟨rfl, b1⟩
        have b2 := ((Below.refl w.heap.size w).alloc (Nat.le_refl _) (.cells #[.int .i64 x, .int .u8 y0, .int .u8 y1, .int .u8 y2, .int .u8 y3] 41)).trans (b1.mono (by simp))
        clear b1
        go_wp2_with fail
        go_ret
        exact ⟨rfl, b2⟩
      · have PA := fun wx => put_fits ah wx (by omega)
        have PB := fun wx => put_fits bo wx (by omega)
        obtain ⟨Af, hA⟩ : ∃ Af : ByteArray, (⟨(Pl.frame ah.data.toList).toArray⟩ : ByteArray) = Af := ⟨_, rfl⟩
        obtain ⟨Bf, hB⟩ : ∃ Bf : ByteArray, (⟨(Pl.frame bo.data.toList).toArray⟩ : ByteArray) = Bf := ⟨_, rfl⟩
        rw [hA] at PA
        rw [hB] at PB
        have hAs : Af.size = 8 + ah.size := by rw [← hA, size_list, Pl.frame_length, ← Lib.size_eq]
        have hBs : Bf.size = 8 + bo.size := by rw [← hB, size_list, Pl.frame_length, ← Lib.size_eq]
        obtain ⟨p, hp⟩ : ∃ p, 8 + ah.size = p := ⟨_, rfl⟩
        rw [hp] at hAs
        obtain ⟨o, hKe, hKl⟩ := cut_mod x ((bo.size : Int) - 3) (by omega) (by omega)
        have ho : o + 4 ≤ bo.size := by omega
        have hp2 : p ≤ 4104 := by omega
        obtain ⟨S, hS⟩ : ∃ S : ByteArray, Af ++ Bf = S := ⟨_, rfl⟩
        have hSs : S.size = p + (8 + bo.size) := by rw [← hS, ByteArray.size_append, hAs, hBs]
        obtain ⟨W0, hW0⟩ : ∃ W0, w.alloc (.cells #[.int .i64 x, .int .u8 y0, .int .u8 y1, .int .u8 y2, .int .u8 y3] 41) = W0 := ⟨_, rfl⟩
        have hcs := cells_five w (.int .i64 x) (.int .u8 y0) (.int .u8 y1) (.int .u8 y2) (.int .u8 y3) 41
        have hb0 : Below w.heap.size w W0 := by rw [← hW0]; exact (Below.refl _ _).alloc (Nat.le_refl _) _
        have hz0 : W0.heap.size = w.heap.size + 1 := by rw [← hW0]; simp
        rw [hW0] at hcs
        have HCS := Lib.hid (five_later hcs (show w.heap.size < W0.heap.size by omega))
        have HB0 := Lib.hid hb0
        have HZ0 := Lib.hid hz0
        have HPA := Lib.hid PA
        have HPB := Lib.hid PB
        have HA := Lib.hid hA
        have HB := Lib.hid hB
        have HP := Lib.hid hp
        clear PA PB hA hB hcs hb0 hz0 hp
        go_enter Try.func6, Try.ntmps6
        go_wp2_with fail
        refine (awake_any _).mono ?_
        rintro e w1 ⟨rfl, b1⟩
        clear hW0
        go_wp2_with fail
        refine (HPA.out _).mono ?_
        rintro e w2 ⟨rfl, b2⟩
        have b12 := b1.trans (b2.mono b1.size)
        clear b1 b2
        go_wp2_with fail
        refine (HPB.out _).mono ?_
        rintro e w3 ⟨rfl, b3⟩
        have b13 := b12.trans (b3.mono b12.size)
        have hc0 := (HCS.out w3 b13).1
        have B13 := Lib.hid b13
        clear b12 b3 b13
        go_wp2_with fail
        obtain ⟨k, hk⟩ : ∃ k, p + 8 + o = k := ⟨_, rfl⟩
        rw [show (p : Int) + 8 + (o : Int) = (k : Int) by omega]
        obtain ⟨L1, hL1⟩ : ∃ L1 : ByteArray, S.extract 0 k = L1 := ⟨_, rfl⟩
        obtain ⟨k4, hk4⟩ : ∃ k4, k + 4 = k4 := ⟨_, rfl⟩
        obtain ⟨L3, hL3⟩ : ∃ L3 : ByteArray, S.extract k4 S.size = L3 := ⟨_, rfl⟩
        obtain ⟨Y, hY⟩ : ∃ Y : ByteArray, (⟨#[UInt8.ofNat y0.toNat, UInt8.ofNat y1.toNat, UInt8.ofNat y2.toNat, UInt8.ofNat y3.toNat]⟩ : ByteArray) = Y := ⟨_, rfl⟩
        obtain ⟨T, hT⟩ : ∃ T : ByteArray, L1 ++ Y ++ L3 = T := ⟨_, rfl⟩
        have hcv : ∀ n, (convert 42 9 (.slice (some ⟨w.heap.size, 1, none⟩) 4 4)).run Try.prog (w3.drewN n) = .ok (.string Y) (w3.drewN n) := fun n => by
          obtain ⟨-, c1, c2, c3, c4⟩ := HCS.out w3 B13.out
          rw [← hY]
          exact conv4o (w3.drewN n) w.heap.size 1 _ _ _ _ c1 c2 c3 c4
        have hbl : bo.data.toList.length = bo.size := (Lib.size_eq bo).symm
        have hal : ah.data.toList.length = ah.size := (Lib.size_eq ah).symm
        obtain ⟨P, x0, x1, x2, x3, R, hl, hPl⟩ := Pl.parts (l := bo.data.toList) (o := o) (by omega)
        have hSl : S.data.toList = Pl.frame ah.data.toList ++ Pl.frame bo.data.toList := by rw [← hS, Joins.data_append, ← HA.out, ← HB.out]
        have hTl : T.data.toList = Pl.frame ah.data.toList ++ (Pl.head bo.data.toList ++ (P ++ Y.data.toList ++ R)) := by
          have hp' : 8 + ah.size = p := HP.out
          have hfk : (Pl.frame ah.data.toList).length + 8 + o = k := by rw [Pl.frame_length, hal]; omega
          have h := Pl.changed (A := Pl.frame ah.data.toList) (y := Y.data.toList) (x := [x0, x1, x2, x3]) rfl o hPl hl
          have g1 : L1.data.toList = (Pl.frame ah.data.toList ++ Pl.frame bo.data.toList).take k := by rw [← hL1, Lib.extract_data, List.drop_zero, Nat.sub_zero, hSl]
          have g3 : L3.data.toList = (Pl.frame ah.data.toList ++ Pl.frame bo.data.toList).drop k4 := by
            rw [← hL3, Lib.extract_data, List.take_of_length_le (by rw [List.length_drop]; have := Lib.size_eq S; omega), hSl]
          rw [← h, hfk, hk4, ← hT, Joins.data_append, Joins.data_append, g1, g3]
        have hY4 : ∃ e0 e1 e2 e3, Y.data.toList = [e0, e1, e2, e3] := by rw [← hY]; exact ⟨_, _, _, _, rfl⟩
        have hsd : p + 8 + bo.size = S.size := by omega
        have HTL := Lib.hid hTl
        have HYY := Lib.hid hY4
        have HKK := Lib.hid hk
        have HSS := Lib.hid hSs
        have HSL := Lib.hid hSl
        have HBL := Lib.hid hbl
        have HAL := Lib.hid hal
        have HLL := Lib.hid hl
        have HPL := Lib.hid hPl
        have hw4 : IntKind.i64.wrap ((k : Int) + 4) = (k4 : Int) := by rw [IntWalk.i64_in _ (by omega)]; omega
        have hk1 : k ≤ S.size := by omega
        have hk2 : k4 ≤ S.size := by omega
        have hkb : k ≤ 8204 := by omega
        have hL1s : L1.size = k := by rw [← hL1, ByteArray.size_extract]; omega
        have hYs : Y.size = 4 := by rw [← hY]; rfl
        have hL3s : L3.size ≤ 8208 := by rw [← hL3, ByteArray.size_extract]; omega
        have hpT : p ≤ T.size := by rw [← hT, ByteArray.size_append, ByteArray.size_append]; omega
        have hTb : T.size ≤ 1048576 := by rw [← hT, ByteArray.size_append, ByteArray.size_append]; omega
        have HPT := Lib.hid hpT
        have HTB := Lib.hid hTb
        clear hTl hY hY4 hk hSs hc0 hk4 hpT hTb hSl hbl hal hl hPl hsd
        go_quiet (fail)
        have B14 : Hid (Below W0.heap.size W0 (w3.drewN nq)) := B13.out.trans (below_drewN _ _)
        have N := fun wx => next_at T p wx HPT.out HTB.out
        have SC := fun wx => scan_any T wx HTB.out
        unfold Scanned at SC
        have hfp : (Pl.frame ah.data.toList).length = p := by rw [Pl.frame_length, HAL.out]; exact HP.out
        have hdr : T.data.toList.drop p = Pl.head bo.data.toList ++ (P ++ Y.data.toList ++ R) := by rw [HTL.out, ← hfp, List.drop_left]
        by_cases hyq : Y.data.toList = [x0, x1, x2, x3]
        · have hrest : Pl.head bo.data.toList ++ (P ++ Y.data.toList ++ R) = Pl.frame bo.data.toList := by rw [hyq, ← HLL.out]; rfl
          have hTS : T = S := by
            have e1 := ofList_eq T _ HTL.out.symm
            have e2 := ofList_eq S _ HSL.out.symm
            rw [e1, e2, hrest]
          have hnx : Pl.nx (T.data.toList.drop p) = (bo.data.toList, 0) := by
            have h := Pl.nx_frame bo.data.toList [] (by rw [HBL.out]; omega)
            rw [List.append_nil] at h
            rw [hdr, hrest, h]
          have N0 : ∀ wx, Calls Try.prog 15 #[.string T, .int .i64 p] wx fun e w' => (∃ (y : ByteArray) (z : Int), e = .returned (.tuple #[.string y, .int .i64 z, .int .i64 0])) ∧ Below wx.heap.size wx w' := fun wx => by
            have h := N wx
            rw [res_ok HPT.out (by rw [hnx])] at h
            exact h.mono fun _ _ ⟨he, hb⟩ => ⟨⟨_, _, he⟩, hb⟩
          have hsc : (Pl.scan T.data.toList).1 = [ah.data.toList, bo.data.toList] := by
            rw [HTL.out, hrest]
            exact Pl.scan_two (by rw [HAL.out]; omega) (by rw [HBL.out]; omega)
          rw [hsc] at SC
          have HN0 := Lib.hid N0
          have HSC := Lib.hid SC
          clear N0 SC N hnx hrest hdr hsc hyq hfp
          subst hTS
          go_wp2_with fail
          refine (HN0.out _).mono ?_
          rintro e w5 ⟨⟨y, z, rfl⟩, b5⟩
          have B15 := Lib.hid (B14.out.trans (b5.mono B14.out.size))
          clear b5
          go_wp2_with fail
          refine (HSC.out _).mono ?_
          rintro e w6 ⟨v, rfl, o6, b6⟩
          have B16 := Lib.hid (B15.out.trans (b6.mono B15.out.size))
          obtain ⟨a, cap, rfl, -⟩ := readable_own o6
          clear b6 o6
          go_wp2_with fail
          go_ret
          exact ⟨rfl, HB0.out.trans (B16.out.mono HB0.out.size)⟩
        · obtain ⟨e0, e1, e2, e3, hy4⟩ := HYY.out
          have hsum : Pl.sum (P ++ Y.data.toList ++ R) ≠ Pl.sum bo.data.toList := fun h => by
            rw [HLL.out, hy4] at h
            exact hyq (hy4.trans (Pl.sum_tells h))
          have hml : (P ++ Y.data.toList ++ R).length = bo.data.toList.length := by rw [HLL.out, hy4]; simp
          have hnx : Pl.nx (T.data.toList.drop p) = ([], 6) := by rw [hdr]; exact Pl.nx_other (by rw [HBL.out]; omega) hml hsum
          have N0 : ∀ wx, Calls Try.prog 15 #[.string T, .int .i64 p] wx fun e w' => e = .returned (.tuple #[.string ⟨#[]⟩, .int .i64 0, .int .i64 6]) ∧ Below wx.heap.size wx w' := fun wx => by
            have h := N wx
            rw [res_no HPT.out (by rw [hnx]; decide), hnx] at h
            exact h
          have hsc : Pl.scan T.data.toList = ([ah.data.toList], p) := by
            rw [HTL.out, Pl.scan_changed (by rw [HAL.out]; omega) (by rw [HBL.out]; omega) hml hsum, HAL.out, HP.out]
          rw [hsc] at SC
          have hne : S.data.toList ≠ T.data.toList := fun h => by
            rw [HSL.out, HTL.out, Pl.frame_head bo.data.toList] at h
            have h1 := List.append_cancel_left (List.append_cancel_left h)
            have h2 := HLL.out.symm.trans h1
            rw [List.append_assoc, List.append_assoc] at h2
            exact hyq (List.append_cancel_right (List.append_cancel_left h2)).symm
          have hne2 : (S.toList == T.toList) = false := by rw [ByteArray.toList_eq, ByteArray.toList_eq, beq_eq_false_iff_ne]; exact hne
          have HN0 := Lib.hid N0
          have HSC := Lib.hid SC
          clear N0 SC N hnx hdr hsc hyq hfp hsum hml hy4 hne
          go_wp2_with fail
          refine (HN0.out _).mono ?_
          rintro e w5 ⟨rfl, b5⟩
          have B15 := Lib.hid (B14.out.trans (b5.mono B14.out.size))
          clear b5
          go_wp2_with fail
          refine (HSC.out _).mono ?_
          rintro e w6 ⟨v, rfl, o6, b6⟩
          have B16 := Lib.hid (B15.out.trans (b6.mono B15.out.size))
          have R6 := Lib.hid (readable_own (ls := [ah.data.toList]) o6)
          clear b6 o6
          go_wp2_with fail
          refine (same_true _ _ [ah.data.toList] _ (R6.out.below ((Below.refl _ _).alloc (Nat.le_refl _) _)) (readable_lit w6 ah) (by simp)).mono ?_
          rintro e w7 ⟨rfl, b7⟩
          have B17 := Lib.hid ((B16.out.alloc B16.out.size _).trans (b7.mono (Nat.le_trans B16.out.size (by simp))))
          clear b7
          go_wp2_with fail
          go_ret
          exact ⟨rfl, HB0.out.trans (B17.out.mono HB0.out.size)⟩
end Go.Proofs.Ytddlkagcdlgllaa
