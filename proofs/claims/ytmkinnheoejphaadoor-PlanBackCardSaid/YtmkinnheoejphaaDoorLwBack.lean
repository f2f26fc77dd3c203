/- THE WALK OF PlanBack. -/
import Derived.Test.YtmkinnheoejphaaDoorLwE
import Derived.Laws.StructEq
import Derived.WalkLawsBesides
namespace Go.Proofs.YtmkinnheoejphaaDoor
open Go.RowKit

theorem ev_guard : Tryd.prog.eqGuardType Tryd.prog.depth 35 = false := by kernel_rfl
theorem ev_held : Tryd.prog.stoodInHeld 35 = false := by kernel_rfl
theorem ev_under : Tryd.prog.underlying 35 = some (.struct (Tryd.prog.fieldsOf 35)) := by kernel_rfl
set_option maxRecDepth 100000 in
theorem ev_neq (a b c d a' b' c' d' : Int) (wx : World) :
    (binOp .neq 35 (.agg #[.int .i64 a, .int .i64 b, .int .i64 c, .int .i64 d]) (.agg #[.int .i64 a', .int .i64 b', .int .i64 c', .int .i64 d'])).run Tryd.prog wx = .ok (.bool (!(a == a' && (b == b' && (c == c' && d == d'))))) wx := by
  rw [run_neq_struct, show (10000 : Nat) = 9999 + 1 from rfl, run_equalIn_struct wx 9999 _ _ _ ev_under ev_held]
  go_simp
  by_cases h1 : a = a' <;> by_cases h2 : b = b' <;> by_cases h3 : c = c' <;> by_cases h4 : d = d' <;> simp [h1, h2, h3, h4]
set_option maxRecDepth 100000 in
theorem ev_eql (a b c d a' b' c' d' : Int) (wx : World) :
    (binOp .eql 35 (.agg #[.int .i64 a, .int .i64 b, .int .i64 c, .int .i64 d]) (.agg #[.int .i64 a', .int .i64 b', .int .i64 c', .int .i64 d'])).run Tryd.prog wx = .ok (.bool (a == a' && (b == b' && (c == c' && d == d')))) wx := by
  rw [run_eql_struct, show (10000 : Nat) = 9999 + 1 from rfl, run_equalIn_struct wx 9999 _ _ _ ev_under ev_held]
  go_simp
  by_cases h1 : a = a' <;> by_cases h2 : b = b' <;> by_cases h3 : c = c' <;> by_cases h4 : d = d' <;> simp [h1, h2, h3, h4]
theorem enc_inj {x y : Pn.Ev} (hx : Pn.evB x = true) (hy : Pn.evB y = true) : ((⟨(Pn.encE x).toArray⟩ : ByteArray).toList == (⟨(Pn.encE y).toArray⟩ : ByteArray).toList) = (x.kind == y.kind && (x.node == y.node && (x.part == y.part && x.n == y.n))) := by
  rw [ByteArray.toList_eq, ByteArray.toList_eq]
  by_cases h : Pn.encE x = Pn.encE y
  · have h1 := Pn.dec_enc hx
    rw [h, Pn.dec_enc hy] at h1
    injection h1 with h1
    subst h1
    simp
  · have h1 : ¬ (x.kind = y.kind ∧ x.node = y.node ∧ x.part = y.part ∧ x.n = y.n) := by
      rintro ⟨e1, e2, e3, e4⟩
      obtain ⟨a, b, c, d⟩ := x
      obtain ⟨a', b', c', d'⟩ := y
      simp only at e1 e2 e3 e4
      subst e1 e2 e3 e4
      exact h rfl
    have e1 : ((⟨(Pn.encE x).toArray⟩ : ByteArray).data.toList == (⟨(Pn.encE y).toArray⟩ : ByteArray).data.toList) = false := by simp [h]
    rw [e1]
    symm
    by_cases g1 : x.kind = y.kind <;> by_cases g2 : x.node = y.node <;> by_cases g3 : x.part = y.part <;> by_cases g4 : x.n = y.n <;> simp_all
set_option maxHeartbeats 8000000 in
set_option maxRecDepth 100000 in
theorem back_any (x y : Pn.Ev) (s : ByteArray) (w : World) (lb : Lb w) (hs : s.size ≤ 140737488355328) : Calls Tryd.prog 4 #[evV x, evV y, .string s] w fun e w' => e = .returned (.bool true) ∧ Below w.heap.size w w' := by
  obtain ⟨k1, n1, p1, m1⟩ := x
  obtain ⟨k2, n2, p2, m2⟩ := y
  unfold evV
  simp only
  obtain ⟨W1, hW1⟩ : ∃ W, w.alloc (.cells #[.int .i64 k1, .int .i64 n1, .int .i64 p1, .int .i64 m1] 35) = W := ⟨_, rfl⟩
  obtain ⟨W2, hW2⟩ : ∃ W, W1.alloc (.cells #[.int .i64 k2, .int .i64 n2, .int .i64 p2, .int .i64 m2] 35) = W := ⟨_, rfl⟩
  have hb1 : Below w.heap.size w W1 := by rw [← hW1]; exact (Below.refl _ _).alloc (Nat.le_refl _) _
  have hb12 : Below W1.heap.size W1 W2 := by rw [← hW2]; exact (Below.refl _ _).alloc (Nat.le_refl _) _
  have kx : Blk W2 w.heap.size #[.int .i64 k1, .int .i64 n1, .int .i64 p1, .int .i64 m1] 35 := by
    refine Blk.below ?_ hb12
    rw [← hW1]; exact Blk.new _ _ _
  have ky : Blk W2 W1.heap.size #[.int .i64 k2, .int .i64 n2, .int .i64 p2, .int .i64 m2] 35 := by rw [← hW2]; exact Blk.new _ _ _
  have HB2 := Lib.hid (hb1.trans (hb12.mono hb1.size))
  have HKX := Lib.hid kx
  have HKY := Lib.hid ky
  have HLB : Hid (∀ wx, Below W2.heap.size W2 wx → Lb wx) := Lib.hid fun wx hb => lb.below lb.size (HB2.out.trans (hb.mono HB2.out.size))
  have HR2 := Lib.hid (Below.refl W2.heap.size W2)
  obtain ⟨VX, hVX⟩ : ∃ V, Pn.evB ⟨k1, n1, p1, m1⟩ = V := ⟨_, rfl⟩
  obtain ⟨VY, hVY⟩ : ∃ V, Pn.evB ⟨k2, n2, p2, m2⟩ = V := ⟨_, rfl⟩
  obtain ⟨cx, hcx⟩ : ∃ c : Int, (if VX = true then 0 else 1) = c := ⟨_, rfl⟩
  obtain ⟨cy, hcy⟩ : ∃ c : Int, (if VY = true then 0 else 1) = c := ⟨_, rfl⟩
  have HVX := Lib.hid hVX
  have HVY := Lib.hid hVY
  obtain ⟨X, hX⟩ : ∃ X : ByteArray, (⟨(if Pn.evB ⟨k1, n1, p1, m1⟩ = true then Pn.encE ⟨k1, n1, p1, m1⟩ else []).toArray⟩ : ByteArray) = X := ⟨_, rfl⟩
  obtain ⟨Y, hY⟩ : ∃ X : ByteArray, (⟨(if Pn.evB ⟨k2, n2, p2, m2⟩ = true then Pn.encE ⟨k2, n2, p2, m2⟩ else []).toArray⟩ : ByteArray) = X := ⟨_, rfl⟩
  have HEX : Hid (∀ wx, Below W2.heap.size W2 wx → Calls Tryd.prog 16 #[.agg #[.int .i64 k1, .int .i64 n1, .int .i64 p1, .int .i64 m1]] wx fun e w' => Below wx.heap.size wx w' ∧ e = .returned (.tuple #[.string X, .int .i64 cx])) := Lib.hid fun wx hb => by
    have h := encode_any ⟨k1, n1, p1, m1⟩ wx (HLB.out wx hb)
    unfold EncOut at h
    rw [hX, hVX, hcx] at h
    exact h
  have HEY : Hid (∀ wx, Below W2.heap.size W2 wx → Calls Tryd.prog 16 #[.agg #[.int .i64 k2, .int .i64 n2, .int .i64 p2, .int .i64 m2]] wx fun e w' => Below wx.heap.size wx w' ∧ e = .returned (.tuple #[.string Y, .int .i64 cy])) := Lib.hid fun wx hb => by
    have h := encode_any ⟨k2, n2, p2, m2⟩ wx (HLB.out wx hb)
    unfold EncOut at h
    rw [hY, hVY, hcy] at h
    exact h
  have HX := Lib.hid hX
  have HY := Lib.hid hY
  have HS := Lib.hid hs
  have HCX := Lib.hid hcx
  have HCY := Lib.hid hcy
  clear hb1 hb12 kx ky hVX hVY hX hY lb hs hcx hcy
  go_enter Tryd.func4, Tryd.ntmps4
  go_upto_region 1 with fail
  clear hW1 hW2
  go_wp2_with fail
  refine (awake_any W2 (HLB.out _ HR2.out)).mono ?_
  rintro e w3 ⟨rfl, hb3⟩
  have HB3 := Lib.hid hb3
  obtain ⟨c0, c1, c2, c3⟩ := (HKX.out.below hb3).cells4
  clear hb3
  go_wp2_with fail
  refine (HEX.out w3 HB3.out).mono ?_
  rintro e w4 ⟨hb4, rfl⟩
  have HB4 := Lib.hid (HB3.out.trans (hb4.mono HB3.out.size))
  clear c0 c1 c2 c3 hb4 HEX
  obtain ⟨d0, d1, d2, d3⟩ := (HKY.out.below HB4.out).cells4
  go_wp2_with fail
  refine (HEY.out w4 HB4.out).mono ?_
  rintro e w5 ⟨hb5, rfl⟩
  have HB5 := Lib.hid (HB4.out.trans (hb5.mono HB4.out.size))
  clear d0 d1 d2 d3 hb5 HEY
  obtain ⟨c0, c1, c2, c3⟩ := (HKX.out.below HB5.out).cells4
  obtain ⟨d0, d1, d2, d3⟩ := (HKY.out.below HB5.out).cells4
  have hgu := ev_guard
  have hlen : s.data.toList.length = s.size := Array.length_toList
  -- behind the comparison
  have HTAIL : Hid (∀ wx, Below W2.heap.size W2 wx → Calls Tryd.prog 17 #[.string s] wx fun e w' => DecOut wx (Pn.decE s.data.toList) e w') := Lib.hid fun wx hb => decode_any s wx (HLB.out wx hb) (by have := HS.out; omega)
  clear hlen
  go_upto_region 5 with fail
  go_cut [42] from 28 to 42 (fun sc wx => sc = .bool false ∧ Eqw2 w5 wx)
  case first =>
    cases VX with
    | false =>
      obtain rfl : cx = 1 := HCX.out.symm
      go_wp2_with fail
      go_meet
      case rel => exact ⟨rfl, rfl⟩
    | true =>
      obtain rfl : cx = 0 := HCX.out.symm
      cases VY with
      | false =>
        obtain rfl : cy = 1 := HCY.out.symm
        go_wp2_with fail
        go_meet
        case rel => exact ⟨rfl, rfl⟩
      | true =>
        obtain rfl : cy = 0 := HCY.out.symm
        obtain ⟨q, hq⟩ : ∃ q, (k1 == k2 && (n1 == n2 && (p1 == p2 && m1 == m2))) = q := ⟨_, rfl⟩
        have hXY : (X.toList == Y.toList) = q := by
          have h := enc_inj HVX.out HVY.out
          rw [← HX.out, ← HY.out, HVX.out, HVY.out, if_pos rfl, if_pos rfl, h]
          exact hq
        have hne : ∀ wx, (binOp .eql 35 (.agg #[.int .i64 k1, .int .i64 n1, .int .i64 p1, .int .i64 m1]) (.agg #[.int .i64 k2, .int .i64 n2, .int .i64 p2, .int .i64 m2])).run Tryd.prog wx = .ok (.bool q) wx := fun wx => by
          rw [← hq]
          exact ev_eql k1 n1 p1 m1 k2 n2 p2 m2 wx
        have hqq : (q != q) = false := by simp
        clear hq
        go_wp2_with fail
        go_meet
        case rel => exact ⟨rfl, rfl⟩
  case rest =>
  obtain ⟨rfl, hw⟩ := hcut
  have hw' : w5 = wc := hw.symm
  subst hw'
  clear hw d0 d1 d2 d3
  go_upto_if 44 with fail
  go_cut [11, 12] from 45 to 56 (fun _ _ wx => Below W2.heap.size W2 wx)
  case first =>
    cases VX with
    | false =>
      obtain rfl : cx = 1 := HCX.out.symm
      go_wp2_with fail
      go_meet
      case rel => exact HB5.out
    | true =>
      obtain rfl : cx = 0 := HCX.out.symm
      have HDX : Hid (∀ wx, Below W2.heap.size W2 wx → Calls Tryd.prog 17 #[.string X] wx fun e w' => Below wx.heap.size wx w' ∧ e = .returned (.tuple #[.agg #[.int .i64 k1, .int .i64 n1, .int .i64 p1, .int .i64 m1], .int .i64 0])) := Lib.hid fun wx hb => by
        have hXe : X = ⟨(Pn.encE ⟨k1, n1, p1, m1⟩).toArray⟩ := by rw [← HX.out, HVX.out, if_pos rfl]
        obtain ⟨r1, r2, r3, r4⟩ := Pn.ev_range HVX.out
        simp only at r1 r2 r3 r4
        have l1 := Lib.itoa_length_le k1 (by omega) (by omega)
        have l2 := Lib.itoa_length_le n1 (by omega) (by omega)
        have l3 := Lib.itoa_length_le p1 (by omega) (by omega)
        have l4 := Lib.itoa_length_le m1 (by omega) (by omega)
        have h := decode_any X wx (HLB.out wx hb) (by
          have e : X.size = (Pn.encE ⟨k1, n1, p1, m1⟩).length := by rw [hXe]; show (List.toArray _).size = _; simp
          rw [e]
          simp [Pn.encE, Pl.wInt]
          omega)
        unfold DecOut at h
        rw [show X.data.toList = Pn.encE ⟨k1, n1, p1, m1⟩ by rw [hXe], Pn.dec_enc HVX.out] at h
        exact h
      have hne : ∀ wx, (binOp .neq 35 (.agg #[.int .i64 k1, .int .i64 n1, .int .i64 p1, .int .i64 m1]) (.agg #[.int .i64 k1, .int .i64 n1, .int .i64 p1, .int .i64 m1])).run Tryd.prog wx = .ok (.bool false) wx := fun wx => by
        rw [ev_neq]
        simp
      clear c0 c1 c2 c3
      go_wp2_with fail
      refine (HDX.out w5 HB5.out).mono ?_
      rintro e w6 ⟨hb6, rfl⟩
      obtain ⟨W7, hW7⟩ : ∃ W, w6.alloc (.cells #[.int .i64 k1, .int .i64 n1, .int .i64 p1, .int .i64 m1] 35) = W := ⟨_, rfl⟩
      have hb7 : Below w6.heap.size w6 W7 := by rw [← hW7]; exact (Below.refl _ _).alloc (Nat.le_refl _) _
      have k7 : Blk W7 w6.heap.size #[.int .i64 k1, .int .i64 n1, .int .i64 p1, .int .i64 m1] 35 := by rw [← hW7]; exact Blk.new _ _ _
      have HB6 := Lib.hid (HB5.out.trans (hb6.mono HB5.out.size))
      have HB7 := Lib.hid (HB6.out.trans (hb7.mono HB6.out.size))
      obtain ⟨c0, c1, c2, c3⟩ := (HKX.out.below HB7.out).cells4
      obtain ⟨d0, d1, d2, d3⟩ := k7.cells4
      clear hb6 hb7 k7 HDX
      go_wp2_with fail
      go_meet
      case rel => exact HB7.out
  case rest =>
  have HBC := Lib.hid hcut
  clear hcut c0 c1 c2 c3
  obtain ⟨D, hD⟩ : ∃ D, Pn.decE s.data.toList = D := ⟨_, rfl⟩
  have HD := Lib.hid hD
  rw [hD] at HTAIL
  clear hD
  cases D with
  | none =>
    have hne : ∀ wx, (binOp .eql 35 (.agg #[.int .i64 0, .int .i64 0, .int .i64 0, .int .i64 0]) (.agg #[.int .i64 0, .int .i64 0, .int .i64 0, .int .i64 0])).run Tryd.prog wx = .ok (.bool true) wx := fun wx => by
      rw [ev_eql]
      simp
    go_wp2_with fail
    refine (HTAIL.out wc HBC.out).mono ?_
    rintro e w6 ⟨hb6, rfl⟩
    have HB6 := Lib.hid (HBC.out.trans (hb6.mono HBC.out.size))
    obtain ⟨W7, hW7⟩ : ∃ W, w6.alloc (.cells #[.int .i64 0, .int .i64 0, .int .i64 0, .int .i64 0] 35) = W := ⟨_, rfl⟩
    have hb7 : Below w6.heap.size w6 W7 := by rw [← hW7]; exact (Below.refl _ _).alloc (Nat.le_refl _) _
    have k7 : Blk W7 w6.heap.size #[.int .i64 0, .int .i64 0, .int .i64 0, .int .i64 0] 35 := by rw [← hW7]; exact Blk.new _ _ _
    obtain ⟨d0, d1, d2, d3⟩ := k7.cells4
    have HB7 := Lib.hid (HB6.out.trans (hb7.mono HB6.out.size))
    have HW7 := Lib.hid hW7
    clear hb6 hb7 k7 hW7
    unfold evV zeroE
    simp only [Option.getD_none]
    go_upto_region 12 with fail
    rw [HW7.out]
    clear HW7
    go_wp2_with fail
    go_ret
    exact ⟨rfl, HB2.out.trans (HB7.out.mono HB2.out.size)⟩
  | some c =>
    obtain ⟨k3, n3, p3, m3⟩ := c
    have HEN : Hid (∀ wx, Below W2.heap.size W2 wx → Calls Tryd.prog 16 #[.agg #[.int .i64 k3, .int .i64 n3, .int .i64 p3, .int .i64 m3]] wx fun e w' => Below wx.heap.size wx w' ∧ e = .returned (.tuple #[.string s, .int .i64 0])) := Lib.hid fun wx hb => by
      obtain ⟨e1, e2⟩ := Pn.enc_dec HD.out
      have h := encode_any ⟨k3, n3, p3, m3⟩ wx (HLB.out wx hb)
      unfold EncOut at h
      have e3 : (⟨(Pn.encE ⟨k3, n3, p3, m3⟩).toArray⟩ : ByteArray) = s := by rw [← e1]
      rw [e2, if_pos rfl, if_pos rfl, e3] at h
      exact h
    go_wp2_with fail
    refine (HTAIL.out wc HBC.out).mono ?_
    rintro e w6 ⟨hb6, rfl⟩
    have HB6 := Lib.hid (HBC.out.trans (hb6.mono HBC.out.size))
    obtain ⟨W7, hW7⟩ : ∃ W, w6.alloc (.cells #[.int .i64 k3, .int .i64 n3, .int .i64 p3, .int .i64 m3] 35) = W := ⟨_, rfl⟩
    have hb7 : Below w6.heap.size w6 W7 := by rw [← hW7]; exact (Below.refl _ _).alloc (Nat.le_refl _) _
    have k7 : Blk W7 w6.heap.size #[.int .i64 k3, .int .i64 n3, .int .i64 p3, .int .i64 m3] 35 := by rw [← hW7]; exact Blk.new _ _ _
    obtain ⟨d0, d1, d2, d3⟩ := k7.cells4
    have HB7 := Lib.hid (HB6.out.trans (hb7.mono HB6.out.size))
    clear hb6 hb7 k7
    unfold evV
    simp only [Option.getD_some]
    go_wp2_with fail
    refine (HEN.out W7 HB7.out).mono ?_
    rintro e w8 ⟨hb8, rfl⟩
    have HB8 := Lib.hid (HB7.out.trans (hb8.mono HB7.out.size))
    clear d0 d1 d2 d3 hb8
    have hss : (s.toList == s.toList) = true := by simp
    go_wp2_with fail
    go_ret
    exact ⟨rfl, HB2.out.trans (HB8.out.mono HB2.out.size)⟩
end Go.Proofs.YtmkinnheoejphaaDoor
