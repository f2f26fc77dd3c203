/- THE DOCUMENT'S Encode and Decode, the walk of PlanWrites. -/
import Derived.Test.YtmkinnheoejphaaGreatDoorLwK
import Derived.Test.YtmkinnheoejphaaGreatDoorEvR
import Derived.Test.YtmkinnheoejphaaGreatDoorRefDig
import Derived.Test.YtmkinnheoejphaaGreatDoorRefInt
import Derived.Lib.QuietBelow
import Derived.Laws.StructEq
import Derived.WalkLawsBesides
namespace Go.Proofs.YtmkinnheoejphaaGreatDoor
open Go.RowKit

set_option maxHeartbeats 4000000 in
set_option maxRecDepth 100000 in
theorem rencode_any (x : Pn.Ev) (w : World) : Calls Tryz.prog 20 #[.agg #[.int .i64 x.kind, .int .i64 x.node, .int .i64 x.part, .int .i64 x.n]] w fun e w' => EncOut w x e w' := by
  obtain ⟨kd, nd, pt, nn⟩ := x
  obtain ⟨V, hV⟩ : ∃ V, Pn.evB ⟨kd, nd, pt, nn⟩ = V := ⟨_, rfl⟩
  have HEV := Lib.hid fun wx => revent_any ⟨kd, nd, pt, nn⟩ wx
  have HEO : Hid (∀ e w', Below w.heap.size w w' → e = .returned (.tuple #[.string ⟨(if V = true then Pn.encE ⟨kd, nd, pt, nn⟩ else []).toArray⟩, .int .i64 (if V = true then 0 else 1)]) → EncOut w ⟨kd, nd, pt, nn⟩ e w') := Lib.hid fun e w' h1 h2 => by
    unfold EncOut
    rw [hV]
    exact ⟨h1, h2⟩
  rw [hV] at HEV
  have HV := Lib.hid hV
  clear hV
  have hw0 : Below w.heap.size w (w.alloc (.cells #[.int .i64 kd, .int .i64 nd, .int .i64 pt, .int .i64 nn] 27)) := (Below.refl _ _).alloc (Nat.le_refl _) _
  have hb0 := Blk.new w #[.int .i64 kd, .int .i64 nd, .int .i64 pt, .int .i64 nn] 27
  obtain ⟨W0, hW0⟩ : ∃ W0, w.alloc (.cells #[.int .i64 kd, .int .i64 nd, .int .i64 pt, .int .i64 nn] 27) = W0 := ⟨_, rfl⟩
  rw [hW0] at hw0 hb0
  have HE := Lib.hid hW0
  have HW0 := Lib.hid hw0
  have HB0 := Lib.hid hb0
  obtain ⟨c0, c1, c2, c3⟩ := hb0.cells4
  clear hw0 hb0 hW0
  go_enter Tryz.func20, Tryz.ntmps20
  go_upto_region 1 with fail
  rw [HE.out]
  clear HE
  go_wp2_with fail
  refine (HEV.out W0).mono ?_
  rintro e w1 ⟨rfl, hb1⟩
  have HB1 := Lib.hid hb1
  clear c0 c1 c2 c3 hb1 HEV
  cases V with
  | false =>
    go_wp2_with fail
    go_ret2
    exact HEO.out _ _ (HW0.out.trans (HB1.out.mono HW0.out.size)) rfl
  | true =>
    obtain ⟨r1, r2, r3, r4⟩ := Pn.ev_range HV.out
    simp only at r1 r2 r3 r4
    have HBW := Lib.hid (HW0.out.trans (HB1.out.mono HW0.out.size))
    obtain ⟨I1, hI1⟩ : ∃ S : ByteArray, (⟨(Pl.wInt kd).toArray⟩ : ByteArray) = S := ⟨_, rfl⟩
    obtain ⟨I2, hI2⟩ : ∃ S : ByteArray, (⟨(Pl.wInt nd).toArray⟩ : ByteArray) = S := ⟨_, rfl⟩
    obtain ⟨I3, hI3⟩ : ∃ S : ByteArray, (⟨(Pl.wInt pt).toArray⟩ : ByteArray) = S := ⟨_, rfl⟩
    obtain ⟨I4, hI4⟩ : ∃ S : ByteArray, (⟨(Pl.wInt nn).toArray⟩ : ByteArray) = S := ⟨_, rfl⟩
    have HC1 := Lib.hid fun d os => Calls.regrown_of (ref_int kd ⟨by omega, by omega⟩ (Sort.grow (redrawn w1 d) os))
    have HC2 := Lib.hid fun d os => Calls.regrown_of (ref_int nd ⟨by omega, by omega⟩ (Sort.grow (redrawn w1 d) os))
    have HC3 := Lib.hid fun d os => Calls.regrown_of (ref_int pt ⟨by omega, by omega⟩ (Sort.grow (redrawn w1 d) os))
    have HC4 := Lib.hid fun d os => Calls.regrown_of (ref_int nn ⟨by omega, by omega⟩ (Sort.grow (redrawn w1 d) os))
    rw [hI1] at HC1
    rw [hI2] at HC2
    rw [hI3] at HC3
    rw [hI4] at HC4
    have l1 := Lib.itoa_length_le kd (by omega) (by omega)
    have l2 := Lib.itoa_length_le nd (by omega) (by omega)
    have l3 := Lib.itoa_length_le pt (by omega) (by omega)
    have l4 := Lib.itoa_length_le nn (by omega) (by omega)
    have s1 : I1.size ≤ 40 := by rw [← hI1]; show (List.toArray _).size ≤ _; simp [Pl.wInt]; omega
    have s2 : I2.size ≤ 40 := by rw [← hI2]; show (List.toArray _).size ≤ _; simp [Pl.wInt]; omega
    have s3 : I3.size ≤ 40 := by rw [← hI3]; show (List.toArray _).size ≤ _; simp [Pl.wInt]; omega
    have s4 : I4.size ≤ 40 := by rw [← hI4]; show (List.toArray _).size ≤ _; simp [Pl.wInt]; omega
    have HRR : Hid ((⟨#[108]⟩ : ByteArray) ++ I1 ++ I2 ++ I3 ++ I4 ++ ⟨#[101]⟩ = ⟨(Pn.encE ⟨kd, nd, pt, nn⟩).toArray⟩) := Lib.hid (by
      rw [← hI1, ← hI2, ← hI3, ← hI4]
      have e1 : (⟨#[108]⟩ : ByteArray) = ⟨[108].toArray⟩ := rfl
      have e2 : (⟨#[101]⟩ : ByteArray) = ⟨[101].toArray⟩ := rfl
      rw [e1, e2, app_mk, app_mk, app_mk, app_mk, app_mk]
      simp [Pn.encE])
    obtain ⟨c0, c1, c2, c3⟩ := (HB0.out.below HB1.out).cells4
    have k0 := cell_regrown c0
    have k1 := cell_regrown c1
    have k2 := cell_regrown c2
    have k3 := cell_regrown c3
    clear hI1 hI2 hI3 hI4 r1 r2 r3 r4 l1 l2 l3 l4 c0 c1 c2 c3
    go_upto_region 3 with fail
    refine wp_region_quiet_below (by kernel_rfl) (by kernel_rfl) ?_
    repeat (go_big_quiet_step (first | (go_at_call 45; with_reducible exact HC1.out _ _) | (go_at_call 45; with_reducible exact HC2.out _ _) | (go_at_call 45; with_reducible exact HC3.out _ _) | (go_at_call 45; with_reducible exact HC4.out _ _)))
    refine wpQuiet_nil ?_
    intro w2 hw2
    obtain ⟨⟨dq, osq⟩, hw2'⟩ := hw2
    have HB2 : Hid (Below w1.heap.size w1 w2) := Lib.hid (by rw [hw2']; exact below_regrown w1 dq osq)
    clear hw2' HC1 HC2 HC3 HC4 k0 k1 k2 k3
    go_wp2_with fail
    go_ret2
    refine HEO.out _ _ (HBW.out.trans (HB2.out.mono HBW.out.size)) ?_
    simp only [if_true]
    rw [← HRR.out]
    rfl

theorem rundEvent_ret {W : World} {rb : Nat} {a0 a1 a2 a3 n : Value} {tmps : Array Value} (hb : Blk W rb #[a0, a1, a2, a3] 27) (h2 : tmps.getD 2 undef = .pointer (some ⟨rb, 0, none⟩)) (h3 : tmps.getD 3 undef = n) :
    (results Tryz.f22 tmps).run Tryz.prog W = .ok (.tuple #[.agg #[a0, a1, a2, a3], n]) W := by
  obtain ⟨d, hd, hs⟩ := undEvent
  rw [results_cell_tmp (p := 2) (u := 3) (ty := 27) rfl, h2, h3]
  have hl := run_loadVar_row (P := Tryz.prog) W rb 27 27 #[a0, a1, a2, a3] (0, 0) d hb hd (by cases d <;> exact hs) sizeEvent
  simp [asAddr, hl]
set_option maxHeartbeats 4000000 in
set_option maxRecDepth 100000 in
theorem rdecode_any (s : ByteArray) (w : World) (hs : s.size ≤ 281474976710656) : Calls Tryz.prog 22 #[.string s] w fun e w' => DecOut w (Pn.decE s.data.toList) e w' := by
  obtain ⟨l, hl⟩ : ∃ l, s.data.toList = l := ⟨_, rfl⟩
  rw [hl]
  have HL := Lib.hid hl
  have HS := Lib.hid hs
  obtain ⟨D, hD⟩ : ∃ D, Pn.decE l = D := ⟨_, rfl⟩
  rw [hD]
  obtain ⟨u0, hu0⟩ : ∃ u, St.byte 108 ⟨l, false⟩ = u := ⟨_, rfl⟩
  have HDD : Hid (D = if (Pn.restE u0).done = 0 ∧ Pn.evB (Pn.readE u0) = true then some (Pn.readE u0) else none) := Lib.hid (by rw [← hD, ← hu0]; rfl)
  have HU0 := Lib.hid hu0
  -- the answer's box, the empty one
  obtain ⟨W1, hW1⟩ : ∃ W, w.alloc (.cells #[.int .i64 0, .int .i64 0, .int .i64 0, .int .i64 0] 27) = W := ⟨_, rfl⟩
  have hb1 : Below w.heap.size w W1 := by rw [← hW1]; exact (Below.refl _ _).alloc (Nat.le_refl _) _
  have k1 : Blk W1 w.heap.size #[.int .i64 0, .int .i64 0, .int .i64 0, .int .i64 0] 27 := by rw [← hW1]; exact Blk.new _ _ _
  obtain ⟨W2, hW2⟩ : ∃ W, W1.alloc (.cells #[.int .i64 0, .int .i64 0, .int .i64 0, .int .i64 0] 27) = W := ⟨_, rfl⟩
  have hb2 : Below W1.heap.size W1 W2 := by rw [← hW2]; exact (Below.refl _ _).alloc (Nat.le_refl _) _
  have k2 : Blk W2 W1.heap.size #[.int .i64 0, .int .i64 0, .int .i64 0, .int .i64 0] 27 := by rw [← hW2]; exact Blk.new _ _ _
  obtain ⟨W3, hW3⟩ : ∃ W, W2.alloc (.cells #[.string s, .int .i64 0, .bool false] 76) = W := ⟨_, rfl⟩
  have hb3 : Below W2.heap.size W2 W3 := by rw [← hW3]; exact (Below.refl _ _).alloc (Nat.le_refl _) _
  have k3 : Rs W2.heap.size W3 s ⟨l, false⟩ := ⟨0, Nat.zero_le _, by rw [List.drop_zero, hl], by rw [← hW3]; exact Blk.new _ _ _⟩
  have HW1 := Lib.hid hW1
  have HW2 := Lib.hid hW2
  have HW3 := Lib.hid hW3
  have HB3 := Lib.hid (hb1.trans ((hb2.trans (hb3.mono hb2.size)).mono hb1.size))
  have HK1 := Lib.hid (k1.below (hb2.trans (hb3.mono hb2.size)))
  have HK2 := Lib.hid (k2.below hb3)
  have HR3 := Lib.hid k3
  have HLT : Hid (w.heap.size < W2.heap.size ∧ W1.heap.size < W2.heap.size) := Lib.hid ⟨by have := k1.lt; have := hb2.size; omega, k2.lt⟩
  clear hl hs hD hu0 hW1 hW2 hW3 hb1 hb2 hb3 k1 k2 k3
  go_enter Tryz.func22, Tryz.ntmps22
  go_upto_region 1 with fail
  rw [HW1.out]
  go_upto_region 2 with fail
  rw [HW2.out]
  go_upto_region 3 with fail
  rw [HW3.out]
  clear HW1 HW2 HW3
  obtain ⟨b1, hb1⟩ : ∃ b, w.heap.size = b := ⟨_, rfl⟩
  obtain ⟨b2, hb2⟩ : ∃ b, W1.heap.size = b := ⟨_, rfl⟩
  obtain ⟨rb, hrb⟩ : ∃ b, W2.heap.size = b := ⟨_, rfl⟩
  have HB1 := Lib.hid hb1
  rw [hb1] at HK1
  rw [hb2] at HK2
  rw [hb1, hb2, hrb] at HLT
  rw [hrb] at HR3
  rw [hb1, hb2, hrb]
  clear hb1 hb2 hrb
  go_wp2_with fail
  refine (rf_open rb s _ W3 HR3.out HS.out).mono ?_
  rintro e w4 ⟨rfl, hr4, hk4⟩
  rw [HU0.out] at hr4
  have HR4 := Lib.hid hr4
  have HB4 := Lib.hid (HB3.out.trans (hk4.below (by have := HLT.out; have := HB1.out; omega) HR3.out.lt))
  have HK14 := Lib.hid (HK1.out.kb hk4 (by have := HLT.out; omega))
  have HK24 := Lib.hid (HK2.out.kb hk4 (by have := HLT.out; omega))
  clear hr4 hk4 HR3 HB3 HK1 HK2
  obtain ⟨n1, hn1⟩ : ∃ n, u0.int.1 = n := ⟨_, rfl⟩
  obtain ⟨n2, hn2⟩ : ∃ n, u0.int.2.int.1 = n := ⟨_, rfl⟩
  obtain ⟨n3, hn3⟩ : ∃ n, u0.int.2.int.2.int.1 = n := ⟨_, rfl⟩
  obtain ⟨n4, hn4⟩ : ∃ n, u0.int.2.int.2.int.2.int.1 = n := ⟨_, rfl⟩
  have HRE : Hid (Pn.readE u0 = ⟨n1, n2, n3, n4⟩) := Lib.hid (by unfold Pn.readE; rw [hn1, hn2, hn3, hn4])
  have HN1 := Lib.hid hn1
  have HN2 := Lib.hid hn2
  have HN3 := Lib.hid hn3
  have HN4 := Lib.hid hn4
  clear hn1 hn2 hn3 hn4
  obtain ⟨W5, hW5⟩ : ∃ W, w4.alloc (.cells #[.int .i64 0, .int .i64 0, .int .i64 0, .int .i64 0] 27) = W := ⟨_, rfl⟩
  have hb5 : Below w4.heap.size w4 W5 := by rw [← hW5]; exact (Below.refl _ _).alloc (Nat.le_refl _) _
  have k5 : Blk W5 w4.heap.size #[.int .i64 0, .int .i64 0, .int .i64 0, .int .i64 0] 27 := by rw [← hW5]; exact Blk.new _ _ _
  have HW5 := Lib.hid hW5
  have HB5 := Lib.hid (HB4.out.trans (hb5.mono HB4.out.size))
  have HK5 := Lib.hid k5
  have HR5 := Lib.hid (HR4.out.same hb5)
  have HK15 := Lib.hid (HK14.out.below hb5)
  have HK25 := Lib.hid (HK24.out.below hb5)
  have HLE : Hid (b1 < w4.heap.size ∧ b2 < w4.heap.size ∧ rb < w4.heap.size) := Lib.hid ⟨HK14.out.lt, HK24.out.lt, HR4.out.lt⟩
  clear hW5 hb5 k5 HK14 HK24 HR4 HB4
  go_upto_region 5 with fail
  rw [HW5.out]
  clear HW5
  obtain ⟨b3, hb3⟩ : ∃ b, w4.heap.size = b := ⟨_, rfl⟩
  rw [hb3] at HK5 HLE ⊢
  clear hb3
  go_wp2_with fail
  refine (rf_int rb s _ W5 HR5.out HS.out).mono ?_
  rintro e w6 ⟨rfl, hr, hk⟩
  have HRx := Lib.hid hr
  have hkx := (HLE.out)
  have HBx := Lib.hid (HB5.out.trans (hk.below (by have := HLT.out; have := HB1.out; omega) HR5.out.lt))
  have HKx := Lib.hid (HK5.out.kb hk (by omega))
  have HK1x := Lib.hid (HK15.out.kb hk (by have := HLT.out; omega))
  have HK2x := Lib.hid (HK25.out.kb hk (by have := HLT.out; omega))
  clear hr hk HR5 HB5 HK5 HK15 HK25
  rw [HN1.out]
  obtain ⟨y0, y1, y2, y3⟩ := HKx.out.free4
  obtain ⟨c0, c1, c2, c3⟩ := HKx.out.cells4
  obtain ⟨W6, hW⟩ : ∃ W, w6.setCell ⟨b3, 0, none⟩ (.int .i64 n1) = W := ⟨_, rfl⟩
  have hk2 : Kb b3 w6 W6 := by rw [← hW]; exact Kb.setCell _ _
  have HR6 := Lib.hid (HRx.out.other hk2 (by omega))
  have HB6 := Lib.hid (HBx.out.trans (hk2.below (by have := HLT.out; have := HB1.out; omega) HKx.out.lt))
  have HK6 : Hid (Blk W6 b3 #[.int .i64 n1, .int .i64 0, .int .i64 0, .int .i64 0] 27) := Lib.hid (by rw [← hW]; exact HKx.out.set (i := 0) _)
  have HK16 := Lib.hid (HK1x.out.kb hk2 (by omega))
  have HK26 := Lib.hid (HK2x.out.kb hk2 (by omega))
  have HW6 := Lib.hid hW
  clear hW hk2 hkx HRx HBx HKx HK1x HK2x
  go_upto_region 6 with fail
  rw [HW6.out]
  clear HW6 c0 c1 c2 c3 y0 y1 y2 y3
  go_wp2_with fail
  refine (rf_int rb s _ W6 HR6.out HS.out).mono ?_
  rintro e w7 ⟨rfl, hr, hk⟩
  have HRx := Lib.hid hr
  have hkx := (HLE.out)
  have HBx := Lib.hid (HB6.out.trans (hk.below (by have := HLT.out; have := HB1.out; omega) HR6.out.lt))
  have HKx := Lib.hid (HK6.out.kb hk (by omega))
  have HK1x := Lib.hid (HK16.out.kb hk (by have := HLT.out; omega))
  have HK2x := Lib.hid (HK26.out.kb hk (by have := HLT.out; omega))
  clear hr hk HR6 HB6 HK6 HK16 HK26
  rw [HN2.out]
  obtain ⟨y0, y1, y2, y3⟩ := HKx.out.free4
  obtain ⟨c0, c1, c2, c3⟩ := HKx.out.cells4
  obtain ⟨W7, hW⟩ : ∃ W, w7.setCell ⟨b3, 1, none⟩ (.int .i64 n2) = W := ⟨_, rfl⟩
  have hk2 : Kb b3 w7 W7 := by rw [← hW]; exact Kb.setCell _ _
  have HR7 := Lib.hid (HRx.out.other hk2 (by omega))
  have HB7 := Lib.hid (HBx.out.trans (hk2.below (by have := HLT.out; have := HB1.out; omega) HKx.out.lt))
  have HK7 : Hid (Blk W7 b3 #[.int .i64 n1, .int .i64 n2, .int .i64 0, .int .i64 0] 27) := Lib.hid (by rw [← hW]; exact HKx.out.set (i := 1) _)
  have HK17 := Lib.hid (HK1x.out.kb hk2 (by omega))
  have HK27 := Lib.hid (HK2x.out.kb hk2 (by omega))
  have HW7 := Lib.hid hW
  clear hW hk2 hkx HRx HBx HKx HK1x HK2x
  go_upto_region 7 with fail
  rw [HW7.out]
  clear HW7 c0 c1 c2 c3 y0 y1 y2 y3
  go_wp2_with fail
  refine (rf_int rb s _ W7 HR7.out HS.out).mono ?_
  rintro e w8 ⟨rfl, hr, hk⟩
  have HRx := Lib.hid hr
  have hkx := (HLE.out)
  have HBx := Lib.hid (HB7.out.trans (hk.below (by have := HLT.out; have := HB1.out; omega) HR7.out.lt))
  have HKx := Lib.hid (HK7.out.kb hk (by omega))
  have HK1x := Lib.hid (HK17.out.kb hk (by have := HLT.out; omega))
  have HK2x := Lib.hid (HK27.out.kb hk (by have := HLT.out; omega))
  clear hr hk HR7 HB7 HK7 HK17 HK27
  rw [HN3.out]
  obtain ⟨y0, y1, y2, y3⟩ := HKx.out.free4
  obtain ⟨c0, c1, c2, c3⟩ := HKx.out.cells4
  obtain ⟨W8, hW⟩ : ∃ W, w8.setCell ⟨b3, 2, none⟩ (.int .i64 n3) = W := ⟨_, rfl⟩
  have hk2 : Kb b3 w8 W8 := by rw [← hW]; exact Kb.setCell _ _
  have HR8 := Lib.hid (HRx.out.other hk2 (by omega))
  have HB8 := Lib.hid (HBx.out.trans (hk2.below (by have := HLT.out; have := HB1.out; omega) HKx.out.lt))
  have HK8 : Hid (Blk W8 b3 #[.int .i64 n1, .int .i64 n2, .int .i64 n3, .int .i64 0] 27) := Lib.hid (by rw [← hW]; exact HKx.out.set (i := 2) _)
  have HK18 := Lib.hid (HK1x.out.kb hk2 (by omega))
  have HK28 := Lib.hid (HK2x.out.kb hk2 (by omega))
  have HW8 := Lib.hid hW
  clear hW hk2 hkx HRx HBx HKx HK1x HK2x
  go_upto_region 8 with fail
  rw [HW8.out]
  clear HW8 c0 c1 c2 c3 y0 y1 y2 y3
  go_wp2_with fail
  refine (rf_int rb s _ W8 HR8.out HS.out).mono ?_
  rintro e w9 ⟨rfl, hr, hk⟩
  have HRx := Lib.hid hr
  have hkx := (HLE.out)
  have HBx := Lib.hid (HB8.out.trans (hk.below (by have := HLT.out; have := HB1.out; omega) HR8.out.lt))
  have HKx := Lib.hid (HK8.out.kb hk (by omega))
  have HK1x := Lib.hid (HK18.out.kb hk (by have := HLT.out; omega))
  have HK2x := Lib.hid (HK28.out.kb hk (by have := HLT.out; omega))
  clear hr hk HR8 HB8 HK8 HK18 HK28
  rw [HN4.out]
  obtain ⟨y0, y1, y2, y3⟩ := HKx.out.free4
  obtain ⟨c0, c1, c2, c3⟩ := HKx.out.cells4
  obtain ⟨W9, hW⟩ : ∃ W, w9.setCell ⟨b3, 3, none⟩ (.int .i64 n4) = W := ⟨_, rfl⟩
  have hk2 : Kb b3 w9 W9 := by rw [← hW]; exact Kb.setCell _ _
  have HR9 := Lib.hid (HRx.out.other hk2 (by omega))
  have HB9 := Lib.hid (HBx.out.trans (hk2.below (by have := HLT.out; have := HB1.out; omega) HKx.out.lt))
  have HK9 : Hid (Blk W9 b3 #[.int .i64 n1, .int .i64 n2, .int .i64 n3, .int .i64 n4] 27) := Lib.hid (by rw [← hW]; exact HKx.out.set (i := 3) _)
  have HK19 := Lib.hid (HK1x.out.kb hk2 (by omega))
  have HK29 := Lib.hid (HK2x.out.kb hk2 (by omega))
  have HW9 := Lib.hid hW
  clear hW hk2 hkx HRx HBx HKx HK1x HK2x
  go_upto_region 9 with fail
  rw [HW9.out]
  clear HW9 c0 c1 c2 c3 y0 y1 y2 y3
  obtain ⟨V, hV⟩ : ∃ V, Pn.evB ⟨n1, n2, n3, n4⟩ = V := ⟨_, rfl⟩
  obtain ⟨K, hK⟩ : ∃ K, (Pn.restE u0).done = K := ⟨_, rfl⟩
  have HD2 : Hid (D = if K = 0 ∧ V = true then some ⟨n1, n2, n3, n4⟩ else none) := Lib.hid (by rw [HDD.out, HRE.out, hV, hK])
  have HEV := Lib.hid fun wx => revent_any ⟨n1, n2, n3, n4⟩ wx
  rw [hV] at HEV
  have HKK := Lib.hid hK
  clear hV hK HDD HN1 HN2 HN3 HN4
  go_wp2_with fail
  refine (rf_close rb s _ W9 HR9.out HS.out).mono ?_
  rintro e w10 ⟨rfl, hr10, hk10⟩
  have HR10 := Lib.hid hr10
  have hle := HLE.out
  have HB10 := Lib.hid (HB9.out.trans (hk10.below (by have := HLT.out; have := HB1.out; omega) HR9.out.lt))
  have HK10 := Lib.hid (HK9.out.kb hk10 (by omega))
  have HK110 := Lib.hid (HK19.out.kb hk10 (by have := HLT.out; omega))
  have HK210 := Lib.hid (HK29.out.kb hk10 (by have := HLT.out; omega))
  clear hr10 hk10 hle HR9 HB9 HK9 HK19 HK29
  go_wp2_with fail
  have hd : (u0.int.2.int.2.int.2.int.2.byte 101).done = K := HKK.out
  have RD := rf_done rb s _ w10 HR10.out HS.out
  rw [hd] at RD
  refine RD.mono ?_
  rintro e w11 ⟨rfl, hb11⟩
  have HB11 := Lib.hid (HB10.out.trans (hb11.mono HB10.out.size))
  have HK11 := Lib.hid (HK10.out.below hb11)
  have HKA := Lib.hid (HK110.out.below hb11)
  have HKE := Lib.hid (HK210.out.below hb11)
  clear hd RD hb11 HB10 HK10 HK110 HK210 HR10
  have HFIN : Hid (∀ wx, Below w11.heap.size w11 wx → ∀ a0 a1 a2 a3, Below w.heap.size w ((((wx.setCell ⟨b1, 0, none⟩ a0).setCell ⟨b1, 1, none⟩ a1).setCell ⟨b1, 2, none⟩ a2).setCell ⟨b1, 3, none⟩ a3)) := Lib.hid fun wx hb a0 a1 a2 a3 =>
    (HB11.out.trans (hb.mono HB11.out.size)).trans ((four_kb wx b1 a0 a1 a2 a3).below (Nat.le_of_eq HB1.out) (HKA.out.below hb).lt)
  by_cases hk : K = 0
  · have hkb : (K != 0) = false := by simp [hk]
    obtain ⟨c0, c1, c2, c3⟩ := HK11.out.cells4
    subst hk
    go_wp2_with fail
    refine (HEV.out w11).mono ?_
    rintro e w12 ⟨rfl, hb12⟩
    have HB12 := Lib.hid hb12
    have HKR2 := Lib.hid (HKA.out.below hb12)
    obtain ⟨y0, y1, y2, y3⟩ := HKR2.out.free4
    obtain ⟨z0, z1, z2, z3⟩ := HKR2.out.cells4
    obtain ⟨d0, d1, d2, d3⟩ := (HKE.out.below hb12).cells4
    clear c0 c1 c2 c3
    obtain ⟨c0, c1, c2, c3⟩ := (HK11.out.below hb12).cells4
    clear hb12
    cases V with
    | false =>
      have HR : Hid (D = none) := Lib.hid (by rw [HD2.out, if_neg (fun h => by cases h.2)])
      go_wp2_with fail
      refine bodyPost_ret (rundEvent_ret (Blk.four HKR2.out _ _ _ _) rfl rfl) rfl ?_
      rw [HR.out]
      exact ⟨HFIN.out _ HB12.out _ _ _ _, rfl⟩
    | true =>
      have HR : Hid (D = some ⟨n1, n2, n3, n4⟩) := Lib.hid (by rw [HD2.out, if_pos (by simp)])
      go_wp2_with fail
      refine bodyPost_ret (rundEvent_ret (Blk.four HKR2.out _ _ _ _) rfl rfl) rfl ?_
      rw [HR.out]
      exact ⟨HFIN.out _ HB12.out _ _ _ _, rfl⟩
  · have hkb : (K != 0) = true := by simp [hk]
    have HR : Hid (D = none) := Lib.hid (by rw [HD2.out, if_neg (fun h => hk h.1)])
    obtain ⟨y0, y1, y2, y3⟩ := HKA.out.free4
    obtain ⟨z0, z1, z2, z3⟩ := HKA.out.cells4
    obtain ⟨d0, d1, d2, d3⟩ := HKE.out.cells4
    clear hk
    go_wp2_with fail
    refine bodyPost_ret (rundEvent_ret (Blk.four HKA.out _ _ _ _) rfl rfl) rfl ?_
    rw [HR.out]
    exact ⟨HFIN.out _ (Below.refl _ _) _ _ _ _, rfl⟩

theorem ev_guard : Tryz.prog.eqGuardType Tryz.prog.depth 27 = false := by kernel_rfl
theorem ev_held : Tryz.prog.stoodInHeld 27 = false := by kernel_rfl
theorem ev_under : Tryz.prog.underlying 27 = some (.struct (Tryz.prog.fieldsOf 27)) := by kernel_rfl
set_option maxRecDepth 100000 in
theorem ev_eql (a b c d a' b' c' d' : Int) (wx : World) :
    (binOp .eql 27 (.agg #[.int .i64 a, .int .i64 b, .int .i64 c, .int .i64 d]) (.agg #[.int .i64 a', .int .i64 b', .int .i64 c', .int .i64 d'])).run Tryz.prog wx = .ok (.bool (a == a' && (b == b' && (c == c' && d == d')))) wx := by
  rw [run_eql_struct, show (10000 : Nat) = 9999 + 1 from rfl, run_equalIn_struct wx 9999 _ _ _ ev_under ev_held]
  go_simp
  by_cases h1 : a = a' <;> by_cases h2 : b = b' <;> by_cases h3 : c = c' <;> by_cases h4 : d = d' <;> simp [h1, h2, h3, h4]
set_option maxHeartbeats 8000000 in
set_option maxRecDepth 100000 in
theorem writes_any (x : Pn.Ev) (s : ByteArray) (w : World) (lb : Lb w) (hs : s.size ≤ 140737488355328) : Calls Tryz.prog 4 #[evV x, .string s] w fun e w' => e = .returned (.bool true) ∧ Below w.heap.size w w' := by
  obtain ⟨k1, n1, p1, m1⟩ := x
  unfold evV
  simp only
  obtain ⟨W2, hW2⟩ : ∃ W, w.alloc (.cells #[.int .i64 k1, .int .i64 n1, .int .i64 p1, .int .i64 m1] 27) = W := ⟨_, rfl⟩
  have hb2 : Below w.heap.size w W2 := by rw [← hW2]; exact (Below.refl _ _).alloc (Nat.le_refl _) _
  have kx : Blk W2 w.heap.size #[.int .i64 k1, .int .i64 n1, .int .i64 p1, .int .i64 m1] 27 := by rw [← hW2]; exact Blk.new _ _ _
  have HB2 := Lib.hid hb2
  have HKX := Lib.hid kx
  have HLB : Hid (∀ wx, Below W2.heap.size W2 wx → Lb wx) := Lib.hid fun wx hb => lb.below lb.size (HB2.out.trans (hb.mono HB2.out.size))
  have HR2 := Lib.hid (Below.refl W2.heap.size W2)
  obtain ⟨cx, hcx⟩ : ∃ c : Int, (if Pn.evB ⟨k1, n1, p1, m1⟩ = true then 0 else 1) = c := ⟨_, rfl⟩
  obtain ⟨X, hX⟩ : ∃ X : ByteArray, (⟨(if Pn.evB ⟨k1, n1, p1, m1⟩ = true then Pn.encE ⟨k1, n1, p1, m1⟩ else []).toArray⟩ : ByteArray) = X := ⟨_, rfl⟩
  have HEX : Hid (∀ wx, Below W2.heap.size W2 wx → Calls Tryz.prog 19 #[.agg #[.int .i64 k1, .int .i64 n1, .int .i64 p1, .int .i64 m1]] wx fun e w' => Below wx.heap.size wx w' ∧ e = .returned (.tuple #[.string X, .int .i64 cx])) := Lib.hid fun wx hb => by
    have h := encode_any ⟨k1, n1, p1, m1⟩ wx (HLB.out wx hb)
    unfold EncOut at h
    rw [hX, hcx] at h
    exact h
  have HRX : Hid (∀ wx, Calls Tryz.prog 20 #[.agg #[.int .i64 k1, .int .i64 n1, .int .i64 p1, .int .i64 m1]] wx fun e w' => Below wx.heap.size wx w' ∧ e = .returned (.tuple #[.string X, .int .i64 cx])) := Lib.hid fun wx => by
    have h := rencode_any ⟨k1, n1, p1, m1⟩ wx
    unfold EncOut at h
    rw [hX, hcx] at h
    exact h
  have hlen : s.data.toList.length = s.size := Array.length_toList
  obtain ⟨k3, n3, p3, m3, cd, HDX, HRD⟩ : ∃ k3 n3 p3 m3 cd : Int, Hid (∀ wx, Below W2.heap.size W2 wx → Calls Tryz.prog 21 #[.string s] wx fun e w' => Below wx.heap.size wx w' ∧ e = .returned (.tuple #[.agg #[.int .i64 k3, .int .i64 n3, .int .i64 p3, .int .i64 m3], .int .i64 cd])) ∧
      Hid (∀ wx, Calls Tryz.prog 22 #[.string s] wx fun e w' => Below wx.heap.size wx w' ∧ e = .returned (.tuple #[.agg #[.int .i64 k3, .int .i64 n3, .int .i64 p3, .int .i64 m3], .int .i64 cd])) := by
    have h1 := fun wx (hb : Below W2.heap.size W2 wx) => decode_any s wx (HLB.out wx hb) (by omega)
    have h2 := fun wx => rdecode_any s wx (by omega)
    unfold DecOut at h1 h2
    cases hD : Pn.decE s.data.toList with
    | none =>
      rw [hD] at h1 h2
      exact ⟨_, _, _, _, _, Lib.hid h1, Lib.hid h2⟩
    | some c =>
      rw [hD] at h1 h2
      exact ⟨_, _, _, _, _, Lib.hid h1, Lib.hid h2⟩
  have hne : ∀ wx, (binOp .eql 27 (.agg #[.int .i64 k3, .int .i64 n3, .int .i64 p3, .int .i64 m3]) (.agg #[.int .i64 k3, .int .i64 n3, .int .i64 p3, .int .i64 m3])).run Tryz.prog wx = .ok (.bool true) wx := fun wx => by
    rw [ev_eql]
    simp
  have HNE := Lib.hid hne
  clear hb2 kx lb hs hX hcx hlen hne
  go_enter Tryz.func4, Tryz.ntmps4
  go_upto_region 1 with fail
  clear hW2
  go_wp2_with fail
  refine (awake_any W2 (HLB.out _ HR2.out)).mono ?_
  rintro e w3 ⟨rfl, hb3⟩
  have HB3 := Lib.hid hb3
  obtain ⟨c0, c1, c2, c3⟩ := (HKX.out.below hb3).cells4
  clear hb3
  go_wp2_with fail
  refine (HEX.out w3 HB3.out).mono ?_
  rintro e w4 ⟨hb4, rfl⟩
  have HB4 := Lib.hid (HB3.out.trans (hb4.mono HB3.out.size))
  clear c0 c1 c2 c3 hb4 HEX
  obtain ⟨c0, c1, c2, c3⟩ := (HKX.out.below HB4.out).cells4
  go_wp2_with fail
  refine (HRX.out w4).mono ?_
  rintro e w5 ⟨hb5, rfl⟩
  have HB5 := Lib.hid (HB4.out.trans (hb5.mono HB4.out.size))
  clear c0 c1 c2 c3 hb5 HRX
  go_wp2_with fail
  refine (HDX.out w5 HB5.out).mono ?_
  rintro e w6 ⟨hb6, rfl⟩
  obtain ⟨W7, hW7⟩ : ∃ W, w6.alloc (.cells #[.int .i64 k3, .int .i64 n3, .int .i64 p3, .int .i64 m3] 27) = W := ⟨_, rfl⟩
  have hb7 : Below w6.heap.size w6 W7 := by rw [← hW7]; exact (Below.refl _ _).alloc (Nat.le_refl _) _
  have k7 : Blk W7 w6.heap.size #[.int .i64 k3, .int .i64 n3, .int .i64 p3, .int .i64 m3] 27 := by rw [← hW7]; exact Blk.new _ _ _
  have HB6 := Lib.hid (HB5.out.trans (hb6.mono HB5.out.size))
  have HB7 := Lib.hid (HB6.out.trans (hb7.mono HB6.out.size))
  have HK7 := Lib.hid k7
  have HW7 := Lib.hid hW7
  clear hb6 hb7 k7 hW7 HDX
  go_upto_region 6 with fail
  rw [HW7.out]
  clear HW7
  go_wp2_with fail
  refine (HRD.out W7).mono ?_
  rintro e w8 ⟨hb8, rfl⟩
  have HB8 := Lib.hid (HB7.out.trans (hb8.mono HB7.out.size))
  have HK8 := Lib.hid (HK7.out.below hb8)
  obtain ⟨W9, hW9⟩ : ∃ W, w8.alloc (.cells #[.int .i64 k3, .int .i64 n3, .int .i64 p3, .int .i64 m3] 27) = W := ⟨_, rfl⟩
  have hb9 : Below w8.heap.size w8 W9 := by rw [← hW9]; exact (Below.refl _ _).alloc (Nat.le_refl _) _
  have k9 : Blk W9 w8.heap.size #[.int .i64 k3, .int .i64 n3, .int .i64 p3, .int .i64 m3] 27 := by rw [← hW9]; exact Blk.new _ _ _
  have HB9 := Lib.hid (HB8.out.trans (hb9.mono HB8.out.size))
  have HK9 := Lib.hid (HK8.out.below hb9)
  have HKB := Lib.hid k9
  have HW9 := Lib.hid hW9
  clear hb8 hb9 k9 hW9 HRD HK7 HK8
  go_upto_region 7 with fail
  rw [HW9.out]
  clear HW9
  obtain ⟨c0, c1, c2, c3⟩ := HK9.out.cells4
  obtain ⟨d0, d1, d2, d3⟩ := HKB.out.cells4
  have hgu := ev_guard
  have hss : (X.toList == X.toList) = true := by simp
  have hcc : (cx == cx) = true := by simp
  have hdd : (cd == cd) = true := by simp
  have hne := HNE.out
  go_wp2_with fail
  go_ret
  exact ⟨rfl, HB2.out.trans (HB9.out.mono HB2.out.size)⟩
end Go.Proofs.YtmkinnheoejphaaGreatDoor
