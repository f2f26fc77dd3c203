/- THE CONTRACT OF Encode. -/
import Derived.Test.YtmkinnheoejphaaDoorWalk4
import Derived.Test.YtmkinnheoejphaaDoorPnC
import Derived.Test.YtmkinnheoejphaaDoorPnH
import Derived.Test.YtmkinnheoejphaaDoorQTail
namespace Go.Proofs.YtmkinnheoejphaaDoor
open Go.RowKit

/-- An event's bytes. -/
def Pn.encE (x : Pn.Ev) : List UInt8 := 108 :: (Pl.wInt x.kind ++ (Pl.wInt x.node ++ (Pl.wInt x.part ++ (Pl.wInt x.n ++ [101]))))
theorem Pn.ev_range {x : Pn.Ev} (h : Pn.evB x = true) : (0 ≤ x.kind ∧ x.kind ≤ 5) ∧ (0 ≤ x.node ∧ x.node ≤ 5) ∧ (0 ≤ x.part ∧ x.part ≤ 4) ∧ (0 ≤ x.n ∧ x.n ≤ 1073741824) := by
  unfold Pn.evB Pn.epB at h
  split at h
  · simp only [Bool.and_eq_true, decide_eq_true_eq] at h; omega
  split at h
  · simp only [Bool.and_eq_true, decide_eq_true_eq] at h; omega
  split at h
  · simp only [Bool.and_eq_true, decide_eq_true_eq] at h; omega
  split at h
  · simp only [Bool.and_eq_true, decide_eq_true_eq] at h; omega
  split at h
  · simp only [Bool.and_eq_true, decide_eq_true_eq] at h; omega
  · cases h
def EncOut (w : World) (x : Pn.Ev) (e : Ending) (w' : World) : Prop :=
  Below w.heap.size w w' ∧ e = .returned (.tuple #[.string ⟨(if Pn.evB x = true then Pn.encE x else []).toArray⟩, .int .i64 (if Pn.evB x = true then 0 else 1)])
set_option maxHeartbeats 4000000 in
set_option maxRecDepth 100000 in
theorem encode_any (x : Pn.Ev) (w : World) (lb : Lb w) : Calls Tryd.prog 16 #[.agg #[.int .i64 x.kind, .int .i64 x.node, .int .i64 x.part, .int .i64 x.n]] w fun e w' => EncOut w x e w' := by
  obtain ⟨kd, nd, pt, nn⟩ := x
  obtain ⟨V, hV⟩ : ∃ V, Pn.evB ⟨kd, nd, pt, nn⟩ = V := ⟨_, rfl⟩
  have HEV := Lib.hid fun wx => event_any ⟨kd, nd, pt, nn⟩ wx
  have HEO : Hid (∀ e w', Below w.heap.size w w' → e = .returned (.tuple #[.string ⟨(if V = true then Pn.encE ⟨kd, nd, pt, nn⟩ else []).toArray⟩, .int .i64 (if V = true then 0 else 1)]) → EncOut w ⟨kd, nd, pt, nn⟩ e w') := Lib.hid fun e w' h1 h2 => by
    unfold EncOut
    rw [hV]
    exact ⟨h1, h2⟩
  rw [hV] at HEV
  have HV := Lib.hid hV
  clear hV
  have hw0 : Below w.heap.size w (w.alloc (.cells #[.int .i64 kd, .int .i64 nd, .int .i64 pt, .int .i64 nn] 35)) := (Below.refl _ _).alloc (Nat.le_refl _) _
  have hb0 := Blk.new w #[.int .i64 kd, .int .i64 nd, .int .i64 pt, .int .i64 nn] 35
  obtain ⟨W0, hW0⟩ : ∃ W0, w.alloc (.cells #[.int .i64 kd, .int .i64 nd, .int .i64 pt, .int .i64 nn] 35) = W0 := ⟨_, rfl⟩
  rw [hW0] at hw0 hb0
  have HE := Lib.hid hW0
  have HW0 := Lib.hid hw0
  have HB0 := Lib.hid hb0
  have HLB := Lib.hid lb
  obtain ⟨c0, c1, c2, c3⟩ := hb0.cells4
  clear hw0 hb0 hW0 lb
  go_enter Tryd.func16, Tryd.ntmps16
  go_upto_region 1 with fail
  rw [HE.out]
  clear HE
  go_wp2_with fail
  refine (HEV.out W0).mono ?_
  rintro e w1 ⟨rfl, hb1⟩
  have HB1 := Lib.hid hb1
  clear c0 c1 c2 c3 hb1 HEV
  cases V with
  | false =>
    go_wp2_with fail
    go_ret2
    exact HEO.out _ _ (HW0.out.trans (HB1.out.mono HW0.out.size)) rfl
  | true =>
    obtain ⟨r1, r2, r3, r4⟩ := Pn.ev_range HV.out
    simp only at r1 r2 r3 r4
    have HBW := Lib.hid (HW0.out.trans (HB1.out.mono HW0.out.size))
    have hlbr : ∀ d os, Lb (Sort.grow (redrawn w1 d) os) := fun d os => HLB.out.below HLB.out.size (HBW.out.trans ((below_regrown w1 d os).mono HBW.out.size))
    obtain ⟨I1, hI1⟩ : ∃ S : ByteArray, (⟨(Pl.wInt kd).toArray⟩ : ByteArray) = S := ⟨_, rfl⟩
    obtain ⟨I2, hI2⟩ : ∃ S : ByteArray, (⟨(Pl.wInt nd).toArray⟩ : ByteArray) = S := ⟨_, rfl⟩
    obtain ⟨I3, hI3⟩ : ∃ S : ByteArray, (⟨(Pl.wInt pt).toArray⟩ : ByteArray) = S := ⟨_, rfl⟩
    obtain ⟨I4, hI4⟩ : ∃ S : ByteArray, (⟨(Pl.wInt nn).toArray⟩ : ByteArray) = S := ⟨_, rfl⟩
    obtain ⟨R, hR⟩ : ∃ S : ByteArray, (⟨(Pn.encE ⟨kd, nd, pt, nn⟩).toArray⟩ : ByteArray) = S := ⟨_, rfl⟩
    have HC1 := Lib.hid fun d os => Calls.regrown_of (bead_int kd ⟨by omega, by omega⟩ _ (hlbr d os))
    have HC2 := Lib.hid fun d os => Calls.regrown_of (bead_int nd ⟨by omega, by omega⟩ _ (hlbr d os))
    have HC3 := Lib.hid fun d os => Calls.regrown_of (bead_int pt ⟨by omega, by omega⟩ _ (hlbr d os))
    have HC4 := Lib.hid fun d os => Calls.regrown_of (bead_int nn ⟨by omega, by omega⟩ _ (hlbr d os))
    rw [hI1] at HC1
    rw [hI2] at HC2
    rw [hI3] at HC3
    rw [hI4] at HC4
    have HL : Hid (∀ (wx : World), Calls Tryd.prog 33 #[.slice (some ⟨wx.heap.size, 0, none⟩) 4 4] (wx.alloc (.cells #[.string I1, .string I2, .string I3, .string I4] 9)) fun e w' => e = .returned (.string R) ∧ Below wx.heap.size wx w') := Lib.hid fun wx => by
      have hb := Blk.new wx #[.string I1, .string I2, .string I3, .string I4] 9
      have hal : Below wx.heap.size wx (wx.alloc (.cells #[.string I1, .string I2, .string I3, .string I4] 9)) := (Below.refl _ _).alloc (Nat.le_refl _) _
      have l1 := Lib.itoa_length_le kd (by omega) (by omega)
      have l2 := Lib.itoa_length_le nd (by omega) (by omega)
      have l3 := Lib.itoa_length_le pt (by omega) (by omega)
      have l4 := Lib.itoa_length_le nn (by omega) (by omega)
      have hE : (108 :: (([I1, I2, I3, I4].map (·.data.toList)).flatten ++ [101])) = Pn.encE ⟨kd, nd, pt, nn⟩ := by
        rw [← hI1, ← hI2, ← hI3, ← hI4]
        simp [Pn.encE]
      have C := bead_list wx.heap.size 0 4 [I1, I2, I3, I4] _ (fun j x hj => by
        refine hb.cell ?_
        rw [Nat.zero_add]
        match j, hj with
        | 0, hj => obtain rfl := Option.some.inj hj; rfl
        | 1, hj => obtain rfl := Option.some.inj hj; rfl
        | 2, hj => obtain rfl := Option.some.inj hj; rfl
        | 3, hj => obtain rfl := Option.some.inj hj; rfl
        | j + 4, hj => simp at hj) hb.lt (show 4 ≤ 140737488355328 by decide) (Nat.le_refl 4) (by
          rw [← hI1, ← hI2, ← hI3, ← hI4]
          simp [Pl.wInt]
          omega)
      rw [hE, hR] at C
      exact C.mono fun e w' ⟨he, hbw⟩ => ⟨he, hal.trans (hbw.mono hal.size)⟩
    have HRR := Lib.hid hR
    obtain ⟨c0, c1, c2, c3⟩ := (HB0.out.below HB1.out).cells4
    have k0 := cell_regrown c0
    have k1 := cell_regrown c1
    have k2 := cell_regrown c2
    have k3 := cell_regrown c3
    clear hI1 hI2 hI3 hI4 hR hlbr r1 r2 r3 r4 c0 c1 c2 c3
    go_upto_region 3 with fail
    refine wp_region_below_tail 12 (by kernel_rfl) (by kernel_rfl) ?_
    simp only [List.take_succ_cons, List.take_zero, List.drop_succ_cons, List.drop_zero]
    repeat (go_big_quiet_step (first | (go_at_call 34; with_reducible exact HC1.out _ _) | (go_at_call 34; with_reducible exact HC2.out _ _) | (go_at_call 34; with_reducible exact HC3.out _ _) | (go_at_call 34; with_reducible exact HC4.out _ _)))
    refine wpQuiet_nil ?_
    intro w2 hw2
    obtain ⟨⟨dq, osq⟩, hw2'⟩ := hw2
    have HB2 : Hid (Below w1.heap.size w1 w2) := Lib.hid (by rw [hw2']; exact below_regrown w1 dq osq)
    clear hw2' HC1 HC2 HC3 HC4 k0 k1 k2 k3
    go_wp2_with fail
    refine (HL.out w2).mono ?_
    rintro e w3 ⟨rfl, b3⟩
    go_wp2_with fail
    go_ret2
    have hs1 := HBW.out.size
    have hb2 := HBW.out.trans (HB2.out.mono hs1)
    refine HEO.out _ _ (hb2.trans (b3.mono hb2.size)) ?_
    simp only [if_true]
    rw [HRR.out]
    rfl
end Go.Proofs.YtmkinnheoejphaaDoor
