/- NINE TEXTS IN ONE (mkz12.py). -/
import Derived.Test.YtmkinnheoejphaaGreatDoorWalk4
import Derived.Test.YtmkinnheoejphaaGreatDoorPnC
import Derived.Test.YtmkinnheoejphaaGreatDoorPnH
import Derived.Test.YtmkinnheoejphaaGreatDoorQTail
import Derived.Test.YtmkinnheoejphaaGreatDoorLwI
import Derived.Test.YtmkinnheoejphaaGreatDoorPnX
import Derived.Test.YtmkinnheoejphaaGreatDoorPnS2
import Derived.Deep.RegionHeld3
import Derived.Test.YtmkinnheoejphaaGreatDoorPnT
import Derived.Test.YtmkinnheoejphaaGreatDoorLift
import Derived.Deep.Slices
import Derived.Deep.Fields
import Derived.Carry
import Derived.ChangeArms
import Derived.Test.YtmkinnheoejphaaGreatDoorRLw
/- Readers, plainly: what stands there. Nothing here knows the program but the reader's state. -/
namespace Go.Proofs.YtmkinnheoejphaaGreatDoor
theorem int_len (u : St) : u.int.2.s.length ≤ u.s.length := by
  obtain ⟨s, bad⟩ := u
  cases bad with
  | true => exact Nat.le_refl _
  | false =>
    cases hr : Pl.rInt s with
    | none => simp [St.int, hr]
    | some p =>
      obtain ⟨n, r⟩ := p
      have e := (Pl.rInt_some hr).1
      simp [St.int, hr]
      rw [e]; simp
theorem byte_len (c : UInt8) (u : St) : (u.byte c).s.length ≤ u.s.length := by
  obtain ⟨s, bad⟩ := u
  cases bad with
  | true => exact Nat.le_refl _
  | false =>
    cases hr : Pl.rByte c s with
    | none => simp [St.byte, hr]
    | some r =>
      have e := Pl.rByte_some hr
      simp [St.byte, hr]
      rw [e]; simp
theorem int_64 (u : St) : Pl.I64 (St.int u).1 := by
  obtain ⟨l, bad⟩ := u
  cases bad with
  | true => exact ⟨by simp [St.int], by simp [St.int]⟩
  | false =>
    cases hr : Pl.rInt l with
    | none => simp [St.int, hr]; exact ⟨by omega, by omega⟩
    | some p => simp [St.int, hr]; exact (Pl.rInt_some hr).2
/-- Not wrong behind a byte: it stood there. -/
theorem byte_ok {c : UInt8} {u : St} (h : (u.byte c).bad = false) : u.bad = false ∧ u.s = c :: (u.byte c).s := by
  obtain ⟨s, bad⟩ := u
  cases bad with
  | true => simp [St.byte] at h
  | false =>
    cases hr : Pl.rByte c s with
    | none => simp [St.byte, hr] at h
    | some r =>
      have e := Pl.rByte_some hr
      simp [St.byte, hr]
      exact e
theorem int_ok {u : St} (h : u.int.2.bad = false) : u.bad = false ∧ u.s = Pl.wInt u.int.1 ++ u.int.2.s := by
  obtain ⟨s, bad⟩ := u
  cases bad with
  | true => simp [St.int] at h
  | false =>
    cases hr : Pl.rInt s with
    | none => simp [St.int, hr] at h
    | some p =>
      obtain ⟨n, r⟩ := p
      have e := (Pl.rInt_some hr).1
      simp [St.int, hr]
      exact e
theorem rByte_cons (c : UInt8) (r : List UInt8) : Pl.rByte c (c :: r) = some r := by
  unfold Pl.rByte
  simp
theorem byte_at (c : UInt8) (r : List UInt8) : St.byte c ⟨c :: r, false⟩ = ⟨r, false⟩ := by
  simp [St.byte, rByte_cons]
theorem int_at {n : Int} (h : Pl.I64 n) (r : List UInt8) : St.int ⟨Pl.wInt n ++ r, false⟩ = (n, ⟨r, false⟩) := by
  simp [St.int, Pl.rInt_w n h r]
theorem more_l (r : List UInt8) : St.more ⟨108 :: r, false⟩ = true := by simp [St.more]
theorem more_e (r : List UInt8) : St.more ⟨101 :: r, false⟩ = false := by simp [St.more]
theorem more_ok {u : St} (h : u.more = true) : u.bad = false := by
  obtain ⟨s, bad⟩ := u
  cases bad with
  | true => simp [St.more] at h
  | false => rfl
theorem done_ok {u : St} (h : u.done = 0) : u.bad = false ∧ u.s = [] := by
  obtain ⟨s, bad⟩ := u
  cases bad with
  | true => simp [St.done] at h
  | false =>
    cases s with
    | nil => exact ⟨rfl, rfl⟩
    | cons a r => simp [St.done] at h

theorem text_len (m : Int) (u : St) : (u.text m).2.s.length ≤ u.s.length := by
  obtain ⟨s, bad⟩ := u
  cases bad with
  | true => exact Nat.le_refl _
  | false =>
    cases hr : Pl.rText m s with
    | none => simp [St.text, hr]
    | some p =>
      obtain ⟨t, r⟩ := p
      have e := (Pl.rText_some hr).1
      simp [St.text, hr]
      rw [e]; simp
theorem text_short (m : Int) (u : St) (h : 0 ≤ m) : ((u.text m).1.length : Int) ≤ m := by
  obtain ⟨s, bad⟩ := u
  cases bad with
  | true => simpa [St.text] using h
  | false =>
    cases hr : Pl.rText m s with
    | none => simpa [St.text, hr] using h
    | some p =>
      obtain ⟨t, r⟩ := p
      have e := (Pl.rText_some hr).2.1
      simpa [St.text, hr] using e
theorem text_at {t : List UInt8} {m : Int} (h : (t.length : Int) ≤ m) (h2 : (t.length : Int) ≤ 9223372036854775807) (r : List UInt8) : St.text m ⟨Pl.wText t ++ r, false⟩ = (t, ⟨r, false⟩) := by
  simp [St.text, Pl.rText_w t m h h2 r]
theorem more_text (t r : List UInt8) : St.more ⟨Pl.wText t ++ r, false⟩ = true := by
  obtain ⟨c, k, e, hc⟩ := Pl.wText_head t
  rw [e]
  simp only [St.more, List.cons_append, Bool.not_false, Bool.true_and, bne_iff_ne, ne_eq]
  intro h
  subst h
  simp at hc
end Go.Proofs.YtmkinnheoejphaaGreatDoor
/- THE CONTRACT OF Encode. -/
namespace Go.Proofs.YtmkinnheoejphaaGreatDoor
open Go.RowKit

/-- An event's bytes. -/
def Pn.encE (x : Pn.Ev) : List UInt8 := 108 :: (Pl.wInt x.kind ++ (Pl.wInt x.node ++ (Pl.wInt x.part ++ (Pl.wInt x.n ++ [101]))))
theorem Pn.ev_range {x : Pn.Ev} (h : Pn.evB x = true) : (0 ≤ x.kind ∧ x.kind ≤ 5) ∧ (0 ≤ x.node ∧ x.node ≤ 5) ∧ (0 ≤ x.part ∧ x.part ≤ 4) ∧ (0 ≤ x.n ∧ x.n ≤ 1073741824) := by
  unfold Pn.evB Pn.epB at h
  split at h
  · simp only [Bool.and_eq_true, decide_eq_true_eq] at h; omega
  split at h
  · simp only [Bool.and_eq_true, decide_eq_true_eq] at h; omega
  split at h
  · simp only [Bool.and_eq_true, decide_eq_true_eq] at h; omega
  split at h
  · simp only [Bool.and_eq_true, decide_eq_true_eq] at h; omega
  split at h
  · simp only [Bool.and_eq_true, decide_eq_true_eq] at h; omega
  · cases h
def EncOut (w : World) (x : Pn.Ev) (e : Ending) (w' : World) : Prop :=
  Below w.heap.size w w' ∧ e = .returned (.tuple #[.string ⟨(if Pn.evB x = true then Pn.encE x else []).toArray⟩, .int .i64 (if Pn.evB x = true then 0 else 1)])
set_option maxHeartbeats 4000000 in
set_option maxRecDepth 100000 in
theorem encode_any (x : Pn.Ev) (w : World) (lb : Lb w) : Calls Tryz.prog 19 #[.agg #[.int .i64 x.kind, .int .i64 x.node, .int .i64 x.part, .int .i64 x.n]] w fun e w' => EncOut w x e w' := by
  obtain ⟨kd, nd, pt, nn⟩ := x
  obtain ⟨V, hV⟩ : ∃ V, Pn.evB ⟨kd, nd, pt, nn⟩ = V := ⟨_, rfl⟩
  have HEV := Lib.hid fun wx => event_any ⟨kd, nd, pt, nn⟩ wx
  have HEO : Hid (∀ e w', Below w.heap.size w w' → e = .returned (.tuple #[.string ⟨(if V = true then Pn.encE ⟨kd, nd, pt, nn⟩ else []).toArray⟩, .int .i64 (if V = true then 0 else 1)]) → EncOut w ⟨kd, nd, pt, nn⟩ e w') := Lib.hid fun e w' h1 h2 => by
    unfold EncOut
    rw [hV]
    exact ⟨h1, h2⟩
  rw [hV] at HEV
  have HV := Lib.hid hV
  clear hV
  have hw0 : Below w.heap.size w (w.alloc (.cells #[.int .i64 kd, .int .i64 nd, .int .i64 pt, .int .i64 nn] 27)) := (Below.refl _ _).alloc (Nat.le_refl _) _
  have hb0 := Blk.new w #[.int .i64 kd, .int .i64 nd, .int .i64 pt, .int .i64 nn] 27
  obtain ⟨W0, hW0⟩ : ∃ W0, w.alloc (.cells #[.int .i64 kd, .int .i64 nd, .int .i64 pt, .int .i64 nn] 27) = W0 := ⟨_, rfl⟩
  rw [hW0] at hw0 hb0
  have HE := Lib.hid hW0
  have HW0 := Lib.hid hw0
  have HB0 := Lib.hid hb0
  have HLB := Lib.hid lb
  obtain ⟨c0, c1, c2, c3⟩ := hb0.cells4
  clear hw0 hb0 hW0 lb
  go_enter Tryz.func19, Tryz.ntmps19
  go_upto_region 1 with fail
  rw [HE.out]
  clear HE
  go_wp2_with fail
  refine (HEV.out W0).mono ?_
  rintro e w1 ⟨rfl, hb1⟩
  have HB1 := Lib.hid hb1
  clear c0 c1 c2 c3 hb1 HEV
  cases V with
  | false =>
    go_wp2_with fail
    go_ret2
    exact HEO.out _ _ (HW0.out.trans (HB1.out.mono HW0.out.size)) rfl
  | true =>
    obtain ⟨r1, r2, r3, r4⟩ := Pn.ev_range HV.out
    simp only at r1 r2 r3 r4
    have HBW := Lib.hid (HW0.out.trans (HB1.out.mono HW0.out.size))
    have hlbr : ∀ d os, Lb (Sort.grow (redrawn w1 d) os) := fun d os => HLB.out.below HLB.out.size (HBW.out.trans ((below_regrown w1 d os).mono HBW.out.size))
    obtain ⟨I1, hI1⟩ : ∃ S : ByteArray, (⟨(Pl.wInt kd).toArray⟩ : ByteArray) = S := ⟨_, rfl⟩
    obtain ⟨I2, hI2⟩ : ∃ S : ByteArray, (⟨(Pl.wInt nd).toArray⟩ : ByteArray) = S := ⟨_, rfl⟩
    obtain ⟨I3, hI3⟩ : ∃ S : ByteArray, (⟨(Pl.wInt pt).toArray⟩ : ByteArray) = S := ⟨_, rfl⟩
    obtain ⟨I4, hI4⟩ : ∃ S : ByteArray, (⟨(Pl.wInt nn).toArray⟩ : ByteArray) = S := ⟨_, rfl⟩
    obtain ⟨R, hR⟩ : ∃ S : ByteArray, (⟨(Pn.encE ⟨kd, nd, pt, nn⟩).toArray⟩ : ByteArray) = S := ⟨_, rfl⟩
    have HC1 := Lib.hid fun d os => Calls.regrown_of (bead_int kd ⟨by omega, by omega⟩ _ (hlbr d os))
    have HC2 := Lib.hid fun d os => Calls.regrown_of (bead_int nd ⟨by omega, by omega⟩ _ (hlbr d os))
    have HC3 := Lib.hid fun d os => Calls.regrown_of (bead_int pt ⟨by omega, by omega⟩ _ (hlbr d os))
    have HC4 := Lib.hid fun d os => Calls.regrown_of (bead_int nn ⟨by omega, by omega⟩ _ (hlbr d os))
    rw [hI1] at HC1
    rw [hI2] at HC2
    rw [hI3] at HC3
    rw [hI4] at HC4
    have HL : Hid (∀ (wx : World), Calls Tryz.prog 43 #[.slice (some ⟨wx.heap.size, 0, none⟩) 4 4] (wx.alloc (.cells #[.string I1, .string I2, .string I3, .string I4] 9)) fun e w' => e = .returned (.string R) ∧ Below wx.heap.size wx w') := Lib.hid fun wx => by
      have hb := Blk.new wx #[.string I1, .string I2, .string I3, .string I4] 9
      have hal : Below wx.heap.size wx (wx.alloc (.cells #[.string I1, .string I2, .string I3, .string I4] 9)) := (Below.refl _ _).alloc (Nat.le_refl _) _
      have l1 := Lib.itoa_length_le kd (by omega) (by omega)
      have l2 := Lib.itoa_length_le nd (by omega) (by omega)
      have l3 := Lib.itoa_length_le pt (by omega) (by omega)
      have l4 := Lib.itoa_length_le nn (by omega) (by omega)
      have hE : (108 :: (([I1, I2, I3, I4].map (·.data.toList)).flatten ++ [101])) = Pn.encE ⟨kd, nd, pt, nn⟩ := by
        rw [← hI1, ← hI2, ← hI3, ← hI4]
        simp [Pn.encE]
      have C := bead_list wx.heap.size 0 4 [I1, I2, I3, I4] _ (fun j x hj => by
        refine hb.cell ?_
        rw [Nat.zero_add]
        match j, hj with
        | 0, hj => obtain rfl := Option.some.inj hj; rfl
        | 1, hj => obtain rfl := Option.some.inj hj; rfl
        | 2, hj => obtain rfl := Option.some.inj hj; rfl
        | 3, hj => obtain rfl := Option.some.inj hj; rfl
        | j + 4, hj => simp at hj) hb.lt (show 4 ≤ 140737488355328 by decide) (Nat.le_refl 4) (by
          rw [← hI1, ← hI2, ← hI3, ← hI4]
          simp [Pl.wInt]
          omega)
      rw [hE, hR] at C
      exact C.mono fun e w' ⟨he, hbw⟩ => ⟨he, hal.trans (hbw.mono hal.size)⟩
    have HRR := Lib.hid hR
    obtain ⟨c0, c1, c2, c3⟩ := (HB0.out.below HB1.out).cells4
    have k0 := cell_regrown c0
    have k1 := cell_regrown c1
    have k2 := cell_regrown c2
    have k3 := cell_regrown c3
    clear hI1 hI2 hI3 hI4 hR hlbr r1 r2 r3 r4 c0 c1 c2 c3
    go_upto_region 3 with fail
    refine wp_region_below_tail 12 (by kernel_rfl) (by kernel_rfl) ?_
    simp only [List.take_succ_cons, List.take_zero, List.drop_succ_cons, List.drop_zero]
    repeat (go_big_quiet_step (first | (go_at_call 44; with_reducible exact HC1.out _ _) | (go_at_call 44; with_reducible exact HC2.out _ _) | (go_at_call 44; with_reducible exact HC3.out _ _) | (go_at_call 44; with_reducible exact HC4.out _ _)))
    refine wpQuiet_nil ?_
    intro w2 hw2
    obtain ⟨⟨dq, osq⟩, hw2'⟩ := hw2
    have HB2 : Hid (Below w1.heap.size w1 w2) := Lib.hid (by rw [hw2']; exact below_regrown w1 dq osq)
    clear hw2' HC1 HC2 HC3 HC4 k0 k1 k2 k3
    go_wp2_with fail
    refine (HL.out w2).mono ?_
    rintro e w3 ⟨rfl, b3⟩
    go_wp2_with fail
    go_ret2
    have hs1 := HBW.out.size
    have hb2 := HBW.out.trans (HB2.out.mono hs1)
    refine HEO.out _ _ (hb2.trans (b3.mono hb2.size)) ?_
    simp only [if_true]
    rw [HRR.out]
    rfl
end Go.Proofs.YtmkinnheoejphaaGreatDoor
/- THE CONTRACT OF Decode; events there and back. -/
namespace Go.Proofs.YtmkinnheoejphaaGreatDoor
open Go.RowKit

/-- The event whose bytes these are. -/
def Pn.readE (u : St) : Pn.Ev := ⟨u.int.1, u.int.2.int.1, u.int.2.int.2.int.1, u.int.2.int.2.int.2.int.1⟩
def Pn.restE (u : St) : St := u.int.2.int.2.int.2.int.2.byte 101
def Pn.decE (s : List UInt8) : Option Pn.Ev := if (Pn.restE (St.byte 108 ⟨s, false⟩)).done = 0 ∧ Pn.evB (Pn.readE (St.byte 108 ⟨s, false⟩)) = true then some (Pn.readE (St.byte 108 ⟨s, false⟩)) else none
theorem Pn.dec_enc {x : Pn.Ev} (h : Pn.evB x = true) : Pn.decE (Pn.encE x) = some x := by
  obtain ⟨kd, nd, pt, nn⟩ := x
  obtain ⟨r1, r2, r3, r4⟩ := Pn.ev_range h
  simp only at r1 r2 r3 r4
  unfold Pn.decE Pn.encE Pn.restE Pn.readE
  rw [byte_at]
  simp only
  rw [int_at ⟨by omega, by omega⟩]
  simp only
  rw [int_at ⟨by omega, by omega⟩]
  simp only
  rw [int_at ⟨by omega, by omega⟩]
  simp only
  rw [int_at ⟨by omega, by omega⟩]
  simp only
  rw [byte_at, if_pos ⟨rfl, h⟩]
theorem Pn.enc_dec {s : List UInt8} {x : Pn.Ev} (h : Pn.decE s = some x) : s = Pn.encE x ∧ Pn.evB x = true := by
  unfold Pn.decE at h
  split at h
  · rename_i hc
    injection h with h
    obtain ⟨hb, hs⟩ := done_ok hc.1
    unfold Pn.restE at hb hs
    obtain ⟨b5, e5⟩ := byte_ok hb
    rw [hs] at e5
    obtain ⟨b4, e4⟩ := int_ok b5
    obtain ⟨b3, e3⟩ := int_ok b4
    obtain ⟨b2, e2⟩ := int_ok b3
    obtain ⟨b1, e1⟩ := int_ok b2
    obtain ⟨-, e0⟩ := byte_ok b1
    rw [e5] at e4
    rw [e4] at e3
    rw [e3] at e2
    rw [e2] at e1
    rw [e1] at e0
    simp only at e0
    refine ⟨?_, by rw [← h]; exact hc.2⟩
    rw [e0, ← h]
    rfl
  · cases h
theorem undEvent : ∃ d, Tryz.prog.underlying 27 = some d ∧ (match d with | .struct _ | .array _ _ => true | _ => false) = true := by
  have h : (Tryz.prog.underlying 27).map (fun d => match d with | .struct _ | .array _ _ => true | _ => false) = some true := by kernel_rfl
  cases hd : Tryz.prog.underlying 27 with
  | none => rw [hd] at h; cases h
  | some d => rw [hd] at h; exact ⟨d, rfl, Option.some.inj h⟩
theorem sizeEvent : (Tryz.prog.info? 27).map (·.size) = some 4 := by kernel_rfl
theorem decode_ret {W : World} {rb : Nat} {a0 a1 a2 a3 n : Value} {tmps : Array Value} (hb : Blk W rb #[a0, a1, a2, a3] 27) (h2 : tmps.getD 2 undef = .pointer (some ⟨rb, 0, none⟩)) (h3 : tmps.getD 3 undef = n) :
    (results Tryz.f21 tmps).run Tryz.prog W = .ok (.tuple #[.agg #[a0, a1, a2, a3], n]) W := by
  obtain ⟨d, hd, hs⟩ := undEvent
  rw [results_cell_tmp (p := 2) (u := 3) (ty := 27) rfl, h2, h3]
  have hl := run_loadVar_row (P := Tryz.prog) W rb 27 27 #[a0, a1, a2, a3] (0, 0) d hb hd (by cases d <;> exact hs) sizeEvent
  simp [asAddr, hl]
def zeroE : Pn.Ev := ⟨0, 0, 0, 0⟩
def evV (x : Pn.Ev) : Value := .agg #[.int .i64 x.kind, .int .i64 x.node, .int .i64 x.part, .int .i64 x.n]
def DecOut (w : World) (d : Option Pn.Ev) (e : Ending) (w' : World) : Prop :=
  Below w.heap.size w w' ∧ e = .returned (.tuple #[evV (d.getD zeroE), .int .i64 (match d with | some _ => 0 | none => 3)])
set_option maxHeartbeats 4000000 in
set_option maxRecDepth 100000 in
theorem decode_any (s : ByteArray) (w : World) (lb : Lb w) (hs : s.size ≤ 281474976710656) : Calls Tryz.prog 21 #[.string s] w fun e w' => DecOut w (Pn.decE s.data.toList) e w' := by
  have hlen : s.data.toList.length ≤ 281474976710656 := by rw [Array.length_toList]; exact hs
  obtain ⟨l, hl⟩ : ∃ l, s.data.toList = l := ⟨_, rfl⟩
  rw [hl] at hlen ⊢
  have HL := Lib.hid hl
  obtain ⟨D, hD⟩ : ∃ D, Pn.decE l = D := ⟨_, rfl⟩
  rw [hD]
  obtain ⟨u0, hu0⟩ : ∃ u, St.byte 108 ⟨l, false⟩ = u := ⟨_, rfl⟩
  have HDD : Hid (D = if (Pn.restE u0).done = 0 ∧ Pn.evB (Pn.readE u0) = true then some (Pn.readE u0) else none) := Lib.hid (by rw [← hD, ← hu0]; rfl)
  have HU0 := Lib.hid hu0
  have l0 : u0.s.length ≤ 281474976710656 := by rw [← hu0]; exact Nat.le_trans (byte_len _ _) hlen
  have l1 := Nat.le_trans (int_len u0) l0
  have l2 := Nat.le_trans (int_len u0.int.2) l1
  have l3 := Nat.le_trans (int_len u0.int.2.int.2) l2
  have l4 := Nat.le_trans (int_len u0.int.2.int.2.int.2) l3
  have HLN := Lib.hid (And.intro hlen (And.intro l0 (And.intro l1 (And.intro l2 (And.intro l3 l4)))))
  obtain ⟨W1, hW1⟩ : ∃ W, w.alloc (.cells #[.int .i64 0, .int .i64 0, .int .i64 0, .int .i64 0] 27) = W := ⟨_, rfl⟩
  have hb1 : Below w.heap.size w W1 := by rw [← hW1]; exact (Below.refl _ _).alloc (Nat.le_refl _) _
  have k1 : Blk W1 w.heap.size #[.int .i64 0, .int .i64 0, .int .i64 0, .int .i64 0] 27 := by rw [← hW1]; exact Blk.new _ _ _
  have HW1 := Lib.hid hW1
  have HB1 := Lib.hid hb1
  have HK1 := Lib.hid k1
  have HLB1 := Lib.hid (lb.below lb.size hb1)
  clear hl hD hu0 hlen l0 l1 l2 l3 l4 hW1 hb1 k1 lb
  go_enter Tryz.func21, Tryz.ntmps21
  go_upto_region 1 with fail
  rw [HW1.out]
  clear HW1
  go_wp2_with fail
  refine (rd_new s W1).mono ?_
  rintro e w2 ⟨rfl, hr2, hb2⟩
  rw [HL.out] at hr2
  have HR2 := Lib.hid hr2
  have HB2 := Lib.hid hb2
  have HLT : Hid (w.heap.size < W1.heap.size) := Lib.hid HK1.out.lt
  clear hr2 hb2
  go_wp2_with fail
  refine (rd_open _ _ w2 HR2.out HLN.out.1).mono ?_
  rintro e w3 ⟨rfl, hr3, hk3⟩
  rw [HU0.out] at hr3
  have HR3 := Lib.hid hr3
  have HB3 := Lib.hid (HB2.out.trans (hk3.below (Nat.le_refl _) HR2.out.lt))
  clear hr3 hk3
  have hlb : Hid (∀ wx, Below W1.heap.size W1 wx → Lb wx) := Lib.hid fun wx hb => HLB1.out.below HLB1.out.size hb
  go_wp2_with fail
  refine (rd_int _ u0 w3 (hlb.out _ HB3.out) HR3.out HLN.out.2.1).mono ?_
  rintro e w4 ⟨rfl, hr4, hk4⟩
  have HR4 := Lib.hid hr4
  have HB4 := Lib.hid (HB3.out.trans (hk4.below (Nat.le_refl _) HR3.out.lt))
  clear hr4 hk4
  go_wp2_with fail
  refine (rd_int _ _ w4 (hlb.out _ HB4.out) HR4.out HLN.out.2.2.1).mono ?_
  rintro e w5 ⟨rfl, hr5, hk5⟩
  have HR5 := Lib.hid hr5
  have HB5 := Lib.hid (HB4.out.trans (hk5.below (Nat.le_refl _) HR4.out.lt))
  clear hr5 hk5
  go_wp2_with fail
  refine (rd_int _ _ w5 (hlb.out _ HB5.out) HR5.out HLN.out.2.2.2.1).mono ?_
  rintro e w6 ⟨rfl, hr6, hk6⟩
  have HR6 := Lib.hid hr6
  have HB6 := Lib.hid (HB5.out.trans (hk6.below (Nat.le_refl _) HR5.out.lt))
  clear hr6 hk6
  go_wp2_with fail
  refine (rd_int _ _ w6 (hlb.out _ HB6.out) HR6.out HLN.out.2.2.2.2.1).mono ?_
  rintro e w7 ⟨rfl, hr7, hk7⟩
  have HR7 := Lib.hid hr7
  have HB7 := Lib.hid (HB6.out.trans (hk7.below (Nat.le_refl _) HR6.out.lt))
  clear hr7 hk7
  obtain ⟨n1, hn1⟩ : ∃ n, u0.int.1 = n := ⟨_, rfl⟩
  obtain ⟨n2, hn2⟩ : ∃ n, u0.int.2.int.1 = n := ⟨_, rfl⟩
  obtain ⟨n3, hn3⟩ : ∃ n, u0.int.2.int.2.int.1 = n := ⟨_, rfl⟩
  obtain ⟨n4, hn4⟩ : ∃ n, u0.int.2.int.2.int.2.int.1 = n := ⟨_, rfl⟩
  have HRE : Hid (Pn.readE u0 = ⟨n1, n2, n3, n4⟩) := Lib.hid (by unfold Pn.readE; rw [hn1, hn2, hn3, hn4])
  rw [hn1, hn2, hn3, hn4]
  obtain ⟨V, hV⟩ : ∃ V, Pn.evB ⟨n1, n2, n3, n4⟩ = V := ⟨_, rfl⟩
  obtain ⟨K, hK⟩ : ∃ K, (Pn.restE u0).done = K := ⟨_, rfl⟩
  have HD2 : Hid (D = if K = 0 ∧ V = true then some ⟨n1, n2, n3, n4⟩ else none) := Lib.hid (by rw [HDD.out, HRE.out, hV, hK])
  have HEV := Lib.hid fun wx => event_any ⟨n1, n2, n3, n4⟩ wx
  rw [hV] at HEV
  have HKK := Lib.hid hK
  clear hn1 hn2 hn3 hn4 hV hK HDD
  obtain ⟨W8, hW8⟩ : ∃ W, w7.alloc (.cells #[.int .i64 n1, .int .i64 n2, .int .i64 n3, .int .i64 n4] 27) = W := ⟨_, rfl⟩
  have hb8 : Below w7.heap.size w7 W8 := by rw [← hW8]; exact (Below.refl _ _).alloc (Nat.le_refl _) _
  have k8 : Blk W8 w7.heap.size #[.int .i64 n1, .int .i64 n2, .int .i64 n3, .int .i64 n4] 27 := by rw [← hW8]; exact Blk.new _ _ _
  have HW8 := Lib.hid hW8
  have HR8 := Lib.hid (HR7.out.same hb8)
  have HB8 := Lib.hid (HB7.out.trans (hb8.mono HB7.out.size))
  have HK8 := Lib.hid k8
  clear hW8 hb8 k8
  go_upto_region 4 with fail
  rw [HW8.out]
  clear HW8
  go_wp2_with fail
  refine (rd_close _ _ W8 HR8.out HLN.out.2.2.2.2.2).mono ?_
  rintro e w9 ⟨rfl, hr9, hk9⟩
  have HR9 := Lib.hid hr9
  have HB9 := Lib.hid (HB8.out.trans (hk9.below (Nat.le_refl _) HR8.out.lt))
  have HK9 := Lib.hid (HK8.out.kb hk9 (by have := HR7.out.lt; omega))
  clear hr9 hk9
  go_wp2_with fail
  have hd : (u0.int.2.int.2.int.2.int.2.byte 101).done = K := HKK.out
  have RD := rd_done _ _ w9 HR9.out
  rw [hd] at RD
  refine RD.mono ?_
  rintro e w10 ⟨rfl, rfl⟩
  have HBW := Lib.hid (HB1.out.trans (HB9.out.mono HB1.out.size))
  have HKR := Lib.hid (HK1.out.below HB9.out)
  have hfin : ∀ wx (d : Option Pn.Ev), Below w9.heap.size w9 wx → ∀ a0 a1 a2 a3, Below w.heap.size w ((((wx.setCell ⟨w.heap.size, 0, none⟩ a0).setCell ⟨w.heap.size, 1, none⟩ a1).setCell ⟨w.heap.size, 2, none⟩ a2).setCell ⟨w.heap.size, 3, none⟩ a3) := fun wx d hb a0 a1 a2 a3 =>
    (HBW.out.trans (hb.mono HBW.out.size)).trans ((four_kb wx w.heap.size a0 a1 a2 a3).below (Nat.le_refl _) (HKR.out.below hb).lt)
  have HFIN := Lib.hid hfin
  have HR0 := Lib.hid (Below.refl w9.heap.size w9)
  clear hd RD hfin hlb
  by_cases hk : K = 0
  · have hkb : (K != 0) = false := by simp [hk]
    obtain ⟨c0, c1, c2, c3⟩ := HK9.out.cells4
    subst hk
    go_wp2_with fail
    refine (HEV.out w9).mono ?_
    rintro e w11 ⟨rfl, hb11⟩
    have HB11 := Lib.hid hb11
    have HKR2 := Lib.hid (HKR.out.below hb11)
    obtain ⟨y0, y1, y2, y3⟩ := HKR2.out.free4
    obtain ⟨z0, z1, z2, z3⟩ := HKR2.out.cells4
    clear c0 c1 c2 c3
    obtain ⟨c0, c1, c2, c3⟩ := (HK9.out.below hb11).cells4
    clear hb11
    cases V with
    | false =>
      have HR : Hid (D = none) := Lib.hid (by rw [HD2.out, if_neg (fun h => by cases h.2)])
      go_wp2_with fail
      refine bodyPost_ret (decode_ret (Blk.four HKR2.out _ _ _ _) rfl rfl) rfl ?_
      rw [HR.out]
      exact ⟨HFIN.out _ none HB11.out _ _ _ _, rfl⟩
    | true =>
      have HR : Hid (D = some ⟨n1, n2, n3, n4⟩) := Lib.hid (by rw [HD2.out, if_pos (by simp)])
      go_wp2_with fail
      refine bodyPost_ret (decode_ret (Blk.four HKR2.out _ _ _ _) rfl rfl) rfl ?_
      rw [HR.out]
      exact ⟨HFIN.out _ none HB11.out _ _ _ _, rfl⟩
  · have hkb : (K != 0) = true := by simp [hk]
    have HR : Hid (D = none) := Lib.hid (by rw [HD2.out, if_neg (fun h => hk h.1)])
    obtain ⟨y0, y1, y2, y3⟩ := HKR.out.free4
    obtain ⟨z0, z1, z2, z3⟩ := HKR.out.cells4
    clear hk
    go_wp2_with fail
    refine bodyPost_ret (decode_ret (Blk.four HKR.out _ _ _ _) rfl rfl) rfl ?_
    rw [HR.out]
    exact ⟨HFIN.out _ none HR0.out _ _ _ _, rfl⟩
end Go.Proofs.YtmkinnheoejphaaGreatDoor
/- THE CONTRACT of the document's Same, of two plans that are the same. -/
namespace Go.Proofs.YtmkinnheoejphaaGreatDoor
open Go.RowKit

set_option maxHeartbeats 4000000 in
set_option maxRecDepth 100000 in
theorem same_true {A B : Nat → Prop} (pu pv : Value) (p : Pn.P) (w : World) (hu : PlR A w pu p) (hv : PlR B w pv p) (hl : p.parts.length ≤ 64) (hll : p.lives.length ≤ 64) (hc : ∀ x ∈ p.parts, x.ch.length ≤ 64) :
    Calls Tryz.prog 11 #[pu, pv] w fun e w' => BolOut w true e w' := by
  obtain ⟨nodes, copies, parts, lives⟩ := p
  obtain ⟨s1, l1, rfl, hs1, hl1⟩ := hu
  obtain ⟨s2, l2, rfl, hs2, hl2⟩ := hv
  unfold plv
  simp only at hs1 hl1 hs2 hl2 hl hll hc ⊢
  obtain ⟨a1, c1, rfl⟩ := hs1.form
  obtain ⟨a2, c2, rfl⟩ := hs2.form
  obtain ⟨d1, f1, rfl⟩ := hl1.form
  obtain ⟨d2, f2, rfl⟩ := hl2.form
  obtain ⟨m, hm⟩ : ∃ n, parts.length = n := ⟨_, rfl⟩
  obtain ⟨q, hq⟩ : ∃ n, lives.length = n := ⟨_, rfl⟩
  have HS1 : Hid (∀ wx, Below w.heap.size w wx → PsR A wx (.slice a1 m c1) parts) := Lib.hid fun wx hb => by rw [← hm]; exact hs1.below hb
  have HS2 : Hid (∀ wx, Below w.heap.size w wx → PsR B wx (.slice a2 m c2) parts) := Lib.hid fun wx hb => by rw [← hm]; exact hs2.below hb
  have HL1 : Hid (∀ wx, Below w.heap.size w wx → Lvs A wx (.slice d1 q f1) lives) := Lib.hid fun wx hb => by rw [← hq]; exact hl1.below hb
  have HL2 : Hid (∀ wx, Below w.heap.size w wx → Lvs B wx (.slice d2 q f2) lives) := Lib.hid fun wx hb => by rw [← hq]; exact hl2.below hb
  have HM := Lib.hid hm
  have HQ := Lib.hid hq
  have HC := Lib.hid hc
  rw [hm] at hl ⊢
  rw [hq] at hll ⊢
  obtain ⟨W1, hW1⟩ : ∃ W, w.alloc (.cells #[.int .i64 nodes, .int .i64 copies, .slice a1 m c1, .slice d1 q f1] 25) = W := ⟨_, rfl⟩
  obtain ⟨W2, hW2⟩ : ∃ W, W1.alloc (.cells #[.int .i64 nodes, .int .i64 copies, .slice a2 m c2, .slice d2 q f2] 25) = W := ⟨_, rfl⟩
  have hb1 : Below w.heap.size w W1 := by rw [← hW1]; exact (Below.refl _ _).alloc (Nat.le_refl _) _
  have hb12 : Below W1.heap.size W1 W2 := by rw [← hW2]; exact (Below.refl _ _).alloc (Nat.le_refl _) _
  have k1 : Blk W2 w.heap.size #[.int .i64 nodes, .int .i64 copies, .slice a1 m c1, .slice d1 q f1] 25 := by
    refine Blk.below ?_ hb12
    rw [← hW1]; exact Blk.new _ _ _
  have k2 : Blk W2 W1.heap.size #[.int .i64 nodes, .int .i64 copies, .slice a2 m c2, .slice d2 q f2] 25 := by rw [← hW2]; exact Blk.new _ _ _
  have hb2 := hb1.trans (hb12.mono hb1.size)
  have HB2 := Lib.hid hb2
  have HK1 := Lib.hid k1
  have HK2 := Lib.hid k2
  have HR2 := Lib.hid (Below.refl W2.heap.size W2)
  obtain ⟨x0, x1, x2, x3⟩ := k1.cells4
  obtain ⟨y0, y1, y2, y3⟩ := k2.cells4
  clear hb1 hb12 k1 k2 hb2 hs1 hs2 hl1 hl2 hc hm hq
  go_enter Tryz.func11, Tryz.ntmps11
  go_upto_region 3 with fail
  go_wp2_with fail
  clear x0 x1 x2 x3 y0 y1 y2 y3 hW1 hW2
  go_loopw [5] (fun iv wr => ∃ i : Nat, i ≤ m ∧ iv = .int .i64 i ∧ Below W2.heap.size W2 wr) (fun iv _ => m - (intOf iv).toNat)
  case atStart => exact ⟨0, Nat.zero_le _, rfl, HR2.out⟩
  case round =>
    obtain ⟨i, hi, rfl, hb⟩ := hrel
    have HB := Lib.hid hb
    obtain ⟨x0, x1, x2, x3⟩ := (HK1.out.below hb).cells4
    obtain ⟨y0, y1, y2, y3⟩ := (HK2.out.below hb).cells4
    clear hb
    by_cases hlt : i < m
    · have HBW := Lib.hid (HB2.out.trans (HB.out.mono HB2.out.size))
      obtain ⟨x, hx⟩ : ∃ x, parts[i]? = some x := ⟨_, List.getElem?_eq_getElem (by rw [HM.out]; exact hlt)⟩
      obtain ⟨b1, p1, k1, v1, e1, -, -, n1, g0, g1, g2⟩ := (HS1.out _ HBW.out).at hx
      obtain ⟨b2, p2, k2, v2, e2, -, -, n2, h0, h1, h2⟩ := (HS2.out _ HBW.out).at hx
      rw [HM.out] at e1 e2
      obtain rfl : a1 = some ⟨b1, p1, none⟩ := by injection e1
      obtain rfl : a2 = some ⟨b2, p2, none⟩ := by injection e2
      have i0 : (0 : Int) ≤ (i : Int) := by omega
      have i1 : (i : Int) < (m : Int) := by omega
      have hpl := fun d os => Calls.regrown_of (places_any x x v1 v2 _ (n1.below (below_regrown wr d os)) (n2.below (below_regrown wr d os)) (HC.out x (List.mem_of_getElem? hx)))
      rw [Pn.ptB_self] at hpl
      obtain ⟨xe, xc, xl⟩ := x
      unfold ptv at hpl
      simp only at g0 g1 g2 h0 h1 h2 n1 n2 hpl
      obtain ⟨a3, c3, rfl⟩ := n1.form
      obtain ⟨a4, c4, rfl⟩ := n2.form
      have HPL := Lib.hid hpl
      have kx2 := cell_regrown x2
      have ky2 := cell_regrown y2
      have kg0 := cell_regrown g0
      have kg1 := cell_regrown g1
      have kg2 := cell_regrown g2
      have kh0 := cell_regrown h0
      have kh1 := cell_regrown h1
      have kh2 := cell_regrown h2
      clear hpl n1 n2 hx e1 e2
      go_upto_region 6 with fail
      clear x0 x1 x2 x3 y0 y1 y2 y3 g0 g1 g2 h0 h1 h2
      refine wp_region_quiet_below (by kernel_rfl) (by kernel_rfl) ?_
      repeat (go_big_quiet_step ((go_at_call 38; with_reducible exact HPL.out _ _)))
      refine wpQuiet_nil ?_
      intro w3 hw3
      obtain ⟨⟨dq, osq⟩, hw3'⟩ := hw3
      have H3 : Hid (Below W2.heap.size W2 w3) := Lib.hid (HB.out.trans (by rw [hw3']; exact (below_regrown wr dq osq).mono HB.out.size))
      clear hw3' HPL kx2 ky2 kg0 kg1 kg2 kh0 kh1 kh2
      go_wp2_with fail
      go_roundw
      case rel => exact ⟨i + 1, by omega, by go_num, H3.out⟩
      case measure => simp [intOf]; omega
    · have hlt2 := hlt
      clear hlt2
      go_wp2_with fail
      go_loopw [6] (fun iv wr2 => ∃ i : Nat, i ≤ q ∧ iv = .int .i64 i ∧ Below W2.heap.size W2 wr2) (fun iv _ => q - (intOf iv).toNat)
      case atStart => exact ⟨0, Nat.zero_le _, rfl, HB.out⟩
      case round =>
        obtain ⟨j, hj, rfl, hb⟩ := hrel
        have HBJ := Lib.hid hb
        clear x0 x1 x2 x3 y0 y1 y2 y3
        obtain ⟨x0, x1, x2, x3⟩ := (HK1.out.below hb).cells4
        obtain ⟨y0, y1, y2, y3⟩ := (HK2.out.below hb).cells4
        clear hb
        by_cases hlt : j < q
        · have HBW := Lib.hid (HB2.out.trans (HBJ.out.mono HB2.out.size))
          obtain ⟨x, hx⟩ : ∃ x, lives[j]? = some x := ⟨_, List.getElem?_eq_getElem (by rw [HQ.out]; exact hlt)⟩
          obtain ⟨b1, p1, k1, e1, -, -, g0, g1⟩ := (HL1.out _ HBW.out).at hx
          obtain ⟨b2, p2, k2, e2, -, -, h0, h1⟩ := (HL2.out _ HBW.out).at hx
          rw [HQ.out] at e1 e2
          obtain rfl : d1 = some ⟨b1, p1, none⟩ := by injection e1
          obtain rfl : d2 = some ⟨b2, p2, none⟩ := by injection e2
          have i0 : (0 : Int) ≤ (j : Int) := by omega
          have i1 : (j : Int) < (q : Int) := by omega
          clear e1 e2 hx
          go_upto_region 11 with fail
          go_quiet (fail)
          go_wp2_with fail
          go_roundw
          case rel => exact ⟨j + 1, by omega, by go_num, HBJ.out.trans ((below_drewN _ _).mono (Nat.le_refl _))⟩
          case measure => simp [intOf]; omega
        · go_wp2_with fail
          go_ret
          exact ⟨rfl, HB2.out.trans (HBJ.out.mono HB2.out.size)⟩
end Go.Proofs.YtmkinnheoejphaaGreatDoor
/- THE CONTRACTS that the laws use of Apply, of awake. -/
namespace Go.Proofs.YtmkinnheoejphaaGreatDoor
open Go.RowKit

theorem Pn.GoodG.lives_len {p : Pn.P} (h : Pn.GoodG p) : p.lives.length ≤ 5 := by
  have hl := Pn.lay_iff.1 h.lay
  obtain ⟨h1, h2⟩ := (Pn.lives_iff _ _ _).1 h.lv
  have h3 := Pn.nodup_len 5 (p.lives.map fun q => q.1) (by
    unfold List.Nodup
    rw [List.pairwise_map]
    exact h1.imp fun hab e => by omega) (fun n hn => by
    obtain ⟨q, hq, rfl⟩ := List.mem_map.1 hn
    have := h2 q hq
    omega)
  rw [List.length_map] at h3
  exact h3
theorem Pn.GoodG.ch_len {p : Pn.P} (h : Pn.GoodG p) : ∀ x ∈ p.parts, x.ch.length ≤ 5 := fun x hx => by
  have hl := Pn.lay_iff.1 h.lay
  have hp := h.pl x hx
  exact Pn.nodup_len 5 x.ch hp.nd fun n hn => by have := hp.nds n hn; omega
theorem Pn.GoodG.parts_len {p : Pn.P} (h : Pn.GoodG p) : 2 ≤ p.parts.length ∧ p.parts.length ≤ 4 := by have := Pn.lay_iff.1 h.lay; omega
namespace Pn
def rp : R → P
  | .bad _ => zeroP
  | .ok q _ => q
def rt : R → List Nat
  | .bad _ => []
  | .ok _ t => t
def rc : R → Int
  | .bad c => c
  | .ok _ _ => 0
end Pn
/-- A plan's value. -/
def plV (p : Pn.P) (sa : Option Addr) (sc : Nat) (la : Option Addr) (lc : Nat) : Value := .agg #[.int .i64 p.nodes, .int .i64 p.copies, .slice sa p.parts.length sc, .slice la p.lives.length lc]
theorem PlR.val {A : Nat → Prop} {w : World} {pv : Value} {p : Pn.P} (h : PlR A w pv p) : ∃ sa sc la lc, pv = plV p sa sc la lc := by
  obtain ⟨sv, lv, rfl, h1, h2⟩ := h
  obtain ⟨a, c, rfl⟩ := h1.form
  obtain ⟨b, d, rfl⟩ := h2.form
  exact ⟨a, c, b, d, rfl⟩
/-- What Apply answers, as the laws take it. -/
def ApL (w : World) (R : Pn.R) (e : Ending) (w' : World) : Prop :=
  Below w.heap.size w w' ∧ ∃ sa sc la lc ta tc, e = .returned (.tuple #[plV (Pn.rp R) sa sc la lc, .slice ta (Pn.nums (Pn.rt R)).length tc, .int .i64 (Pn.rc R)]) ∧ PlR (fun b => w.heap.size ≤ b) w' (plV (Pn.rp R) sa sc la lc) (Pn.rp R) ∧ Ns (fun b => w.heap.size ≤ b) w' (.slice ta (Pn.nums (Pn.rt R)).length tc) (Pn.nums (Pn.rt R))
theorem lapply {A : Nat → Prop} (pv : Value) (p : Pn.P) (kd nd pt nn : Int) (w : World) (h : PlR A w pv p) (hg : Pn.GoodG p) :
    Calls Tryz.prog 7 #[pv, .agg #[.int .i64 kd, .int .i64 nd, .int .i64 pt, .int .i64 nn]] w fun e w' => ApL w (Pn.apply p ⟨kd, nd, pt, nn⟩) e w' := by
  refine (apply_any pv p ⟨kd, nd, pt, nn⟩ w h (by have := hg.parts_len; omega) (by have := hg.lives_len; omega) (fun x hx => by have := hg.ch_len x hx; omega)).mono ?_
  intro e w' ⟨hb, h2⟩
  refine ⟨hb, ?_⟩
  cases hR : Pn.apply p ⟨kd, nd, pt, nn⟩ with
  | bad c =>
    rw [hR] at h2
    exact ⟨_, _, _, _, _, _, h2, PlR.zero _ _, Ns.nil _ _⟩
  | ok q t =>
    rw [hR] at h2
    obtain ⟨pv', tv, gt, rfl, h3, h4⟩ := h2
    obtain ⟨sa, sc, la, lc, rfl⟩ := h3.rd.val
    obtain ⟨ta, tc, rfl⟩ := h4.ns.form
    exact ⟨_, _, _, _, _, _, rfl, h3.rd, h4.ns⟩
theorem lgood {A : Nat → Prop} (pv : Value) (p : Pn.P) (w : World) (h : PlR A w pv p) (hg : Pn.GoodG p) : Calls Tryz.prog 13 #[pv] w fun e w' => BolOut w true e w' := by
  have h1 := good_any pv p w h (by have := hg.parts_len; omega) (by have := hg.lives_len; omega) (fun x hx => by have := hg.ch_len x hx; omega)
  rw [Pn.good_iff.2 hg] at h1
  exact h1
theorem llife {A : Nat → Prop} (pv : Value) (p : Pn.P) (n : Int) (w : World) (h : PlR A w pv p) (hg : Pn.GoodG p) : Calls Tryz.prog 15 #[pv, .int .i64 n] w fun e w' => NumOut w (Pn.life p.lives n) e w' :=
  life_any pv p n w h (by have := hg.lives_len; omega)
theorem lsame {A B : Nat → Prop} (pu pv : Value) (p : Pn.P) (w : World) (hu : PlR A w pu p) (hv : PlR B w pv p) (hg : Pn.GoodG p ∨ p = Pn.zeroP) : Calls Tryz.prog 11 #[pu, pv] w fun e w' => BolOut w true e w' := by
  rcases hg with hg | rfl
  · exact same_true pu pv p w hu hv (by have := hg.parts_len; omega) (by have := hg.lives_len; omega) (fun x hx => by have := hg.ch_len x hx; omega)
  · exact same_true pu pv _ w hu hv (by simp [Pn.zeroP]) (by simp [Pn.zeroP]) (fun x hx => by simp [Pn.zeroP] at hx)
theorem PlO.begun {z : Nat} {w : World} {pv : Value} {p : Pn.P} (h : PlO z w pv p) : ∃ sa sc la lc, pv = plV p sa sc la lc ∧ PlR (fun b => z ≤ b) w (plV p sa sc la lc) p := by
  obtain ⟨sa, sc, la, lc, rfl⟩ := h.rd.val
  exact ⟨sa, sc, la, lc, rfl, h.rd⟩
theorem aw_lay : Pn.layB 3 2 2 = true := by decide
theorem aw_new : Pn.new 3 2 2 = ⟨3, 2, [⟨1, [1, 2], 0⟩, ⟨1, [2, 3], 0⟩], []⟩ := by kernel_rfl
theorem aw_good : Pn.GoodG ⟨3, 2, [⟨1, [1, 2], 0⟩, ⟨1, [2, 3], 0⟩], []⟩ := by rw [← aw_new]; exact Pn.new_good aw_lay
theorem aw_apply : Pn.apply ⟨3, 2, [⟨1, [1, 2], 0⟩, ⟨1, [2, 3], 0⟩], []⟩ ⟨2, 2, 0, 0⟩ = .ok ⟨3, 2, [⟨2, [1], 0⟩, ⟨2, [3], 0⟩], []⟩ [0, 1] := by kernel_rfl
theorem aw_ev : Pn.evB ⟨1, 2, 0, 9⟩ = true := by decide
theorem aw_enc : Pn.encE ⟨1, 2, 0, 9⟩ = [108, 105, 49, 101, 105, 50, 101, 105, 48, 101, 105, 57, 101, 101] := by kernel_rfl
end Go.Proofs.YtmkinnheoejphaaGreatDoor
/- THE CONTRACT of the laws' awake. -/
namespace Go.Proofs.YtmkinnheoejphaaGreatDoor
open Go.RowKit

theorem PlR.ps {A : Nat → Prop} {w : World} {a b s l : Value} {p : Pn.P} (h : PlR A w (.agg #[a, b, s, l]) p) : PsR A w s p.parts ∧ Lvs A w l p.lives := by
  obtain ⟨sv, lv, e, h1, h2⟩ := h
  unfold plv at e
  injection e with e
  simp only [Array.mk.injEq, List.cons.injEq, and_true] at e
  obtain ⟨-, -, rfl, rfl⟩ := e
  exact ⟨h1, h2⟩
theorem cell_below {w w' : World} {b o : Nat} {v : Value} (hb : Below w.heap.size w w') (h : w.cell? ⟨b, o, none⟩ = some v) : w'.cell? ⟨b, o, none⟩ = some v :=
  (Below.cell (p := ⟨b, o, none⟩) hb (block_lt_of_cell h)).trans h
theorem ints_lit {A : Nat → Prop} (u : Value) (xs : List Int) (n : Nat) (hn : xs.length = n) (w : World) (hu : Ns A w u xs) (hl : n ≤ 64) :
    Calls Tryz.prog 12 #[u, .slice (some ⟨w.heap.size, 0, none⟩) n n] (w.alloc (.cells (xs.map (Value.int .i64)).toArray 3)) fun e w' => e = .returned (.bool true) ∧ Below w.heap.size w w' := by
  have hb : Below w.heap.size w (w.alloc (.cells (xs.map (Value.int .i64)).toArray 3)) := (Below.refl _ _).alloc (Nat.le_refl _) _
  subst hn
  refine (ints_any u _ xs xs _ (hu.below hb) (Rds.lit (w := w) (n := xs.length) (size := 1) (cs := xs.map (Value.int .i64)) 3 (by simp)) (by omega)).mono ?_
  rintro e w' ⟨rfl, k, rfl⟩
  exact ⟨by rw [decide_eq_true rfl], hb.trans ((below_drewN _ k).mono hb.size)⟩
abbrev awS : ByteArray := ⟨#[108, 105, 49, 101, 105, 50, 101, 105, 48, 101, 105, 57, 101, 101]⟩
set_option maxHeartbeats 4000000 in
set_option maxRecDepth 100000 in
theorem awake_any (w : World) (lb : Lb w) : Calls Tryz.prog 5 #[] w fun e w' => e = .returned (.bool true) ∧ Below w.heap.size w w' := by
  have HLB : Hid (∀ wx, Below w.heap.size w wx → Lb wx) := Lib.hid fun wx hb => lb.below lb.size hb
  have HN : Hid (Calls Tryz.prog 9 #[.agg #[.int .i64 3, .int .i64 0, .int .i64 2, .int .i64 2, .int .i64 0, .int .i64 0, .int .i64 0, .int .i64 0]] w fun e w' => Below w.heap.size w w' ∧ ∃ sa sc la lc, e = .returned (.tuple #[.agg #[.int .i64 3, .int .i64 2, .slice sa 2 sc, .slice la 0 lc], .int .i64 0]) ∧ PlR (fun b => w.heap.size ≤ b) w' (.agg #[.int .i64 3, .int .i64 2, .slice sa 2 sc, .slice la 0 lc]) ⟨3, 2, [⟨1, [1, 2], 0⟩, ⟨1, [2, 3], 0⟩], []⟩) := Lib.hid (by
    have h := new_any 3 0 2 2 0 0 0 0 w
    unfold NewOut at h
    rw [aw_lay, aw_new] at h
    refine h.mono ?_
    rintro e w' ⟨hb, pv, rfl, hp⟩
    obtain ⟨sa, sc, la, lc, rfl⟩ := hp.rd.val
    exact ⟨hb, sa, sc, la, lc, rfl, hp.rd⟩)
  have HA : Hid (∀ (A : Nat → Prop) pv wx, PlR A wx pv ⟨3, 2, [⟨1, [1, 2], 0⟩, ⟨1, [2, 3], 0⟩], []⟩ → Calls Tryz.prog 7 #[pv, .agg #[.int .i64 2, .int .i64 2, .int .i64 0, .int .i64 0]] wx fun e w' => Below wx.heap.size wx w' ∧ ∃ sa sc la lc ta tc, e = .returned (.tuple #[.agg #[.int .i64 3, .int .i64 2, .slice sa 2 sc, .slice la 0 lc], .slice ta 2 tc, .int .i64 0]) ∧ PlR (fun b => wx.heap.size ≤ b) w' (.agg #[.int .i64 3, .int .i64 2, .slice sa 2 sc, .slice la 0 lc]) ⟨3, 2, [⟨2, [1], 0⟩, ⟨2, [3], 0⟩], []⟩) := Lib.hid fun A pv wx hp => by
    have h := lapply pv _ 2 2 0 0 wx hp aw_good
    rw [aw_apply] at h
    refine h.mono ?_
    rintro e w' ⟨hb, sa, sc, la, lc, ta, tc, rfl, h1, h2⟩
    exact ⟨hb, sa, sc, la, lc, ta, tc, rfl, h1⟩
  have HE : Hid (∀ wx, Below w.heap.size w wx → Calls Tryz.prog 19 #[.agg #[.int .i64 1, .int .i64 2, .int .i64 0, .int .i64 9]] wx fun e w' => Below wx.heap.size wx w' ∧ e = .returned (.tuple #[.string awS, .int .i64 0])) := Lib.hid fun wx hb => by
    have h := encode_any ⟨1, 2, 0, 9⟩ wx (HLB.out wx hb)
    unfold EncOut at h
    rw [aw_ev, aw_enc] at h
    exact h
  have HD : Hid (∀ wx, Below w.heap.size w wx → Calls Tryz.prog 21 #[.string awS] wx fun e w' => Below wx.heap.size wx w' ∧ e = .returned (.tuple #[.agg #[.int .i64 1, .int .i64 2, .int .i64 0, .int .i64 9], .int .i64 0])) := Lib.hid fun wx hb => by
    have h := decode_any awS wx (HLB.out wx hb) (by decide)
    unfold DecOut at h
    rw [show Pn.decE awS.data.toList = some ⟨1, 2, 0, 9⟩ by rw [show awS.data.toList = Pn.encE ⟨1, 2, 0, 9⟩ from aw_enc.symm]; exact Pn.dec_enc aw_ev] at h
    exact h
  have HX0 := Lib.hid (Below.refl w.heap.size w)
  clear lb
  go_enter Tryz.func5, Tryz.ntmps5
  go_wp2_with fail
  refine HN.out.mono ?_
  rintro e w1 ⟨hb1, sa, sc, la, lc, rfl, hp1⟩
  have HP1 := Lib.hid hp1
  have HB1 := Lib.hid hb1
  clear hb1 hp1
  go_upto_region 2 with fail
  obtain ⟨W2, hW2⟩ : ∃ W, w1.alloc (.cells #[.int .i64 3, .int .i64 2, .slice sa 2 sc, .slice la 0 lc] 25) = W := ⟨_, rfl⟩
  have hb2 : Below w1.heap.size w1 W2 := by rw [← hW2]; exact (Below.refl _ _).alloc (Nat.le_refl _) _
  have k2 : Blk W2 w1.heap.size #[.int .i64 3, .int .i64 2, .slice sa 2 sc, .slice la 0 lc] 25 := by rw [← hW2]; exact Blk.new _ _ _
  rw [hW2]
  have HP2 := Lib.hid (HP1.out.below hb2)
  have HB2 := Lib.hid (HB1.out.trans (hb2.mono HB1.out.size))
  have HK2 := Lib.hid k2
  obtain ⟨c0, c1, c2, c3⟩ := k2.cells4
  clear hW2 hb2 k2
  go_wp2_with fail
  refine (HA.out _ _ _ HP2.out).mono ?_
  rintro e w3 ⟨hb3, sa', sc', la', lc', ta, tc, rfl, hp3⟩
  have HP3 := Lib.hid (HP2.out.below hb3)
  have HQ3 := Lib.hid hp3
  have HB3 := Lib.hid (HB2.out.trans (hb3.mono HB2.out.size))
  have HK3 := Lib.hid (HK2.out.below hb3)
  clear hb3 hp3 c0 c1 c2 c3
  go_upto_region 3 with fail
  obtain ⟨W4, hW4⟩ : ∃ W, w3.alloc (.cells #[.int .i64 3, .int .i64 2, .slice sa' 2 sc', .slice la' 0 lc'] 25) = W := ⟨_, rfl⟩
  have hb4 : Below w3.heap.size w3 W4 := by rw [← hW4]; exact (Below.refl _ _).alloc (Nat.le_refl _) _
  have k4 : Blk W4 w3.heap.size #[.int .i64 3, .int .i64 2, .slice sa' 2 sc', .slice la' 0 lc'] 25 := by rw [← hW4]; exact Blk.new _ _ _
  rw [hW4]
  have HP4 := Lib.hid (HP3.out.below hb4)
  have HQ4 := Lib.hid (HQ3.out.below hb4)
  have HB4 := Lib.hid (HB3.out.trans (hb4.mono HB3.out.size))
  have HK4 := Lib.hid (HK3.out.below hb4)
  have HL4 := Lib.hid k4
  clear hW4 hb4 k4
  go_wp2_with fail
  refine (HE.out _ HB4.out).mono ?_
  rintro e w5 ⟨hb5, rfl⟩
  have HP5 := Lib.hid (HP4.out.below hb5)
  have HQ5 := Lib.hid (HQ4.out.below hb5)
  have HB5 := Lib.hid (HB4.out.trans (hb5.mono HB4.out.size))
  have HK5 := Lib.hid (HK4.out.below hb5)
  have HL5 := Lib.hid (HL4.out.below hb5)
  clear hb5
  go_wp2_with fail
  refine (HD.out _ HB5.out).mono ?_
  rintro e w6 ⟨hb6, rfl⟩
  have hp6 := HP5.out.below hb6
  have hq6 := HQ5.out.below hb6
  have HB6 := Lib.hid (HB5.out.trans (hb6.mono HB5.out.size))
  have HK6 := Lib.hid (HK5.out.below hb6)
  have HL6 := Lib.hid (HL5.out.below hb6)
  clear hb6
  obtain ⟨hps, -⟩ := hp6.ps
  obtain ⟨hqs, -⟩ := hq6.ps
  obtain ⟨b1, p1, k1, v1, e1, -, -, n1, -, g1, -⟩ := hps.at (j := 1) (x := ⟨1, [2, 3], 0⟩) rfl
  obtain ⟨b2, p2, k2, v2, e2, -, -, n2, -, h1, -⟩ := hqs.at (j := 0) (x := ⟨2, [1], 0⟩) rfl
  obtain ⟨b3, p3, k3, v3, e3, -, -, -, i0, -, -⟩ := hqs.at (j := 1) (x := ⟨2, [3], 0⟩) rfl
  obtain rfl : sa = some ⟨b1, p1, none⟩ := by injection e1
  obtain rfl : sa' = some ⟨b2, p2, none⟩ := by injection e2
  obtain ⟨rfl, rfl⟩ : b2 = b3 ∧ p2 = p3 := by injection e3 with e3; injection e3 with e3; injection e3 with e3 e4; exact ⟨e3, e4⟩
  simp only at n1 n2
  obtain ⟨a1, d1, rfl⟩ := n1.form
  obtain ⟨a2, d2, rfl⟩ := n2.form
  simp only [List.length_cons, List.length_nil, Nat.zero_add, Nat.reduceAdd, Nat.zero_mul, Nat.add_zero, Nat.one_mul] at n1 n2 g1 h1 i0
  have HG1 := Lib.hid g1
  have HH1 := Lib.hid h1
  have HI0 := Lib.hid i0
  have HN1 := Lib.hid n1
  have HN2 := Lib.hid n2
  have HP6 := Lib.hid hp6
  clear e1 e2 e3 n1 n2 g1 h1 i0 hps hqs hp6 hq6
  obtain ⟨W7, hW7⟩ : ∃ W, w6.alloc (.cells #[.int .i64 1, .int .i64 2, .int .i64 0, .int .i64 9] 27) = W := ⟨_, rfl⟩
  have hb7 : Below w6.heap.size w6 W7 := by rw [← hW7]; exact (Below.refl _ _).alloc (Nat.le_refl _) _
  have k7 : Blk W7 w6.heap.size #[.int .i64 1, .int .i64 2, .int .i64 0, .int .i64 9] 27 := by rw [← hW7]; exact Blk.new _ _ _
  have HB7 := Lib.hid hb7
  have HK7 := Lib.hid k7
  obtain ⟨c0, c1, c2, c3⟩ := (HK6.out.below hb7).cells4
  have g1 := cell_below hb7 HG1.out
  have HI1 := Lib.hid (ints_lit _ [2, 3] 2 rfl W7 (HN1.out.below hb7) (by decide))
  clear hb7 k7
  go_wp2_with fail
  refine HI1.out.mono ?_
  rintro e w8 ⟨rfl, hb8⟩
  have HB8 := Lib.hid (HB7.out.trans (hb8.mono HB7.out.size))
  have HK8 := Lib.hid (HK7.out.below hb8)
  obtain ⟨x0, x1, x2, x3⟩ := (HL6.out.below HB8.out).cells4
  have h1 := cell_below HB8.out HH1.out
  have HI2 := Lib.hid (ints_lit _ [1] 1 rfl w8 (HN2.out.below HB8.out) (by decide))
  clear hb8 c0 c1 c2 c3 g1 hW7
  go_wp2_with fail
  refine HI2.out.mono ?_
  rintro e w9 ⟨rfl, hb9⟩
  have HB9 := Lib.hid (HB8.out.trans (hb9.mono HB8.out.size))
  have HK9 := Lib.hid (HK8.out.below hb9)
  clear x0 x1 x2 x3 h1
  obtain ⟨x0, x1, x2, x3⟩ := (HL6.out.below HB9.out).cells4
  obtain ⟨c0, c1, c2, c3⟩ := (HK6.out.below HB9.out).cells4
  obtain ⟨y0, y1, y2, y3⟩ := HK9.out.cells4
  have i0 := cell_below HB9.out HI0.out
  have HGD := Lib.hid (lgood _ _ w9 (HP6.out.below HB9.out) aw_good)
  clear hb9
  go_wp2_with fail
  refine HGD.out.mono ?_
  rintro e w10 ⟨rfl, hb10⟩
  have HB10 := Lib.hid (HB9.out.trans (hb10.mono HB9.out.size))
  clear c0 c1 c2 c3 x0 x1 x2 x3 y0 y1 y2 y3 i0 hb10
  obtain ⟨c0, c1, c2, c3⟩ := (HK6.out.below HB10.out).cells4
  have HLF := Lib.hid (llife _ _ 1 w10 (HP6.out.below HB10.out) aw_good)
  go_wp2_with fail
  refine HLF.out.mono ?_
  rintro e w11 ⟨rfl, hb11⟩
  have h0 : Pn.life ([] : List (Int × Int)) 1 = 0 := rfl
  rw [h0]
  go_wp2_with fail
  go_ret
  have hB11 := HB10.out.trans (hb11.mono HB10.out.size)
  exact ⟨rfl, HB6.out.trans (hB11.mono HB6.out.size)⟩
end Go.Proofs.YtmkinnheoejphaaGreatDoor
/- Arguments opened: an event. -/
namespace Go.Proofs.YtmkinnheoejphaaGreatDoor
open Go.ChangeShapes Go.WideShapes Go.ChangeAt Go.RowKit

theorem cellsEvent : Tryz.prog.cellsOf 27 = 4 := by kernel_rfl
def evc (x : Pn.Ev) : List Value := [.int .i64 x.kind, .int .i64 x.node, .int .i64 x.part, .int .i64 x.n]
set_option maxRecDepth 100000 in
/-- An event's cells. -/
theorem ev_of {H : Type} {enc : TypeId × Value → H} {W : World} {n : Nat} {cs : List Value} {y : DataW H × List MemPlace} (hlen : cs.length = 4) (h : DataW.trod enc Tryz.prog W 0 (fun _ => true) true n 27 cs = some y) :
    ∃ x : Pn.Ev, cs = evc x ∧ True := by
  obtain ⟨ys, n', -, -, -, hyl, hf⟩ := DataW.trod_struct Tryz.underlying27 h
  match cs, hlen with
  | [x0, x1, x2, x3], _ =>
    have g0 : DataW.trod enc Tryz.prog W 0 (fun _ => true) true n' 3 [x0] = ys[0]? := hf 0 _ rfl
    have g1 : DataW.trod enc Tryz.prog W 0 (fun _ => true) true n' 3 [x1] = ys[1]? := hf 1 _ rfl
    have g2 : DataW.trod enc Tryz.prog W 0 (fun _ => true) true n' 3 [x2] = ys[2]? := hf 2 _ rfl
    have g3 : DataW.trod enc Tryz.prog W 0 (fun _ => true) true n' 3 [x3] = ys[3]? := hf 3 _ rfl
    have lk : ∀ i (hi : i < 4), ys[i]? = some (ys[i]'(by rw [hyl]; exact hi)) := fun i hi => List.getElem?_eq_getElem _
    obtain ⟨o0, e0, -, -⟩ := DataW.trod_int Tryz.underlying3 (g0.trans (lk 0 (by decide)))
    obtain ⟨o1, e1, -, -⟩ := DataW.trod_int Tryz.underlying3 (g1.trans (lk 1 (by decide)))
    obtain ⟨o2, e2, -, -⟩ := DataW.trod_int Tryz.underlying3 (g2.trans (lk 2 (by decide)))
    obtain ⟨o3, e3, -, -⟩ := DataW.trod_int Tryz.underlying3 (g3.trans (lk 3 (by decide)))
    simp at e0 e1 e2 e3
    exact ⟨⟨o0, o1, o2, o3⟩, by rw [e0, e1, e2, e3]; rfl, trivial⟩
set_option maxRecDepth 100000 in
theorem open_event {H : Type} {enc : TypeId × Value → H} {W : World} {base : Nat} {v : Value} {d : DataW H} {p : List MemPlace} (hv : Value.okWide Tryz.prog W .any base 27 v) (h : DataW.Trod enc Tryz.prog W 0 (fun _ => true) true 27 v d p) :
    ∃ x : Pn.Ev, v = evV x := by
  simp only [Value.okWide, Tryz.underlying27] at hv
  obtain ⟨cs, rfl, hsz, -⟩ := hv
  rw [cellsEvent] at hsz
  obtain ⟨fuel, hf⟩ := h
  have hf' : DataW.trod enc Tryz.prog W 0 (fun _ => true) true fuel 27 cs.toList = some (d, p) := hf
  obtain ⟨x, e, -⟩ := ev_of (by rw [Array.length_toList]; exact hsz) hf'
  refine ⟨x, ?_⟩
  obtain ⟨l⟩ := cs
  simp only at e
  subst e
  rfl
end Go.Proofs.YtmkinnheoejphaaGreatDoor
/- THE CONTRACT OF great: whether a plan is more than is asked. -/
namespace Go.Proofs.YtmkinnheoejphaaGreatDoor
open Go.RowKit

/-- What great looks at. -/
structure Sml (p : Pn.P) : Prop where
  ps : p.parts.length ≤ 20
  ls : p.lives.length ≤ 20
  ch : ∀ x ∈ p.parts, x.ch.length ≤ 20
def GrtOut (w : World) (p : Pn.P) (e : Ending) (w' : World) : Prop := ∃ b : Bool, e = .returned (.bool b) ∧ Below w.heap.size w w' ∧ (b = false → Sml p)
set_option maxHeartbeats 2000000 in
set_option maxRecDepth 100000 in
theorem great_any {A : Nat → Prop} (pv : Value) (p : Pn.P) (w : World) (h : PlR A w pv p) : Calls Tryz.prog 6 #[pv] w fun e w' => GrtOut w p e w' := by
  obtain ⟨sv, lv, rfl, hv, hlv⟩ := h
  obtain ⟨nodes, copies, parts, lives⟩ := p
  simp only [plv] at hv hlv ⊢
  obtain ⟨a, cap, rfl⟩ := hv.form
  obtain ⟨la, lcap, rfl⟩ := hlv.form
  obtain ⟨m, hm⟩ : ∃ m, parts.length = m := ⟨_, rfl⟩
  obtain ⟨k, hk⟩ : ∃ m, lives.length = m := ⟨_, rfl⟩
  have HM := Lib.hid hm
  have HK := Lib.hid hk
  obtain ⟨W1, hW1⟩ : ∃ W, w.alloc (.cells #[.int .i64 nodes, .int .i64 copies, .slice a parts.length cap, .slice la lives.length lcap] 25) = W := ⟨_, rfl⟩
  have hB1 : Below w.heap.size w W1 := by rw [← hW1]; exact (Below.refl _ _).alloc (Nat.le_refl _) _
  have hk1 : Blk W1 w.heap.size #[.int .i64 nodes, .int .i64 copies, .slice a parts.length cap, .slice la lives.length lcap] 25 := by rw [← hW1]; exact Blk.new _ _ _
  have HV := Lib.hid (hv.below hB1)
  have HB1 := Lib.hid hB1
  rw [hm, hk] at hW1 hk1
  rw [hm] at HV ⊢
  rw [hk]
  have c2 : W1.cell? ⟨w.heap.size, 2, none⟩ = some (.slice a m cap) := hk1.cell rfl
  have c3 : W1.cell? ⟨w.heap.size, 3, none⟩ = some (.slice la k lcap) := hk1.cell rfl
  clear hv hlv hB1 hk1 hm hk
  go_enter Tryz.func6, Tryz.ntmps6
  by_cases h1 : 20 < m
  · have h1i : (20 : Int) < (m : Int) := by omega
    go_wp2_with fail
    go_ret
    exact ⟨true, rfl, HB1.out, fun h => by cases h⟩
  have h1i : ¬ ((20 : Int) < (m : Int)) := by omega
  by_cases h2 : 20 < k
  · have h2i : (20 : Int) < (k : Int) := by omega
    go_wp2_with fail
    go_ret
    exact ⟨true, rfl, HB1.out, fun h => by cases h⟩
  have h2i : ¬ ((20 : Int) < (k : Int)) := by omega
  go_wp2_with fail
  go_loopw [3] (fun s3 wx => ∃ i : Nat, i ≤ m ∧ s3 = .int .i64 i ∧ wx = W1 ∧ ∀ (j : Nat) (x : Pn.Pt), j < i → parts[j]? = some x → x.ch.length ≤ 20) (fun s3 _ => m - (intOf s3).toNat)
  case atStart => exact ⟨0, Nat.zero_le _, rfl, rfl, fun j x hj => absurd hj (Nat.not_lt_zero _)⟩
  case round =>
    obtain ⟨i, hi, rfl, rfl, hno⟩ := hrel
    have HNO := Lib.hid hno
    clear hno
    by_cases hlt : i < m
    · obtain ⟨x, hx⟩ : ∃ x, parts[i]? = some x := ⟨_, List.getElem?_eq_getElem (by rw [HM.out]; exact hlt)⟩
      have hv := HV.out
      rw [← HM.out] at hv
      obtain ⟨b, p, cap', cv, ev, -, hbl, hns, e0, e1, e2⟩ := hv.at hx
      rw [HM.out] at ev
      obtain rfl : a = some ⟨b, p, none⟩ := by injection ev
      have HX := Lib.hid hx
      obtain ⟨xe, xc, xl⟩ := x
      simp only at e0 e1 e2 hns
      obtain ⟨ca, cc, rfl⟩ := hns.form
      obtain ⟨cn, hcn⟩ : ∃ n, xc.length = n := ⟨_, rfl⟩
      have HCN := Lib.hid hcn
      rw [hcn] at e1
      have i0 : (0 : Int) ≤ (i : Int) := by omega
      have i1 : (i : Int) < (m : Int) := by omega
      clear ev hx hv hns hcn
      by_cases h3 : 20 < cn
      · have h3i : (20 : Int) < (cn : Int) := by omega
        go_wp2_with fail
        go_ret
        exact ⟨true, rfl, HB1.out, fun h => by cases h⟩
      · have h3i : ¬ ((20 : Int) < (cn : Int)) := by omega
        have HNX : Hid (∀ (j : Nat) (y : Pn.Pt), j < i + 1 → parts[j]? = some y → y.ch.length ≤ 20) := Lib.hid fun j y hj hy => by
          by_cases h : j = i
          · subst h
            rw [HX.out] at hy
            injection hy with hy
            subst hy
            simp only
            rw [HCN.out]
            omega
          · exact HNO.out j y (by omega) hy
        go_wp2_with fail
        go_roundw
        case rel => exact ⟨i + 1, by omega, by go_num, trivial, HNX.out⟩
        case measure => simp [intOf]; omega
    · have hmi : ¬ ((i : Int) < (m : Int)) := by omega
      have HS : Hid (Sml ⟨nodes, copies, parts, lives⟩) := Lib.hid ⟨by simp only; rw [HM.out]; omega, by simp only; rw [HK.out]; omega, fun x hx => by
        obtain ⟨j, hj, rfl⟩ := List.getElem_of_mem hx
        simp only at hj
        exact HNO.out j _ (by rw [HM.out] at hj; omega) (List.getElem?_eq_getElem hj)⟩
      go_wp2_with fail
      go_ret
      exact ⟨false, rfl, HB1.out, fun _ => HS.out⟩
end Go.Proofs.YtmkinnheoejphaaGreatDoor
/- Arguments opened: a config; a plan. -/
namespace Go.Proofs.YtmkinnheoejphaaGreatDoor
open Go.ChangeShapes Go.WideShapes Go.ChangeAt Go.RowKit

theorem cellsInt : Tryz.prog.cellsOf 3 = 1 := by kernel_rfl
theorem cellsConfig : Tryz.prog.cellsOf 29 = 8 := by kernel_rfl
theorem cellsPlan : Tryz.prog.cellsOf 25 = 4 := by kernel_rfl
theorem cellsPart : Tryz.prog.cellsOf 49 = 3 := by kernel_rfl
theorem cellsLife : Tryz.prog.cellsOf 55 = 2 := by kernel_rfl
set_option maxRecDepth 100000 in
/-- A slice whose elements are such that their cells are given by C. -/
theorem open_rows {H : Type} {enc : TypeId × Value → H} {W : World} {fuel : Nat} {T e : TypeId} {c : Value} {x : DataW H × List MemPlace} (hund : Tryz.prog.underlying T = some (.slice e)) {α : Type} [Inhabited α] (C : α → List Value) (k : Nat) (hk : 0 < k) (hC : ∀ z, (C z).length = k) (hsz : Tryz.prog.cellsOf e = k) (P : α → Prop)
    (hel : ∀ (n : Nat) (cs : List Value) (y : DataW H × List MemPlace), cs.length = k → DataW.trod enc Tryz.prog W 0 (fun _ => true) true n e cs = some y → ∃ z : α, cs = C z ∧ P z) (h : DataW.trod enc Tryz.prog W 0 (fun _ => true) true fuel T [c] = some x) :
    ∃ zs : List α, (∀ z ∈ zs, P z) ∧ Rds (fun b => b < W.heap.size) W c k zs.length (zs.flatMap C) := by
  rcases Deep.open_slice hund h with ⟨hcs, -⟩ | ⟨a, len, cap, m, n, D, PLS, hcs, -, hl, hm, hmm, hx, hi⟩
  · simp at hcs
    subst hcs
    exact ⟨[], fun z hz => (by cases hz), Rds.nil _ _ _⟩
  · simp at hcs
    subst hcs
    rw [hsz] at hi hx
    have pick : ∀ i, ∃ z : α, i < len → P z ∧ ∀ j u, j < k → (C z)[j]? = some u → W.cell? (a.add (i * k + j)) = some u := fun i => by
      by_cases hil : i < len
      · have him : i < m := by simp at hmm; omega
        obtain ⟨cs', hc, ht'⟩ := hi i him
        obtain ⟨-, hcl, hat⟩ := World.cells?_some hc
        obtain ⟨z, rfl, hp⟩ := hel _ _ _ hcl ht'
        refine ⟨z, fun _ => ⟨hp, fun j u hj hu => ?_⟩⟩
        have := hat j hj
        rw [Deep.add_add] at this
        rw [this]
        exact hu
      · exact ⟨default, fun h => absurd h hil⟩
    obtain ⟨F, hF⟩ := Classical.axiomOfChoice pick
    have hlen : ((List.range len).map F).length = len := by simp
    refine ⟨(List.range len).map F, fun z hz => ?_, ?_⟩
    · obtain ⟨i, hi', rfl⟩ := List.mem_map.1 hz
      exact (hF i (List.mem_range.1 hi')).1
    · refine ⟨by rw [flat_length C k hC], .inr ⟨a, cap, by rw [hlen], by rw [hlen]; exact hl, fun h0 => ?_⟩⟩
      rw [hlen] at h0
      obtain ⟨b, off, spot⟩ := a
      obtain ⟨u0, hu0⟩ : ∃ u, (C (F 0))[0]? = some u := ⟨_, List.getElem?_eq_getElem (by rw [hC]; exact hk)⟩
      have c0 := (hF 0 h0).2 0 u0 hk hu0
      have hspot : spot = none := by
        have := World.cell?_spot c0
        simpa [Addr.add] using this
      subst hspot
      have hadd : ∀ j, (⟨b, off, none⟩ : Addr).add j = ⟨b, off + j, none⟩ := fun j => by
        unfold Addr.add
        by_cases hj : j = 0 <;> simp [hj]
      rw [hadd] at c0
      refine ⟨b, off, rfl, block_lt_of_cell c0, block_lt_of_cell c0, fun j u hj => ?_⟩
      have hjl := (List.getElem?_eq_some_iff.1 hj).1
      rw [flat_length C k hC, hlen] at hjl
      have hq : j / k < len := Nat.div_lt_of_lt_mul (by rw [Nat.mul_comm]; exact hjl)
      have hr : j % k < k := Nat.mod_lt _ hk
      have hdm : j = j / k * k + j % k := by rw [Nat.mul_comm]; exact (Nat.div_add_mod j k).symm
      have hfl := flat_at C k hC ((List.range len).map F) (j / k) (F (j / k)) (by rw [List.getElem?_map, List.getElem?_range hq]; rfl) (j % k) hr
      rw [← hdm, hj] at hfl
      have := (hF (j / k) hq).2 (j % k) u hr hfl.symm
      rw [hadd, ← hdm] at this
      exact this
set_option maxRecDepth 100000 in
/-- A config of eight numbers. -/
theorem open_config {H : Type} {enc : TypeId × Value → H} {W : World} {base : Nat} {v : Value} {d : DataW H} {p : List MemPlace} (hv : Value.okWide Tryz.prog W .any base 29 v) (h : DataW.Trod enc Tryz.prog W 0 (fun _ => true) true 29 v d p) :
    ∃ o0 o1 o2 o3 o4 o5 o6 o7 : Int, v = .agg #[.int .i64 o0, .int .i64 o1, .int .i64 o2, .int .i64 o3, .int .i64 o4, .int .i64 o5, .int .i64 o6, .int .i64 o7] := by
  simp only [Value.okWide, Tryz.underlying29] at hv
  obtain ⟨cs, rfl, hsz, -⟩ := hv
  rw [cellsConfig] at hsz
  obtain ⟨fuel, hf⟩ := h
  have hf' : DataW.trod enc Tryz.prog W 0 (fun _ => true) true fuel 29 cs.toList = some (d, p) := hf
  obtain ⟨ys, n', -, -, -, hyl, hg⟩ := DataW.trod_struct Tryz.underlying29 hf'
  obtain ⟨l⟩ := cs
  match l, hsz with
  | [x0, x1, x2, x3, x4, x5, x6, x7], _ =>
    have lk : ∀ i (hi : i < 8), ys[i]? = some (ys[i]'(by rw [hyl]; exact hi)) := fun i hi => List.getElem?_eq_getElem _
    have g0 : DataW.trod enc Tryz.prog W 0 (fun _ => true) true n' 3 [x0] = ys[0]? := hg 0 _ rfl
    have g1 : DataW.trod enc Tryz.prog W 0 (fun _ => true) true n' 3 [x1] = ys[1]? := hg 1 _ rfl
    have g2 : DataW.trod enc Tryz.prog W 0 (fun _ => true) true n' 3 [x2] = ys[2]? := hg 2 _ rfl
    have g3 : DataW.trod enc Tryz.prog W 0 (fun _ => true) true n' 3 [x3] = ys[3]? := hg 3 _ rfl
    have g4 : DataW.trod enc Tryz.prog W 0 (fun _ => true) true n' 3 [x4] = ys[4]? := hg 4 _ rfl
    have g5 : DataW.trod enc Tryz.prog W 0 (fun _ => true) true n' 3 [x5] = ys[5]? := hg 5 _ rfl
    have g6 : DataW.trod enc Tryz.prog W 0 (fun _ => true) true n' 3 [x6] = ys[6]? := hg 6 _ rfl
    have g7 : DataW.trod enc Tryz.prog W 0 (fun _ => true) true n' 3 [x7] = ys[7]? := hg 7 _ rfl
    obtain ⟨o0, e0, -, -⟩ := DataW.trod_int Tryz.underlying3 (g0.trans (lk 0 (by decide)))
    obtain ⟨o1, e1, -, -⟩ := DataW.trod_int Tryz.underlying3 (g1.trans (lk 1 (by decide)))
    obtain ⟨o2, e2, -, -⟩ := DataW.trod_int Tryz.underlying3 (g2.trans (lk 2 (by decide)))
    obtain ⟨o3, e3, -, -⟩ := DataW.trod_int Tryz.underlying3 (g3.trans (lk 3 (by decide)))
    obtain ⟨o4, e4, -, -⟩ := DataW.trod_int Tryz.underlying3 (g4.trans (lk 4 (by decide)))
    obtain ⟨o5, e5, -, -⟩ := DataW.trod_int Tryz.underlying3 (g5.trans (lk 5 (by decide)))
    obtain ⟨o6, e6, -, -⟩ := DataW.trod_int Tryz.underlying3 (g6.trans (lk 6 (by decide)))
    obtain ⟨o7, e7, -, -⟩ := DataW.trod_int Tryz.underlying3 (g7.trans (lk 7 (by decide)))
    simp at e0 e1 e2 e3 e4 e5 e6 e7
    exact ⟨o0, o1, o2, o3, o4, o5, o6, o7, by rw [e0, e1, e2, e3, e4, e5, e6, e7]⟩
set_option maxRecDepth 100000 in
theorem int_of {H : Type} {enc : TypeId × Value → H} {W : World} {n : Nat} {cs : List Value} {y : DataW H × List MemPlace} (h : DataW.trod enc Tryz.prog W 0 (fun _ => true) true n 3 cs = some y) : ∃ x : Int, cs = [.int .i64 x] ∧ True := by
  obtain ⟨x, e, -, -⟩ := DataW.trod_int Tryz.underlying3 h
  exact ⟨x, e, trivial⟩
set_option maxRecDepth 100000 in
theorem open_ints {H : Type} {enc : TypeId × Value → H} {W : World} {fuel : Nat} {c : Value} {x : DataW H × List MemPlace} (h : DataW.trod enc Tryz.prog W 0 (fun _ => true) true fuel 32 [c] = some x) : ∃ l : List Int, Ns (fun b => b < W.heap.size) W c l := by
  obtain ⟨L, -, hz⟩ := open_rows Tryz.underlying32 (fun x : Int => [.int .i64 x]) 1 (by decide) (fun _ => rfl) cellsInt (fun _ => True) (fun n cs y _ ht => int_of ht) h
  refine ⟨L, ?_⟩
  have e : ∀ l : List Int, (l.flatMap fun x => [Value.int .i64 x]) = l.map (Value.int .i64) := fun l => by
    induction l with
    | nil => rfl
    | cons a l ih => simp [List.flatMap_cons, ih]
  rw [e] at hz
  exact hz
set_option maxRecDepth 100000 in
theorem open_lives {H : Type} {enc : TypeId × Value → H} {W : World} {fuel : Nat} {c : Value} {x : DataW H × List MemPlace} (h : DataW.trod enc Tryz.prog W 0 (fun _ => true) true fuel 23 [c] = some x) : ∃ l : List (Int × Int), Lvs (fun b => b < W.heap.size) W c l := by
  haveI : Inhabited (Int × Int) := ⟨(0, 0)⟩
  obtain ⟨L, -, hz⟩ := open_rows Tryz.underlying23 (fun q : Int × Int => [Value.int .i64 q.1, .int .i64 q.2]) 2 (by decide) (fun _ => rfl) cellsLife (fun _ => True) (fun n cs y hl ht => by
    obtain ⟨ys, n', -, -, -, hyl, hf⟩ := DataW.trod_struct Tryz.underlying55 ht
    match cs, hl with
    | [x0, x1], _ =>
      have g0 : DataW.trod enc Tryz.prog W 0 (fun _ => true) true n' 3 [x0] = ys[0]? := hf 0 _ rfl
      have g1 : DataW.trod enc Tryz.prog W 0 (fun _ => true) true n' 3 [x1] = ys[1]? := hf 1 _ rfl
      have lk : ∀ i (hi : i < 2), ys[i]? = some (ys[i]'(by rw [hyl]; exact hi)) := fun i hi => List.getElem?_eq_getElem _
      obtain ⟨o0, e0, -, -⟩ := DataW.trod_int Tryz.underlying3 (g0.trans (lk 0 (by decide)))
      obtain ⟨o1, e1, -, -⟩ := DataW.trod_int Tryz.underlying3 (g1.trans (lk 1 (by decide)))
      simp at e0 e1
      exact ⟨(o0, o1), by rw [e0, e1], trivial⟩) h
  exact ⟨L, hz⟩
set_option maxRecDepth 100000 in
theorem open_places {H : Type} {enc : TypeId × Value → H} {W : World} {fuel : Nat} {c : Value} {x : DataW H × List MemPlace} (h : DataW.trod enc Tryz.prog W 0 (fun _ => true) true fuel 22 [c] = some x) : ∃ l : List Pn.Pt, PsR (fun b => b < W.heap.size) W c l := by
  haveI : Inhabited PE := ⟨⟨⟨0, [], 0⟩, .slice none 0 0⟩⟩
  obtain ⟨L, hP, hz⟩ := open_rows Tryz.underlying22 PE.cells 3 (by decide) (fun _ => rfl) cellsPart (fun e => Ns (fun b => b < W.heap.size) W e.cv e.x.ch) (fun n cs y hl ht => by
    obtain ⟨ys, n', -, -, -, hyl, hf⟩ := DataW.trod_struct Tryz.underlying49 ht
    match cs, hl with
    | [x0, x1, x2], _ =>
      have g0 : DataW.trod enc Tryz.prog W 0 (fun _ => true) true n' 3 [x0] = ys[0]? := hf 0 _ rfl
      have g1 : DataW.trod enc Tryz.prog W 0 (fun _ => true) true n' 32 [x1] = ys[1]? := hf 1 _ rfl
      have g2 : DataW.trod enc Tryz.prog W 0 (fun _ => true) true n' 3 [x2] = ys[2]? := hf 2 _ rfl
      have lk : ∀ i (hi : i < 3), ys[i]? = some (ys[i]'(by rw [hyl]; exact hi)) := fun i hi => List.getElem?_eq_getElem _
      obtain ⟨o0, e0, -, -⟩ := DataW.trod_int Tryz.underlying3 (g0.trans (lk 0 (by decide)))
      obtain ⟨o2, e2, -, -⟩ := DataW.trod_int Tryz.underlying3 (g2.trans (lk 2 (by decide)))
      obtain ⟨l, hl⟩ := open_ints (g1.trans (lk 1 (by decide)))
      simp at e0 e2
      exact ⟨⟨⟨o0, l, o2⟩, x1⟩, by rw [e0, e2]; rfl, hl⟩) h
  exact ⟨L.map PE.x, L, rfl, hz, hP⟩
set_option maxRecDepth 100000 in
theorem open_plan {H : Type} {enc : TypeId × Value → H} {W : World} {base : Nat} {v : Value} {d : DataW H} {p : List MemPlace} (hv : Value.okWide Tryz.prog W .any base 25 v) (h : DataW.Trod enc Tryz.prog W 0 (fun _ => true) true 25 v d p) :
    ∃ q : Pn.P, PlR (fun b => b < W.heap.size) W v q := by
  simp only [Value.okWide, Tryz.underlying25] at hv
  obtain ⟨cs, rfl, hsz, -⟩ := hv
  rw [cellsPlan] at hsz
  obtain ⟨fuel, hf⟩ := h
  have hf' : DataW.trod enc Tryz.prog W 0 (fun _ => true) true fuel 25 cs.toList = some (d, p) := hf
  obtain ⟨ys, n', -, -, -, hyl, hg⟩ := DataW.trod_struct Tryz.underlying25 hf'
  obtain ⟨l⟩ := cs
  match l, hsz with
  | [x0, x1, x2, x3], _ =>
    have lk : ∀ i (hi : i < 4), ys[i]? = some (ys[i]'(by rw [hyl]; exact hi)) := fun i hi => List.getElem?_eq_getElem _
    have g0 : DataW.trod enc Tryz.prog W 0 (fun _ => true) true n' 3 [x0] = ys[0]? := hg 0 _ rfl
    have g1 : DataW.trod enc Tryz.prog W 0 (fun _ => true) true n' 3 [x1] = ys[1]? := hg 1 _ rfl
    have g2 : DataW.trod enc Tryz.prog W 0 (fun _ => true) true n' 22 [x2] = ys[2]? := hg 2 _ rfl
    have g3 : DataW.trod enc Tryz.prog W 0 (fun _ => true) true n' 23 [x3] = ys[3]? := hg 3 _ rfl
    obtain ⟨o0, e0, -, -⟩ := DataW.trod_int Tryz.underlying3 (g0.trans (lk 0 (by decide)))
    obtain ⟨o1, e1, -, -⟩ := DataW.trod_int Tryz.underlying3 (g1.trans (lk 1 (by decide)))
    obtain ⟨ps, h2⟩ := open_places (g2.trans (lk 2 (by decide)))
    obtain ⟨ls, h3⟩ := open_lives (g3.trans (lk 3 (by decide)))
    simp at e0 e1
    exact ⟨⟨o0, o1, ps, ls⟩, x2, x3, by rw [e0, e1]; rfl, h2, h3⟩
end Go.Proofs.YtmkinnheoejphaaGreatDoor
