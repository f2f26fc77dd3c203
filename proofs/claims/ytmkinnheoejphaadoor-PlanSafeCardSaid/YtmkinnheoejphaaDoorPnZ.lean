/- THE CONTRACT OF Decode; events there and back. -/
import Derived.Test.YtmkinnheoejphaaDoorRdr
import Derived.Test.YtmkinnheoejphaaDoorPnY
namespace Go.Proofs.YtmkinnheoejphaaDoor
open Go.RowKit

/-- The event whose bytes these are. -/
def Pn.readE (u : St) : Pn.Ev := ⟨u.int.1, u.int.2.int.1, u.int.2.int.2.int.1, u.int.2.int.2.int.2.int.1⟩
def Pn.restE (u : St) : St := u.int.2.int.2.int.2.int.2.byte 101
def Pn.decE (s : List UInt8) : Option Pn.Ev := if (Pn.restE (St.byte 108 ⟨s, false⟩)).done = 0 ∧ Pn.evB (Pn.readE (St.byte 108 ⟨s, false⟩)) = true then some (Pn.readE (St.byte 108 ⟨s, false⟩)) else none
theorem Pn.dec_enc {x : Pn.Ev} (h : Pn.evB x = true) : Pn.decE (Pn.encE x) = some x := by
  obtain ⟨kd, nd, pt, nn⟩ := x
  obtain ⟨r1, r2, r3, r4⟩ := Pn.ev_range h
  simp only at r1 r2 r3 r4
  unfold Pn.decE Pn.encE Pn.restE Pn.readE
  rw [byte_at]
  simp only
  rw [int_at ⟨by omega, by omega⟩]
  simp only
  rw [int_at ⟨by omega, by omega⟩]
  simp only
  rw [int_at ⟨by omega, by omega⟩]
  simp only
  rw [int_at ⟨by omega, by omega⟩]
  simp only
  rw [byte_at, if_pos ⟨rfl, h⟩]
theorem Pn.enc_dec {s : List UInt8} {x : Pn.Ev} (h : Pn.decE s = some x) : s = Pn.encE x ∧ Pn.evB x = true := by
  unfold Pn.decE at h
  split at h
  · rename_i hc
    injection h with h
    obtain ⟨hb, hs⟩ := done_ok hc.1
    unfold Pn.restE at hb hs
    obtain ⟨b5, e5⟩ := byte_ok hb
    rw [hs] at e5
    obtain ⟨b4, e4⟩ := int_ok b5
    obtain ⟨b3, e3⟩ := int_ok b4
    obtain ⟨b2, e2⟩ := int_ok b3
    obtain ⟨b1, e1⟩ := int_ok b2
    obtain ⟨-, e0⟩ := byte_ok b1
    rw [e5] at e4
    rw [e4] at e3
    rw [e3] at e2
    rw [e2] at e1
    rw [e1] at e0
    simp only at e0
    refine ⟨?_, by rw [← h]; exact hc.2⟩
    rw [e0, ← h]
    rfl
  · cases h
theorem undEvent : ∃ d, Tryd.prog.underlying 35 = some d ∧ (match d with | .struct _ | .array _ _ => true | _ => false) = true := by
  have h : (Tryd.prog.underlying 35).map (fun d => match d with | .struct _ | .array _ _ => true | _ => false) = some true := by kernel_rfl
  cases hd : Tryd.prog.underlying 35 with
  | none => rw [hd] at h; cases h
  | some d => rw [hd] at h; exact ⟨d, rfl, Option.some.inj h⟩
theorem sizeEvent : (Tryd.prog.info? 35).map (·.size) = some 4 := by kernel_rfl
theorem decode_ret {W : World} {rb : Nat} {a0 a1 a2 a3 n : Value} {tmps : Array Value} (hb : Blk W rb #[a0, a1, a2, a3] 35) (h2 : tmps.getD 2 undef = .pointer (some ⟨rb, 0, none⟩)) (h3 : tmps.getD 3 undef = n) :
    (results Tryd.f17 tmps).run Tryd.prog W = .ok (.tuple #[.agg #[a0, a1, a2, a3], n]) W := by
  obtain ⟨d, hd, hs⟩ := undEvent
  rw [results_cell_tmp (p := 2) (u := 3) (ty := 35) rfl, h2, h3]
  have hl := run_loadVar_row (P := Tryd.prog) W rb 35 35 #[a0, a1, a2, a3] (0, 0) d hb hd (by cases d <;> exact hs) sizeEvent
  simp [asAddr, hl]
def zeroE : Pn.Ev := ⟨0, 0, 0, 0⟩
def evV (x : Pn.Ev) : Value := .agg #[.int .i64 x.kind, .int .i64 x.node, .int .i64 x.part, .int .i64 x.n]
def DecOut (w : World) (d : Option Pn.Ev) (e : Ending) (w' : World) : Prop :=
  Below w.heap.size w w' ∧ e = .returned (.tuple #[evV (d.getD zeroE), .int .i64 (match d with | some _ => 0 | none => 3)])
set_option maxHeartbeats 4000000 in
set_option maxRecDepth 100000 in
theorem decode_any (s : ByteArray) (w : World) (lb : Lb w) (hs : s.size ≤ 281474976710656) : Calls Tryd.prog 17 #[.string s] w fun e w' => DecOut w (Pn.decE s.data.toList) e w' := by
  have hlen : s.data.toList.length ≤ 281474976710656 := by rw [Array.length_toList]; exact hs
  obtain ⟨l, hl⟩ : ∃ l, s.data.toList = l := ⟨_, rfl⟩
  rw [hl] at hlen ⊢
  have HL := Lib.hid hl
  obtain ⟨D, hD⟩ : ∃ D, Pn.decE l = D := ⟨_, rfl⟩
  rw [hD]
  obtain ⟨u0, hu0⟩ : ∃ u, St.byte 108 ⟨l, false⟩ = u := ⟨_, rfl⟩
  have HDD : Hid (D = if (Pn.restE u0).done = 0 ∧ Pn.evB (Pn.readE u0) = true then some (Pn.readE u0) else none) := Lib.hid (by rw [← hD, ← hu0]; rfl)
  have HU0 := Lib.hid hu0
  have l0 : u0.s.length ≤ 281474976710656 := by rw [← hu0]; exact Nat.le_trans (byte_len _ _) hlen
  have l1 := Nat.le_trans (int_len u0) l0
  have l2 := Nat.le_trans (int_len u0.int.2) l1
  have l3 := Nat.le_trans (int_len u0.int.2.int.2) l2
  have l4 := Nat.le_trans (int_len u0.int.2.int.2.int.2) l3
  have HLN := Lib.hid (And.intro hlen (And.intro l0 (And.intro l1 (And.intro l2 (And.intro l3 l4)))))
  obtain ⟨W1, hW1⟩ : ∃ W, w.alloc (.cells #[.int .i64 0, .int .i64 0, .int .i64 0, .int .i64 0] 35) = W := ⟨_, rfl⟩
  have hb1 : Below w.heap.size w W1 := by rw [← hW1]; exact (Below.refl _ _).alloc (Nat.le_refl _) _
  have k1 : Blk W1 w.heap.size #[.int .i64 0, .int .i64 0, .int .i64 0, .int .i64 0] 35 := by rw [← hW1]; exact Blk.new _ _ _
  have HW1 := Lib.hid hW1
  have HB1 := Lib.hid hb1
  have HK1 := Lib.hid k1
  have HLB1 := Lib.hid (lb.below lb.size hb1)
  clear hl hD hu0 hlen l0 l1 l2 l3 l4 hW1 hb1 k1 lb
  go_enter Tryd.func17, Tryd.ntmps17
  go_upto_region 1 with fail
  rw [HW1.out]
  clear HW1
  go_wp2_with fail
  refine (rd_new s W1).mono ?_
  rintro e w2 ⟨rfl, hr2, hb2⟩
  rw [HL.out] at hr2
  have HR2 := Lib.hid hr2
  have HB2 := Lib.hid hb2
  have HLT : Hid (w.heap.size < W1.heap.size) := Lib.hid HK1.out.lt
  clear hr2 hb2
  go_wp2_with fail
  refine (rd_open _ _ w2 HR2.out HLN.out.1).mono ?_
  rintro e w3 ⟨rfl, hr3, hk3⟩
  rw [HU0.out] at hr3
  have HR3 := Lib.hid hr3
  have HB3 := Lib.hid (HB2.out.trans (hk3.below (Nat.le_refl _) HR2.out.lt))
  clear hr3 hk3
  have hlb : Hid (∀ wx, Below W1.heap.size W1 wx → Lb wx) := Lib.hid fun wx hb => HLB1.out.below HLB1.out.size hb
  go_wp2_with fail
  refine (rd_int _ u0 w3 (hlb.out _ HB3.out) HR3.out HLN.out.2.1).mono ?_
  rintro e w4 ⟨rfl, hr4, hk4⟩
  have HR4 := Lib.hid hr4
  have HB4 := Lib.hid (HB3.out.trans (hk4.below (Nat.le_refl _) HR3.out.lt))
  clear hr4 hk4
  go_wp2_with fail
  refine (rd_int _ _ w4 (hlb.out _ HB4.out) HR4.out HLN.out.2.2.1).mono ?_
  rintro e w5 ⟨rfl, hr5, hk5⟩
  have HR5 := Lib.hid hr5
  have HB5 := Lib.hid (HB4.out.trans (hk5.below (Nat.le_refl _) HR4.out.lt))
  clear hr5 hk5
  go_wp2_with fail
  refine (rd_int _ _ w5 (hlb.out _ HB5.out) HR5.out HLN.out.2.2.2.1).mono ?_
  rintro e w6 ⟨rfl, hr6, hk6⟩
  have HR6 := Lib.hid hr6
  have HB6 := Lib.hid (HB5.out.trans (hk6.below (Nat.le_refl _) HR5.out.lt))
  clear hr6 hk6
  go_wp2_with fail
  refine (rd_int _ _ w6 (hlb.out _ HB6.out) HR6.out HLN.out.2.2.2.2.1).mono ?_
  rintro e w7 ⟨rfl, hr7, hk7⟩
  have HR7 := Lib.hid hr7
  have HB7 := Lib.hid (HB6.out.trans (hk7.below (Nat.le_refl _) HR6.out.lt))
  clear hr7 hk7
  obtain ⟨n1, hn1⟩ : ∃ n, u0.int.1 = n := ⟨_, rfl⟩
  obtain ⟨n2, hn2⟩ : ∃ n, u0.int.2.int.1 = n := ⟨_, rfl⟩
  obtain ⟨n3, hn3⟩ : ∃ n, u0.int.2.int.2.int.1 = n := ⟨_, rfl⟩
  obtain ⟨n4, hn4⟩ : ∃ n, u0.int.2.int.2.int.2.int.1 = n := ⟨_, rfl⟩
  have HRE : Hid (Pn.readE u0 = ⟨n1, n2, n3, n4⟩) := Lib.hid (by unfold Pn.readE; rw [hn1, hn2, hn3, hn4])
  rw [hn1, hn2, hn3, hn4]
  obtain ⟨V, hV⟩ : ∃ V, Pn.evB ⟨n1, n2, n3, n4⟩ = V := ⟨_, rfl⟩
  obtain ⟨K, hK⟩ : ∃ K, (Pn.restE u0).done = K := ⟨_, rfl⟩
  have HD2 : Hid (D = if K = 0 ∧ V = true then some ⟨n1, n2, n3, n4⟩ else none) := Lib.hid (by rw [HDD.out, HRE.out, hV, hK])
  have HEV := Lib.hid fun wx => event_any ⟨n1, n2, n3, n4⟩ wx
  rw [hV] at HEV
  have HKK := Lib.hid hK
  clear hn1 hn2 hn3 hn4 hV hK HDD
  obtain ⟨W8, hW8⟩ : ∃ W, w7.alloc (.cells #[.int .i64 n1, .int .i64 n2, .int .i64 n3, .int .i64 n4] 35) = W := ⟨_, rfl⟩
  have hb8 : Below w7.heap.size w7 W8 := by rw [← hW8]; exact (Below.refl _ _).alloc (Nat.le_refl _) _
  have k8 : Blk W8 w7.heap.size #[.int .i64 n1, .int .i64 n2, .int .i64 n3, .int .i64 n4] 35 := by rw [← hW8]; exact Blk.new _ _ _
  have HW8 := Lib.hid hW8
  have HR8 := Lib.hid (HR7.out.same hb8)
  have HB8 := Lib.hid (HB7.out.trans (hb8.mono HB7.out.size))
  have HK8 := Lib.hid k8
  clear hW8 hb8 k8
  go_upto_region 4 with fail
  rw [HW8.out]
  clear HW8
  go_wp2_with fail
  refine (rd_close _ _ W8 HR8.out HLN.out.2.2.2.2.2).mono ?_
  rintro e w9 ⟨rfl, hr9, hk9⟩
  have HR9 := Lib.hid hr9
  have HB9 := Lib.hid (HB8.out.trans (hk9.below (Nat.le_refl _) HR8.out.lt))
  have HK9 := Lib.hid (HK8.out.kb hk9 (by have := HR7.out.lt; omega))
  clear hr9 hk9
  go_wp2_with fail
  have hd : (u0.int.2.int.2.int.2.int.2.byte 101).done = K := HKK.out
  have RD := rd_done _ _ w9 HR9.out
  rw [hd] at RD
  refine RD.mono ?_
  rintro e w10 ⟨rfl, rfl⟩
  have HBW := Lib.hid (HB1.out.trans (HB9.out.mono HB1.out.size))
  have HKR := Lib.hid (HK1.out.below HB9.out)
  have hfin : ∀ wx (d : Option Pn.Ev), Below w9.heap.size w9 wx → ∀ a0 a1 a2 a3, Below w.heap.size w ((((wx.setCell ⟨w.heap.size, 0, none⟩ a0).setCell ⟨w.heap.size, 1, none⟩ a1).setCell ⟨w.heap.size, 2, none⟩ a2).setCell ⟨w.heap.size, 3, none⟩ a3) := fun wx d hb a0 a1 a2 a3 =>
    (HBW.out.trans (hb.mono HBW.out.size)).trans ((four_kb wx w.heap.size a0 a1 a2 a3).below (Nat.le_refl _) (HKR.out.below hb).lt)
  have HFIN := Lib.hid hfin
  have HR0 := Lib.hid (Below.refl w9.heap.size w9)
  clear hd RD hfin hlb
  by_cases hk : K = 0
  · have hkb : (K != 0) = false := by simp [hk]
    obtain ⟨c0, c1, c2, c3⟩ := HK9.out.cells4
    subst hk
    go_wp2_with fail
    refine (HEV.out w9).mono ?_
    rintro e w11 ⟨rfl, hb11⟩
    have HB11 := Lib.hid hb11
    have HKR2 := Lib.hid (HKR.out.below hb11)
    obtain ⟨y0, y1, y2, y3⟩ := HKR2.out.free4
    obtain ⟨z0, z1, z2, z3⟩ := HKR2.out.cells4
    clear c0 c1 c2 c3
    obtain ⟨c0, c1, c2, c3⟩ := (HK9.out.below hb11).cells4
    clear hb11
    cases V with
    | false =>
      have HR : Hid (D = none) := Lib.hid (by rw [HD2.out, if_neg (fun h => by cases h.2)])
      go_wp2_with fail
      refine bodyPost_ret (decode_ret (Blk.four HKR2.out _ _ _ _) rfl rfl) rfl ?_
      rw [HR.out]
      exact ⟨HFIN.out _ none HB11.out _ _ _ _, rfl⟩
    | true =>
      have HR : Hid (D = some ⟨n1, n2, n3, n4⟩) := Lib.hid (by rw [HD2.out, if_pos (by simp)])
      go_wp2_with fail
      refine bodyPost_ret (decode_ret (Blk.four HKR2.out _ _ _ _) rfl rfl) rfl ?_
      rw [HR.out]
      exact ⟨HFIN.out _ none HB11.out _ _ _ _, rfl⟩
  · have hkb : (K != 0) = true := by simp [hk]
    have HR : Hid (D = none) := Lib.hid (by rw [HD2.out, if_neg (fun h => hk h.1)])
    obtain ⟨y0, y1, y2, y3⟩ := HKR.out.free4
    obtain ⟨z0, z1, z2, z3⟩ := HKR.out.cells4
    clear hk
    go_wp2_with fail
    refine bodyPost_ret (decode_ret (Blk.four HKR.out _ _ _ _) rfl rfl) rfl ?_
    rw [HR.out]
    exact ⟨HFIN.out _ none HR0.out _ _ _ _, rfl⟩
end Go.Proofs.YtmkinnheoejphaaDoor
