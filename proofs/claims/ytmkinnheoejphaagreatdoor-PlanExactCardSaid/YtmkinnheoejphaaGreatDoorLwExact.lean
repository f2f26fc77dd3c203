/- THE WALK OF PlanExact. -/
import Derived.Test.YtmkinnheoejphaaGreatDoorRApA
import Derived.Test.YtmkinnheoejphaaGreatDoorRApB
import Derived.Test.YtmkinnheoejphaaGreatDoorRApC
import Derived.Test.YtmkinnheoejphaaGreatDoorRNw
import Derived.Test.YtmkinnheoejphaaGreatDoorLwKz
namespace Go.Proofs.YtmkinnheoejphaaGreatDoor
open Go.RowKit

theorem rapply_any {A : Nat → Prop} (pv : Value) (p : Pn.P) (x : Pn.Ev) (w : World) (h : PlR A w pv p) (hl : p.parts.length ≤ 64) (hll : p.lives.length ≤ 60) (hc : ∀ x ∈ p.parts, x.ch.length ≤ 64) :
    Calls Tryz.prog 8 #[pv, .agg #[.int .i64 x.kind, .int .i64 x.node, .int .i64 x.part, .int .i64 x.n]] w fun e w' => AplOut w (Pn.apply p x) e w' := by
  by_cases h1 : x.kind = 1
  · exact rapply_1 pv p x w h1 h hl hll hc
  · by_cases h2 : x.kind = 2
    · exact rapply_2 pv p x w h2 h hl hll hc
    · exact rapply_3 pv p x w ⟨h1, h2⟩ h hl hll hc
theorem apl_of {w w' : World} {R : Pn.R} {e : Ending} (h : AplOut w R e w') : ApL w R e w' := by
  obtain ⟨hb, h2⟩ := h
  refine ⟨hb, ?_⟩
  cases R with
  | bad c => exact ⟨_, _, _, _, _, _, h2, PlR.zero _ _, Ns.nil _ _⟩
  | ok q t =>
    obtain ⟨pv', tv, gt, rfl, h3, h4⟩ := h2
    obtain ⟨sa, sc, la, lc, rfl⟩ := h3.rd.val
    obtain ⟨ta, tc, rfl⟩ := h4.ns.form
    exact ⟨_, _, _, _, _, _, rfl, h3.rd, h4.ns⟩
theorem out_good (p : Pn.P) (x : Pn.Ev) : (Pn.GoodG (Pn.rp (Pn.apply p x)) ∨ Pn.rp (Pn.apply p x) = Pn.zeroP) ∧ (Pn.rt (Pn.apply p x)).length ≤ 4 := by
  cases h : Pn.apply p x with
  | bad c => exact ⟨.inr rfl, by simp [Pn.rt]⟩
  | ok q t =>
    have hs := Pn.step_of h
    exact ⟨.inl hs.good, hs.tlen⟩
/-- What New answers, as the law takes it. -/
def NwL (w : World) (n c m : Int) (e : Ending) (w' : World) : Prop :=
  Below w.heap.size w w' ∧ ∃ sa sc la lc, e = .returned (.tuple #[plV (if Pn.layB n c m = true then Pn.new n c m else Pn.zeroP) sa sc la lc, .int .i64 (if Pn.layB n c m = true then 0 else 1)]) ∧ PlR (fun b => w.heap.size ≤ b) w' (plV (if Pn.layB n c m = true then Pn.new n c m else Pn.zeroP) sa sc la lc) (if Pn.layB n c m = true then Pn.new n c m else Pn.zeroP)
theorem nwl_of {w w' : World} {n c m : Int} {e : Ending} (h : NewOut w n c m e w') : NwL w n c m e w' := by
  obtain ⟨hb, pv, rfl, h2⟩ := h
  obtain ⟨sa, sc, la, lc, rfl⟩ := h2.rd.val
  exact ⟨hb, sa, sc, la, lc, rfl, h2.rd⟩
theorem new_out (n c m : Int) : Pn.GoodG (if Pn.layB n c m = true then Pn.new n c m else Pn.zeroP) ∨ (if Pn.layB n c m = true then Pn.new n c m else Pn.zeroP) = Pn.zeroP := by
  split
  · rename_i h
    exact .inl (Pn.new_good h)
  · exact .inr rfl
/-- A plan's value, written out. -/
def plC (p : Pn.P) (k l : Nat) (sa : Option Addr) (sc : Nat) (la : Option Addr) (lc : Nat) : Array Value := #[.int .i64 p.nodes, .int .i64 p.copies, .slice sa k sc, .slice la l lc]
set_option maxHeartbeats 8000000 in
set_option maxRecDepth 100000 in
theorem exact_any {A : Nat → Prop} (pv : Value) (p : Pn.P) (x : Pn.Ev) (n cl m c sg kp hz rm : Int) (w : World) (lb : Lb w) (h : PlR A w pv p) :
    Calls Tryz.prog 3 #[pv, evV x, .agg #[.int .i64 n, .int .i64 cl, .int .i64 m, .int .i64 c, .int .i64 sg, .int .i64 kp, .int .i64 hz, .int .i64 rm]] w fun e w' => e = .returned (.bool true) ∧ Below w.heap.size w w' := by
  obtain ⟨sa, sc, la, lc, rfl⟩ := h.val
  obtain ⟨nodes, copies, parts, lives⟩ := p
  obtain ⟨kd, nd, pt, nn⟩ := x
  unfold evV
  unfold plV at h ⊢
  simp only at h ⊢
  obtain ⟨k1, hk1⟩ : ∃ k, parts.length = k := ⟨_, rfl⟩
  obtain ⟨k2, hk2⟩ : ∃ k, lives.length = k := ⟨_, rfl⟩
  rw [hk1, hk2] at h ⊢
  obtain ⟨W1, hW1⟩ : ∃ W, w.alloc (.cells #[.int .i64 nodes, .int .i64 copies, .slice sa k1 sc, .slice la k2 lc] 25) = W := ⟨_, rfl⟩
  obtain ⟨W2, hW2⟩ : ∃ W, W1.alloc (.cells #[.int .i64 kd, .int .i64 nd, .int .i64 pt, .int .i64 nn] 27) = W := ⟨_, rfl⟩
  obtain ⟨W3, hW3⟩ : ∃ W, W2.alloc (.cells #[.int .i64 n, .int .i64 cl, .int .i64 m, .int .i64 c, .int .i64 sg, .int .i64 kp, .int .i64 hz, .int .i64 rm] 29) = W := ⟨_, rfl⟩
  have hb1 : Below w.heap.size w W1 := by rw [← hW1]; exact (Below.refl _ _).alloc (Nat.le_refl _) _
  have hb12 : Below W1.heap.size W1 W2 := by rw [← hW2]; exact (Below.refl _ _).alloc (Nat.le_refl _) _
  have hb23 : Below W2.heap.size W2 W3 := by rw [← hW3]; exact (Below.refl _ _).alloc (Nat.le_refl _) _
  have hb2 := hb1.trans (hb12.mono hb1.size)
  have hb3 := hb2.trans (hb23.mono hb2.size)
  have kp0 : Blk W1 w.heap.size #[.int .i64 nodes, .int .i64 copies, .slice sa k1 sc, .slice la k2 lc] 25 := by rw [← hW1]; exact Blk.new _ _ _
  have kx0 : Blk W2 W1.heap.size #[.int .i64 kd, .int .i64 nd, .int .i64 pt, .int .i64 nn] 27 := by rw [← hW2]; exact Blk.new _ _ _
  have kc0 : Blk W3 W2.heap.size #[.int .i64 n, .int .i64 cl, .int .i64 m, .int .i64 c, .int .i64 sg, .int .i64 kp, .int .i64 hz, .int .i64 rm] 29 := by rw [← hW3]; exact Blk.new _ _ _
  have HKP : Hid (∀ wx, Below W3.heap.size W3 wx → Blk wx w.heap.size #[.int .i64 nodes, .int .i64 copies, .slice sa k1 sc, .slice la k2 lc] 25) := Lib.hid fun wx hb => ((kp0.below hb12).below hb23).below hb
  have HKX : Hid (∀ wx, Below W3.heap.size W3 wx → Blk wx W1.heap.size #[.int .i64 kd, .int .i64 nd, .int .i64 pt, .int .i64 nn] 27) := Lib.hid fun wx hb => (kx0.below hb23).below hb
  have HKC : Hid (∀ wx, Below W3.heap.size W3 wx → Blk wx W2.heap.size #[.int .i64 n, .int .i64 cl, .int .i64 m, .int .i64 c, .int .i64 sg, .int .i64 kp, .int .i64 hz, .int .i64 rm] 29) := Lib.hid fun wx hb => kc0.below hb
  have HPL : Hid (∀ wx, Below W3.heap.size W3 wx → PlR A wx (.agg #[.int .i64 nodes, .int .i64 copies, .slice sa k1 sc, .slice la k2 lc]) ⟨nodes, copies, parts, lives⟩) := Lib.hid fun wx hb => h.below (hb3.trans (hb.mono hb3.size))
  have HLB : Hid (∀ wx, Below W3.heap.size W3 wx → Lb wx) := Lib.hid fun wx hb => lb.below lb.size (hb3.trans (hb.mono hb3.size))
  have HB3 := Lib.hid hb3
  have HR3 := Lib.hid (Below.refl W3.heap.size W3)
  obtain ⟨R, hR⟩ : ∃ R, Pn.apply ⟨nodes, copies, parts, lives⟩ ⟨kd, nd, pt, nn⟩ = R := ⟨_, rfl⟩
  have hgo := out_good ⟨nodes, copies, parts, lives⟩ ⟨kd, nd, pt, nn⟩
  rw [hR] at hgo
  obtain ⟨Q, hQ⟩ : ∃ Q, Pn.rp R = Q := ⟨_, rfl⟩
  obtain ⟨T, hT⟩ : ∃ T, Pn.nums (Pn.rt R) = T := ⟨_, rfl⟩
  obtain ⟨cd, hcd⟩ : ∃ c, Pn.rc R = c := ⟨_, rfl⟩
  have hTl : T.length ≤ 4 := by rw [← hT]; unfold Pn.nums; rw [List.length_map]; exact hgo.2
  rw [hQ] at hgo
  have HGQ := Lib.hid hgo.1
  obtain ⟨U, hU⟩ : ∃ U, (if Pn.layB n c m = true then Pn.new n c m else Pn.zeroP) = U := ⟨_, rfl⟩
  obtain ⟨ud, hud⟩ : ∃ u : Int, (if Pn.layB n c m = true then 0 else 1) = u := ⟨_, rfl⟩
  have hgu := new_out n c m
  rw [hU] at hgu
  have HGU := Lib.hid hgu
  have HA1 : Hid (∀ wx, Below W3.heap.size W3 wx → Sml ⟨nodes, copies, parts, lives⟩ → Calls Tryz.prog 7 #[.agg #[.int .i64 nodes, .int .i64 copies, .slice sa k1 sc, .slice la k2 lc], .agg #[.int .i64 kd, .int .i64 nd, .int .i64 pt, .int .i64 nn]] wx fun e w' => Below wx.heap.size wx w' ∧ ∃ a0 c0 a1 c1 ta tc, e = .returned (.tuple #[.agg #[.int .i64 Q.nodes, .int .i64 Q.copies, .slice a0 Q.parts.length c0, .slice a1 Q.lives.length c1], .slice ta T.length tc, .int .i64 cd]) ∧ PlR (fun b => wx.heap.size ≤ b) w' (.agg #[.int .i64 Q.nodes, .int .i64 Q.copies, .slice a0 Q.parts.length c0, .slice a1 Q.lives.length c1]) Q ∧ Ns (fun b => wx.heap.size ≤ b) w' (.slice ta T.length tc) T) := Lib.hid fun wx hb hs => by
    have h1 := (apply_any _ ⟨nodes, copies, parts, lives⟩ ⟨kd, nd, pt, nn⟩ wx (HPL.out wx hb) (by have := hs.ps; omega) (by have := hs.ls; omega) (fun x hx => by have := hs.ch x hx; omega)).mono fun e w' h => apl_of h
    rw [hR] at h1
    unfold ApL plV at h1
    rw [hQ, hT, hcd] at h1
    exact h1
  have HA2 : Hid (∀ wx, Below W3.heap.size W3 wx → Sml ⟨nodes, copies, parts, lives⟩ → Calls Tryz.prog 8 #[.agg #[.int .i64 nodes, .int .i64 copies, .slice sa k1 sc, .slice la k2 lc], .agg #[.int .i64 kd, .int .i64 nd, .int .i64 pt, .int .i64 nn]] wx fun e w' => Below wx.heap.size wx w' ∧ ∃ a0 c0 a1 c1 ta tc, e = .returned (.tuple #[.agg #[.int .i64 Q.nodes, .int .i64 Q.copies, .slice a0 Q.parts.length c0, .slice a1 Q.lives.length c1], .slice ta T.length tc, .int .i64 cd]) ∧ PlR (fun b => wx.heap.size ≤ b) w' (.agg #[.int .i64 Q.nodes, .int .i64 Q.copies, .slice a0 Q.parts.length c0, .slice a1 Q.lives.length c1]) Q ∧ Ns (fun b => wx.heap.size ≤ b) w' (.slice ta T.length tc) T) := Lib.hid fun wx hb hs => by
    have h1 := (rapply_any _ ⟨nodes, copies, parts, lives⟩ ⟨kd, nd, pt, nn⟩ wx (HPL.out wx hb) (by have := hs.ps; omega) (by have := hs.ls; omega) (fun x hx => by have := hs.ch x hx; omega)).mono fun e w' h => apl_of h
    rw [hR] at h1
    unfold ApL plV at h1
    rw [hQ, hT, hcd] at h1
    exact h1
  have HN1 : Hid (∀ wx : World, Calls Tryz.prog 9 #[.agg #[.int .i64 n, .int .i64 cl, .int .i64 m, .int .i64 c, .int .i64 sg, .int .i64 kp, .int .i64 hz, .int .i64 rm]] wx fun e w' => Below wx.heap.size wx w' ∧ ∃ a0 c0 a1 c1, e = .returned (.tuple #[.agg #[.int .i64 U.nodes, .int .i64 U.copies, .slice a0 U.parts.length c0, .slice a1 U.lives.length c1], .int .i64 ud]) ∧ PlR (fun b => wx.heap.size ≤ b) w' (.agg #[.int .i64 U.nodes, .int .i64 U.copies, .slice a0 U.parts.length c0, .slice a1 U.lives.length c1]) U) := Lib.hid fun wx => by
    have h1 := (new_any n cl m c sg kp hz rm wx).mono fun e w' h => nwl_of h
    unfold NwL plV at h1
    rw [hU, hud] at h1
    exact h1
  have HN2 : Hid (∀ wx : World, Calls Tryz.prog 10 #[.agg #[.int .i64 n, .int .i64 cl, .int .i64 m, .int .i64 c, .int .i64 sg, .int .i64 kp, .int .i64 hz, .int .i64 rm]] wx fun e w' => Below wx.heap.size wx w' ∧ ∃ a0 c0 a1 c1, e = .returned (.tuple #[.agg #[.int .i64 U.nodes, .int .i64 U.copies, .slice a0 U.parts.length c0, .slice a1 U.lives.length c1], .int .i64 ud]) ∧ PlR (fun b => wx.heap.size ≤ b) w' (.agg #[.int .i64 U.nodes, .int .i64 U.copies, .slice a0 U.parts.length c0, .slice a1 U.lives.length c1]) U) := Lib.hid fun wx => by
    have h1 := (rnew_any n cl m c sg kp hz rm wx).mono fun e w' h => nwl_of h
    unfold NwL plV at h1
    rw [hU, hud] at h1
    exact h1
  obtain ⟨q0, hq0⟩ : ∃ k, Q.nodes = k := ⟨_, rfl⟩
  obtain ⟨q1, hq1⟩ : ∃ k, Q.copies = k := ⟨_, rfl⟩
  obtain ⟨q2, hq2⟩ : ∃ k, Q.parts.length = k := ⟨_, rfl⟩
  obtain ⟨q3, hq3⟩ : ∃ k, Q.lives.length = k := ⟨_, rfl⟩
  obtain ⟨u0, hu0⟩ : ∃ k, U.nodes = k := ⟨_, rfl⟩
  obtain ⟨u1, hu1⟩ : ∃ k, U.copies = k := ⟨_, rfl⟩
  obtain ⟨u2, hu2⟩ : ∃ k, U.parts.length = k := ⟨_, rfl⟩
  obtain ⟨u3, hu3⟩ : ∃ k, U.lives.length = k := ⟨_, rfl⟩
  obtain ⟨tn, htn⟩ : ∃ k, T.length = k := ⟨_, rfl⟩
  rw [hq0, hq1, hq2, hq3, htn] at HA1 HA2
  rw [hu0, hu1, hu2, hu3] at HN1 HN2
  have HTL := Lib.hid hTl
  have HTN := Lib.hid htn
  clear h lb hb1 hb12 hb23 hb2 hb3 kp0 kx0 kc0 hgo hgu hR hQ hT hcd hU hud hTl hk1 hk2 hq0 hq1 hq2 hq3 hu0 hu1 hu2 hu3 htn
  go_enter Tryz.func3, Tryz.ntmps3
  go_upto_region 1 with fail
  clear hW1 hW2 hW3
  go_wp2_with fail
  refine (awake_any W3 (HLB.out _ HR3.out)).mono ?_
  rintro e w4 ⟨rfl, hb4⟩
  have HB4 := Lib.hid hb4
  obtain ⟨p0, p1, p2, p3⟩ := (HKP.out _ hb4).cells4
  have HGT := Lib.hid (great_any _ _ w4 (HPL.out _ hb4))
  clear hb4
  go_wp2_with fail
  refine HGT.out.mono ?_
  rintro e w5 ⟨b, rfl, hb5, hs⟩
  have HB5 := Lib.hid (HB4.out.trans (hb5.mono HB4.out.size))
  clear hb5 HGT p0 p1 p2 p3
  cases b with
  | true =>
    go_wp2_with fail
    go_ret
    exact ⟨rfl, HB3.out.trans (HB5.out.mono HB3.out.size)⟩
  | false =>
  have HS := Lib.hid (hs rfl)
  clear hs
  obtain ⟨p0, p1, p2, p3⟩ := (HKP.out _ HB5.out).cells4
  obtain ⟨x0, x1, x2, x3⟩ := (HKX.out _ HB5.out).cells4
  go_wp2_with fail
  refine (HA1.out _ HB5.out HS.out).mono ?_
  rintro e w6 ⟨hb6, a0, c0, a1, c1, ta, tc, rfl, hp6, ht6⟩
  obtain ⟨W7, hW7⟩ : ∃ W, w6.alloc (.cells #[.int .i64 q0, .int .i64 q1, .slice a0 q2 c0, .slice a1 q3 c1] 25) = W := ⟨_, rfl⟩
  have hb7 : Below w6.heap.size w6 W7 := by rw [← hW7]; exact (Below.refl _ _).alloc (Nat.le_refl _) _
  have hka : Blk W7 w6.heap.size #[.int .i64 q0, .int .i64 q1, .slice a0 q2 c0, .slice a1 q3 c1] 25 := by rw [← hW7]; exact Blk.new _ _ _
  have HB6 := Lib.hid (HB5.out.trans (hb6.mono HB5.out.size))
  have HB7 := Lib.hid (HB6.out.trans (hb7.mono HB6.out.size))
  have HKA : Hid (∀ wx, Below W7.heap.size W7 wx → Blk wx w6.heap.size #[.int .i64 q0, .int .i64 q1, .slice a0 q2 c0, .slice a1 q3 c1] 25) := Lib.hid fun wx hb => hka.below hb
  have HPA : Hid (∀ wx, Below W7.heap.size W7 wx → PlR (fun b => w5.heap.size ≤ b) wx (.agg #[.int .i64 q0, .int .i64 q1, .slice a0 q2 c0, .slice a1 q3 c1]) Q) := Lib.hid fun wx hb => (hp6.below hb7).below hb
  have HTA : Hid (∀ wx, Below W7.heap.size W7 wx → Ns (fun b => w5.heap.size ≤ b) wx (.slice ta tn tc) T) := Lib.hid fun wx hb => (ht6.below hb7).below hb
  have HW7 := Lib.hid hW7
  clear hb6 hp6 ht6 hb7 hka hW7 p0 p1 p2 p3 x0 x1 x2 x3 HA1
  go_upto_region 6 with fail
  rw [HW7.out]
  clear HW7
  obtain ⟨p0, p1, p2, p3⟩ := (HKP.out _ HB7.out).cells4
  obtain ⟨x0, x1, x2, x3⟩ := (HKX.out _ HB7.out).cells4
  go_wp2_with fail
  refine (HA2.out _ HB7.out HS.out).mono ?_
  rintro e w8 ⟨hb8, a2, c2, a3, c3, tb, td, rfl, hp8, ht8⟩
  obtain ⟨W9, hW9⟩ : ∃ W, w8.alloc (.cells #[.int .i64 q0, .int .i64 q1, .slice a2 q2 c2, .slice a3 q3 c3] 25) = W := ⟨_, rfl⟩
  have hb9 : Below w8.heap.size w8 W9 := by rw [← hW9]; exact (Below.refl _ _).alloc (Nat.le_refl _) _
  have hkb : Blk W9 w8.heap.size #[.int .i64 q0, .int .i64 q1, .slice a2 q2 c2, .slice a3 q3 c3] 25 := by rw [← hW9]; exact Blk.new _ _ _
  have HB79 := Lib.hid (hb8.trans (hb9.mono hb8.size))
  have HB9 := Lib.hid (HB7.out.trans (HB79.out.mono HB7.out.size))
  have HKB : Hid (∀ wx, Below W9.heap.size W9 wx → Blk wx w8.heap.size #[.int .i64 q0, .int .i64 q1, .slice a2 q2 c2, .slice a3 q3 c3] 25) := Lib.hid fun wx hb => hkb.below hb
  have HPB : Hid (∀ wx, Below W9.heap.size W9 wx → PlR (fun b => W7.heap.size ≤ b) wx (.agg #[.int .i64 q0, .int .i64 q1, .slice a2 q2 c2, .slice a3 q3 c3]) Q) := Lib.hid fun wx hb => (hp8.below hb9).below hb
  have HTB : Hid (∀ wx, Below W9.heap.size W9 wx → Ns (fun b => W7.heap.size ≤ b) wx (.slice tb tn td) T) := Lib.hid fun wx hb => (ht8.below hb9).below hb
  have HW9 := Lib.hid hW9
  clear hb8 hp8 ht8 hb9 hkb hW9 p0 p1 p2 p3 x0 x1 x2 x3 HA2
  go_upto_region 7 with fail
  rw [HW9.out]
  clear HW9
  obtain ⟨f0, f1, f2, f3, f4, f5, f6, f7⟩ := (show _ ∧ _ ∧ _ ∧ _ ∧ _ ∧ _ ∧ _ ∧ _ from ⟨(HKC.out _ HB9.out).cell (i := 0) rfl, (HKC.out _ HB9.out).cell (i := 1) rfl, (HKC.out _ HB9.out).cell (i := 2) rfl, (HKC.out _ HB9.out).cell (i := 3) rfl, (HKC.out _ HB9.out).cell (i := 4) rfl, (HKC.out _ HB9.out).cell (i := 5) rfl, (HKC.out _ HB9.out).cell (i := 6) rfl, (HKC.out _ HB9.out).cell (i := 7) rfl⟩)
  go_wp2_with fail
  refine (HN1.out _).mono ?_
  rintro e w10 ⟨hb10, a4, c4, a5, c5, rfl, hp10⟩
  obtain ⟨W11, hW11⟩ : ∃ W, w10.alloc (.cells #[.int .i64 u0, .int .i64 u1, .slice a4 u2 c4, .slice a5 u3 c5] 25) = W := ⟨_, rfl⟩
  have hb11 : Below w10.heap.size w10 W11 := by rw [← hW11]; exact (Below.refl _ _).alloc (Nat.le_refl _) _
  have hku : Blk W11 w10.heap.size #[.int .i64 u0, .int .i64 u1, .slice a4 u2 c4, .slice a5 u3 c5] 25 := by rw [← hW11]; exact Blk.new _ _ _
  have HB911 := Lib.hid (hb10.trans (hb11.mono hb10.size))
  have HB11 := Lib.hid (HB9.out.trans (HB911.out.mono HB9.out.size))
  have HKU : Hid (∀ wx, Below W11.heap.size W11 wx → Blk wx w10.heap.size #[.int .i64 u0, .int .i64 u1, .slice a4 u2 c4, .slice a5 u3 c5] 25) := Lib.hid fun wx hb => hku.below hb
  have HPU : Hid (∀ wx, Below W11.heap.size W11 wx → PlR (fun b => W9.heap.size ≤ b) wx (.agg #[.int .i64 u0, .int .i64 u1, .slice a4 u2 c4, .slice a5 u3 c5]) U) := Lib.hid fun wx hb => (hp10.below hb11).below hb
  have HW11 := Lib.hid hW11
  clear hb10 hp10 hb11 hku hW11 f0 f1 f2 f3 f4 f5 f6 f7 HN1
  go_upto_region 8 with fail
  rw [HW11.out]
  clear HW11
  obtain ⟨f0, f1, f2, f3, f4, f5, f6, f7⟩ := (show _ ∧ _ ∧ _ ∧ _ ∧ _ ∧ _ ∧ _ ∧ _ from ⟨(HKC.out _ HB11.out).cell (i := 0) rfl, (HKC.out _ HB11.out).cell (i := 1) rfl, (HKC.out _ HB11.out).cell (i := 2) rfl, (HKC.out _ HB11.out).cell (i := 3) rfl, (HKC.out _ HB11.out).cell (i := 4) rfl, (HKC.out _ HB11.out).cell (i := 5) rfl, (HKC.out _ HB11.out).cell (i := 6) rfl, (HKC.out _ HB11.out).cell (i := 7) rfl⟩)
  go_wp2_with fail
  refine (HN2.out _).mono ?_
  rintro e w12 ⟨hb12, a6, c6, a7, c7, rfl, hp12⟩
  obtain ⟨W13, hW13⟩ : ∃ W, w12.alloc (.cells #[.int .i64 u0, .int .i64 u1, .slice a6 u2 c6, .slice a7 u3 c7] 25) = W := ⟨_, rfl⟩
  have hb13 : Below w12.heap.size w12 W13 := by rw [← hW13]; exact (Below.refl _ _).alloc (Nat.le_refl _) _
  have hkv : Blk W13 w12.heap.size #[.int .i64 u0, .int .i64 u1, .slice a6 u2 c6, .slice a7 u3 c7] 25 := by rw [← hW13]; exact Blk.new _ _ _
  have hb1113 := hb12.trans (hb13.mono hb12.size)
  have hb913 := HB911.out.trans (hb1113.mono HB911.out.size)
  have hb713 := HB79.out.trans (hb913.mono HB79.out.size)
  have HB13 := Lib.hid (HB11.out.trans (hb1113.mono HB11.out.size))
  obtain ⟨g0, g1, g2, g3⟩ := (HKA.out _ hb713).cells4
  obtain ⟨h0, h1, h2, h3⟩ := (HKB.out _ hb913).cells4
  obtain ⟨i0, i1, i2, i3⟩ := (HKU.out _ hb1113).cells4
  obtain ⟨j0, j1, j2, j3⟩ := hkv.cells4
  obtain ⟨p0, p1, p2, p3⟩ := (HKP.out _ HB13.out).cells4
  obtain ⟨G, hG⟩ : ∃ G, Pn.goodB ⟨nodes, copies, parts, lives⟩ = G := ⟨_, rfl⟩
  have hsm := HS.out
  have HC1 := Lib.hid fun d os => Calls.regrown_of (lsame _ _ Q _ ((HPA.out _ hb713).below (below_regrown W13 d os)) ((HPB.out _ hb913).below (below_regrown W13 d os)) HGQ.out)
  have HC2 := Lib.hid fun d os => Calls.regrown_of (lsame _ _ U _ ((HPU.out _ hb1113).below (below_regrown W13 d os)) ((hp12.below hb13).below (below_regrown W13 d os)) HGU.out)
  have HIN0 : Hid (∀ wx, Below W13.heap.size W13 wx → Calls Tryz.prog 12 #[.slice ta tn tc, .slice tb tn td] wx fun e w' => e = .returned (.bool true) ∧ Below wx.heap.size wx w') := Lib.hid fun wx hb => (ints_any _ _ T T wx ((HTA.out _ hb713).below hb) ((HTB.out _ hb913).below hb) (by have := HTL.out; omega)).mono fun e w' h => ⟨by rw [h.1]; simp, by obtain ⟨k, hk⟩ := h.2; rw [hk]; exact below_drewN _ _⟩
  have HC3 := Lib.hid fun d os => Calls.regrown_of (HIN0.out _ (below_regrown W13 d os))
  have HC4 := Lib.hid fun d os => Calls.regrown_of (good_any _ ⟨nodes, copies, parts, lives⟩ _ ((HPL.out _ HB13.out).below (below_regrown W13 d os)) (by have := hsm.ps; simp only at this ⊢; omega) (by have := hsm.ls; simp only at this ⊢; omega) (fun x hx => by have := hsm.ch x hx; omega))
  have HC5 := Lib.hid fun d os => Calls.regrown_of (rgood_any _ ⟨nodes, copies, parts, lives⟩ _ ((HPL.out _ HB13.out).below (below_regrown W13 d os)) (by have := hsm.ps; simp only at this ⊢; omega) (by have := hsm.ls; simp only at this ⊢; omega) (fun x hx => by have := hsm.ch x hx; omega))
  rw [hG] at HC4 HC5
  have HW13 := Lib.hid hW13
  clear hb12 hp12 hb13 hkv hW13 hb1113 hb913 hb713 hsm HIN0 f0 f1 f2 f3 f4 f5 f6 f7 HN2
  go_upto_region 9 with fail
  rw [HW13.out]
  clear HW13
  have g0r : ∀ d os, _ := cell_regrown g0
  have g1r : ∀ d os, _ := cell_regrown g1
  have g2r : ∀ d os, _ := cell_regrown g2
  have g3r : ∀ d os, _ := cell_regrown g3
  have h0r : ∀ d os, _ := cell_regrown h0
  have h1r : ∀ d os, _ := cell_regrown h1
  have h2r : ∀ d os, _ := cell_regrown h2
  have h3r : ∀ d os, _ := cell_regrown h3
  have i0r : ∀ d os, _ := cell_regrown i0
  have i1r : ∀ d os, _ := cell_regrown i1
  have i2r : ∀ d os, _ := cell_regrown i2
  have i3r : ∀ d os, _ := cell_regrown i3
  have j0r : ∀ d os, _ := cell_regrown j0
  have j1r : ∀ d os, _ := cell_regrown j1
  have j2r : ∀ d os, _ := cell_regrown j2
  have j3r : ∀ d os, _ := cell_regrown j3
  have p0r : ∀ d os, _ := cell_regrown p0
  have p1r : ∀ d os, _ := cell_regrown p1
  have p2r : ∀ d os, _ := cell_regrown p2
  have p3r : ∀ d os, _ := cell_regrown p3
  have nc : (cd != cd) = false := by simp
  have nu : (ud != ud) = false := by simp
  have nG : (G != G) = false := by simp
  clear g0 g1 g2 g3 h0 h1 h2 h3 i0 i1 i2 i3 j0 j1 j2 j3 p0 p1 p2 p3
  refine wp_region_quiet_below (by kernel_rfl) (by kernel_rfl) ?_
  repeat (go_big_quiet_step (first | (go_at_call 11; (first | with_reducible exact HC1.out _ _ | with_reducible exact HC2.out _ _)) | (go_at_call 12; with_reducible exact HC3.out _ _) | (go_at_call 13; with_reducible exact HC4.out _ _) | (go_at_call 14; with_reducible exact HC5.out _ _)))
  refine wpQuiet_nil ?_
  intro w14 hw14
  obtain ⟨⟨dq, osq⟩, hw14'⟩ := hw14
  have HB14 := Lib.hid (HB13.out.trans ((show Below W13.heap.size W13 w14 by rw [hw14']; exact below_regrown W13 dq osq).mono HB13.out.size))
  have hsm := HS.out
  have HGD := Lib.hid (rgood_any _ ⟨nodes, copies, parts, lives⟩ w14 (HPL.out _ HB14.out) (by have := hsm.ps; simp only at this ⊢; omega) (by have := hsm.ls; simp only at this ⊢; omega) (fun x hx => by have := hsm.ch x hx; omega))
  rw [hG] at HGD
  clear hw14' HC1 HC2 HC3 HC4 HC5 nc nu nG hG hsm g0r g1r g2r g3r h0r h1r h2r h3r i0r i1r i2r i3r j0r j1r j2r j3r p0r p1r p2r p3r
  obtain ⟨p0, p1, p2, p3⟩ := (HKP.out _ HB14.out).cells4
  go_wp2_with fail
  refine HGD.out.mono ?_
  rintro e w15 ⟨rfl, hb15⟩
  have HB15 := Lib.hid (HB14.out.trans (hb15.mono HB14.out.size))
  clear hb15 HGD p0 p1 p2 p3
  cases G with
  | false =>
    go_wp2_with fail
    go_ret
    exact ⟨rfl, HB3.out.trans (HB15.out.mono HB3.out.size)⟩
  | true =>
  have HPL15 : Hid (∀ wx, Below w15.heap.size w15 wx → PlR A wx (.agg #[.int .i64 nodes, .int .i64 copies, .slice sa k1 sc, .slice la k2 lc]) ⟨nodes, copies, parts, lives⟩) := Lib.hid fun wx hb => HPL.out wx (HB15.out.trans (hb.mono HB15.out.size))
  have hsm := HS.out
  obtain ⟨lf, hlf⟩ : ∃ l, Pn.life lives nd = l := ⟨_, rfl⟩
  obtain ⟨T2, hT2⟩ : ∃ T2, Pn.nums (Pn.wants ⟨nodes, copies, parts, lives⟩ nd) = T2 := ⟨_, rfl⟩
  have ht2 : T2.length ≤ 20 := by
    rw [← hT2]
    unfold Pn.nums Pn.wants
    rw [List.length_map]
    split
    · exact Nat.le_trans (Pn.idx_len _ _ _) hsm.ps
    · simp
  have HL1 : Hid (∀ wx, Below w15.heap.size w15 wx → Calls Tryz.prog 15 #[.agg #[.int .i64 nodes, .int .i64 copies, .slice sa k1 sc, .slice la k2 lc], .int .i64 nd] wx fun e w' => NumOut wx lf e w') := Lib.hid fun wx hb => by
    rw [← hlf]; exact life_any _ ⟨nodes, copies, parts, lives⟩ nd wx (HPL15.out wx hb) (by have := hsm.ls; simp only at this ⊢; omega)
  have HL2 : Hid (∀ wx, Below w15.heap.size w15 wx → Calls Tryz.prog 16 #[.agg #[.int .i64 nodes, .int .i64 copies, .slice sa k1 sc, .slice la k2 lc], .int .i64 nd] wx fun e w' => NumOut wx lf e w') := Lib.hid fun wx hb => by
    rw [← hlf]; exact rlife_any _ ⟨nodes, copies, parts, lives⟩ nd wx (HPL15.out wx hb) (by have := hsm.ls; simp only at this ⊢; omega)
  have HWN1 : Hid (∀ wx, Below w15.heap.size w15 wx → Calls Tryz.prog 17 #[.agg #[.int .i64 nodes, .int .i64 copies, .slice sa k1 sc, .slice la k2 lc], .int .i64 nd] wx fun e w' => LstOut wx T2 e w') := Lib.hid fun wx hb => by
    rw [← hT2]; exact wants_any _ ⟨nodes, copies, parts, lives⟩ nd wx (HPL15.out wx hb) (by have := hsm.ps; simp only at this ⊢; omega) (fun x hx => by have := hsm.ch x hx; omega)
  have HWN2 : Hid (∀ wx, Below w15.heap.size w15 wx → Calls Tryz.prog 18 #[.agg #[.int .i64 nodes, .int .i64 copies, .slice sa k1 sc, .slice la k2 lc], .int .i64 nd] wx fun e w' => LstOut wx T2 e w') := Lib.hid fun wx hb => by
    rw [← hT2]; exact rwants_any _ ⟨nodes, copies, parts, lives⟩ nd wx (HPL15.out wx hb) (by have := hsm.ps; simp only at this ⊢; omega) (fun x hx => by have := hsm.ch x hx; omega)
  have HIN : Hid (∀ (A B : Nat → Prop) (u v : Value) (wx : World), Ns A wx u T2 → Ns B wx v T2 → Calls Tryz.prog 12 #[u, v] wx fun e w' => e = .returned (.bool true) ∧ Below wx.heap.size wx w') := Lib.hid fun A B u v wx hu hv => (ints_any u v T2 T2 wx hu hv (by omega)).mono fun e w' h => ⟨by rw [h.1]; simp, by obtain ⟨k, hk⟩ := h.2; rw [hk]; exact below_drewN _ _⟩
  have nl : (lf == lf) = true := by simp
  obtain ⟨p0, p1, p2, p3⟩ := (HKP.out _ HB15.out).cells4
  obtain ⟨x0, x1, x2, x3⟩ := (HKX.out _ HB15.out).cells4
  have HX0 := Lib.hid (drew_refl w15)
  clear hlf hT2 ht2 hsm HPL15
  go_upto_region 13 with fail
  have hB := HX0.out
  go_region_held3 (fun w' => w'.cell? ⟨w.heap.size, 0, none⟩ = some (.int .i64 nodes) ∧ w'.cell? ⟨w.heap.size, 1, none⟩ = some (.int .i64 copies) ∧ w'.cell? ⟨w.heap.size, 2, none⟩ = some (.slice sa k1 sc) ∧ w'.cell? ⟨w.heap.size, 3, none⟩ = some (.slice la k2 lc) ∧ w'.cell? ⟨W1.heap.size, 1, none⟩ = some (.int .i64 nd))
    (first | with_reducible exact ⟨dcell hB p0, dcell hB p1, dcell hB p2, dcell hB p3, dcell hB x1⟩ | fail)
    (first
      | (go_at_call 15; ((with_reducible refine (HL1.out _ (of_drew hB)).mono ?_); rintro e w16 ⟨rfl, hb16⟩; have hB := drew_trans hB hb16; clear hb16))
      | (go_at_call 16; ((with_reducible refine (HL2.out _ (of_drew hB)).mono ?_); rintro e w17 ⟨rfl, hb17⟩; have hB := drew_trans hB hb17; clear hb17))
      | (go_at_call 17; ((with_reducible refine (HWN1.out _ (of_drew hB)).mono ?_); rintro e w18 ⟨hbL, v1, e1, rfl, hz1⟩; obtain ⟨r1, s1, rfl⟩ := hz1.ns.form; have HZ1 := Lib.hid (fun wx (hb : Below w18.heap.size w18 wx) => hz1.ns.below hb); clear hz1; have hB := drew_trans hB hbL))
      | (go_at_call 18; ((with_reducible refine (HWN2.out _ (of_drew hB)).mono ?_); rintro e w19 ⟨hbL, v2, e2, rfl, hz2⟩; obtain ⟨r2, s2, rfl⟩ := hz2.ns.form; have HZ2 := Lib.hid (fun wx (hb : Below w19.heap.size w19 wx) => hz2.ns.below hb); clear hz2; have hB := drew_trans hB hbL))
      | (go_at_call 12; ((with_reducible refine (HIN.out _ _ _ _ _ (HZ1.out _ (by first | exact Below.refl _ _ | exact hbL)) (HZ2.out _ (by first | exact Below.refl _ _ | exact hbL))).mono ?_); rintro e w20 ⟨rfl, hb20⟩; have hB := drew_trans hB hb20; clear hb20))
      | fail)
  all_goals
    have HBD := Lib.hid (of_drew hB)
    clear hB p0 p1 p2 p3 x0 x1 x2 x3
    go_wp2_with fail
    go_ret
    exact ⟨rfl, HB3.out.trans ((HB15.out.trans (HBD.out.mono HB15.out.size)).mono HB3.out.size)⟩
end Go.Proofs.YtmkinnheoejphaaGreatDoor
