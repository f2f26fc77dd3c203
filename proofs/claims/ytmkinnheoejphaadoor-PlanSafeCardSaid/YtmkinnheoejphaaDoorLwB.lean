/- THE CONTRACT of the laws' begun. -/
import Derived.Test.YtmkinnheoejphaaDoorLwI
import Derived.Test.YtmkinnheoejphaaDoorPnX
import Derived.Test.YtmkinnheoejphaaDoorPnS2
import Derived.Deep.RegionHeld3
namespace Go.Proofs.YtmkinnheoejphaaDoor
open Go.RowKit

theorem modN (x : Int) (k : Int) (hk : 0 < k) (hk2 : k ≤ 1048576) : ∃ H : Nat, (H : Int) < k ∧ wrap64 ((IntKind.u64.wrap x).tmod k) = (H : Int) := by
  have h0 : 0 ≤ IntKind.u64.wrap x := by
    show 0 ≤ x % _
    exact Int.emod_nonneg _ (by decide)
  have h1 : (IntKind.u64.wrap x).tmod k = (IntKind.u64.wrap x) % k := Int.tmod_eq_emod_of_nonneg h0
  have h2 : 0 ≤ (IntKind.u64.wrap x) % k := Int.emod_nonneg _ (by omega)
  have h3 : (IntKind.u64.wrap x) % k < k := Int.emod_lt_of_pos _ hk
  refine ⟨((IntKind.u64.wrap x) % k).toNat, by omega, ?_⟩
  rw [h1, Int.toNat_of_nonneg h2]
  generalize (IntKind.u64.wrap x) % k = y at h2 h3
  unfold wrap64
  omega
theorem farB {w : World} {b o : Nat} {ob : Obj} {x : Value} (k : w.cell? ⟨b, o, none⟩ = some x) : (w.alloc ob).cell? ⟨b, o, none⟩ = some x := by
  rw [← k]
  exact Below.cell (p := ⟨b, o, none⟩) ((Below.refl w.heap.size w).alloc (Nat.le_refl _) ob) (block_lt_of_cell k)
theorem PlO.mono {z z' : Nat} {w : World} {pv : Value} {p : Pn.P} (h : PlO z w pv p) (hz : z' ≤ z) : PlO z' w pv p := by
  obtain ⟨lab, sv, lv, h1, ⟨gb, E, h2, h3⟩, h4⟩ := h
  exact ⟨lab, sv, lv, h1, ⟨gb, E, h2, h3.mono hz⟩, h4.mono hz⟩
theorem PlO.kb {z b : Nat} {w w' : World} {pv : Value} {p : Pn.P} (h : PlO z w pv p) (hk : Kb b w w') (hb : b < z) : PlO z w' pv p := by
  obtain ⟨lab, sv, lv, h1, h2, h3⟩ := h
  refine ⟨lab, sv, lv, h1, h2.keep fun c hl hz _ => ⟨hk.block c hl (by omega), rfl⟩, ?_⟩
  obtain ⟨gb, h4, h5⟩ := h3
  exact ⟨gb, h4.kb hk (fun e => by have := h4.2 _ e; omega), h5⟩
def BegOut (w : World) (e : Ending) (w' : World) : Prop := Below w.heap.size w w' ∧ ∃ (n c m : Int) (pv : Value), Pn.layB n c m = true ∧ e = .returned pv ∧ PlO w.heap.size w' pv (Pn.new n c m)
theorem begun_ret {W : World} {rb : Nat} {a0 a1 a2 a3 : Value} {tmps : Array Value} (hb : Blk W rb #[a0, a1, a2, a3] 28) (h2 : tmps.getD 2 undef = .pointer (some ⟨rb, 0, none⟩)) :
    (results Tryd.f9 tmps).run Tryd.prog W = .ok (.agg #[a0, a1, a2, a3]) W := by
  obtain ⟨d, hd, hs⟩ := undPlan
  have hl := run_loadVar_row (P := Tryd.prog) W rb 28 28 #[a0, a1, a2, a3] (0, 0) d hb hd (by cases d <;> exact hs) sizePlan
  simp only [results, Tryd.results9]
  rw [Array.getD_eq_getD_getElem?] at h2
  simp [asAddr, hl, h2]
set_option maxHeartbeats 4000000 in
set_option maxRecDepth 100000 in
theorem begun_any (s0 s1 s2 : Int) (w : World) : Calls Tryd.prog 9 #[.agg #[.int .i64 s0, .int .i64 s1, .int .i64 s2]] w fun e w' => BegOut w e w' := by
  obtain ⟨H, hH1, hH2⟩ := modN s0 5 (by decide) (by decide)
  obtain ⟨n, hn⟩ : ∃ n : Int, 1 + (H : Int) = n := ⟨_, rfl⟩
  obtain ⟨C, hC1, hC2⟩ := modN s1 n (by omega) (by omega)
  obtain ⟨M, hM1, hM2⟩ := modN s2 3 (by decide) (by decide)
  obtain ⟨W1, hW1⟩ : ∃ W, w.alloc (.cells #[.int .i64 s0, .int .i64 s1, .int .i64 s2] 22) = W := ⟨_, rfl⟩
  obtain ⟨W2, hW2⟩ : ∃ W, W1.alloc (.cells #[.int .i64 0, .int .i64 0, .slice none 0 0, .slice none 0 0] 28) = W := ⟨_, rfl⟩
  have hb1 : Below w.heap.size w W1 := by rw [← hW1]; exact (Below.refl _ _).alloc (Nat.le_refl _) _
  have hb12 : Below W1.heap.size W1 W2 := by rw [← hW2]; exact (Below.refl _ _).alloc (Nat.le_refl _) _
  have k0 : Blk W1 w.heap.size #[.int .i64 s0, .int .i64 s1, .int .i64 s2] 22 := by rw [← hW1]; exact Blk.new _ _ _
  have k1 : Blk W2 w.heap.size #[.int .i64 s0, .int .i64 s1, .int .i64 s2] 22 := by
    refine Blk.below ?_ hb12
    rw [← hW1]; exact Blk.new _ _ _
  have k2 : Blk W2 W1.heap.size #[.int .i64 0, .int .i64 0, .slice none 0 0, .slice none 0 0] 28 := by rw [← hW2]; exact Blk.new _ _ _
  have HB2 := Lib.hid (hb1.trans (hb12.mono hb1.size))
  have HK2 := Lib.hid k2
  have HLT : Hid (w.heap.size < W1.heap.size ∧ W1.heap.size < W2.heap.size) := Lib.hid ⟨k0.lt, k2.lt⟩
  obtain ⟨x0, x1, x2⟩ := k1.cells3
  have HHN := Lib.hid hn
  have hn1 : 1 ≤ n := by omega
  have hn5 : n ≤ 5 := by omega
  have HW1 := Lib.hid hW1
  have HW2 := Lib.hid hW2
  clear hb1 hb12 k0 k1 k2
  go_enter Tryd.func9, Tryd.ntmps9
  go_upto_region 1 with fail
  clear hW1 hW2 hn
  go_upto_region 2 with fail
  rw [hH2, HHN.out]
  obtain ⟨c, hc⟩ : ∃ c : Int, 1 + (C : Int) = c := ⟨_, rfl⟩
  obtain ⟨m, hm⟩ : ∃ m : Int, 2 + (M : Int) = m := ⟨_, rfl⟩
  have HLY : Hid (Pn.layB n c m = true) := Lib.hid (Pn.lay_iff.2 (by omega))
  have HNW : Hid (∀ wx, Calls Tryd.prog 19 #[.agg #[.int .i64 n, .int .i64 0, .int .i64 m, .int .i64 c, .int .i64 0, .int .i64 0, .int .i64 0, .int .i64 0]] wx fun e w' => Below wx.heap.size wx w' ∧ ∃ sa sn sc la ln lc, e = .returned (.tuple #[.agg #[.int .i64 n, .int .i64 c, .slice sa sn sc, .slice la ln lc], .int .i64 0]) ∧ PlO wx.heap.size w' (.agg #[.int .i64 n, .int .i64 c, .slice sa sn sc, .slice la ln lc]) (Pn.new n c m)) := Lib.hid fun wx => by
    have h := new_any n 0 m c 0 0 0 0 wx
    unfold NewOut at h
    rw [HLY.out] at h
    refine h.mono ?_
    rintro e w' ⟨hb, pv, rfl, hp⟩
    obtain ⟨lab, sv, lv, rfl, h1, h2⟩ := hp
    obtain ⟨sa, sc, rfl⟩ := h1.form
    obtain ⟨la, lc, rfl⟩ := h2.rd.form
    exact ⟨hb, _, _, _, _, _, _, rfl, lab, _, _, rfl, h1, h2⟩
  have hu : IntKind.u64.wrap n = n := by rw [IntKind.wrap_u64]; omega
  have hn0 : ¬ (n = 0) := by omega
  have hC3 : IntKind.i64.wrap ((IntKind.u64.wrap s1).tmod n) = (C : Int) := by rw [IntKind.wrap_i64]; unfold wrap64 at hC2; omega
  have hM3 : IntKind.i64.wrap ((IntKind.u64.wrap s2).tmod 3) = (M : Int) := by rw [IntKind.wrap_i64]; unfold wrap64 at hM2; omega
  have hc3 : IntKind.i64.wrap (1 + (C : Int)) = c := by rw [IntKind.wrap_i64]; omega
  have hm3 : IntKind.i64.wrap (2 + (M : Int)) = m := by rw [IntKind.wrap_i64]; omega
  have HX := Lib.hid (drew_refl W2)
  have HXA : Hid (∀ o, Below W2.heap.size W2.drew (W2.alloc o).drew) := Lib.hid fun o => by
    have h := (Below.refl W2.heap.size W2).alloc (Nat.le_refl _) o
    exact ⟨h.os, h.tape, h.output, h.size, h.block⟩
  have HZ : Hid (Blk (W2.alloc (.cells #[.int .i64 0, .int .i64 0, .slice none 0 0, .slice none 0 0] 28)).drew W2.heap.size #[.int .i64 0, .int .i64 0, .slice none 0 0, .slice none 0 0] 28) := Lib.hid (Blk.new W2 _ _)
  have HNE : Hid (w.heap.size ≠ W2.heap.size) := Lib.hid (by have := HLT.out; omega)
  clear hc hm HHN hH1 hH2 hn1 hn5
  have hB := HX.out
  go_region_held3 (fun w' => w'.cell? ⟨w.heap.size, 1, none⟩ = some (.int .i64 s1) ∧ w'.cell? ⟨w.heap.size, 2, none⟩ = some (.int .i64 s2)) (first | with_reducible exact ⟨dcell hB x1, dcell hB x2⟩ | with_reducible exact ⟨far4 HNE.out (dcell hB x1), far4 HNE.out (dcell hB x2)⟩ | with_reducible exact ⟨dcell (HXA.out _) x1, dcell (HXA.out _) x2⟩ | with_reducible exact ⟨farB (dcell hB x1), farB (dcell hB x2)⟩ | (trace_state; fail))
    (first
      | (go_at_call 19; ((with_reducible refine (HNW.out _).mono ?_); rintro e w3 ⟨hb3, sa, sn, sc, la, ln, lc, rfl, hp3⟩; have HP3 := Lib.hid hp3; have hB := (show Below W2.heap.size W2.drew w3 by first | with_reducible exact drew_trans HX.out hb3 | with_reducible exact drew_trans (HXA.out _) hb3); try (obtain ⟨z0, z1, z2, z3⟩ := (HZ.out.below hb3).cells4; obtain ⟨y0, y1, y2, y3⟩ := (HZ.out.below hb3).free4); have HB3 := Lib.hid hb3; clear hp3 hb3))
      | fail)
  all_goals
    have HB3' := Lib.hid hB
    clear hB
    have HBW := Lib.hid (HB2.out.trans ((of_drew HB3'.out).mono HB2.out.size))
    have HFIN : Hid (∀ WF, Below W2.heap.size W2 WF → PlO W2.heap.size WF (.agg #[.int .i64 n, .int .i64 c, .slice sa sn sc, .slice la ln lc]) (Pn.new n c m) → ∀ a0 a1 a2 a3,
        Below w.heap.size w ((((WF.setCell ⟨W1.heap.size, 0, none⟩ a0).setCell ⟨W1.heap.size, 1, none⟩ a1).setCell ⟨W1.heap.size, 2, none⟩ a2).setCell ⟨W1.heap.size, 3, none⟩ a3) ∧
        PlO w.heap.size ((((WF.setCell ⟨W1.heap.size, 0, none⟩ a0).setCell ⟨W1.heap.size, 1, none⟩ a1).setCell ⟨W1.heap.size, 2, none⟩ a2).setCell ⟨W1.heap.size, 3, none⟩ a3) (.agg #[.int .i64 n, .int .i64 c, .slice sa sn sc, .slice la ln lc]) (Pn.new n c m)) := Lib.hid fun WF hb hp a0 a1 a2 a3 => by
      have hlt := HLT.out
      have hs := hb.size
      exact ⟨(HB2.out.trans (hb.mono HB2.out.size)).trans ((four_kb WF W1.heap.size a0 a1 a2 a3).below (by omega) (by omega)), (hp.kb (four_kb WF W1.heap.size a0 a1 a2 a3) (by omega)).mono (by omega)⟩
    have hWD : ∀ V : World, V.drew.heap.size = V.heap.size := fun V => rfl
    first
      | (obtain ⟨WF, hWF⟩ : ∃ W, ((((w3.setCell ⟨W2.heap.size, 0, none⟩ (.int .i64 n)).setCell ⟨W2.heap.size, 1, none⟩ (.int .i64 c)).setCell ⟨W2.heap.size, 2, none⟩ (.slice sa sn sc)).setCell ⟨W2.heap.size, 3, none⟩ (.slice la ln lc)) = W := ⟨_, rfl⟩
         rw [hWF]
         have hk : Kb W2.heap.size w3 WF := by rw [← hWF]; exact four_kb _ _ _ _ _ _
         have hz : W2.heap.size < (W2.alloc (.cells #[.int .i64 0, .int .i64 0, .slice none 0 0, .slice none 0 0] 28)).heap.size := HZ.out.lt
         have HPF := Lib.hid ((HP3.out.kb hk hz).mono (Nat.le_of_lt hz))
         have HBF := Lib.hid ((of_drew HB3'.out).trans (hk.below (Nat.le_refl _) (Nat.lt_of_lt_of_le hz HB3.out.size)))
         have hbx : Blk WF W2.heap.size #[.int .i64 n, .int .i64 c, .slice sa sn sc, .slice la ln lc] 28 := by rw [← hWF]; exact (HZ.out.below HB3.out).four _ _ _ _)
      | (obtain ⟨WF, hWF⟩ : ∃ W, w3.alloc (.cells #[.int .i64 n, .int .i64 c, .slice sa sn sc, .slice la ln lc] 28) = W := ⟨_, rfl⟩
         rw [hWF]
         have hb : Below w3.heap.size w3 WF := by rw [← hWF]; exact (Below.refl _ _).alloc (Nat.le_refl _) _
         have HPF := Lib.hid (HP3.out.below hb)
         have HBF := Lib.hid ((of_drew HB3'.out).trans (hb.mono (of_drew HB3'.out).size))
         have hbx : Blk WF w3.heap.size #[.int .i64 n, .int .i64 c, .slice sa sn sc, .slice la ln lc] 28 := by rw [← hWF]; exact Blk.new _ _ _)
      | fail
    all_goals
      have HKR := Lib.hid (HK2.out.below HBF.out)
      obtain ⟨c0, c1, c2, c3⟩ := hbx.cells4
      obtain ⟨z0, z1, z2, z3⟩ := HKR.out.cells4
      obtain ⟨y0, y1, y2, y3⟩ := HKR.out.free4
      clear hbx hWF hWD
      go_wp2_with fail
      refine bodyPost_ret (begun_ret (Blk.four HKR.out _ _ _ _) rfl) rfl ?_
      obtain ⟨hf1, hf2⟩ := HFIN.out WF HBF.out HPF.out _ _ _ _
      exact ⟨hf1, n, c, m, _, HLY.out, rfl, hf2⟩
end Go.Proofs.YtmkinnheoejphaaDoor
