/- THE CONTRACT of the law's rising. -/
import Derived.Test.YtfapigccdbpepaaLGreat
namespace Go.Proofs.Ytfapigccdbpepaa
open Go.RowKit

/-- A batch's time. -/
def tmOf (ts : List Int) (i : Nat) : Int := if ts = [] then 0 else wrap64 ((IntKind.u64.wrap (ts.getD (i % ts.length) 0)).tmod 1000)
/-- The batch of a record. -/
def rb (rs : List Pl.Rc) (ts : List Int) (i : Nat) : Pl.Bt := ⟨i, 1, 0, 0, tmOf ts i, [{ rs.getD i ⟨0, [], [], false⟩ with off := i }]⟩
def riseTo (rs : List Pl.Rc) (ts : List Int) (k : Nat) : List Pl.Bt := (List.range k).map (rb rs ts)
def rise (rs : List Pl.Rc) (ts : List Int) : List Pl.Bt := riseTo rs ts (min rs.length 40)
theorem riseTo_next (rs : List Pl.Rc) (ts : List Int) (k : Nat) : riseTo rs ts (k + 1) = riseTo rs ts k ++ [rb rs ts k] := by
  unfold riseTo
  rw [List.range_succ, List.map_append]
  rfl
def RiseOut (w : World) (l : List Pl.Bt) (e : Ending) (w' : World) : Prop :=
  Below w.heap.size w w' ∧ ∃ v' L, e = .returned v' ∧ BtIn (fun b => w.heap.size ≤ b) w' v' L ∧ L.map (·.1) = l

set_option maxHeartbeats 4000000 in
set_option maxRecDepth 100000 in
theorem rising_any {A A' : Nat → Prop} (v tv : Value) (rs : List Pl.Rc) (ts : List Int) (w : World) (h : RcIn A w v rs) (ht : Nm A' w tv ts) :
    Calls Try.prog 21 #[v, tv] w (RiseOut w (rise rs ts)) := by
  obtain ⟨a1, c1, rfl⟩ := h.slice
  obtain ⟨a2, c2, rfl⟩ := ht.form
  obtain ⟨m, hm⟩ : ∃ m, rs.length = m := ⟨_, rfl⟩
  obtain ⟨tl, htn⟩ : ∃ n, ts.length = n := ⟨_, rfl⟩
  have HV := Lib.hid h
  have HTV := Lib.hid ht
  have HM := Lib.hid hm
  have HTN := Lib.hid htn
  rw [hm] at HV ⊢
  rw [htn] at HTV ⊢
  clear h ht hm htn
  go_enter Try.func21, Try.ntmps21
  go_wp2_with fail
  have ho := Wb.empty w (Nat.le_refl w.heap.size)
  have hb0 : Below w.heap.size w (w.alloc (.cells #[] 42)) := (Below.refl _ _).alloc (Nat.le_refl _) _
  have HT := Lib.hid (And.intro ho hb0)
  clear ho hb0
  go_loopw [5, 6] (fun ov iv wr => ∃ (i : Nat) (gb : Option Nat) (L : List (Pl.Bt × Value)), i ≤ m ∧ i ≤ 40 ∧ iv = .int .i64 i ∧ Wb w.heap.size ov gb L wr ∧ Below w.heap.size w wr ∧ L.map (·.1) = riseTo rs ts i) (fun _ iv _ => 40 - (intOf iv).toNat)
  case atStart => exact ⟨0, _, [], Nat.zero_le _, by omega, rfl, HT.out.1, HT.out.2, rfl⟩
  case round =>
    obtain ⟨i, gb, L, hi, hi40, rfl, hwb, hbw, hL⟩ := hrel
    have HWB := Lib.hid hwb
    have HBW := Lib.hid hbw
    have HLL := Lib.hid hL
    clear hL HT
    by_cases hlt : i < m
    · have hdl : decide ((i : Int) < (m : Int)) = true := by simp; omega
      by_cases hl40 : i < 40
      · have hd40 : decide ((i : Int) < 40) = true := by simp; omega
        obtain ⟨x, hx⟩ : ∃ x, rs[i]? = some x := ⟨_, List.getElem?_eq_getElem (by rw [HM.out]; exact hlt)⟩
        obtain ⟨a3, cap3, e3, hrc⟩ := RcIn.recs (HV.out.below hbw)
        rw [HM.out] at e3
        have hrc2 : a1 = a3 := by injection e3
        subst hrc2
        obtain ⟨b3, o3, rfl, hbl3, d0, d1, d2, d3⟩ := hrc i _ hx
        obtain ⟨off, key, val, gone⟩ := x
        have HX := Lib.hid hx
        obtain ⟨N1, hN1⟩ : ∃ N1, wr.heap.size = N1 := ⟨_, rfl⟩
        obtain ⟨W1, hW1⟩ : ∃ W1, wr.alloc (.cells #[.int .i64 i, .string ⟨key.toArray⟩, .string ⟨val.toArray⟩, .bool gone] 44) = W1 := ⟨_, rfl⟩
        have HK1 : Hid (Blk W1 N1 #[.int .i64 i, .string ⟨key.toArray⟩, .string ⟨val.toArray⟩, .bool gone] 44) := Lib.hid (by
          rw [← hW1, ← hN1]
          exact Blk.new wr _ _)
        have hb1 : Below N1 wr W1 := by
          rw [← hW1]
          exact (Below.refl N1 wr).alloc (by omega) _
        have s1 : W1.heap.size = N1 + 1 := by rw [← hW1]; simp [hN1]
        have HN1 := Lib.hid hN1
        have HW1 := Lib.hid hW1
        have HB1 := Lib.hid hb1
        have HS1 := Lib.hid s1
        clear hrc e3 hx hbl3 hwb hbw hb1 s1 hW1
        go_upto_region 7 with fail
        rw [HW1.out]
        have z0 : W1.cell? ⟨N1, 0, none⟩ = some (.int .i64 i) := HK1.out.cell rfl
        have z1 : W1.cell? ⟨N1, 1, none⟩ = some (.string ⟨key.toArray⟩) := HK1.out.cell rfl
        have z2 : W1.cell? ⟨N1, 2, none⟩ = some (.string ⟨val.toArray⟩) := HK1.out.cell rfl
        have z3 : W1.cell? ⟨N1, 3, none⟩ = some (.bool gone) := HK1.out.cell rfl
        obtain ⟨N2, hN2⟩ : ∃ N2, W1.heap.size = N2 := ⟨_, rfl⟩
        obtain ⟨W2, hW2⟩ : ∃ W2, W1.alloc (.cells #[.int .i64 i, .string ⟨key.toArray⟩, .string ⟨val.toArray⟩, .bool gone] 44) = W2 := ⟨_, rfl⟩
        obtain ⟨N3, hN3⟩ : ∃ N3, W2.heap.size = N3 := ⟨_, rfl⟩
        obtain ⟨W3, hW3⟩ : ∃ W3, W2.alloc (.cells #[.int .i64 i, .int .i64 1, .int .i64 0, .int .i64 0, .int .i64 0, .slice (some ⟨N2, 0, none⟩) 1 1] 42) = W3 := ⟨_, rfl⟩
        have hb2 : Below N2 W1 W2 := by rw [← hW2, ← hN2]; exact (Below.refl _ _).alloc (Nat.le_refl _) _
        have s2 : N3 = N2 + 1 := by rw [← hN3, ← hW2, ← hN2]; simp
        have hb3 : Below N3 W2 W3 := by rw [← hW3, ← hN3]; exact (Below.refl _ _).alloc (Nat.le_refl _) _
        have s3 : W3.heap.size = N3 + 1 := by rw [← hW3, ← hN3]; simp
        have hk2 : Blk W2 N2 #[.int .i64 i, .string ⟨key.toArray⟩, .string ⟨val.toArray⟩, .bool gone] 44 := by rw [← hW2, ← hN2]; exact Blk.new _ _ _
        have hk3 : Blk W3 N3 #[.int .i64 i, .int .i64 1, .int .i64 0, .int .i64 0, .int .i64 0, .slice (some ⟨N2, 0, none⟩) 1 1] 42 := by rw [← hW3, ← hN3]; exact Blk.new _ _ _
        have HNS : Hid (N1 + 1 = N2 ∧ N3 = N2 + 1 ∧ W3.heap.size = N3 + 1 ∧ w.heap.size ≤ N1) := Lib.hid ⟨by rw [← hN2]; exact HS1.out.symm, s2, s3, by rw [← HN1.out]; exact HBW.out.size⟩
        have hrin : RcIn (fun b => b = N2) W2 (.slice (some ⟨N2, 0, none⟩) 1 1) [⟨i, key, val, gone⟩] := by
          rw [← hW2]
          exact Rds.lit hN2 (cells4 ⟨i, key, val, gone⟩) 44 4 1 rfl
        have hb13 : Below N1 wr W3 := HB1.out.trans ((hb2.mono (by have := HNS.out; omega)).trans (hb3.mono (by have := HNS.out; omega)))
        have HB13 := Lib.hid hb13
        have HK3 := Lib.hid hk3
        have HR3 : Hid (RcIn (fun b => b = N2) W3 (.slice (some ⟨N2, 0, none⟩) 1 1) [⟨i, key, val, gone⟩]) := Lib.hid (Rds.below hrin (by rw [hN3]; exact hb3))
        have HN2 := Lib.hid hN2
        have HN3 := Lib.hid hN3
        have HW2 := Lib.hid hW2
        have HW3 := Lib.hid hW3
        have HWB3 : Hid (Wb w.heap.size u5 gb L W3) := Lib.hid (HWB.out.below (by rw [HN1.out]; exact hb13))
        have HBW3 : Hid (Below w.heap.size w W3) := Lib.hid (HBW.out.trans (hb13.mono HNS.out.2.2.2))
        have HX4 : Hid ((rs.getD i ⟨0, [], [], false⟩ : Pl.Rc) = ⟨off, key, val, gone⟩) := Lib.hid (by rw [List.getD_eq_getElem?_getD, HX.out]; rfl)
        clear hN1 hN2 hW2 hN3 hW3 hb2 s2 hb3 s3 hk2 hk3 hrin hb13 d0 d1 d2 d3
        go_upto_region 8 with fail
        rw [HN2.out, HW2.out, ← HNS.out.2.1, HW3.out]
        have y0 : W3.cell? ⟨N3, 0, none⟩ = some (.int .i64 i) := HK3.out.cell rfl
        have y1 : W3.cell? ⟨N3, 1, none⟩ = some (.int .i64 1) := HK3.out.cell rfl
        have y2 : W3.cell? ⟨N3, 2, none⟩ = some (.int .i64 0) := HK3.out.cell rfl
        have y3 : W3.cell? ⟨N3, 3, none⟩ = some (.int .i64 0) := HK3.out.cell rfl
        have y4 : W3.cell? ⟨N3, 4, none⟩ = some (.int .i64 0) := HK3.out.cell rfl
        have y5 : W3.cell? ⟨N3, 5, none⟩ = some (.slice (some ⟨N2, 0, none⟩) 1 1) := HK3.out.cell rfl
        clear z0 z1 z2 z3
        by_cases h0 : tl = 0
        · have HT0 : Hid (tmOf ts i = 0) := Lib.hid (by unfold tmOf; rw [if_pos (List.eq_nil_of_length_eq_zero (HTN.out.trans h0))])
          have hdt : decide ((0 : Int) < (tl : Int)) = false := by simp; omega
          have hdt2 : decide (0 < tl) = false := by simp; omega
          clear h0
          go_upto_region 10 with fail
          have HZB : Hid (∀ b, gb = some b → b < N1) := Lib.hid fun b e => by rw [← HN1.out]; exact (HWB.out.lt b e).2
          have HPR : Hid (rb rs ts i = ⟨i, 1, 0, 0, 0, [⟨i, key, val, gone⟩]⟩) := Lib.hid (by unfold rb; rw [HT0.out, HX4.out])
          have HA5 := Lib.hid (HWB3.out.below ((Below.refl W3.heap.size W3).alloc (Nat.le_refl _) (.cells #[.int .i64 i, .int .i64 1, .int .i64 0, .int .i64 0, .int .i64 0, .slice (some ⟨N2, 0, none⟩) 1 1] 42)))
          have HB5 := Lib.hid (HBW3.out.alloc HBW3.out.size (.cells #[.int .i64 i, .int .i64 1, .int .i64 0, .int .i64 0, .int .i64 0, .slice (some ⟨N2, 0, none⟩) 1 1] 42))
          have HNEW : Hid (∀ j u, (bc6 ((⟨i, 1, 0, 0, 0, [⟨i, key, val, gone⟩]⟩ : Pl.Bt), Value.slice (some ⟨N2, 0, none⟩) 1 1))[j]? = some u → (W3.alloc (.cells #[.int .i64 i, .int .i64 1, .int .i64 0, .int .i64 0, .int .i64 0, .slice (some ⟨N2, 0, none⟩) 1 1] 42)).cell? ((⟨W3.heap.size, 0, none⟩ : Addr).add j) = some u) := Lib.hid fun j u hj => by
            rw [Addr.add_lit, Nat.zero_add]
            exact (Blk.new W3 _ _).cell (by rw [← hj, ← List.getElem?_toArray]; rfl)
          have HRC5 : Hid (RcIn (fun b => w.heap.size ≤ b ∧ gb ≠ some b) (W3.alloc (.cells #[.int .i64 i, .int .i64 1, .int .i64 0, .int .i64 0, .int .i64 0, .slice (some ⟨N2, 0, none⟩) 1 1] 42)) (.slice (some ⟨N2, 0, none⟩) 1 1) [⟨i, key, val, gone⟩]) := Lib.hid ((Rds.below HR3.out ((Below.refl _ _).alloc (Nat.le_refl _) _)).mono fun b hb => by
            have h1 := HNS.out
            refine ⟨by omega, fun e => ?_⟩
            have := HZB.out b e
            omega)
          have HLN : Hid (L.length ≤ 1099511627776) := Lib.hid (by have := congrArg List.length HLL.out; unfold riseTo at this; simp only [List.length_map, List.length_range] at this; omega)
          obtain ⟨ao, co, rfl⟩ : ∃ a c, u5 = .slice a L.length c := HA5.out.form
          obtain ⟨nl, hnl⟩ : ∃ nl, L.length = nl := ⟨_, rfl⟩
          rw [hnl] at HA5 ⊢
          clear hnl
          go_wp2_with (at_builtin; refine wp_add_bt (by rfl) _ _ (by rfl) (by rfl) HA5.out ⟨W3.heap.size, 0, none⟩ 1 (⟨i, 1, 0, 0, 0, [⟨i, key, val, gone⟩]⟩, .slice (some ⟨N2, 0, none⟩) 1 1) (by rfl) HNEW.out (by rfl) HRC5.out HLN.out HB5.out.size ?_)
          intro v9 g9 w9 hw9 hg9
          have HW9 := Lib.hid hw9
          have HB9 := Lib.hid (Below.appended HB5.out hg9 HA5.out.2.1 HB5.out.size)
          have HL9 : Hid ((L ++ [((⟨i, 1, 0, 0, 0, [⟨i, key, val, gone⟩]⟩ : Pl.Bt), Value.slice (some ⟨N2, 0, none⟩) 1 1)]).map (·.1) = riseTo rs ts (i + 1)) := Lib.hid (by rw [List.map_append, HLL.out, riseTo_next, HPR.out]; rfl)
          clear hw9 hg9
          go_wp2_with fail
          go_roundw
          case rel => exact ⟨i + 1, g9, _, by omega, by omega, by go_num, HW9.out, HB9.out, HL9.out⟩
          case measure => simp [intOf]; omega
        · have hdt : decide ((0 : Int) < (tl : Int)) = true := by simp; omega
          obtain ⟨q, hq⟩ : ∃ q, i % tl = q := ⟨_, rfl⟩
          have hql : q < tl := by rw [← hq]; exact Nat.mod_lt _ (by omega)
          have hqe : (i : Int) % (tl : Int) = (q : Int) := by rw [← hq]; exact (Int.natCast_emod i tl).symm
          obtain ⟨t, ht⟩ : ∃ t, ts[q]? = some t := ⟨_, List.getElem?_eq_getElem (by rw [HTN.out]; exact hql)⟩
          obtain ⟨b4, o4, c4, e4, t0⟩ := (HTV.out.below HBW3.out).at ht
          obtain rfl : a2 = some ⟨b4, o4, none⟩ := by injection e4
          obtain ⟨T, hT⟩ : ∃ T, wrap64 ((IntKind.u64.wrap t).tmod 1000) = T := ⟨_, rfl⟩
          have HTT : Hid (tmOf ts i = T) := Lib.hid (by
            unfold tmOf
            rw [if_neg (fun e => h0 (by rw [← HTN.out, e]; rfl)), HTN.out, hq, List.getD_eq_getElem?_getD, ht]
            exact hT)
          obtain ⟨W4, hW4⟩ : ∃ W4, W3.setCell ⟨N3, 4, none⟩ (.int .i64 T) = W4 := ⟨_, rfl⟩
          have HK4 : Hid (Blk W4 N3 #[.int .i64 i, .int .i64 1, .int .i64 0, .int .i64 0, .int .i64 T, .slice (some ⟨N2, 0, none⟩) 1 1] 42) := Lib.hid (by rw [← hW4]; exact HK3.out.set (i := 4) (.int .i64 T))
          have hb34 : Below N3 W3 W4 := by rw [← hW4]; exact (Below.refl N3 W3).setCell (p := ⟨N3, 4, none⟩) (Nat.le_refl _) _
          have HWB4 : Hid (Wb w.heap.size u5 gb L W4) := Lib.hid (HWB.out.below (by
            rw [HN1.out]
            exact HB13.out.trans (hb34.mono (by have := HNS.out; omega))))
          have HBW4 : Hid (Below w.heap.size w W4) := Lib.hid (HBW3.out.trans (hb34.mono (by have := HNS.out; omega)))
          have HR4 : Hid (RcIn (fun b => b = N2) W4 (.slice (some ⟨N2, 0, none⟩) 1 1) [⟨i, key, val, gone⟩]) := Lib.hid (Rds.keep HR3.out hb34.size fun b hb _ => ⟨hb34.block b (by have := HNS.out; omega), hb⟩)
          have f4 : W3.frozen? ⟨N3, 4, none⟩ = false := HK3.out.free
          have HW4 := Lib.hid hW4
          have q0 : (0 : Int) ≤ (q : Int) := by omega
          have q1 : (q : Int) < (tl : Int) := by omega
          clear e4 ht hq hW4 hb34
          go_upto_region 10 with fail
          rw [HW4.out]
          clear y0 y1 y2 y3 y4 y5 f4 t0
          have y0 : W4.cell? ⟨N3, 0, none⟩ = some (.int .i64 i) := HK4.out.cell rfl
          have y1 : W4.cell? ⟨N3, 1, none⟩ = some (.int .i64 1) := HK4.out.cell rfl
          have y2 : W4.cell? ⟨N3, 2, none⟩ = some (.int .i64 0) := HK4.out.cell rfl
          have y3 : W4.cell? ⟨N3, 3, none⟩ = some (.int .i64 0) := HK4.out.cell rfl
          have y4 : W4.cell? ⟨N3, 4, none⟩ = some (.int .i64 T) := HK4.out.cell rfl
          have y5 : W4.cell? ⟨N3, 5, none⟩ = some (.slice (some ⟨N2, 0, none⟩) 1 1) := HK4.out.cell rfl
          have HZB : Hid (∀ b, gb = some b → b < N1) := Lib.hid fun b e => by rw [← HN1.out]; exact (HWB.out.lt b e).2
          have HPR : Hid (rb rs ts i = ⟨i, 1, 0, 0, T, [⟨i, key, val, gone⟩]⟩) := Lib.hid (by unfold rb; rw [HTT.out, HX4.out])
          have HA5 := Lib.hid (HWB4.out.below ((Below.refl W4.heap.size W4).alloc (Nat.le_refl _) (.cells #[.int .i64 i, .int .i64 1, .int .i64 0, .int .i64 0, .int .i64 T, .slice (some ⟨N2, 0, none⟩) 1 1] 42)))
          have HB5 := Lib.hid (HBW4.out.alloc HBW4.out.size (.cells #[.int .i64 i, .int .i64 1, .int .i64 0, .int .i64 0, .int .i64 T, .slice (some ⟨N2, 0, none⟩) 1 1] 42))
          have HNEW : Hid (∀ j u, (bc6 ((⟨i, 1, 0, 0, T, [⟨i, key, val, gone⟩]⟩ : Pl.Bt), Value.slice (some ⟨N2, 0, none⟩) 1 1))[j]? = some u → (W4.alloc (.cells #[.int .i64 i, .int .i64 1, .int .i64 0, .int .i64 0, .int .i64 T, .slice (some ⟨N2, 0, none⟩) 1 1] 42)).cell? ((⟨W4.heap.size, 0, none⟩ : Addr).add j) = some u) := Lib.hid fun j u hj => by
            rw [Addr.add_lit, Nat.zero_add]
            exact (Blk.new W4 _ _).cell (by rw [← hj, ← List.getElem?_toArray]; rfl)
          have HRC5 : Hid (RcIn (fun b => w.heap.size ≤ b ∧ gb ≠ some b) (W4.alloc (.cells #[.int .i64 i, .int .i64 1, .int .i64 0, .int .i64 0, .int .i64 T, .slice (some ⟨N2, 0, none⟩) 1 1] 42)) (.slice (some ⟨N2, 0, none⟩) 1 1) [⟨i, key, val, gone⟩]) := Lib.hid ((Rds.below HR4.out ((Below.refl _ _).alloc (Nat.le_refl _) _)).mono fun b hb => by
            have h1 := HNS.out
            refine ⟨by omega, fun e => ?_⟩
            have := HZB.out b e
            omega)
          have HLN : Hid (L.length ≤ 1099511627776) := Lib.hid (by have := congrArg List.length HLL.out; unfold riseTo at this; simp only [List.length_map, List.length_range] at this; omega)
          obtain ⟨ao, co, rfl⟩ : ∃ a c, u5 = .slice a L.length c := HA5.out.form
          obtain ⟨nl, hnl⟩ : ∃ nl, L.length = nl := ⟨_, rfl⟩
          rw [hnl] at HA5 ⊢
          clear hnl
          go_wp2_with (at_builtin; refine wp_add_bt (by rfl) _ _ (by rfl) (by rfl) HA5.out ⟨W4.heap.size, 0, none⟩ 1 (⟨i, 1, 0, 0, T, [⟨i, key, val, gone⟩]⟩, .slice (some ⟨N2, 0, none⟩) 1 1) (by rfl) HNEW.out (by rfl) HRC5.out HLN.out HB5.out.size ?_)
          intro v9 g9 w9 hw9 hg9
          have HW9 := Lib.hid hw9
          have HB9 := Lib.hid (Below.appended HB5.out hg9 HA5.out.2.1 HB5.out.size)
          have HL9 : Hid ((L ++ [((⟨i, 1, 0, 0, T, [⟨i, key, val, gone⟩]⟩ : Pl.Bt), Value.slice (some ⟨N2, 0, none⟩) 1 1)]).map (·.1) = riseTo rs ts (i + 1)) := Lib.hid (by rw [List.map_append, HLL.out, riseTo_next, HPR.out]; rfl)
          clear hw9 hg9
          go_wp2_with fail
          go_roundw
          case rel => exact ⟨i + 1, g9, _, by omega, by omega, by go_num, HW9.out, HB9.out, HL9.out⟩
          case measure => simp [intOf]; omega
      · have hd40 : decide ((i : Int) < 40) = false := by simp; omega
        have HF : Hid (L.map (·.1) = rise rs ts) := Lib.hid (by rw [HLL.out]; unfold rise; rw [HM.out]; congr 1; omega)
        clear hwb hbw
        go_wp2_with fail
        go_ret
        exact ⟨HBW.out, _, L, rfl, HWB.out.bt, HF.out⟩
    · have hdl : decide ((i : Int) < (m : Int)) = false := by simp; omega
      have HF : Hid (L.map (·.1) = rise rs ts) := Lib.hid (by rw [HLL.out]; unfold rise; rw [HM.out]; congr 1; omega)
      clear hwb hbw
      go_wp2_with fail
      go_ret
      exact ⟨HBW.out, _, L, rfl, HWB.out.bt, HF.out⟩
end Go.Proofs.Ytfapigccdbpepaa
