/- THE WALK of WeedKeeps. -/
import Derived.Test.YtfapigccdbpepaaLPlain
import Derived.Test.YtfapigccdbpepaaLExact
namespace Go.Proofs.Ytfapigccdbpepaa
open Go.RowKit

/-- A record with its key stands behind it and ahead of n. -/
def latB (rs : List Pl.Rc) (i n : Nat) : Bool := (List.range n).any fun j => decide (i < j) && decide ((xa rs j).key = (xa rs i).key)
theorem latB_start (rs : List Pl.Rc) (i n : Nat) : latB rs i (min (i + 1) n) = false := by
  unfold latB
  rw [List.any_eq_false]
  intro j hj
  have := List.mem_range.1 hj
  have h : ¬ i < j := by omega
  simp [h]
theorem latB_next (rs : List Pl.Rc) {i k : Nat} (h : i < k) : latB rs i (k + 1) = (latB rs i k || decide ((xa rs k).key = (xa rs i).key)) := by
  unfold latB
  rw [List.range_succ, List.any_append]
  simp [h]
/-- When a record of such batches is useless. -/
theorem useless_rise (rs : List Pl.Rc) (ts : List Int) {n i : Nat} (H No Ho : Nat) : Wd.uselessB (riseTo rs ts n) (rb rs ts i) (xa rs i) H No Ho = (decide ((xa rs i).key ≠ []) && decide (i < H) && (latB rs i (min n H) || ((xa rs i).gone && decide (tmOf ts i + Ho ≤ No)))) := by
  unfold Wd.uselessB
  have h1 : decide ((xa rs i).off < (H : Int)) = decide (i < H) := by
    have : (xa rs i).off = (i : Int) := rfl
    rw [this]
    exact decide_eq_decide.2 (by omega)
  have h2 : decide ((rb rs ts i).time ≤ (No : Int) - Ho) = decide (tmOf ts i + Ho ≤ No) := decide_eq_decide.2 (by show tmOf ts i ≤ _ ↔ _; omega)
  have h3 : ((Wd.rcs (riseTo rs ts n)).any fun y => decide (y.key = (xa rs i).key) && decide ((xa rs i).off < y.off) && decide (y.off < (H : Int))) = latB rs i (min n H) := by
    rw [Bool.eq_iff_iff, List.any_eq_true]
    unfold latB
    rw [List.any_eq_true]
    constructor
    · rintro ⟨y, hy, h⟩
      obtain ⟨j, hj, rfl⟩ := mem_rise.1 hy
      simp only [Bool.and_eq_true, decide_eq_true_eq] at h
      obtain ⟨⟨h4, h5⟩, h6⟩ := h
      have h5' : (i : Int) < (j : Int) := h5
      refine ⟨j, List.mem_range.2 (by omega), ?_⟩
      simp only [Bool.and_eq_true, decide_eq_true_eq]
      exact ⟨by omega, h4⟩
    · rintro ⟨j, hj, h⟩
      have hj' := List.mem_range.1 hj
      simp only [Bool.and_eq_true, decide_eq_true_eq] at h
      refine ⟨xa rs j, mem_rise.2 ⟨j, by omega, rfl⟩, ?_⟩
      simp only [Bool.and_eq_true, decide_eq_true_eq]
      have h5 : (xa rs j).off = (j : Int) := rfl
      have h6 : (xa rs i).off = (i : Int) := rfl
      exact ⟨⟨h.2, by omega⟩, by omega⟩
  rw [h1, h2, h3, Bool.or_comm]
/-- The cells of a batch of what a thinning leaves. -/
theorem thin_cells {A : Nat → Prop} {w : World} {v : Value} {M : List (Pl.Bt × Value)} {rs : List Pl.Rc} {ts : List Int} {n i : Nat} {l : List Pl.Bt} {H No Ho : Int} {u : Bool} (h : BtIn A w v M) (hM : M.map (·.1) = Wd.thin l H No Ho) (hl : l = riseTo rs ts n) (hi : i < n) (hok : Wd.okB No Ho = true) (hu : Wd.uselessB l (rb rs ts i) (xa rs i) H No Ho = u) :
    ∃ b o cap a c, v = .slice (some ⟨b, o, none⟩) M.length cap ∧ w.cell? ⟨b, o + i * 6, none⟩ = some (.int .i64 i) ∧ w.cell? ⟨b, o + i * 6 + 1, none⟩ = some (.int .i64 1) ∧ w.cell? ⟨b, o + i * 6 + 4, none⟩ = some (.int .i64 (tmOf ts i)) ∧
      w.cell? ⟨b, o + i * 6 + 5, none⟩ = some (.slice a (if u then 0 else 1) c) ∧ (u = false → ∃ b3 o3, a = some ⟨b3, o3, none⟩ ∧ w.cell? ⟨b3, o3, none⟩ = some (.int .i64 i) ∧ w.cell? ⟨b3, o3 + 1, none⟩ = some (.string ⟨(xa rs i).key.toArray⟩) ∧ w.cell? ⟨b3, o3 + 2, none⟩ = some (.string ⟨(xa rs i).val.toArray⟩) ∧ w.cell? ⟨b3, o3 + 3, none⟩ = some (.bool (xa rs i).gone)) := by
  have h0 : l[i]? = some (rb rs ts i) := by rw [hl]; exact rise_at hi
  have h1 : (Wd.thin l H No Ho)[i]? = some (Wd.thin1 l H No Ho (rb rs ts i)) := by
    unfold Wd.thin
    rw [List.getElem?_map, h0]
    rfl
  have h2 : Wd.thin1 l H No Ho (rb rs ts i) = ⟨i, 1, 0, 0, tmOf ts i, if u then [] else [xa rs i]⟩ := by
    unfold Wd.thin1
    have : (rb rs ts i).recs = [xa rs i] := rfl
    rw [this, List.filter_cons, List.filter_nil, hok, hu]
    cases u <;> rfl
  rw [← hM, List.getElem?_map] at h1
  cases hg : M[i]? with
  | none => rw [hg] at h1; cases h1
  | some p =>
    rw [hg] at h1
    obtain ⟨b, rv⟩ := p
    have h3 : b = ⟨i, 1, 0, 0, tmOf ts i, if u then [] else [xa rs i]⟩ := by rw [← h2]; simpa using h1
    subst h3
    obtain ⟨bb, o, cap, e, -, -, c0, c1, -, -, c4, c5, hr⟩ := h.get hg
    obtain ⟨a, c, rfl⟩ := hr.slice
    refine ⟨bb, o, cap, a, c, e, c0, c1, c4, ?_, fun hf => ?_⟩
    · rw [c5]
      cases u <;> rfl
    · subst hf
      obtain ⟨a3, c3, e3, hrc⟩ := hr.recs
      obtain ⟨b3, o3, e4, -, d0, d1, d2, d3⟩ := hrc 0 _ rfl
      subst e4
      have e5 : a = some ⟨b3, o3, none⟩ := by injection e3
      exact ⟨b3, o3, e5, d0, d1, d2, d3⟩

set_option maxHeartbeats 4000000 in
set_option maxRecDepth 100000 in
theorem keeps_law {A A' : Nat → Prop} (D : Devs) (v tv : Value) (rs : List Pl.Rc) (ts : List Int) (x y z : Int) (w : World) (h : RcIn A w v rs) (ht : Nm A' w tv ts) :
    Calls Try.prog 6 #[v, tv, .agg #[.int .i64 x, .int .i64 y, .int .i64 z]] w fun e w' => e = .returned (.bool true) ∧ Below w.heap.size w w' := by
  obtain ⟨W0, hW0⟩ : ∃ W0, w.alloc (.cells #[.int .i64 x, .int .i64 y, .int .i64 z] 24) = W0 := ⟨_, rfl⟩
  have hb0 : Below w.heap.size w W0 := by rw [← hW0]; exact (Below.refl _ _).alloc (Nat.le_refl _) _
  have HBK : Hid (Blk W0 w.heap.size #[.int .i64 x, .int .i64 y, .int .i64 z] 24) := Lib.hid (by rw [← hW0]; exact Blk.new _ _ _)
  have HAW := Lib.hid (awake8 D W0)
  have HSM : Hid (∀ wx, Below W0.heap.size W0 wx → Calls Try.prog 20 #[v] wx fun e w' => ∃ g, e = .returned (.bool g) ∧ Eqw2 wx w' ∧ (g = true → ∀ (j : Nat) (x : Pl.Rc), j < 40 → rs[j]? = some x → okR x)) := Lib.hid fun wx hx => small_any v rs wx (Rds.below (Rds.below h hb0) hx)
  have HRI : Hid (∀ wx, Below W0.heap.size W0 wx → Calls Try.prog 21 #[v, tv] wx (RiseOut wx (rise rs ts))) := Lib.hid fun wx hx => rising_any v tv rs ts wx (Rds.below (Rds.below h hb0) hx) ((ht.below hb0).below hx)
  have HB0 := Lib.hid hb0
  have HW0 := Lib.hid hW0
  obtain ⟨a1, c1, rfl⟩ := h.slice
  obtain ⟨a2, c2, rfl⟩ := ht.form
  obtain ⟨m, hm⟩ : ∃ m, rs.length = m := ⟨_, rfl⟩
  obtain ⟨tl, htn⟩ : ∃ n, ts.length = n := ⟨_, rfl⟩
  rw [hm] at HSM HRI ⊢
  rw [htn] at HRI ⊢
  clear h ht hm htn hW0 hb0
  go_enter Try.func6, Try.ntmps6
  go_upto_region 1 with fail
  rw [HW0.out]
  go_wp2_with fail
  refine HAW.out.mono ?_
  rintro e W1 ⟨rfl, hb1⟩
  have HB1 := Lib.hid hb1
  clear hb1 HAW
  go_wp2_with fail
  refine (HSM.out _ HB1.out).mono ?_
  rintro e W2 ⟨g, rfl, hw2, hg⟩
  have hwe : W1 = W2 := hw2.symm
  subst hwe
  have HBA := Lib.hid (HB0.out.trans (HB1.out.mono HB0.out.size))
  cases g with
  | false =>
    clear hg
    go_wp2_with fail
    go_ret
    exact ⟨rfl, HBA.out⟩
  | true =>
  have hok := hg rfl
  have HF : Hid (Few (rise rs ts)) := Lib.hid (rise_few ts hok)
  have HDI := Lib.hid (rise_dist rs ts)
  clear hg hok hw2 HSM
  go_wp2_with fail
  refine (HRI.out _ HB1.out).mono ?_
  rintro e W3 ⟨hb3, vl, L, rfl, hL, hLm⟩
  obtain ⟨al, cl, rfl⟩ := hL.form
  obtain ⟨ll, hll⟩ : ∃ n, L.length = n := ⟨_, rfl⟩
  rw [hll] at hL ⊢
  have HLL := Lib.hid hll
  have HL := Lib.hid hL
  have HLM := Lib.hid hLm
  have HB3 := Lib.hid (HBA.out.trans (hb3.mono HBA.out.size))
  have HBX : Hid (Blk W3 w.heap.size #[.int .i64 x, .int .i64 y, .int .i64 z] 24) := Lib.hid ((HBK.out.below HB1.out).below hb3)
  have HFL : Hid (Few (L.map (·.1))) := Lib.hid (by rw [hLm]; exact HF.out)
  clear hb3 hL hLm hll HRI
  have k0 : W3.cell? ⟨w.heap.size, 0, none⟩ = some (.int .i64 x) := HBX.out.cell rfl
  have k1 : W3.cell? ⟨w.heap.size, 1, none⟩ = some (.int .i64 y) := HBX.out.cell rfl
  have k2 : W3.cell? ⟨w.heap.size, 2, none⟩ = some (.int .i64 z) := HBX.out.cell rfl
  obtain ⟨H, hH1, hH2⟩ := modN x 45 (by decide) (by decide)
  obtain ⟨No, hN1, hN2⟩ := modN y 2000 (by decide) (by decide)
  obtain ⟨Ho, hO1, hO2⟩ := modN z 500 (by decide) (by decide)
  have HT := Lib.hid (D.thin _ L H No Ho W3 HL.out HFL.out)
  have HLR : Hid (L.map (·.1) = riseTo rs ts ll) := Lib.hid (by
    have h1 : min rs.length 40 = ll := by
      have := congrArg List.length HLM.out
      unfold rise riseTo at this
      simp only [List.length_map, List.length_range] at this
      rw [HLL.out] at this
      omega
    rw [HLM.out]
    unfold rise
    rw [h1])
  have hll64 : ll ≤ 64 := by have := HFL.out.1; rw [List.length_map, HLL.out] at this; exact this
  have HOK : Hid (Wd.okB No Ho = true) := Lib.hid (by unfold Wd.okB; simp; omega)
  have HH1 := Lib.hid hH1
  have HN1 := Lib.hid hN1
  have HO1 := Lib.hid hO1
  have HH2 := Lib.hid hH2
  have HN2 := Lib.hid hN2
  have HO2 := Lib.hid hO2
  clear hH1 hN1 hO1 hH2 hN2 hO2
  go_upto_region 7 with fail
  rw [HH2.out]
  go_upto_region 8 with fail
  rw [HN2.out]
  go_upto_region 9 with fail
  rw [HO2.out]
  clear k0 k1 k2
  go_wp2_with fail
  refine HT.out.mono ?_
  rintro e W4 ⟨hb4, vt, M, rfl, hM, hMm⟩
  have hml : M.length = ll := by have := congrArg List.length hMm; unfold Wd.thin at this; rw [List.length_map, List.length_map, List.length_map, HLL.out] at this; exact this
  obtain ⟨at', ct, rfl⟩ := hM.form
  rw [hml] at hM ⊢
  have HML := Lib.hid hml
  have HM := Lib.hid hM
  have HMM := Lib.hid hMm
  have HL4 := Lib.hid (HL.out.below hb4)
  have HB4 := Lib.hid (HB3.out.trans (hb4.mono HB3.out.size))
  have HFM : Hid (Few (M.map (·.1))) := Lib.hid (by rw [hMm]; exact HFL.out.thin _ _ _)
  have hself : ((ll : Int) != (ll : Int)) = false := by simp
  clear hM hMm hb4 hml HT
  go_wp2_with fail
  go_loopw [12, 14, 15, 16] (fun iv _ _ _ wr => ∃ i : Nat, i ≤ ll ∧ iv = .int .i64 i ∧ Below W4.heap.size W4 wr) (fun iv _ _ _ _ => ll - (intOf iv).toNat)
  case atStart => exact ⟨0, Nat.zero_le _, rfl, Below.refl _ _⟩
  case round =>
    obtain ⟨i, hi, rfl, hbw⟩ := hrel
    have HBW := Lib.hid hbw
    clear hbw
    by_cases hlt : i < ll
    · have hd1 : decide ((i : Int) < (ll : Int)) = true := by simp; omega
      obtain ⟨u, hu⟩ : ∃ u, Wd.uselessB (L.map (·.1)) (rb rs ts i) (xa rs i) H No Ho = u := ⟨_, rfl⟩
      have HU := Lib.hid hu
      obtain ⟨b, o, cap, b3, o3, c3, e1, k4, k5, d0, d1, d2, d3⟩ := rise_cells (HL4.out.below HBW.out) HLR.out hlt
      rw [HLL.out] at e1
      obtain rfl : al = some ⟨b, o, none⟩ := by injection e1
      obtain ⟨mb, mo, mc, ma, mcc, e2, m0, m1, m4, m5, m6⟩ := thin_cells (HM.out.below HBW.out) HMM.out HLR.out hlt HOK.out hu
      rw [HML.out] at e2
      obtain rfl : at' = some ⟨mb, mo, none⟩ := by injection e2
      have i0 : (0 : Int) ≤ (i : Int) := by omega
      have i1 : (i : Int) < (ll : Int) := by omega
      obtain ⟨T, hT⟩ : ∃ T, tmOf ts i = T := ⟨_, rfl⟩
      have HTM := Lib.hid hT
      rw [hT] at k4 m4
      have hie : ((i : Int) != (i : Int)) = false := by simp
      have hte : (T != T) = false := by simp
      have h11 : ((1 : Int) != (1 : Int)) = false := by decide
      clear e1 e2 hu hT
      go_upto_region 15 with fail
      go_cut [119] from 57 to 119 (fun s wx => s = .bool false ∧ Below wr.heap.size wr wx)
      case first =>
        cases u with
        | true =>
          have m5' : wr.cell? ⟨mb, mo + i * 6 + 5, none⟩ = some (.slice ma 0 mcc) := m5
          clear m5 m6
          go_quiet (fail)
          go_wp2_with fail
          go_meet
          case rel => exact ⟨rfl, below_drewN _ _⟩
        | false =>
          have m5' : wr.cell? ⟨mb, mo + i * 6 + 5, none⟩ = some (.slice ma 1 mcc) := m5
          obtain ⟨b5, o5, rfl, f0, f1, f2, f3⟩ := m6 rfl
          have hgu := rec_guard
          have hne : ∀ wx, (binOp .neq 44 (.agg #[.int .i64 i, .string ⟨(xa rs i).key.toArray⟩, .string ⟨(xa rs i).val.toArray⟩, .bool (xa rs i).gone]) (.agg #[.int .i64 i, .string ⟨(xa rs i).key.toArray⟩, .string ⟨(xa rs i).val.toArray⟩, .bool (xa rs i).gone])).run Try.prog wx = .ok (.bool false) wx := fun wx => by
            rw [rec_neq i i ⟨(xa rs i).key.toArray⟩ ⟨(xa rs i).key.toArray⟩ ⟨(xa rs i).val.toArray⟩ ⟨(xa rs i).val.toArray⟩ (xa rs i).gone (xa rs i).gone wx]
            simp
          clear m5 m6
          go_quiet (fail)
          go_wp2_with fail
          go_meet
          case rel => exact ⟨rfl, below_drewN _ _⟩
      case rest =>
      obtain ⟨rfl, hbc⟩ := hcut
      have HBC := Lib.hid (HBW.out.trans (hbc.mono HBW.out.size))
      have q4 := (hbc.cell (block_lt_of_cell k4)).trans k4
      have q5 := (hbc.cell (block_lt_of_cell k5)).trans k5
      have e0 := (hbc.cell (block_lt_of_cell d0)).trans d0
      have e1 := (hbc.cell (block_lt_of_cell d1)).trans d1
      have e2 := (hbc.cell (block_lt_of_cell d2)).trans d2
      have e3 := (hbc.cell (block_lt_of_cell d3)).trans d3
      have p5 := (hbc.cell (block_lt_of_cell m5)).trans m5
      clear hbc k4 k5 d0 d1 d2 d3 m0 m1 m4 m5 m6
      obtain ⟨xr, hx⟩ : ∃ r, xa rs i = r := ⟨_, rfl⟩
      have HX := Lib.hid hx
      rw [hx] at e1 e2 e3
      obtain ⟨W5, hW5⟩ : ∃ W5, wc.alloc (.cells #[.int .i64 i, .string ⟨xr.key.toArray⟩, .string ⟨xr.val.toArray⟩, .bool xr.gone] 44) = W5 := ⟨_, rfl⟩
      have HK5 : Hid (Blk W5 wc.heap.size #[.int .i64 i, .string ⟨xr.key.toArray⟩, .string ⟨xr.val.toArray⟩, .bool xr.gone] 44) := Lib.hid (by rw [← hW5]; exact Blk.new _ _ _)
      have hb5 : Below wc.heap.size wc W5 := by rw [← hW5]; exact (Below.refl _ _).alloc (Nat.le_refl _) _
      have HB5 := Lib.hid (HBC.out.trans (hb5.mono HBC.out.size))
      have HQ4 := Lib.hid ((hb5.cell (block_lt_of_cell q4)).trans q4)
      have HP5 := Lib.hid ((hb5.cell (block_lt_of_cell p5)).trans p5)
      have HW5 := Lib.hid hW5
      obtain ⟨N5, hN5⟩ : ∃ N5, wc.heap.size = N5 := ⟨_, rfl⟩
      have HN5 := Lib.hid hN5
      obtain ⟨off, key, val, gone⟩ := xr
      clear hx hW5 hb5 hN5 q4 p5
      go_upto_region 18 with fail
      rw [HW5.out, HN5.out]
      rw [HN5.out] at HK5
      clear e0 e1 e2 e3 q5
      obtain ⟨QQ, hQQ⟩ : ∃ Q, min ll H = Q := ⟨_, rfl⟩
      have HQQ := Lib.hid hQQ
      have HKY : Hid ((xa rs i).key = key) := Lib.hid (by rw [HX.out])
      clear hQQ
      go_wp2_with fail
      go_loopw [14, 15] (fun lv kv wz => ∃ k : Nat, i + 1 ≤ k ∧ (k ≤ QQ ∨ k = i + 1) ∧ lv = .bool (latB rs i (min k QQ)) ∧ kv = .int .i64 k ∧ Below W5.heap.size W5 wz) (fun _ kv _ => ll - (intOf kv).toNat)
      case atStart => exact ⟨i + 1, Nat.le_refl _, .inr rfl, by rw [latB_start], by go_num, Below.refl _ _⟩
      case round =>
        obtain ⟨k, hik, hkQ, rfl, rfl, hbz⟩ := hrel
        have HBZ := Lib.hid hbz
        clear hbz
        obtain ⟨lt, hlt2⟩ : ∃ q, latB rs i (min k QQ) = q := ⟨_, rfl⟩
        have HLT := Lib.hid hlt2
        rw [hlt2]
        clear hlt2
        by_cases hkn : k < ll ∧ k < H
        · obtain ⟨hl1, hl2⟩ := hkn
          have hd3 : decide ((k : Int) < (ll : Int)) = true := by simp; omega
          have hd4 : decide ((k : Int) < (H : Int)) = true := by simp; omega
          have hkq : k < QQ := by have := HQQ.out; omega
          obtain ⟨b', o', cap', b4, o4, c4, f1, -, k5, d0, d1, d2, d3⟩ := rise_cells (HL4.out.below (HB5.out.trans (HBZ.out.mono HB5.out.size))) HLR.out hl1
          rw [HLL.out] at f1
          have f2 : (some ⟨b, o, none⟩ : Option Addr) = some ⟨b', o', none⟩ := by injection f1
          obtain ⟨rfl, rfl⟩ : b = b' ∧ o = o' := by injection f2 with f2; injection f2 with f3 f4; exact ⟨f3, f4⟩
          have x1 : wr.cell? ⟨N5, 1, none⟩ = some (.string ⟨key.toArray⟩) := (HK5.out.below HBZ.out).cell rfl
          have kk0 : (0 : Int) ≤ (k : Int) := by omega
          have kk1 : (k : Int) < (ll : Int) := by omega
          obtain ⟨ky, hky⟩ : ∃ y, (xa rs k).key = y := ⟨_, rfl⟩
          rw [hky] at d1
          have HNX : Hid (latB rs i (min (k + 1) QQ) = (lt || decide (ky = key))) := Lib.hid (by
            have h1 := HLT.out
            rw [Nat.min_eq_left (Nat.le_of_lt hkq)] at h1
            rw [Nat.min_eq_left hkq, latB_next rs (by omega), h1, hky, HKY.out])
          clear f1 f2 d0 d2 d3 hky
          cases lt with
          | true =>
            go_wp2_with fail
            go_quiet (fail)
            go_wp2_with fail
            go_roundw
            case rel => exact ⟨k + 1, by omega, .inl (by omega), by rw [HNX.out]; rfl, by go_num, HBZ.out.trans (below_drewN _ _)⟩
            case measure => simp [intOf]; omega
          | false =>
            by_cases hek : ky = key
            · subst hek
              have hbe : (ky == ky) = true := by simp
              go_wp2_with fail
              go_quiet (fail)
              go_wp2_with fail
              go_roundw
              case rel => exact ⟨k + 1, by omega, .inl (by omega), by rw [HNX.out]; simp, by go_num, HBZ.out.trans (below_drewN _ _)⟩
              case measure => simp [intOf]; omega
            · have hbe : (ky == key) = false := by simpa using hek
              have HE : Hid (latB rs i (min (k + 1) QQ) = false) := Lib.hid (by rw [HNX.out]; simp [hek])
              clear hek
              go_wp2_with fail
              go_quiet (fail)
              go_wp2_with fail
              go_roundw
              case rel => exact ⟨k + 1, by omega, .inl (by omega), by rw [HE.out], by go_num, HBZ.out.trans (below_drewN _ _)⟩
              case measure => simp [intOf]; omega
        · have HMU : Hid (u = (decide (key ≠ []) && decide (i < H) && (lt || (gone && decide (T + Ho ≤ No))))) := Lib.hid (by
            have h1 := useless_rise rs ts (n := ll) (i := i) H No Ho
            have h2 := HU.out
            rw [HLR.out, h1, HX.out, HTM.out] at h2
            have h3 := HLT.out
            have h4 := HQQ.out
            rw [show min k QQ = min ll H by omega] at h3
            rw [h3] at h2
            exact h2.symm)
          have HXW := Lib.hid (HK5.out.below HBZ.out)
          have HQW := Lib.hid ((HBZ.out.cell (block_lt_of_cell HQ4.out)).trans HQ4.out)
          have HPW := Lib.hid ((HBZ.out.cell (block_lt_of_cell HP5.out)).trans HP5.out)
          have HBR := Lib.hid (HB5.out.trans (HBZ.out.mono HB5.out.size))
          have hT0 : 0 ≤ T := by rw [← HTM.out]; exact (tm_bounds ts i).1
          have hT1 : T < 1000 := by rw [← HTM.out]; exact (tm_bounds ts i).2
          have hO1 := HO1.out
          by_cases hc : k < ll
          · have hd3 : decide ((k : Int) < (ll : Int)) = true := by simp; omega
            have hkh : ¬ k < H := fun h => hkn ⟨hc, h⟩
            have hd4 : decide ((k : Int) < (H : Int)) = false := by simp; omega
            clear hkn
            go_upto_region 23 with fail
            go_cut [16] from 154 to 179 (fun s wx => s = .bool u ∧ Eqw2 wr wx)
            case first =>
              have q4 : wr.cell? ⟨b, o + i * 6 + 4, none⟩ = some (.int .i64 T) := HQW.out
              have x0 : wr.cell? ⟨N5, 0, none⟩ = some (.int .i64 i) := HXW.out.cell rfl
              have x1 : wr.cell? ⟨N5, 1, none⟩ = some (.string ⟨key.toArray⟩) := HXW.out.cell rfl
              have x3 : wr.cell? ⟨N5, 3, none⟩ = some (.bool gone) := HXW.out.cell rfl
              by_cases hk : key = []
              · have HUV : Hid (u = false) := Lib.hid (by rw [HMU.out]; simp [hk])
                subst hk
                go_wp2_with fail
                go_meet
                case rel => exact ⟨by rw [HUV.out], rfl⟩
              have hne : key.isEmpty = false := by cases key with
                | nil => exact absurd rfl hk
                | cons => rfl
              by_cases hH : i < H
              · have hdh : decide ((i : Int) < (H : Int)) = true := by simp; omega
                cases lt with
                | true =>
                  have HUV : Hid (u = true) := Lib.hid (by rw [HMU.out]; simp [hk, hH])
                  clear hk
                  go_wp2_with fail
                  go_meet
                  case rel => exact ⟨by rw [HUV.out], rfl⟩
                | false =>
                  cases gone with
                  | false =>
                    have HUV : Hid (u = false) := Lib.hid (by rw [HMU.out]; simp)
                    clear hk
                    go_wp2_with fail
                    go_meet
                    case rel => exact ⟨by rw [HUV.out], rfl⟩
                  | true =>
                    by_cases hTN : T + (Ho : Int) ≤ (No : Int)
                    · have hdt : decide (T + (Ho : Int) ≤ (No : Int)) = true := by simpa using hTN
                      have HUV : Hid (u = true) := Lib.hid (by rw [HMU.out]; simp [hk, hH, hTN])
                      clear hk
                      go_wp2_with fail
                      go_meet
                      case rel => exact ⟨by rw [HUV.out], rfl⟩
                    · have hdt : decide (T + (Ho : Int) ≤ (No : Int)) = false := by simpa using hTN
                      have HUV : Hid (u = false) := Lib.hid (by rw [HMU.out]; simp [hTN])
                      clear hk
                      go_wp2_with fail
                      go_meet
                      case rel => exact ⟨by rw [HUV.out], rfl⟩
              · have hdh : decide ((i : Int) < (H : Int)) = false := by simp; omega
                have HUV : Hid (u = false) := Lib.hid (by rw [HMU.out]; simp [hH])
                clear hk
                go_wp2_with fail
                go_meet
                case rel => exact ⟨by rw [HUV.out], rfl⟩
            case rest =>
            obtain ⟨rfl, hwc⟩ := hcut
            have hwe : wr = wc := (show wc = wr from hwc).symm
            subst hwe
            clear hwc
            cases u with
            | true =>
              have p5 : wr.cell? ⟨mb, mo + i * 6 + 5, none⟩ = some (.slice ma 0 mcc) := HPW.out
              go_wp2_with fail
              go_roundw
              case rel => exact ⟨i + 1, by omega, by go_num, HBR.out⟩
              case measure => simp [intOf]; omega
            | false =>
              have p5 : wr.cell? ⟨mb, mo + i * 6 + 5, none⟩ = some (.slice ma 1 mcc) := HPW.out
              go_wp2_with fail
              go_roundw
              case rel => exact ⟨i + 1, by omega, by go_num, HBR.out⟩
              case measure => simp [intOf]; omega
          · have hd3 : decide ((k : Int) < (ll : Int)) = false := by simp; omega
            clear hkn
            go_upto_region 23 with fail
            go_cut [16] from 154 to 179 (fun s wx => s = .bool u ∧ Eqw2 wr wx)
            case first =>
              have q4 : wr.cell? ⟨b, o + i * 6 + 4, none⟩ = some (.int .i64 T) := HQW.out
              have x0 : wr.cell? ⟨N5, 0, none⟩ = some (.int .i64 i) := HXW.out.cell rfl
              have x1 : wr.cell? ⟨N5, 1, none⟩ = some (.string ⟨key.toArray⟩) := HXW.out.cell rfl
              have x3 : wr.cell? ⟨N5, 3, none⟩ = some (.bool gone) := HXW.out.cell rfl
              by_cases hk : key = []
              · have HUV : Hid (u = false) := Lib.hid (by rw [HMU.out]; simp [hk])
                subst hk
                go_wp2_with fail
                go_meet
                case rel => exact ⟨by rw [HUV.out], rfl⟩
              have hne : key.isEmpty = false := by cases key with
                | nil => exact absurd rfl hk
                | cons => rfl
              by_cases hH : i < H
              · have hdh : decide ((i : Int) < (H : Int)) = true := by simp; omega
                cases lt with
                | true =>
                  have HUV : Hid (u = true) := Lib.hid (by rw [HMU.out]; simp [hk, hH])
                  clear hk
                  go_wp2_with fail
                  go_meet
                  case rel => exact ⟨by rw [HUV.out], rfl⟩
                | false =>
                  cases gone with
                  | false =>
                    have HUV : Hid (u = false) := Lib.hid (by rw [HMU.out]; simp)
                    clear hk
                    go_wp2_with fail
                    go_meet
                    case rel => exact ⟨by rw [HUV.out], rfl⟩
                  | true =>
                    by_cases hTN : T + (Ho : Int) ≤ (No : Int)
                    · have hdt : decide (T + (Ho : Int) ≤ (No : Int)) = true := by simpa using hTN
                      have HUV : Hid (u = true) := Lib.hid (by rw [HMU.out]; simp [hk, hH, hTN])
                      clear hk
                      go_wp2_with fail
                      go_meet
                      case rel => exact ⟨by rw [HUV.out], rfl⟩
                    · have hdt : decide (T + (Ho : Int) ≤ (No : Int)) = false := by simpa using hTN
                      have HUV : Hid (u = false) := Lib.hid (by rw [HMU.out]; simp [hTN])
                      clear hk
                      go_wp2_with fail
                      go_meet
                      case rel => exact ⟨by rw [HUV.out], rfl⟩
              · have hdh : decide ((i : Int) < (H : Int)) = false := by simp; omega
                have HUV : Hid (u = false) := Lib.hid (by rw [HMU.out]; simp [hH])
                clear hk
                go_wp2_with fail
                go_meet
                case rel => exact ⟨by rw [HUV.out], rfl⟩
            case rest =>
            obtain ⟨rfl, hwc⟩ := hcut
            have hwe : wr = wc := (show wc = wr from hwc).symm
            subst hwe
            clear hwc
            cases u with
            | true =>
              have p5 : wr.cell? ⟨mb, mo + i * 6 + 5, none⟩ = some (.slice ma 0 mcc) := HPW.out
              go_wp2_with fail
              go_roundw
              case rel => exact ⟨i + 1, by omega, by go_num, HBR.out⟩
              case measure => simp [intOf]; omega
            | false =>
              have p5 : wr.cell? ⟨mb, mo + i * 6 + 5, none⟩ = some (.slice ma 1 mcc) := HPW.out
              go_wp2_with fail
              go_roundw
              case rel => exact ⟨i + 1, by omega, by go_num, HBR.out⟩
              case measure => simp [intOf]; omega
    · have hd1 : decide ((i : Int) < (ll : Int)) = false := by simp; omega
      have HB6 := Lib.hid (HB4.out.trans (HBW.out.mono HB4.out.size))
      have HT2 := Lib.hid (D.thin _ M H No Ho wr (HM.out.below HBW.out) HFM.out)
      have HM6 := Lib.hid (HM.out.below HBW.out)
      go_wp2_with fail
      refine HT2.out.mono ?_
      rintro e W7 ⟨hb7, v7, M7, rfl, hM7, hMm7⟩
      have HS := Lib.hid (batches_true v7 _ M7 M W7 hM7 (HM6.out.below hb7) (by rw [hMm7, HMM.out]; exact Wd.thin_again _ _ _ _) (Few.len2 (by rw [hMm7]; exact HFM.out.thin _ _ _)) (Few.recs (by rw [hMm7]; exact HFM.out.thin _ _ _)))
      have HB7 := Lib.hid (HB6.out.trans (hb7.mono HB6.out.size))
      clear hb7 hM7 hMm7 HT2
      go_wp2_with fail
      refine HS.out.mono ?_
      rintro e W8 ⟨rfl, hb8⟩
      have HB8 := Lib.hid (HB7.out.trans (hb8.mono HB7.out.size))
      clear hb8
      go_wp2_with fail
      go_ret
      exact ⟨rfl, HB8.out⟩
end Go.Proofs.Ytfapigccdbpepaa
