/- THE WALK of WeedFolds. -/
import Derived.Test.YtfapigccdbpepaaLPlain
import Derived.Test.YtfapigccdbpepaaLExact
namespace Go.Proofs.Ytfapigccdbpepaa
open Go.RowKit

set_option maxHeartbeats 4000000 in
set_option maxRecDepth 100000 in
theorem folds_law {A A' : Nat → Prop} (D : Devs) (v tv : Value) (rs : List Pl.Rc) (ts : List Int) (x y z : Int) (w : World) (h : RcIn A w v rs) (ht : Nm A' w tv ts) :
    Calls Try.prog 5 #[v, tv, .agg #[.int .i64 x, .int .i64 y, .int .i64 z]] w fun e w' => e = .returned (.bool true) ∧ Below w.heap.size w w' := by
  obtain ⟨W0, hW0⟩ : ∃ W0, w.alloc (.cells #[.int .i64 x, .int .i64 y, .int .i64 z] 24) = W0 := ⟨_, rfl⟩
  have hb0 : Below w.heap.size w W0 := by rw [← hW0]; exact (Below.refl _ _).alloc (Nat.le_refl _) _
  have HBK : Hid (Blk W0 w.heap.size #[.int .i64 x, .int .i64 y, .int .i64 z] 24) := Lib.hid (by rw [← hW0]; exact Blk.new _ _ _)
  have HAW := Lib.hid (awake8 D W0)
  have HSM : Hid (∀ wx, Below W0.heap.size W0 wx → Calls Try.prog 20 #[v] wx fun e w' => ∃ g, e = .returned (.bool g) ∧ Eqw2 wx w' ∧ (g = true → ∀ (j : Nat) (x : Pl.Rc), j < 40 → rs[j]? = some x → okR x)) := Lib.hid fun wx hx => small_any v rs wx (Rds.below (Rds.below h hb0) hx)
  have HRI : Hid (∀ wx, Below W0.heap.size W0 wx → Calls Try.prog 21 #[v, tv] wx (RiseOut wx (rise rs ts))) := Lib.hid fun wx hx => rising_any v tv rs ts wx (Rds.below (Rds.below h hb0) hx) ((ht.below hb0).below hx)
  have HB0 := Lib.hid hb0
  have HW0 := Lib.hid hW0
  obtain ⟨a1, c1, rfl⟩ := h.slice
  obtain ⟨a2, c2, rfl⟩ := ht.form
  obtain ⟨m, hm⟩ : ∃ m, rs.length = m := ⟨_, rfl⟩
  obtain ⟨tl, htn⟩ : ∃ n, ts.length = n := ⟨_, rfl⟩
  rw [hm] at HSM HRI ⊢
  rw [htn] at HRI ⊢
  clear h ht hm htn hW0 hb0
  go_enter Try.func5, Try.ntmps5
  go_upto_region 1 with fail
  rw [HW0.out]
  go_wp2_with fail
  refine HAW.out.mono ?_
  rintro e W1 ⟨rfl, hb1⟩
  have HB1 := Lib.hid hb1
  clear hb1 HAW
  go_wp2_with fail
  refine (HSM.out _ HB1.out).mono ?_
  rintro e W2 ⟨g, rfl, hw2, hg⟩
  have hwe : W1 = W2 := hw2.symm
  subst hwe
  have HBA := Lib.hid (HB0.out.trans (HB1.out.mono HB0.out.size))
  cases g with
  | false =>
    clear hg
    go_wp2_with fail
    go_ret
    exact ⟨rfl, HBA.out⟩
  | true =>
  have hok := hg rfl
  have HF : Hid (Few (rise rs ts)) := Lib.hid (rise_few ts hok)
  have HDI := Lib.hid (rise_dist rs ts)
  clear hg hok hw2 HSM
  go_wp2_with fail
  refine (HRI.out _ HB1.out).mono ?_
  rintro e W3 ⟨hb3, vl, L, rfl, hL, hLm⟩
  obtain ⟨al, cl, rfl⟩ := hL.form
  obtain ⟨ll, hll⟩ : ∃ n, L.length = n := ⟨_, rfl⟩
  rw [hll] at hL ⊢
  have HLL := Lib.hid hll
  have HL := Lib.hid hL
  have HLM := Lib.hid hLm
  have HB3 := Lib.hid (HBA.out.trans (hb3.mono HBA.out.size))
  have HBX : Hid (Blk W3 w.heap.size #[.int .i64 x, .int .i64 y, .int .i64 z] 24) := Lib.hid ((HBK.out.below HB1.out).below hb3)
  have HFL : Hid (Few (L.map (·.1))) := Lib.hid (by rw [hLm]; exact HF.out)
  clear hb3 hL hLm hll HRI
  have k0 : W3.cell? ⟨w.heap.size, 0, none⟩ = some (.int .i64 x) := HBX.out.cell rfl
  have k1 : W3.cell? ⟨w.heap.size, 1, none⟩ = some (.int .i64 y) := HBX.out.cell rfl
  have k2 : W3.cell? ⟨w.heap.size, 2, none⟩ = some (.int .i64 z) := HBX.out.cell rfl
  obtain ⟨H, hH1, hH2⟩ := modN x 45 (by decide) (by decide)
  obtain ⟨No, hN1, hN2⟩ := modN y 2000 (by decide) (by decide)
  obtain ⟨Ho, hO1, hO2⟩ := modN z 500 (by decide) (by decide)
  have HT := Lib.hid (D.thin _ L H No Ho W3 HL.out HFL.out)
  have HH1 := Lib.hid hH1
  have HH2 := Lib.hid hH2
  have HN2 := Lib.hid hN2
  clear hH1 hN1 hO1 hH2 hN2
  go_upto_region 7 with fail
  rw [HH2.out]
  go_upto_region 8 with fail
  rw [HN2.out]
  go_wp2_with fail
  refine HT.out.mono ?_
  rintro e W4 ⟨hb4, vt, M, rfl, hM, hMm⟩
  obtain ⟨at', ct, rfl⟩ := hM.form
  obtain ⟨ml, hml⟩ : ∃ n, M.length = n := ⟨_, rfl⟩
  rw [hml] at hM ⊢
  have HML := Lib.hid hml
  have HM := Lib.hid hM
  have HL4 := Lib.hid (HL.out.below hb4)
  have HB4 := Lib.hid (HB3.out.trans (hb4.mono HB3.out.size))
  have HFM : Hid (Few (M.map (·.1))) := Lib.hid (by rw [hMm]; exact HFL.out.thin _ _ _)
  have HEQ : Hid (∀ u : Nat, H ≤ u → Wd.fold (M.map (·.1)) u = Wd.fold (L.map (·.1)) u) := Lib.hid fun u hu => by
    rw [hMm]
    exact Wd.fold_thin (by rw [HLM.out]; exact HDI.out) (by omega)
  have hH := HH1.out
  clear hM hMm hb4 hml HT k0 k1 k2 hO2
  go_wp2_with fail
  go_loopw [11] (fun iv wr => ∃ u : Nat, H ≤ u ∧ u ≤ 46 ∧ iv = .int .i64 u ∧ Below W4.heap.size W4 wr) (fun iv _ => 46 - (intOf iv).toNat)
  case atStart => exact ⟨H, Nat.le_refl _, by omega, rfl, Below.refl _ _⟩
  case round =>
    obtain ⟨u, hu, hu46, rfl, hbw⟩ := hrel
    have HBW := Lib.hid hbw
    clear hbw
    by_cases hlt : u < 46
    · have hd : decide ((u : Int) < 46) = true := by simp; omega
      have hd2 : decide (u < 46) = true := by simp; omega
      have HFO := Lib.hid (D.fold _ M u wr (HM.out.below HBW.out) HFM.out)
      clear hlt
      go_wp2_with fail
      refine HFO.out.mono ?_
      rintro e w5 ⟨hb5, v1, rfl, hv1⟩
      have HF2 := Lib.hid (D.fold _ L u w5 ((HL4.out.below HBW.out).below hb5) HFL.out)
      have HV1 := Lib.hid hv1
      have HB5 := Lib.hid (HBW.out.trans (hb5.mono HBW.out.size))
      clear hv1 hb5 HFO
      go_wp2_with fail
      refine HF2.out.mono ?_
      rintro e w6 ⟨hb6, v2, rfl, hv2⟩
      have HRS := Lib.hid (recs_true v1 v2 (Wd.fold (L.map (·.1)) u) w6 (by rw [← HEQ.out u hu]; exact Rds.below HV1.out hb6) hv2 (Nat.le_trans (Wd.fold_len _ _) (Nat.le_trans HFL.out.rcs (by decide))))
      have HB6 := Lib.hid (HB5.out.trans (hb6.mono HB5.out.size))
      clear hv2 hb6 HF2
      go_wp2_with fail
      refine HRS.out.mono ?_
      rintro e w7 ⟨rfl, hb7⟩
      have HB7 := Lib.hid (HB6.out.trans (hb7.mono HB6.out.size))
      clear hb7
      go_wp2_with fail
      go_roundw
      case rel => exact ⟨u + 1, by omega, by have := of_decide_eq_true hd2; omega, by go_num, HB7.out⟩
      case measure => have := of_decide_eq_true hd2; simp [intOf]; omega
    · have hd : decide ((u : Int) < 46) = false := by simp; omega
      have hd2 : decide (u < 46) = false := by simp; omega
      clear hlt
      go_wp2_with fail
      go_ret
      exact ⟨rfl, HB4.out.trans (HBW.out.mono HB4.out.size)⟩
end Go.Proofs.Ytfapigccdbpepaa
