/- THE WALK of WeedParts. -/
import Derived.Test.YtfapigccdbpepaaLPlain
import Derived.Test.YtfapigccdbpepaaLExact
namespace Go.Proofs.Ytfapigccdbpepaa
open Go.RowKit

set_option maxHeartbeats 4000000 in
set_option maxRecDepth 100000 in
theorem parts_law {A A' : Nat → Prop} (D : Devs) (v tv : Value) (rs : List Pl.Rc) (ts : List Int) (x y z x' y' z' : Int) (w : World) (h : RcIn A w v rs) (ht : Nm A' w tv ts) :
    Calls Try.prog 8 #[v, tv, .agg #[.int .i64 x, .int .i64 y, .int .i64 z, .int .i64 x', .int .i64 y', .int .i64 z']] w fun e w' => e = .returned (.bool true) ∧ Below w.heap.size w w' := by
  obtain ⟨W0, hW0⟩ : ∃ W0, w.alloc (.cells #[.int .i64 x, .int .i64 y, .int .i64 z, .int .i64 x', .int .i64 y', .int .i64 z'] 46) = W0 := ⟨_, rfl⟩
  have hb0 : Below w.heap.size w W0 := by rw [← hW0]; exact (Below.refl _ _).alloc (Nat.le_refl _) _
  have HBK : Hid (Blk W0 w.heap.size #[.int .i64 x, .int .i64 y, .int .i64 z, .int .i64 x', .int .i64 y', .int .i64 z'] 46) := Lib.hid (by rw [← hW0]; exact Blk.new _ _ _)
  have HAW := Lib.hid (awake8 D W0)
  have HSM : Hid (∀ wx, Below W0.heap.size W0 wx → Calls Try.prog 20 #[v] wx fun e w' => ∃ g, e = .returned (.bool g) ∧ Eqw2 wx w' ∧ (g = true → ∀ (j : Nat) (x : Pl.Rc), j < 40 → rs[j]? = some x → okR x)) := Lib.hid fun wx hx => small_any v rs wx (Rds.below (Rds.below h hb0) hx)
  have HRI : Hid (∀ wx, Below W0.heap.size W0 wx → Calls Try.prog 21 #[v, tv] wx (RiseOut wx (rise rs ts))) := Lib.hid fun wx hx => rising_any v tv rs ts wx (Rds.below (Rds.below h hb0) hx) ((ht.below hb0).below hx)
  have HB0 := Lib.hid hb0
  have HW0 := Lib.hid hW0
  obtain ⟨a1, c1, rfl⟩ := h.slice
  obtain ⟨a2, c2, rfl⟩ := ht.form
  obtain ⟨m, hm⟩ : ∃ m, rs.length = m := ⟨_, rfl⟩
  obtain ⟨tl, htn⟩ : ∃ n, ts.length = n := ⟨_, rfl⟩
  rw [hm] at HSM HRI ⊢
  rw [htn] at HRI ⊢
  clear h ht hm htn hW0 hb0
  go_enter Try.func8, Try.ntmps8
  go_upto_region 1 with fail
  rw [HW0.out]
  go_wp2_with fail
  refine HAW.out.mono ?_
  rintro e W1 ⟨rfl, hb1⟩
  have HB1 := Lib.hid hb1
  clear hb1 HAW
  go_wp2_with fail
  refine (HSM.out _ HB1.out).mono ?_
  rintro e W2 ⟨g, rfl, hw2, hg⟩
  have hwe : W1 = W2 := hw2.symm
  subst hwe
  have HBA := Lib.hid (HB0.out.trans (HB1.out.mono HB0.out.size))
  cases g with
  | false =>
    clear hg
    go_wp2_with fail
    go_ret
    exact ⟨rfl, HBA.out⟩
  | true =>
  have hok := hg rfl
  have HF : Hid (Few (rise rs ts)) := Lib.hid (rise_few ts hok)
  have HDI := Lib.hid (rise_dist rs ts)
  clear hg hok hw2 HSM
  go_wp2_with fail
  refine (HRI.out _ HB1.out).mono ?_
  rintro e W3 ⟨hb3, vl, L, rfl, hL, hLm⟩
  obtain ⟨al, cl, rfl⟩ := hL.form
  obtain ⟨ll, hll⟩ : ∃ n, L.length = n := ⟨_, rfl⟩
  rw [hll] at hL ⊢
  have HLL := Lib.hid hll
  have HL := Lib.hid hL
  have HLM := Lib.hid hLm
  have HB3 := Lib.hid (HBA.out.trans (hb3.mono HBA.out.size))
  have HBX : Hid (Blk W3 w.heap.size #[.int .i64 x, .int .i64 y, .int .i64 z, .int .i64 x', .int .i64 y', .int .i64 z'] 46) := Lib.hid ((HBK.out.below HB1.out).below hb3)
  have HFL : Hid (Few (L.map (·.1))) := Lib.hid (by rw [hLm]; exact HF.out)
  clear hb3 hL hLm hll HRI
  have k0 : W3.cell? ⟨w.heap.size, 0, none⟩ = some (.int .i64 x) := HBX.out.cell rfl
  have k1 : W3.cell? ⟨w.heap.size, 1, none⟩ = some (.int .i64 y) := HBX.out.cell rfl
  have k2 : W3.cell? ⟨w.heap.size, 2, none⟩ = some (.int .i64 z) := HBX.out.cell rfl
  have k3 : W3.cell? ⟨w.heap.size, 3, none⟩ = some (.int .i64 x') := HBX.out.cell rfl
  have k4 : W3.cell? ⟨w.heap.size, 4, none⟩ = some (.int .i64 y') := HBX.out.cell rfl
  have k5 : W3.cell? ⟨w.heap.size, 5, none⟩ = some (.int .i64 z') := HBX.out.cell rfl
  obtain ⟨a, ha1, ha2⟩ := modN x 45 (by decide) (by decide)
  obtain ⟨b, hb1, hb2⟩ := modN x' 20 (by decide) (by decide)
  obtain ⟨n1, hn1, hn2⟩ := modN y 2000 (by decide) (by decide)
  obtain ⟨n2, hm1, hm2⟩ := modN y' 500 (by decide) (by decide)
  obtain ⟨ho, ho1, ho2⟩ := modN z 500 (by decide) (by decide)
  have HT := Lib.hid (D.thin _ L a n1 ho W3 HL.out HFL.out)
  have HOK : Hid (Wd.okB n1 ho = true ∧ Wd.okB ((n1 : Int) + n2) ho = true) := Lib.hid ⟨by unfold Wd.okB; simp; omega, by unfold Wd.okB; simp; omega⟩
  have HA2 := Lib.hid ha2
  have HB2 := Lib.hid hb2
  have HN2 := Lib.hid hn2
  have HM2' := Lib.hid hm2
  have HO2 := Lib.hid ho2
  clear ha2 hb2 hn2 hm2 ho2
  go_upto_region 7 with fail
  rw [HA2.out]
  clear k0
  have hb2 := HB2.out
  go_upto_region 8 with fail
  clear hb2 k3
  go_upto_region 9 with fail
  rw [HN2.out]
  clear k1
  have hm2 := HM2'.out
  go_upto_region 10 with fail
  clear hm2 k4
  go_upto_region 11 with fail
  rw [HO2.out]
  clear k2
  go_wp2_with fail
  refine HT.out.mono ?_
  rintro e W4 ⟨hb4, vt, M, rfl, hM, hMm⟩
  obtain ⟨at', ct, rfl⟩ := hM.form
  have HFM : Hid (Few (M.map (·.1))) := Lib.hid (by rw [hMm]; exact HFL.out.thin _ _ _)
  have HT2 := Lib.hid (D.thin _ M ((a : Int) + b) ((n1 : Int) + n2) ho W4 hM HFM.out)
  have HMM := Lib.hid hMm
  have HL4 := Lib.hid (HL.out.below hb4)
  have HB4 := Lib.hid (HB3.out.trans (hb4.mono HB3.out.size))
  clear hM hMm hb4 HT k5
  go_wp2_with fail
  refine HT2.out.mono ?_
  rintro e W5 ⟨hb5, vt2, M2, rfl, hM2, hMm2⟩
  have HT3 := Lib.hid (D.thin _ L ((a : Int) + b) ((n1 : Int) + n2) ho W5 (HL4.out.below hb5) HFL.out)
  have HM2 := Lib.hid hM2
  have HMM2 : Hid (M2.map (·.1) = Wd.thin (L.map (·.1)) ((a : Int) + b) ((n1 : Int) + n2) ho) := Lib.hid (by
    rw [hMm2, HMM.out]
    exact Wd.thin_parts (by omega) (by omega) HOK.out.1 HOK.out.2)
  have HB5 := Lib.hid (HB4.out.trans (hb5.mono HB4.out.size))
  clear hM2 hMm2 hb5 HT2
  go_wp2_with fail
  refine HT3.out.mono ?_
  rintro e W6 ⟨hb6, vt3, M3, rfl, hM3, hMm3⟩
  have HS := Lib.hid (batches_true vt2 vt3 M2 M3 W6 (HM2.out.below hb6) hM3 (HMM2.out.trans hMm3.symm) (Few.len2 (by rw [HMM2.out]; exact HFL.out.thin _ _ _)) (Few.recs (by rw [HMM2.out]; exact HFL.out.thin _ _ _)))
  have HB6 := Lib.hid (HB5.out.trans (hb6.mono HB5.out.size))
  clear hM3 hMm3 hb6 HT3
  go_wp2_with fail
  refine HS.out.mono ?_
  rintro e W7 ⟨rfl, hb7⟩
  have HB7 := Lib.hid (HB6.out.trans (hb7.mono HB6.out.size))
  clear hb7
  go_wp2_with fail
  go_ret
  exact ⟨rfl, HB7.out⟩
end Go.Proofs.Ytfapigccdbpepaa
