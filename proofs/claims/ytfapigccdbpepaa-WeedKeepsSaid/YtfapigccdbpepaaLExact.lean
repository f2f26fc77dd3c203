/- THE WALK of WeedExact. -/
import Derived.Test.YtfapigccdbpepaaLGreat
import Derived.Test.YtfapigccdbpepaaSRecs
namespace Go.Proofs.Ytfapigccdbpepaa
open Go.RowKit

theorem few_of {L : List (Pl.Bt × Value)} (h1 : L.length ≤ 30) (h2 : ∀ (j : Nat) (p : Pl.Bt × Value), L[j]? = some p → okB p.1) : Few (L.map (·.1)) := by
  refine ⟨by rw [List.length_map]; omega, fun b hb => ?_⟩
  obtain ⟨p, hp, rfl⟩ := List.mem_map.1 hb
  obtain ⟨j, hj⟩ := List.getElem?_of_mem hp
  obtain ⟨h3, h4⟩ := h2 j p hj
  refine ⟨by omega, fun x hx => ?_⟩
  obtain ⟨k, hk⟩ := List.getElem?_of_mem hx
  have := (h4 k x hk).1
  unfold FewR
  omega
theorem Few.len2 {M : List (Pl.Bt × Value)} (h : Few (M.map (·.1))) : M.length ≤ 1099511627776 := by have := h.1; rw [List.length_map] at this; omega

set_option maxHeartbeats 4000000 in
set_option maxRecDepth 100000 in
theorem exact_law {A : Nat → Prop} (D : Devs) (v : Value) (L : List (Pl.Bt × Value)) (x0 x1 x2 upto : Int) (w : World) (h : BtIn A w v L) :
    Calls Try.prog 3 #[v, .agg #[.int .i64 x0, .int .i64 x1, .int .i64 x2], .int .i64 upto] w fun e w' => e = .returned (.bool true) ∧ Below w.heap.size w w' := by
  obtain ⟨W0, hW0⟩ : ∃ W0, w.alloc (.cells #[.int .i64 x0, .int .i64 x1, .int .i64 x2] 24) = W0 := ⟨_, rfl⟩
  have hb0 : Below w.heap.size w W0 := by rw [← hW0]; exact (Below.refl _ _).alloc (Nat.le_refl _) _
  have HBK : Hid (Blk W0 w.heap.size #[.int .i64 x0, .int .i64 x1, .int .i64 x2] 24) := Lib.hid (by rw [← hW0]; exact Blk.new _ _ _)
  have HV := Lib.hid (h.below hb0)
  have HAW := Lib.hid (awake8 D W0)
  have HGR : Hid (∀ wx, Below W0.heap.size W0 wx → Calls Try.prog 11 #[v] wx fun e w' => ∃ g, e = .returned (.bool g) ∧ Eqw2 wx w' ∧ (g = false → L.length ≤ 30 ∧ ∀ (j : Nat) (p : Pl.Bt × Value), L[j]? = some p → okB p.1)) := Lib.hid fun wx hx => great_any v L wx ((h.below hb0).below hx)
  have HB0 := Lib.hid hb0
  have HW0 := Lib.hid hW0
  obtain ⟨a1, c1, rfl⟩ := h.form
  obtain ⟨m, hm⟩ : ∃ m, L.length = m := ⟨_, rfl⟩
  have HM := Lib.hid hm
  rw [hm] at HV HGR ⊢
  clear h hm hW0 hb0
  go_enter Try.func3, Try.ntmps3
  go_upto_region 1 with fail
  rw [HW0.out]
  go_wp2_with fail
  refine HAW.out.mono ?_
  rintro e W1 ⟨rfl, hb1⟩
  have HB1 := Lib.hid hb1
  have HBA := Lib.hid (HB0.out.trans (hb1.mono HB0.out.size))
  have HV1 := Lib.hid (HV.out.below hb1)
  have c0 : W1.cell? ⟨w.heap.size, 0, none⟩ = some (.int .i64 x0) := (HBK.out.below hb1).cell rfl
  have c1' : W1.cell? ⟨w.heap.size, 1, none⟩ = some (.int .i64 x1) := (HBK.out.below hb1).cell rfl
  have c2 : W1.cell? ⟨w.heap.size, 2, none⟩ = some (.int .i64 x2) := (HBK.out.below hb1).cell rfl
  clear hb1 HAW
  go_wp2_with fail
  refine (HGR.out _ HB1.out).mono ?_
  rintro e W2 ⟨g, rfl, hw2, hg⟩
  have hwe : W1 = W2 := hw2.symm
  subst hwe
  cases g with
  | true =>
    clear hg
    go_wp2_with fail
    go_ret
    exact ⟨rfl, HBA.out⟩
  | false =>
    obtain ⟨h30, hall⟩ := hg rfl
    have HF : Hid (Few (L.map (·.1))) := Lib.hid (few_of (by rw [HM.out]; exact h30) hall)
    have HT : Hid (∀ wx, Below W1.heap.size W1.drew wx → Calls Try.prog 13 #[.slice a1 m c1, .int .i64 x0, .int .i64 x1, .int .i64 x2] wx fun e w' => ∃ v1 M1, e = .returned v1 ∧ BtIn (fun _ => True) w' v1 M1 ∧ M1.map (·.1) = Wd.thin (L.map (·.1)) x0 x1 x2 ∧ Below W1.heap.size W1.drew w') := Lib.hid fun wx hx =>
      (D.thin _ L x0 x1 x2 wx (HV1.out.below (of_drew hx)) HF.out).mono fun e w' ⟨h1, v1, M1, h2, h3, h4⟩ => ⟨v1, M1, h2, h3.mono fun _ _ => trivial, h4, drew_trans hx h1⟩
    have HR : Hid (∀ wx v1 M1, BtIn (fun _ => True) wx v1 M1 → Below W1.heap.size W1.drew wx → Calls Try.prog 14 #[.slice a1 m c1, .int .i64 x0, .int .i64 x1, .int .i64 x2] wx fun e w' => ∃ v2 M2, e = .returned v2 ∧ BtIn (fun _ => True) w' v1 M1 ∧ BtIn (fun _ => True) w' v2 M2 ∧ M2.map (·.1) = Wd.thin (L.map (·.1)) x0 x1 x2 ∧ Below W1.heap.size W1.drew w') := Lib.hid fun wx v1 M1 hv1 hx =>
      (rthin _ L x0 x1 x2 wx (HV1.out.below (of_drew hx)) HF.out.len2 HF.out.recs).mono fun e w' ⟨h1, v2, M2, h2, h3, h4⟩ => ⟨v2, M2, h2, hv1.below h1, h3.mono fun _ _ => trivial, h4, drew_trans hx h1⟩
    have HS : Hid (∀ wx v1 M1 v2 M2, BtIn (fun _ => True) wx v1 M1 → BtIn (fun _ => True) wx v2 M2 → M1.map (·.1) = Wd.thin (L.map (·.1)) x0 x1 x2 → M2.map (·.1) = Wd.thin (L.map (·.1)) x0 x1 x2 → Below W1.heap.size W1.drew wx → Calls Try.prog 12 #[v1, v2] wx fun e w' => e = .returned (.bool true) ∧ Below W1.heap.size W1.drew w') := Lib.hid fun wx v1 M1 v2 M2 h1 h2 h3 h4 hx =>
      (batches_true v1 v2 M1 M2 wx h1 h2 (h3.trans h4.symm) (Few.len2 (by rw [h3]; exact HF.out.thin _ _ _)) (Few.recs (by rw [h3]; exact HF.out.thin _ _ _))).mono fun e w' ⟨h5, h6⟩ => ⟨h5, drew_trans hx h6⟩
    have HFO : Hid (∀ wx, Below W1.heap.size W1.drew wx → Calls Try.prog 16 #[.slice a1 m c1, .int .i64 upto] wx fun e w' => ∃ v3, e = .returned v3 ∧ RcIn (fun _ => True) w' v3 (Wd.fold (L.map (·.1)) upto) ∧ Below W1.heap.size W1.drew w') := Lib.hid fun wx hx =>
      (D.fold _ L upto wx (HV1.out.below (of_drew hx)) HF.out).mono fun e w' ⟨h1, v3, h2, h3⟩ => ⟨v3, h2, h3.mono fun _ _ => trivial, drew_trans hx h1⟩
    have HRF : Hid (∀ wx v3, RcIn (fun _ => True) wx v3 (Wd.fold (L.map (·.1)) upto) → Below W1.heap.size W1.drew wx → Calls Try.prog 17 #[.slice a1 m c1, .int .i64 upto] wx fun e w' => ∃ v4, e = .returned v4 ∧ RcIn (fun _ => True) w' v3 (Wd.fold (L.map (·.1)) upto) ∧ RcIn (fun _ => True) w' v4 (Wd.fold (L.map (·.1)) upto) ∧ Below W1.heap.size W1.drew w') := Lib.hid fun wx v3 h3 hx =>
      (rfold _ L upto wx (HV1.out.below (of_drew hx)) HF.out.len2 HF.out.recs (Nat.le_trans HF.out.rcs (by decide))).mono fun e w' ⟨h1, v4, h2, h4⟩ => ⟨v4, h2, Rds.below h3 h1, h4.mono fun _ _ => trivial, drew_trans hx h1⟩
    have HRS : Hid (∀ wx v3 v4, RcIn (fun _ => True) wx v3 (Wd.fold (L.map (·.1)) upto) → RcIn (fun _ => True) wx v4 (Wd.fold (L.map (·.1)) upto) → Below W1.heap.size W1.drew wx → Calls Try.prog 15 #[v3, v4] wx fun e w' => e = .returned (.bool true) ∧ Below W1.heap.size W1.drew w') := Lib.hid fun wx v3 v4 h3 h4 hx =>
      (recs_true v3 v4 _ wx h3 h4 (Nat.le_trans (Wd.fold_len _ _) (Nat.le_trans HF.out.rcs (by decide)))).mono fun e w' ⟨h5, h6⟩ => ⟨h5, drew_trans hx h6⟩
    have HD0 := Lib.hid (drew_refl W1)
    clear hg h30 hall HGR hw2
    go_upto_region 5 with fail
    have hB := HD0.out
    go_region_held3 (fun w' => w'.cell? ⟨w.heap.size, 0, none⟩ = some (.int .i64 x0) ∧ w'.cell? ⟨w.heap.size, 1, none⟩ = some (.int .i64 x1) ∧ w'.cell? ⟨w.heap.size, 2, none⟩ = some (.int .i64 x2)) (first | go_keep | (go_split_ands; exact ⟨dcell hB c0, dcell hB c1', dcell hB c2⟩) | fail)
      (first
        | (go_at_call 13; (refine (HT.out _ hB).mono ?_); rintro e w5 ⟨v1, M1, rfl, hv1, hm1, hB⟩)
        | (go_at_call 14; (refine (HR.out _ v1 M1 hv1 hB).mono ?_); rintro e w6 ⟨v2, M2, rfl, hv1, hv2, hm2, hB⟩)
        | (go_at_call 12; (refine (HS.out _ v1 M1 v2 M2 hv1 hv2 hm1 hm2 hB).mono ?_); rintro e w7 ⟨rfl, hB⟩)
        | (go_at_call 16; (refine (HFO.out _ hB).mono ?_); rintro e w8 ⟨v3, rfl, hv3, hB⟩)
        | (go_at_call 17; (refine (HRF.out _ v3 hv3 hB).mono ?_); rintro e w9 ⟨v4, rfl, hv3, hv4, hB⟩)
        | (go_at_call 15; (refine (HRS.out _ v3 v4 hv3 hv4 hB).mono ?_); rintro e w10 ⟨rfl, hB⟩)
        | fail)
    have HE := Lib.hid (HBA.out.trans ((of_drew hB).mono HBA.out.size))
    clear hB hv1 hv2 hv3 hv4 hm1 hm2
    go_wp2_with fail
    go_ret
    exact ⟨rfl, HE.out⟩
end Go.Proofs.Ytfapigccdbpepaa
