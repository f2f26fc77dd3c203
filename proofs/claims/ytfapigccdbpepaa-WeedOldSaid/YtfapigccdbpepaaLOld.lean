/- THE WALK of WeedOld. -/
import Derived.Test.YtfapigccdbpepaaLKit
namespace Go.Proofs.Ytfapigccdbpepaa
open Go.RowKit

set_option maxHeartbeats 4000000 in
set_option maxRecDepth 100000 in
theorem old_law {A A' : Nat → Prop} (D : Devs) (ev bv : Value) (ends bytes : List Int) (x0 x1 : Int) (w : World) (he : Nm A w ev ends) (hb : Nm A' w bv bytes) :
    Calls Try.prog 4 #[ev, bv, .agg #[.int .i64 x0, .int .i64 x1]] w fun e w' => e = .returned (.bool true) ∧ Below w.heap.size w w' := by
  obtain ⟨W0, hW0⟩ : ∃ W0, w.alloc (.cells #[.int .i64 x0, .int .i64 x1] 34) = W0 := ⟨_, rfl⟩
  have hb0 : Below w.heap.size w W0 := by rw [← hW0]; exact (Below.refl _ _).alloc (Nat.le_refl _) _
  have HBK : Hid (Blk W0 w.heap.size #[.int .i64 x0, .int .i64 x1] 34) := Lib.hid (by rw [← hW0]; exact Blk.new _ _ _)
  obtain ⟨K, hK⟩ := old_is ends bytes x0 x1
  have HE := Lib.hid (he.below hb0)
  have HBY := Lib.hid (hb.below hb0)
  have HOL : Hid (ends.length ≤ 5000 → bytes.length ≤ 5000 → ∀ wx, Below W0.heap.size W0 wx → Calls Try.prog 18 #[ev, bv, .int .i64 x0, .int .i64 x1] wx fun e w' => e = .returned (.int .i64 K) ∧ Below wx.heap.size wx w') := Lib.hid fun h1 h2 wx hx => (D.old ev bv ends bytes x0 x1 wx ((he.below hb0).below hx) ((hb.below hb0).below hx) h1 h2).mono fun e w' ⟨k, h3, h4, h5⟩ => ⟨by rw [h3, old_one h4 hK], h5⟩
  have HRO : Hid (ends.length ≤ 5000 → bytes.length ≤ 5000 → ∀ wx, Below W0.heap.size W0 wx → Calls Try.prog 19 #[ev, bv, .int .i64 x0, .int .i64 x1] wx fun e w' => e = .returned (.int .i64 K) ∧ Below wx.heap.size wx w') := Lib.hid fun h1 h2 wx hx => (rold ev bv ends bytes x0 x1 wx ((he.below hb0).below hx) ((hb.below hb0).below hx) (Nat.le_trans h1 (by decide)) (Nat.le_trans h2 (by decide))).mono fun e w' ⟨⟨k, h3, h4⟩, h5⟩ => ⟨by rw [h3, old_one h4 hK], h5⟩
  have HAW := Lib.hid (awake8 D W0)
  have HB0 := Lib.hid hb0
  have HW0 := Lib.hid hW0
  obtain ⟨a1, c1, rfl⟩ := he.form
  obtain ⟨a2, c2, rfl⟩ := hb.form
  obtain ⟨en, hen⟩ : ∃ n, ends.length = n := ⟨_, rfl⟩
  obtain ⟨bn, hbn⟩ : ∃ n, bytes.length = n := ⟨_, rfl⟩
  rw [hen, hbn] at HOL HRO ⊢
  clear he hb hK hen hbn hW0 hb0 HE HBY
  go_enter Try.func4, Try.ntmps4
  go_upto_region 1 with fail
  rw [HW0.out]
  go_wp2_with fail
  refine HAW.out.mono ?_
  rintro e W1 ⟨rfl, hb1⟩
  have HB1 := Lib.hid hb1
  have HBA := Lib.hid (HB0.out.trans (hb1.mono HB0.out.size))
  have c0 : W1.cell? ⟨w.heap.size, 0, none⟩ = some (.int .i64 x0) := (HBK.out.below hb1).cell rfl
  have c1' : W1.cell? ⟨w.heap.size, 1, none⟩ = some (.int .i64 x1) := (HBK.out.below hb1).cell rfl
  clear hb1 HAW
  by_cases g1 : 5000 < en
  · have hd : decide ((5000 : Int) < (en : Int)) = true := by simp; omega
    go_wp2_with fail
    go_ret
    exact ⟨rfl, HBA.out⟩
  have hd : decide ((5000 : Int) < (en : Int)) = false := by simp; omega
  by_cases g2 : 5000 < bn
  · have hd2 : decide ((5000 : Int) < (bn : Int)) = true := by simp; omega
    go_wp2_with fail
    go_ret
    exact ⟨rfl, HBA.out⟩
  have hd2 : decide ((5000 : Int) < (bn : Int)) = false := by simp; omega
  have HC1 : Hid (∀ wx, Below W1.heap.size W1.drew wx → Calls Try.prog 18 #[.slice a1 en c1, .slice a2 bn c2, .int .i64 x0, .int .i64 x1] wx fun e w' => e = .returned (.int .i64 K) ∧ Below W1.heap.size W1.drew w') := Lib.hid fun wx hx => (HOL.out (by omega) (by omega) wx (HB1.out.trans ((of_drew hx).mono HB1.out.size))).mono fun e w' ⟨h1, h2⟩ => ⟨h1, drew_trans hx h2⟩
  have HC2 : Hid (∀ wx, Below W1.heap.size W1.drew wx → Calls Try.prog 19 #[.slice a1 en c1, .slice a2 bn c2, .int .i64 x0, .int .i64 x1] wx fun e w' => e = .returned (.int .i64 K) ∧ Below W1.heap.size W1.drew w') := Lib.hid fun wx hx => (HRO.out (by omega) (by omega) wx (HB1.out.trans ((of_drew hx).mono HB1.out.size))).mono fun e w' ⟨h1, h2⟩ => ⟨h1, drew_trans hx h2⟩
  have HD0 := Lib.hid (drew_refl W1)
  clear g1 g2 HOL HRO
  go_upto_region 5 with fail
  have hB := HD0.out
  go_region_held3 (fun w' => w'.cell? ⟨w.heap.size, 0, none⟩ = some (.int .i64 x0) ∧ w'.cell? ⟨w.heap.size, 1, none⟩ = some (.int .i64 x1)) (first | go_keep | (go_split_ands; exact ⟨dcell hB c0, dcell hB c1'⟩) | fail)
    (first
      | (go_at_call 18; (refine (HC1.out _ hB).mono ?_); rintro e w5 ⟨rfl, hB⟩)
      | (go_at_call 19; (refine (HC2.out _ hB).mono ?_); rintro e w6 ⟨rfl, hB⟩)
      | fail)
  have HF := Lib.hid (HBA.out.trans ((of_drew hB).mono HBA.out.size))
  clear hB
  go_wp2_with fail
  go_ret
  exact ⟨rfl, HF.out⟩
end Go.Proofs.Ytfapigccdbpepaa
