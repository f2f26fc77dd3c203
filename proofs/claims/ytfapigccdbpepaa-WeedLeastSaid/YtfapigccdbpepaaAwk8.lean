/- THE CONTRACT of the law's awake. -/
import Derived.Test.YtfapigccdbpepaaDevs
import Derived.Deep.Cut
import Derived.Deep.DeepCutAuto
import Derived.Deep.CutBlock
import Derived.Deep.CutRange
namespace Go.Proofs.Ytfapigccdbpepaa
open Go.RowKit

def awkR : List Pl.Rc := [⟨0, [97], [49], false⟩, ⟨1, [97], [50], false⟩, ⟨2, [98], [], true⟩]
def awkB : Pl.Bt := ⟨0, 3, 0, 0, 0, awkR⟩
theorem awk_thin : Wd.thin [awkB] 3 10 5 = [⟨0, 3, 0, 0, 0, [⟨1, [97], [50], false⟩]⟩] := rfl
theorem awk_fold : Wd.fold [awkB] 1 = [⟨0, [97], [49], false⟩] := rfl
theorem awk_few : Few [awkB] := by
  refine ⟨by decide, fun b hb => ?_⟩
  obtain rfl := List.mem_singleton.1 hb
  refine ⟨by decide, fun x hx => ?_⟩
  simp only [awkB, awkR, List.mem_cons, List.not_mem_nil, or_false] at hx
  rcases hx with rfl | rfl | rfl <;> (unfold FewR; decide)
theorem awk_over : OverSays ([10, 20, 30].map fun b => ((0, b) : P2)) 30 2 := by
  refine ⟨fun h => by simp at h, fun _ => ⟨by decide, .inl (by decide)⟩, fun j hj => ?_⟩
  rcases j with _ | _ | j
  · decide
  · decide
  · omega
theorem awk_notbad : ¬ OldBad [5, 9, 12] [10, 20, 30] := by
  rintro (h | h | ⟨b, hb, h⟩)
  · exact h rfl
  · exact absurd h (by decide)
  · simp only [List.mem_cons, List.not_mem_nil, or_false] at hb
    rcases hb with rfl | rfl | rfl <;> omega
theorem awk_old9 : OldSays [5, 9, 12] [10, 20, 30] 9 30 2 := by
  refine ⟨fun h => absurd h awk_notbad, fun _ => ⟨2, awk_over, Nat.le_refl _, fun j e hj he => ?_, .inl rfl⟩⟩
  rcases j with _ | _ | j
  · cases he; decide
  · cases he; decide
  · omega
theorem awk_old8 : OldSays [5, 9, 12] [10, 20, 30] 8 30 1 := by
  refine ⟨fun h => absurd h awk_notbad, fun _ => ⟨2, awk_over, by decide, fun j e hj he => ?_, .inr ⟨9, rfl, by decide⟩⟩⟩
  rcases j with _ | j
  · cases he; decide
  · omega
theorem nm_three (w : World) (a b c : Int) : Nm (fun k => k = w.heap.size) (w.alloc (.cells #[.int .i64 a, .int .i64 b, .int .i64 c] 3)) (.slice (some ⟨w.heap.size, 0, none⟩) 3 3) [a, b, c] :=
  Rds.lit rfl [.int .i64 a, .int .i64 b, .int .i64 c] 3 1 3 rfl
theorem awk_old (D : Devs) (w : World) (high : Int) (k : Nat) (hk : OldSays [5, 9, 12] [10, 20, 30] high 30 k) :
    Calls Try.prog 18 #[.slice (some ⟨w.heap.size, 0, none⟩) 3 3, .slice (some ⟨w.heap.size + 1, 0, none⟩) 3 3, .int .i64 high, .int .i64 30] ((w.alloc (.cells #[.int .i64 5, .int .i64 9, .int .i64 12] 3)).alloc (.cells #[.int .i64 10, .int .i64 20, .int .i64 30] 3)) fun e w' => e = .returned (.int .i64 k) ∧ Below w.heap.size w w' := by
  have h1 := nm_three w 5 9 12
  have hb1 : Below w.heap.size w (w.alloc (.cells #[.int .i64 5, .int .i64 9, .int .i64 12] 3)) := (Below.refl _ _).alloc (Nat.le_refl _) _
  have hb2 : Below (w.alloc (.cells #[.int .i64 5, .int .i64 9, .int .i64 12] 3)).heap.size (w.alloc (.cells #[.int .i64 5, .int .i64 9, .int .i64 12] 3)) ((w.alloc (.cells #[.int .i64 5, .int .i64 9, .int .i64 12] 3)).alloc (.cells #[.int .i64 10, .int .i64 20, .int .i64 30] 3)) := (Below.refl _ _).alloc (Nat.le_refl _) _
  have h2 := nm_three (w.alloc (.cells #[.int .i64 5, .int .i64 9, .int .i64 12] 3)) 10 20 30
  rw [show (w.alloc (.cells #[.int .i64 5, .int .i64 9, .int .i64 12] 3)).heap.size = w.heap.size + 1 by simp] at h2
  refine (D.old _ _ [5, 9, 12] [10, 20, 30] high 30 _ (h1.below hb2) h2 (by decide) (by decide)).mono ?_
  rintro e w' ⟨k', rfl, hk', hb⟩
  obtain rfl := old_one hk hk'
  exact ⟨rfl, (hb1.trans (hb2.mono hb1.size)).trans (hb.mono (by simp; omega))⟩

theorem one_of {M : List (Pl.Bt × Value)} {b : Pl.Bt} (h : M.map (·.1) = [b]) : ∃ rv, M = [(b, rv)] := by
  rcases M with _ | ⟨⟨c, rv⟩, _ | ⟨p, M⟩⟩
  · simp at h
  · simp only [List.map_cons, List.map_nil, List.cons.injEq, and_true] at h
    exact ⟨rv, by rw [h]⟩
  · simp at h
set_option maxHeartbeats 4000000 in
set_option maxRecDepth 100000 in
theorem awake8 (D : Devs) (w : World) : Calls Try.prog 10 #[] w fun e w' => e = .returned (.bool true) ∧ Below w.heap.size w w' := by
  obtain ⟨W1, hW1⟩ : ∃ W1, w.alloc (.cells #[.int .i64 0, .string ⟨#[97]⟩, .string ⟨#[49]⟩, .bool false, .int .i64 1, .string ⟨#[97]⟩, .string ⟨#[50]⟩, .bool false, .int .i64 2, .string ⟨#[98]⟩, .string ⟨#[]⟩, .bool true] 44) = W1 := ⟨_, rfl⟩
  have hb1 : Below w.heap.size w W1 := by rw [← hW1]; exact (Below.refl _ _).alloc (Nat.le_refl _) _
  have hs1 : W1.heap.size = w.heap.size + 1 := by rw [← hW1]; simp
  have hr1 : RcIn (fun b => b = w.heap.size) W1 (.slice (some ⟨w.heap.size, 0, none⟩) 3 3) awkR := by rw [← hW1]; exact Rds.lit rfl (awkR.flatMap cells4) 44 4 3 rfl
  obtain ⟨W2, hW2⟩ : ∃ W2, W1.alloc (.cells #[.int .i64 0, .int .i64 3, .int .i64 0, .int .i64 0, .int .i64 0, .slice (some ⟨w.heap.size, 0, none⟩) 3 3] 42) = W2 := ⟨_, rfl⟩
  have hb2 : Below W1.heap.size W1 W2 := by rw [← hW2]; exact (Below.refl _ _).alloc (Nat.le_refl _) _
  have hbt : BtIn (fun _ => True) W2 (.slice (some ⟨W1.heap.size, 0, none⟩) 1 1) [(awkB, .slice (some ⟨w.heap.size, 0, none⟩) 3 3)] := by
    refine ⟨?_, fun p hp => ?_⟩
    · rw [← hW2]
      exact (Rds.lit rfl ([(awkB, Value.slice (some ⟨w.heap.size, 0, none⟩) 3 3)].flatMap bc6) 42 6 1 rfl).mono fun _ _ => trivial
    · obtain rfl := List.mem_singleton.1 hp
      exact (hr1.below hb2).mono fun _ _ => trivial
  have hb12 : Below w.heap.size w W2 := hb1.trans (hb2.mono hb1.size)
  rw [hs1] at hbt
  have HT := Lib.hid (D.thin _ _ 3 10 5 W2 hbt awk_few)
  have HFO : Hid (∀ wx, Below W2.heap.size W2 wx → Calls Try.prog 16 #[.slice (some ⟨w.heap.size + 1, 0, none⟩) 1 1, .int .i64 1] wx (FoldOut wx [awkB] 1)) := Lib.hid fun wx hx => D.fold _ _ 1 wx (hbt.below hx) awk_few
  have HO9 := Lib.hid fun wx => awk_old D wx 9 2 awk_old9
  have HO8 := Lib.hid fun wx => awk_old D wx 8 1 awk_old8
  have HB12 := Lib.hid hb12
  have HW1 := Lib.hid hW1
  have HW2 := Lib.hid hW2
  have HS1 := Lib.hid hs1
  clear hr1 hbt hb1 hb2 hb12 hW1 hW2 hs1
  go_enter Try.func10, Try.ntmps10
  go_upto_region 2 with fail
  rw [HW1.out, HW2.out]
  go_wp2_with fail
  refine HT.out.mono ?_
  rintro e W3 ⟨hb3, v1, M, rfl, hM, hMl⟩
  rw [show [(awkB, Value.slice (some ⟨w.heap.size, 0, none⟩) 3 3)].map (·.1) = [awkB] from rfl, awk_thin] at hMl
  obtain ⟨rv, rfl⟩ := one_of hMl
  have HB3 := Lib.hid hb3
  have HM := Lib.hid hM
  clear hb3 hM hMl HT
  go_wp2_with fail
  refine (HFO.out _ HB3.out).mono ?_
  rintro e W4 ⟨hb4, v2, rfl, hf⟩
  rw [awk_fold] at hf
  have hM4 := HM.out.below hb4
  obtain ⟨b1, o1, c1, rfl, -, -, -, -, -, -, -, x5, hrr⟩ := hM4.get (j := 0) rfl
  obtain ⟨a2, c2, rfl⟩ := hrr.slice
  obtain ⟨a2', c2', e2, hrc⟩ := hrr.recs
  obtain ⟨b3, o3, rfl, -, -, -, y2, -⟩ := hrc 0 _ rfl
  have e2' : a2 = some ⟨b3, o3, none⟩ := by injection e2
  subst e2'
  obtain ⟨a4, c4, rfl, hfc⟩ := hf.recs
  obtain ⟨b5, o5, rfl, -, -, -, z2, -⟩ := hfc 0 _ rfl
  have HB4 := Lib.hid ((HB12.out.trans (HB3.out.mono HB12.out.size)).trans (hb4.mono (Nat.le_trans HB12.out.size HB3.out.size)))
  simp only [List.length_cons, List.length_nil, Nat.zero_mul, Nat.add_zero, Nat.zero_add] at x5 y2 z2 ⊢
  clear hb4 hM4 hrr hrc hf hfc e2 HFO
  go_wp2_with fail
  refine (HO9.out W4).mono ?_
  rintro e W5 ⟨rfl, hb5⟩
  have HB5 := Lib.hid hb5
  clear hb5 x5 y2 z2
  go_wp2_with fail
  refine (HO8.out W5).mono ?_
  rintro e W6 ⟨rfl, hb6⟩
  have HB6 := Lib.hid hb6
  clear hb6
  go_wp2_with fail
  go_ret
  exact ⟨rfl, (HB4.out.trans (HB5.out.mono HB4.out.size)).trans (HB6.out.mono (Nat.le_trans HB4.out.size HB5.out.size))⟩
end Go.Proofs.Ytfapigccdbpepaa
