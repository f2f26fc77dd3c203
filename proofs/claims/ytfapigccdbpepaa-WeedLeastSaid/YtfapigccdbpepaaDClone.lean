/- THE CONTRACTS OF slices.Clone at records, batches. -/
import Derived.Test.YtfapigccdbpepaaGat
import Derived.Lib.SliceRun
namespace Go.Proofs.Ytfapigccdbpepaa
open Go.RowKit

theorem flat4_len (ls : List Pl.Rc) : (ls.flatMap cells4).length = ls.length * 4 := by
  induction ls with
  | nil => rfl
  | cons y ls ih => rw [List.flatMap_cons, List.length_append, ih]; simp [cells4]; omega
theorem flat4_one (ls : List Pl.Rc) : ∀ u ∈ ls.flatMap cells4, u.oneCell' = true := by
  intro u hu
  obtain ⟨x, -, hx⟩ := List.mem_flatMap.1 hu
  simp only [cells4, List.mem_cons, List.not_mem_nil, or_false] at hx
  rcases hx with rfl | rfl | rfl | rfl <;> rfl

set_option maxHeartbeats 1000000 in
set_option maxRecDepth 100000 in
theorem cloneRc {A : Nat → Prop} (v : Value) (n : Nat) (xs : List Value) (w : World) (h : Rds A w v 4 n xs) (h1 : ∀ u ∈ xs, u.oneCell' = true) (hn : n ≤ 1048576) :
    Calls Try.prog 40 #[v] w fun e w' => ∃ v' gb', e = .returned v' ∧ Sl w' v' gb' 44 4 n xs ∧ (∀ b, gb' = some b → w.heap.size ≤ b) ∧ Below w.heap.size w w' := by
  rcases h.2 with ⟨rfl, rfl⟩ | ⟨ad, cap, rfl, -⟩
  · obtain rfl : xs = [] := List.eq_nil_of_length_eq_zero (by simpa using h.1)
    clear h h1 hn
    have hnil := fun wx => Lib.run_eql_slice_nil (P := Try.prog) wx 30 44 none 0 0 0 0 Try.underlying30
    go_enter Try.func40, Try.ntmps40
    go_wp2_with fail
    go_ret
    exact ⟨_, none, rfl, Sl.nil _ _ _, (fun b hb => by cases hb), Below.refl _ _⟩
  · have hw0 : Below w.heap.size w (w.alloc (.cells #[] 44)) := (Below.refl _ _).alloc (Nat.le_refl _) _
    have HS0 := Lib.hid (Sl.made w 44 4)
    have HR0 := Lib.hid (h.below hw0)
    have H1 := Lib.hid h1
    have hs0 : (w.alloc (.cells #[] 44)).heap.size = w.heap.size + 1 := by simp
    have HSZ := Lib.hid hs0
    have hnil := fun wx => Lib.run_eql_slice_nil (P := Try.prog) wx 30 44 (some ad) n cap 0 0 Try.underlying30
    have HW0 := Lib.hid hw0
    obtain ⟨i0, hi, hz0, hz1, hz2⟩ := infoRec
    clear h h1 hw0 hs0
    go_enter Try.func40, Try.ntmps40
    go_wp2_with (at_builtin; refine wpList_append_rd rfl _ _ 30 rfl 44 i0 (.agg zeroR) 4 48 Try.underlying30 hi hz0 hz1 hz2 rfl _ (some w.heap.size) 0 [] rfl HS0.out _ n xs rfl HR0.out H1.out (by omega) (by omega) ?_)
    intro v' w9 gb' hS hG hgb
    have HB9 : Hid (Below w.heap.size w w9) := HW0.out.trans ⟨hG.os, hG.tape, hG.output, hG.size, fun k hk => hG.block k (by rw [HSZ.out]; omega) (fun e => by
      have : k = w.heap.size := Option.some.inj e
      omega)⟩
    have HG : Hid (∀ b, gb' = some b → w.heap.size ≤ b) := fun b hb => by
      rcases hgb with h | ⟨g, h, hg⟩
      · rw [h] at hb; cases hb; exact Nat.le_refl _
      · rw [h] at hb; cases hb; omega
    have HS9 := Lib.hid hS
    clear hS hG hgb
    go_wp2_with fail
    go_ret
    exact ⟨v', gb', rfl, by simpa using HS9.out, HG.out, HB9.out⟩

set_option maxHeartbeats 1000000 in
set_option maxRecDepth 100000 in
theorem cloneBt {A : Nat → Prop} (v : Value) (n : Nat) (xs : List Value) (w : World) (h : Rds A w v 6 n xs) (h1 : ∀ u ∈ xs, u.oneCell' = true) (hn : n ≤ 1048576) :
    Calls Try.prog 39 #[v] w fun e w' => ∃ v' gb', e = .returned v' ∧ Sl w' v' gb' 42 6 n xs ∧ (∀ b, gb' = some b → w.heap.size ≤ b) ∧ Below w.heap.size w w' := by
  rcases h.2 with ⟨rfl, rfl⟩ | ⟨ad, cap, rfl, -⟩
  · obtain rfl : xs = [] := List.eq_nil_of_length_eq_zero (by simpa using h.1)
    clear h h1 hn
    have hnil := fun wx => Lib.run_eql_slice_nil (P := Try.prog) wx 22 42 none 0 0 0 0 Try.underlying22
    go_enter Try.func39, Try.ntmps39
    go_wp2_with fail
    go_ret
    exact ⟨_, none, rfl, Sl.nil _ _ _, (fun b hb => by cases hb), Below.refl _ _⟩
  · have hw0 : Below w.heap.size w (w.alloc (.cells #[] 42)) := (Below.refl _ _).alloc (Nat.le_refl _) _
    have HS0 := Lib.hid (Sl.made w 42 6)
    have HR0 := Lib.hid (h.below hw0)
    have H1 := Lib.hid h1
    have hs0 : (w.alloc (.cells #[] 42)).heap.size = w.heap.size + 1 := by simp
    have HSZ := Lib.hid hs0
    have hnil := fun wx => Lib.run_eql_slice_nil (P := Try.prog) wx 22 42 (some ad) n cap 0 0 Try.underlying22
    have HW0 := Lib.hid hw0
    obtain ⟨i0, hi, hz0, hz1, hz2⟩ := infoBt
    clear h h1 hw0 hs0
    go_enter Try.func39, Try.ntmps39
    go_wp2_with (at_builtin; refine wpList_append_rd rfl _ _ 22 rfl 42 i0 (.agg zeroB) 6 64 Try.underlying22 hi hz0 hz1 hz2 rfl _ (some w.heap.size) 0 [] rfl HS0.out _ n xs rfl HR0.out H1.out (by omega) (by omega) ?_)
    intro v' w9 gb' hS hG hgb
    have HB9 : Hid (Below w.heap.size w w9) := HW0.out.trans ⟨hG.os, hG.tape, hG.output, hG.size, fun k hk => hG.block k (by rw [HSZ.out]; omega) (fun e => by
      have : k = w.heap.size := Option.some.inj e
      omega)⟩
    have HG : Hid (∀ b, gb' = some b → w.heap.size ≤ b) := fun b hb => by
      rcases hgb with h | ⟨g, h, hg⟩
      · rw [h] at hb; cases hb; exact Nat.le_refl _
      · rw [h] at hb; cases hb; omega
    have HS9 := Lib.hid hS
    clear hS hG hgb
    go_wp2_with fail
    go_ret
    exact ⟨v', gb', rfl, by simpa using HS9.out, HG.out, HB9.out⟩

/-- What a clone of records, of batches reads as. -/
theorem cl4_one (ls : List Pl.Rc) : ∀ u ∈ ls.flatMap cells4, u.oneCell' = true := flat4_one ls
theorem bc6_one {A : Nat → Prop} {w : World} {L : List (Pl.Bt × Value)} (h : All A w L) : ∀ u ∈ L.flatMap bc6, u.oneCell' = true := by
  intro u hu
  obtain ⟨p, hp, hu⟩ := List.mem_flatMap.1 hu
  obtain ⟨a, cap, e⟩ := (h p hp).slice
  simp only [bc6, e, List.mem_cons, List.not_mem_nil, or_false] at hu
  rcases hu with rfl | rfl | rfl | rfl | rfl | rfl <;> rfl
end Go.Proofs.Ytfapigccdbpepaa
