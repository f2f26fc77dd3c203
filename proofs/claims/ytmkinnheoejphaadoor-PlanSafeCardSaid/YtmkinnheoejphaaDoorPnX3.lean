/- PLAIN FACTS for PlanSafe: how the law looks through two chains. -/
import Derived.Test.YtmkinnheoejphaaDoorPnX2
import Derived.Test.YtmkinnheoejphaaDoorPnD
namespace Go.Proofs.YtmkinnheoejphaaDoor
namespace Pn
theorem drop_at {α : Type} {l : List α} {i : Nat} {x : α} (h : l[i]? = some x) : l.drop i = x :: l.drop (i + 1) := by
  obtain ⟨hl, hx⟩ := List.getElem?_eq_some_iff.1 h
  rw [List.drop_eq_getElem_cons hl, hx]
/-- An elder node that isn't the one: look on. -/
theorem scan_on {le x y : Int} {ac bc : List Int} {at_ j : Nat} (h : scan le (ac.drop at_) (bc.drop j) = true) (ha : ac[at_]? = some y) (hb : bc[j]? = some x) (hn : y ≠ x) : scan le (ac.drop (at_ + 1)) (bc.drop j) = true := by
  rw [drop_at ha, drop_at hb] at h
  unfold scan at h
  simp only at h
  rw [if_neg hn] at h
  rw [drop_at hb]
  exact h
/-- It is the one. -/
theorem scan_hit {le x : Int} {ac bc : List Int} {at_ j : Nat} (h : scan le (ac.drop at_) (bc.drop j) = true) (ha : ac[at_]? = some x) (hb : bc[j]? = some x) : scan le (ac.drop (at_ + 1)) (bc.drop (j + 1)) = true := by
  rw [drop_at ha, drop_at hb] at h
  unfold scan at h
  simp only [if_true] at h
  exact h
/-- There is none left: the learner, at the end. -/
theorem scan_end {le x : Int} {ac bc : List Int} {at_ j : Nat} (h : scan le (ac.drop at_) (bc.drop j) = true) (ha : ac.length ≤ at_) (hb : bc[j]? = some x) : j + 1 = bc.length ∧ x = le ∧ scan le (ac.drop (at_ + 1)) (bc.drop (j + 1)) = true := by
  rw [List.drop_of_length_le ha, drop_at hb] at h
  unfold scan at h
  simp only [Bool.and_eq_true, List.isEmpty_iff, beq_iff_eq] at h
  have hl := (List.getElem?_eq_some_iff.1 hb).1
  have h1 := congrArg List.length h.1
  rw [List.length_drop, List.length_nil] at h1
  refine ⟨by omega, h.2, ?_⟩
  rw [h.1]
  exact scan_nil _ _
theorem nums_has (t : List Nat) (k : Nat) : (nums t).contains (k : Int) = decide (k ∈ t) := by
  unfold nums
  rw [List.contains_eq_mem]
  congr 1
  simp only [List.mem_map, eq_iff_iff]
  constructor
  · rintro ⟨j, hj, e⟩
    have : j = k := by omega
    exact this ▸ hj
  · intro h
    exact ⟨k, h, rfl⟩
end Pn
end Go.Proofs.YtmkinnheoejphaaDoor
