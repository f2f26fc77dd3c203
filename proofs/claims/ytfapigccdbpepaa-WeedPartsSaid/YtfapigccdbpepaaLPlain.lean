/- PLAIN: batches of one record each with rising offsets; numbers that are taken modulo. -/
import Derived.Test.YtfapigccdbpepaaLRise
namespace Go.Proofs.Ytfapigccdbpepaa
open Go.RowKit

theorem modN (x : Int) (k : Int) (hk : 0 < k) (hk2 : k ≤ 1048576) : ∃ H : Nat, (H : Int) < k ∧ wrap64 ((IntKind.u64.wrap x).tmod k) = (H : Int) := by
  have h0 : 0 ≤ IntKind.u64.wrap x := by
    show 0 ≤ x % _
    exact Int.emod_nonneg _ (by decide)
  have h1 : (IntKind.u64.wrap x).tmod k = (IntKind.u64.wrap x) % k := Int.tmod_eq_emod_of_nonneg h0
  have h2 : 0 ≤ (IntKind.u64.wrap x) % k := Int.emod_nonneg _ (by omega)
  have h3 : (IntKind.u64.wrap x) % k < k := Int.emod_lt_of_pos _ hk
  refine ⟨((IntKind.u64.wrap x) % k).toNat, by omega, ?_⟩
  rw [h1, Int.toNat_of_nonneg h2]
  generalize (IntKind.u64.wrap x) % k = y at h2 h3
  unfold wrap64
  omega
theorem tm_bounds (ts : List Int) (i : Nat) : 0 ≤ tmOf ts i ∧ tmOf ts i < 1000 := by
  unfold tmOf
  split
  · omega
  · obtain ⟨H, h1, h2⟩ := modN (ts.getD (i % ts.length) 0) 1000 (by decide) (by decide)
    rw [h2]
    omega
theorem mem_rise {rs : List Pl.Rc} {ts : List Int} {n : Nat} {x : Pl.Rc} : x ∈ Wd.rcs (riseTo rs ts n) ↔ ∃ i, i < n ∧ x = { rs.getD i ⟨0, [], [], false⟩ with off := (i : Int) } := by
  unfold riseTo
  rw [Wd.mem_rcs]
  constructor
  · rintro ⟨b, hb, hx⟩
    obtain ⟨i, hi, rfl⟩ := List.mem_map.1 hb
    exact ⟨i, List.mem_range.1 hi, List.mem_singleton.1 hx⟩
  · rintro ⟨i, hi, rfl⟩
    exact ⟨_, List.mem_map.2 ⟨i, List.mem_range.2 hi, rfl⟩, List.mem_singleton.2 rfl⟩
theorem rise_dist (rs : List Pl.Rc) (ts : List Int) : ∀ x ∈ Wd.rcs (rise rs ts), ∀ y ∈ Wd.rcs (rise rs ts), x.off = y.off → x = y := by
  intro x hx y hy h
  obtain ⟨i, -, rfl⟩ := mem_rise.1 hx
  obtain ⟨j, -, rfl⟩ := mem_rise.1 hy
  have h2 : (i : Int) = (j : Int) := h
  have : i = j := by omega
  rw [this]
theorem rise_few {rs : List Pl.Rc} (ts : List Int) (h : ∀ (j : Nat) (x : Pl.Rc), j < 40 → rs[j]? = some x → okR x) : Few (rise rs ts) := by
  refine ⟨by unfold rise riseTo; rw [List.length_map, List.length_range]; omega, fun b hb => ?_⟩
  obtain ⟨i, hi, rfl⟩ := List.mem_map.1 hb
  have hi2 := List.mem_range.1 hi
  refine ⟨(by decide : 1 ≤ 64), fun x hx => ?_⟩
  obtain rfl := List.mem_singleton.1 hx
  have hg : rs[i]? = some (rs.getD i ⟨0, [], [], false⟩) := by rw [List.getD_eq_getElem?_getD, List.getElem?_eq_getElem (by omega)]; rfl
  have := (h i _ (by omega) hg).1
  show (rs.getD i ⟨0, [], [], false⟩).key.length ≤ 1000
  omega
end Go.Proofs.Ytfapigccdbpepaa
