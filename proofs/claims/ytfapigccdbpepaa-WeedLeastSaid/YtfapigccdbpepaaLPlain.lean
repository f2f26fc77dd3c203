/- PLAIN: batches of one record each with rising offsets, the last ones of their keys; numbers that are taken modulo. -/
import Derived.Test.YtfapigccdbpepaaLRise
namespace Go.Proofs.Ytfapigccdbpepaa
open Go.RowKit

theorem modN (x : Int) (k : Int) (hk : 0 < k) (hk2 : k ≤ 1048576) : ∃ H : Nat, (H : Int) < k ∧ wrap64 ((IntKind.u64.wrap x).tmod k) = (H : Int) := by
  have h0 : 0 ≤ IntKind.u64.wrap x := by
    show 0 ≤ x % _
    exact Int.emod_nonneg _ (by decide)
  have h1 : (IntKind.u64.wrap x).tmod k = (IntKind.u64.wrap x) % k := Int.tmod_eq_emod_of_nonneg h0
  have h2 : 0 ≤ (IntKind.u64.wrap x) % k := Int.emod_nonneg _ (by omega)
  have h3 : (IntKind.u64.wrap x) % k < k := Int.emod_lt_of_pos _ hk
  refine ⟨((IntKind.u64.wrap x) % k).toNat, by omega, ?_⟩
  rw [h1, Int.toNat_of_nonneg h2]
  generalize (IntKind.u64.wrap x) % k = y at h2 h3
  unfold wrap64
  omega
theorem tm_bounds (ts : List Int) (i : Nat) : 0 ≤ tmOf ts i ∧ tmOf ts i < 1000 := by
  unfold tmOf
  split
  · omega
  · obtain ⟨H, h1, h2⟩ := modN (ts.getD (i % ts.length) 0) 1000 (by decide) (by decide)
    rw [h2]
    omega
theorem mem_rise {rs : List Pl.Rc} {ts : List Int} {n : Nat} {x : Pl.Rc} : x ∈ Wd.rcs (riseTo rs ts n) ↔ ∃ i, i < n ∧ x = { rs.getD i ⟨0, [], [], false⟩ with off := (i : Int) } := by
  unfold riseTo
  rw [Wd.mem_rcs]
  constructor
  · rintro ⟨b, hb, hx⟩
    obtain ⟨i, hi, rfl⟩ := List.mem_map.1 hb
    exact ⟨i, List.mem_range.1 hi, List.mem_singleton.1 hx⟩
  · rintro ⟨i, hi, rfl⟩
    exact ⟨_, List.mem_map.2 ⟨i, List.mem_range.2 hi, rfl⟩, List.mem_singleton.2 rfl⟩
theorem rise_dist (rs : List Pl.Rc) (ts : List Int) : ∀ x ∈ Wd.rcs (rise rs ts), ∀ y ∈ Wd.rcs (rise rs ts), x.off = y.off → x = y := by
  intro x hx y hy h
  obtain ⟨i, -, rfl⟩ := mem_rise.1 hx
  obtain ⟨j, -, rfl⟩ := mem_rise.1 hy
  have h2 : (i : Int) = (j : Int) := h
  have : i = j := by omega
  rw [this]
theorem rise_few {rs : List Pl.Rc} (ts : List Int) (h : ∀ (j : Nat) (x : Pl.Rc), j < 40 → rs[j]? = some x → okR x) : Few (rise rs ts) := by
  refine ⟨by unfold rise riseTo; rw [List.length_map, List.length_range]; omega, fun b hb => ?_⟩
  obtain ⟨i, hi, rfl⟩ := List.mem_map.1 hb
  have hi2 := List.mem_range.1 hi
  refine ⟨(by decide : 1 ≤ 64), fun x hx => ?_⟩
  obtain rfl := List.mem_singleton.1 hx
  have hg : rs[i]? = some (rs.getD i ⟨0, [], [], false⟩) := by rw [List.getD_eq_getElem?_getD, List.getElem?_eq_getElem (by omega)]; rfl
  have := (h i _ (by omega) hg).1
  show (rs.getD i ⟨0, [], [], false⟩).key.length ≤ 1000
  omega
/-- The record at a place, with its place as its offset. -/
def xa (rs : List Pl.Rc) (i : Nat) : Pl.Rc := { rs.getD i ⟨0, [], [], false⟩ with off := (i : Int) }
/-- None with its key stands behind it and ahead of n. -/
def lastTo (rs : List Pl.Rc) (i n : Nat) : Bool := decide ((xa rs i).key ≠ []) && (List.range n).all fun j => !(decide (i < j) && decide ((xa rs j).key = (xa rs i).key))
theorem lastTo_start (rs : List Pl.Rc) (i : Nat) : lastTo rs i (i + 1) = decide ((xa rs i).key ≠ []) := by
  unfold lastTo
  rw [List.all_eq_true.2 fun j hj => ?_, Bool.and_true]
  have := List.mem_range.1 hj
  have h : ¬ i < j := by omega
  simp [h]
theorem lastTo_next (rs : List Pl.Rc) {i k : Nat} (h : i < k) : lastTo rs i (k + 1) = (lastTo rs i k && !decide ((xa rs k).key = (xa rs i).key)) := by
  unfold lastTo
  rw [List.range_succ, List.all_append, Bool.and_assoc]
  congr 2
  simp [h]
theorem lastTo_iff {rs : List Pl.Rc} {i n : Nat} : lastTo rs i n = true ↔ (xa rs i).key ≠ [] ∧ ∀ j, j < n → i < j → (xa rs j).key ≠ (xa rs i).key := by
  unfold lastTo
  rw [Bool.and_eq_true, decide_eq_true_iff, List.all_eq_true]
  constructor
  · rintro ⟨h1, h2⟩
    refine ⟨h1, fun j hj hij e => ?_⟩
    have := h2 j (List.mem_range.2 hj)
    simp [hij, e] at this
  · rintro ⟨h1, h2⟩
    refine ⟨h1, fun j hj => ?_⟩
    by_cases hij : i < j
    · have := h2 j (List.mem_range.1 hj) hij
      simp [this]
    · simp [hij]
/-- It is the last one, and isn't Gone. -/
def selB (rs : List Pl.Rc) (n i : Nat) : Bool := lastTo rs i n && !(xa rs i).gone
/-- How many of the first i are. -/
def cntB (rs : List Pl.Rc) (n i : Nat) : Nat := ((List.range i).filter (selB rs n)).length
theorem cntB_next (rs : List Pl.Rc) (n i : Nat) : cntB rs n (i + 1) = cntB rs n i + if selB rs n i then 1 else 0 := by
  unfold cntB
  rw [List.range_succ, List.filter_append, List.length_append]
  congr 1
  rw [List.filter_cons]
  split <;> rfl
/-- What the batches fold to: the last ones of their keys. -/
theorem fold_perm (rs : List Pl.Rc) (ts : List Int) (m n : Nat) (upto : Int) (hn : ∀ j : Nat, j < n ↔ j < m ∧ (j : Int) < upto) : (Wd.fold (riseTo rs ts m) upto).Perm (((List.range n).filter (selB rs n)).map (xa rs)) := by
  have hs := Wd.lasts_spec ((Wd.rcs (riseTo rs ts m)).filter (Wd.under upto))
  have hinj : ∀ i j, xa rs i = xa rs j → i = j := fun i j e => by
    have : (xa rs i).off = (xa rs j).off := by rw [e]
    have h2 : (i : Int) = (j : Int) := this
    omega
  have hmem : ∀ x, x ∈ (Wd.rcs (riseTo rs ts m)).filter (Wd.under upto) ↔ ∃ i, i < n ∧ (xa rs i).key ≠ [] ∧ x = xa rs i := fun x => by
    rw [List.mem_filter, mem_rise]
    constructor
    · rintro ⟨⟨i, hi, rfl⟩, hu⟩
      simp only [Wd.under, Bool.and_eq_true, decide_eq_true_eq] at hu
      exact ⟨i, (hn i).2 ⟨hi, hu.2⟩, hu.1, rfl⟩
    · rintro ⟨i, hi, hk, rfl⟩
      obtain ⟨h1, h2⟩ := (hn i).1 hi
      refine ⟨⟨i, h1, rfl⟩, ?_⟩
      simp only [Wd.under, Bool.and_eq_true, decide_eq_true_eq]
      exact ⟨hk, h2⟩
  have hdist : ∀ x ∈ (Wd.rcs (riseTo rs ts m)).filter (Wd.under upto), ∀ y ∈ (Wd.rcs (riseTo rs ts m)).filter (Wd.under upto), x.off = y.off → x = y := fun x hx y hy e => by
    obtain ⟨i, -, -, rfl⟩ := (hmem x).1 hx
    obtain ⟨j, -, -, rfl⟩ := (hmem y).1 hy
    have h2 : (i : Int) = (j : Int) := e
    rw [show i = j by omega]
  refine (List.perm_ext_iff_of_nodup ?_ ?_).2 fun x => ?_
  · unfold Wd.fold
    refine List.nodup_iff_pairwise_ne.2 ((List.Pairwise.filter _ hs.1).imp fun {a b} h e => ?_)
    exact Wd.key_ne h (by rw [e])
  · refine (List.nodup_iff_pairwise_ne.2 ?_)
    refine List.pairwise_map.2 ?_
    exact ((List.nodup_iff_pairwise_ne.1 List.nodup_range).filter _).imp fun {a b} h e => h (hinj a b e)
  · unfold Wd.fold
    rw [List.mem_filter, List.mem_map]
    constructor
    · rintro ⟨hx, hg⟩
      have hl := Wd.lk_mem hs.1 hx
      rw [hs.2] at hl
      have hp := Wd.pick_spec ((Wd.rcs (riseTo rs ts m)).filter (Wd.under upto)) x.key
      rw [hl] at hp
      obtain ⟨h1, -, h3⟩ := hp
      obtain ⟨i, hi, hk, rfl⟩ := (hmem x).1 h1
      refine ⟨i, List.mem_filter.2 ⟨List.mem_range.2 hi, ?_⟩, rfl⟩
      unfold selB
      rw [Bool.and_eq_true, lastTo_iff]
      refine ⟨⟨hk, fun j hj hij e => ?_⟩, hg⟩
      have := h3 (xa rs j) ((hmem _).2 ⟨j, hj, by rw [e]; exact hk, rfl⟩) e
      have h4 : (j : Int) ≤ (i : Int) := this
      omega
    · rintro ⟨i, hi, rfl⟩
      obtain ⟨hi1, hi2⟩ := List.mem_filter.1 hi
      have hin := List.mem_range.1 hi1
      unfold selB at hi2
      rw [Bool.and_eq_true, lastTo_iff] at hi2
      obtain ⟨⟨hk, hlast⟩, hg⟩ := hi2
      refine ⟨?_, hg⟩
      have h1 := Wd.pick_some hdist ((hmem _).2 ⟨i, hin, hk, rfl⟩) (fun y hy e => by
        obtain ⟨j, hj, -, rfl⟩ := (hmem y).1 hy
        show (j : Int) ≤ (i : Int)
        by_cases hij : i < j
        · exact absurd e (hlast j hj hij)
        · omega)
      rw [← hs.2] at h1
      exact (Wd.lk_key h1).1
set_option maxRecDepth 100000 in
theorem rec_eql (o o' : Int) (K K' V V' : ByteArray) (g g' : Bool) (wx : World) :
    (binOp .eql 44 (.agg #[.int .i64 o, .string K, .string V, .bool g]) (.agg #[.int .i64 o', .string K', .string V', .bool g'])).run Try.prog wx = .ok (.bool (o == o' && (K.toList == K'.toList && (V.toList == V'.toList && g == g')))) wx := by
  rw [run_eql_struct, show (10000 : Nat) = 9999 + 1 from rfl, run_equalIn_struct wx 9999 _ _ _ rec_under rec_held]
  go_simp
  by_cases h1 : o = o' <;> by_cases h2 : K.toList = K'.toList <;> by_cases h3 : V.toList = V'.toList <;> by_cases h4 : g = g' <;> simp [h1, h2, h3, h4]
instance : DecidableEq Pl.Rc := fun x y => decidable_of_iff (x.off = y.off ∧ x.key = y.key ∧ x.val = y.val ∧ x.gone = y.gone) (by cases x; cases y; simp)
theorem rec_same (x y : Pl.Rc) : (x.off == y.off && ((⟨x.key.toArray⟩ : ByteArray).toList == (⟨y.key.toArray⟩ : ByteArray).toList && ((⟨x.val.toArray⟩ : ByteArray).toList == (⟨y.val.toArray⟩ : ByteArray).toList && x.gone == y.gone))) = decide (x = y) := by
  obtain ⟨a, b, c, d⟩ := x
  obtain ⟨a', b', c', d'⟩ := y
  by_cases h1 : a = a' <;> by_cases h2 : b = b' <;> by_cases h3 : c = c' <;> by_cases h4 : d = d' <;> simp [h1, h2, h3, h4]
theorem rise_at {rs : List Pl.Rc} {ts : List Int} {n i : Nat} (hi : i < n) : (riseTo rs ts n)[i]? = some (rb rs ts i) := by
  unfold riseTo
  rw [List.getElem?_map, List.getElem?_range hi]
  rfl
/-- The cells of the record of the batch at a place. -/
theorem rise_cells {A : Nat → Prop} {w : World} {v : Value} {L : List (Pl.Bt × Value)} {rs : List Pl.Rc} {ts : List Int} {n i : Nat} (h : BtIn A w v L) (hL : L.map (·.1) = riseTo rs ts n) (hi : i < n) :
    ∃ b o cap b3 o3 c3, v = .slice (some ⟨b, o, none⟩) L.length cap ∧ w.cell? ⟨b, o + i * 6 + 4, none⟩ = some (.int .i64 (tmOf ts i)) ∧ w.cell? ⟨b, o + i * 6 + 5, none⟩ = some (.slice (some ⟨b3, o3, none⟩) 1 c3) ∧
      w.cell? ⟨b3, o3, none⟩ = some (.int .i64 i) ∧ w.cell? ⟨b3, o3 + 1, none⟩ = some (.string ⟨(xa rs i).key.toArray⟩) ∧ w.cell? ⟨b3, o3 + 2, none⟩ = some (.string ⟨(xa rs i).val.toArray⟩) ∧ w.cell? ⟨b3, o3 + 3, none⟩ = some (.bool (xa rs i).gone) := by
  have h1 := rise_at (rs := rs) (ts := ts) hi
  rw [← hL, List.getElem?_map] at h1
  cases hg : L[i]? with
  | none => rw [hg] at h1; cases h1
  | some p =>
    rw [hg] at h1
    obtain ⟨b, rv⟩ := p
    have h2 : b = rb rs ts i := by simpa using h1
    subst h2
    obtain ⟨bb, o, cap, e, -, -, -, -, -, -, c4, c5, hr⟩ := h.get hg
    obtain ⟨a3, c3, e3, hrc⟩ := hr.recs
    obtain ⟨b3, o3, e4, -, d0, d1, d2, d3⟩ := hrc 0 _ rfl
    subst e4
    rw [e3] at c5
    exact ⟨bb, o, cap, b3, o3, c3, e, c4, c5, d0, d1, d2, d3⟩
end Go.Proofs.Ytfapigccdbpepaa
