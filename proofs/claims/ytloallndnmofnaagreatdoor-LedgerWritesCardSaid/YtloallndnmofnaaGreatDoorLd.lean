/- PLAIN: what a ledger remembers, what it answers. -/
import Derived.Test.YtloallndnmofnaaGreatDoorTab
namespace Go.Proofs.YtloallndnmofnaaGreatDoor
open Go.RowKit

namespace Ld
def zeroS : Sl := ⟨0, 0, 0⟩
def slotAt : List Sl → Int → Option Sl
  | [], _ => none
  | s :: r, n => if s.seq = n then some s else slotAt r n
/-- What a producer's slots say of a number. -/
def look (L : List Sl) (seq : Int) : Sl × Int := match slotAt L seq with
  | some s => (s, 13)
  | none => if seq < (L.headD zeroS).seq then (zeroS, 21) else if seq = (L.getLastD zeroS).seq + 1 then (zeroS, 0) else (zeroS, 20)
/-- Check's answer. -/
def check (T : Tb) (prod seq : Int) : Sl × Int :=
  if numB prod && numB seq then
    match at_ T prod with
    | none => if seq = 0 then (zeroS, 0) else (zeroS, 20)
    | some i => look (T.getD i (0, [])).2 seq
  else (zeroS, 1)
end Ld
theorem at_lt {T : Ld.Tb} {n : Int} {i : Nat} (h : Ld.at_ T n = some i) : i < T.length := by
  induction T generalizing i with
  | nil => cases h
  | cons x r ih =>
    unfold Ld.at_ at h
    split at h
    · injection h with h; subst h; simp
    · cases hr : Ld.at_ r n with
      | none => rw [hr] at h; cases h
      | some j =>
        rw [hr] at h
        simp at h
        have := ih hr
        simp only [List.length_cons]
        omega
theorem slot_step {L : List Ld.Sl} {k : Nat} {s : Ld.Sl} (h : L[k]? = some s) (n : Int) : Ld.slotAt (L.drop k) n = if s.seq = n then some s else Ld.slotAt (L.drop (k + 1)) n := by
  have hlt := (List.getElem?_eq_some_iff.1 h).1
  have h1 := List.drop_eq_getElem_cons (l := L) (i := k) hlt
  rw [h1, (List.getElem?_eq_some_iff.1 h).2]
  rfl
theorem slots_mem {L : List Ld.Sl} {p : Option Ld.Sl} (h : Ld.slotsB L p = true) : ∀ s ∈ L, Ld.okS s = true := by
  induction L generalizing p with
  | nil => intro s hs; cases hs
  | cons a r ih =>
    unfold Ld.slotsB at h
    simp only [Bool.and_eq_true] at h
    intro s hs
    rcases List.mem_cons.1 hs with rfl | hs
    · exact h.1.1
    · exact ih h.2 s hs
theorem rows_mem {T : Ld.Tb} {p : Option Int} (h : Ld.rowsB T p = true) : ∀ x ∈ T, 1 ≤ x.2.length ∧ x.2.length ≤ 5 ∧ ∀ s ∈ x.2, Ld.okS s = true := by
  induction T generalizing p with
  | nil => intro s hs; cases hs
  | cons a r ih =>
    unfold Ld.rowsB at h
    simp only [Bool.and_eq_true, decide_eq_true_eq] at h
    intro s hs
    rcases List.mem_cons.1 hs with rfl | hs
    · exact ⟨h.1.1.1.2, h.1.1.2, slots_mem h.1.2⟩
    · exact ih h.2 s hs
theorem okS_iff {s : Ld.Sl} (h : Ld.okS s = true) : (0 ≤ s.seq ∧ s.seq ≤ 1099511627776) ∧ (0 ≤ s.base ∧ s.base ≤ 1099511627776) ∧ (0 ≤ s.fin ∧ s.fin ≤ 1099511627776) ∧ s.base < s.fin := by
  unfold Ld.okS Ld.numB at h
  simp only [Bool.and_eq_true, decide_eq_true_eq] at h
  exact ⟨h.1.1.1, h.1.1.2, h.1.2, h.2⟩


namespace Ld
/-- The last five. -/
def last5 (L : List Sl) : List Sl := L.drop (L.length - 5)
/-- Where a producer would stand. -/
def pos (T : Tb) (n : Int) : Nat := (T.takeWhile fun x => decide (x.1 < n)).length
/-- What is remembered of a producer. -/
def slots (T : Tb) (n : Int) : List Sl := match at_ T n with
  | some i => (T.getD i (0, [])).2
  | none => []
/-- A producer's slots are these now. -/
def put (T : Tb) (n : Int) (L : List Sl) : Tb := match at_ T n with
  | some i => T.set i (n, L)
  | none => T.take (pos T n) ++ (n, L) :: T.drop (pos T n)
def addE (T : Tb) (prod seq base : Int) : Int :=
  if (check T prod seq).2 = 0 then
    match slots T prod with
    | [] => if T.length = 64 then 1 else 0
    | a :: r => if base < ((a :: r).getLastD zeroS).fin then 20 else 0
  else (check T prod seq).2
def addT (T : Tb) (prod seq base count : Int) : Tb := put T prod (last5 (slots T prod ++ [⟨seq, base, base + count⟩]))
def rowOk (x : Int × List Sl) : Bool := numB x.1 && decide (1 ≤ x.2.length) && decide (x.2.length ≤ 5) && slotsB x.2 none
/-- An answer of what is remembered of one producer. -/
def chk (L : List Sl) (seq : Int) : Sl × Int := match L with
  | [] => if seq = 0 then (zeroS, 0) else (zeroS, 20)
  | a :: r => look (a :: r) seq

theorem numB_iff {n : Int} : numB n = true ↔ 0 ≤ n ∧ n ≤ 1099511627776 := by unfold numB; exact decide_eq_true_iff
theorem rows_iff {T : Tb} {p : Option Int} : rowsB T p = true ↔ (∀ x ∈ T, rowOk x = true) ∧ T.Pairwise (fun a b => a.1 < b.1) ∧ (∀ q, p = some q → ∀ x ∈ T, q < x.1) := by
  induction T generalizing p with
  | nil => simp [rowsB]
  | cons a r ih =>
    have key : rowsB (a :: r) p = (rowOk a && riseB p a.1 && rowsB r (some a.1)) := by
      simp only [rowsB, rowOk]
      ac_rfl
    rw [key, Bool.and_eq_true, Bool.and_eq_true, ih]
    constructor
    · rintro ⟨⟨h1, h2⟩, h3, h4, h5⟩
      refine ⟨?_, ?_, ?_⟩
      · intro x hx
        rcases List.mem_cons.1 hx with rfl | hx
        · exact h1
        · exact h3 x hx
      · exact List.pairwise_cons.2 ⟨fun x hx => h5 a.1 rfl x hx, h4⟩
      · rintro q rfl x hx
        have h2' : q < a.1 := by simpa [riseB] using h2
        rcases List.mem_cons.1 hx with rfl | hx
        · exact h2'
        · have := h5 a.1 rfl x hx
          omega
    · rintro ⟨h1, h2, h3⟩
      refine ⟨⟨h1 a (by simp), ?_⟩, fun x hx => h1 x (by simp [hx]), (List.pairwise_cons.1 h2).2, ?_⟩
      · cases p with
        | none => rfl
        | some q => simpa [riseB] using h3 q rfl a (by simp)
      · rintro q hq x hx
        cases hq
        exact (List.pairwise_cons.1 h2).1 x hx
theorem good_iff {T : Tb} : goodB T = true ↔ T.length ≤ 64 ∧ (∀ x ∈ T, rowOk x = true) ∧ T.Pairwise (fun a b => a.1 < b.1) := by
  unfold goodB
  rw [Bool.and_eq_true, decide_eq_true_eq, rows_iff]
  constructor
  · rintro ⟨h1, h2, h3, -⟩; exact ⟨h1, h2, h3⟩
  · rintro ⟨h1, h2, h3⟩; exact ⟨h1, h2, h3, fun q h => by cases h⟩
theorem rowOk_iff {x : Int × List Sl} : rowOk x = true ↔ numB x.1 = true ∧ 1 ≤ x.2.length ∧ x.2.length ≤ 5 ∧ slotsB x.2 none = true := by
  unfold rowOk
  simp only [Bool.and_eq_true, decide_eq_true_eq, and_assoc]

theorem sorted_lt {T : Tb} (h : T.Pairwise (fun a b => a.1 < b.1)) {i j : Nat} {x y : Int × List Sl} (hi : T[i]? = some x) (hj : T[j]? = some y) (hij : i < j) : x.1 < y.1 := by
  obtain ⟨h1, rfl⟩ := List.getElem?_eq_some_iff.1 hi
  obtain ⟨h2, rfl⟩ := List.getElem?_eq_some_iff.1 hj
  exact List.pairwise_iff_getElem.1 h i j h1 h2 hij
theorem pos_of : ∀ {T : Tb} {n : Int} (k : Nat), k ≤ T.length → (∀ j x, j < k → T[j]? = some x → x.1 < n) → (∀ x, T[k]? = some x → n ≤ x.1) → pos T n = k
  | [], n, k, hk, _, _ => by simp at hk; subst hk; rfl
  | a :: r, n, 0, _, _, h2 => by
    have := h2 a rfl
    unfold pos
    rw [List.takeWhile_cons_of_neg (by simpa using this)]
    rfl
  | a :: r, n, k + 1, hk, h1, h2 => by
    have := h1 0 a (by omega) rfl
    have ih := pos_of (T := r) (n := n) k (by simpa using hk) (fun j x hj hx => h1 (j + 1) x (by omega) (by simpa using hx)) (fun x hx => h2 x (by simpa using hx))
    unfold pos at ih ⊢
    rw [List.takeWhile_cons_of_pos (by simpa using this), List.length_cons, ih]
theorem at_some {T : Tb} {n : Int} {i : Nat} (h : at_ T n = some i) : ∃ L, T[i]? = some (n, L) := by
  induction T generalizing i with
  | nil => cases h
  | cons x r ih =>
    unfold at_ at h
    split at h
    · rename_i he
      injection h with h; subst h; subst he; exact ⟨x.2, rfl⟩
    · cases hr : at_ r n with
      | none => rw [hr] at h; cases h
      | some j =>
        rw [hr] at h
        simp at h
        subst h
        simpa using ih hr
theorem at_none {T : Tb} {n : Int} : at_ T n = none ↔ ∀ x ∈ T, x.1 ≠ n := by
  induction T with
  | nil => simp [at_]
  | cons x r ih =>
    unfold at_
    split
    · rename_i he
      simp [he]
    · rename_i he
      rw [Option.map_eq_none_iff, ih]
      simp [he]
theorem at_of {T : Tb} (h : T.Pairwise (fun a b => a.1 < b.1)) {n : Int} {i : Nat} {L : List Sl} (hi : T[i]? = some (n, L)) : at_ T n = some i := by
  cases ha : at_ T n with
  | none => exact absurd rfl (at_none.1 ha (n, L) (List.mem_of_getElem? hi))
  | some j =>
    obtain ⟨M, hj⟩ := at_some ha
    rcases Nat.lt_trichotomy i j with h1 | h1 | h1
    · have := sorted_lt h hi hj h1; simp at this
    · rw [h1]
    · have := sorted_lt h hj hi h1; simp at this
theorem pos_some {T : Tb} (h : T.Pairwise (fun a b => a.1 < b.1)) {n : Int} {i : Nat} (ha : at_ T n = some i) : pos T n = i := by
  obtain ⟨L, hi⟩ := at_some ha
  refine pos_of i (by have := (List.getElem?_eq_some_iff.1 hi).1; omega) (fun j x hj hx => sorted_lt h hx hi hj) (fun x hx => ?_)
  rw [hi] at hx; cases hx; exact Int.le_refl _
theorem pos_le {T : Tb} {n : Int} : pos T n ≤ T.length := by
  unfold pos; exact (List.takeWhile_sublist _).length_le
theorem pos_before {T : Tb} {n : Int} {j : Nat} {x : Int × List Sl} (hj : j < pos T n) (hx : T[j]? = some x) : x.1 < n := by
  induction T generalizing j with
  | nil => cases hx
  | cons a r ih =>
    unfold pos at hj ih
    by_cases ha : a.1 < n
    · rw [List.takeWhile_cons_of_pos (by simpa using ha)] at hj
      cases j with
      | zero => cases hx; exact ha
      | succ j => exact ih (by simpa using hj) (by simpa using hx)
    · rw [List.takeWhile_cons_of_neg (by simpa using ha)] at hj
      simp at hj
theorem pos_at {T : Tb} {n : Int} {x : Int × List Sl} (hx : T[pos T n]? = some x) : n ≤ x.1 := by
  induction T with
  | nil => cases hx
  | cons a r ih =>
    unfold pos at hx ih
    by_cases ha : a.1 < n
    · rw [List.takeWhile_cons_of_pos (by simpa using ha)] at hx
      exact ih (by simpa using hx)
    · rw [List.takeWhile_cons_of_neg (by simpa using ha)] at hx
      cases hx
      omega
theorem slots_some {T : Tb} {n : Int} {i : Nat} {L : List Sl} (ha : at_ T n = some i) (hi : T[i]? = some (n, L)) : slots T n = L := by
  unfold slots
  rw [ha]
  simp [List.getD_eq_getElem?_getD, hi]
theorem slots_of {T : Tb} (h : T.Pairwise (fun a b => a.1 < b.1)) {n : Int} {L : List Sl} (hi : (n, L) ∈ T) : slots T n = L := by
  obtain ⟨i, hi⟩ := List.getElem?_of_mem hi
  exact slots_some (at_of h hi) hi
theorem slots_none {T : Tb} {n : Int} (ha : at_ T n = none) : slots T n = [] := by unfold slots; rw [ha]
theorem slots_nil {T : Tb} (hG : goodB T = true) {n : Int} : slots T n = [] ↔ at_ T n = none := by
  obtain ⟨-, h2, h3⟩ := good_iff.1 hG
  constructor
  · intro h
    cases ha : at_ T n with
    | none => rfl
    | some i =>
      obtain ⟨L, hi⟩ := at_some ha
      rw [slots_some ha hi] at h
      have := (rowOk_iff.1 (h2 _ (List.mem_of_getElem? hi))).2.1
      rw [h] at this
      simp at this
  · exact slots_none
theorem slots_ok {T : Tb} (hG : goodB T = true) (n : Int) : (slots T n).length ≤ 5 ∧ slotsB (slots T n) none = true := by
  obtain ⟨-, h2, h3⟩ := good_iff.1 hG
  cases ha : at_ T n with
  | none => rw [slots_none ha]; exact ⟨by simp, rfl⟩
  | some i =>
    obtain ⟨L, hi⟩ := at_some ha
    rw [slots_some ha hi]
    have := rowOk_iff.1 (h2 _ (List.mem_of_getElem? hi))
    exact ⟨this.2.2.1, this.2.2.2⟩
theorem check_chk {T : Tb} (hG : goodB T = true) (prod seq : Int) : check T prod seq = if numB prod && numB seq then chk (slots T prod) seq else (zeroS, 1) := by
  unfold check
  split
  · cases ha : at_ T prod with
    | none => rw [slots_none ha]; rfl
    | some i =>
      obtain ⟨L, hi⟩ := at_some ha
      rw [slots_some ha hi]
      simp only [List.getD_eq_getElem?_getD, hi, Option.getD_some]
      cases hL : L with
      | nil =>
        have := (rowOk_iff.1 ((good_iff.1 hG).2.1 _ (List.mem_of_getElem? hi))).2.1
        rw [hL] at this; simp at this
      | cons a r => rfl
  · rfl

theorem slots_cons {a : Sl} {r : List Sl} {p : Option Sl} : slotsB (a :: r) p = true ↔ okS a = true ∧ linkB p a = true ∧ slotsB r (some a) = true := by
  rw [slotsB, Bool.and_eq_true, Bool.and_eq_true, and_assoc]
theorem slots_any {L : List Sl} {p : Option Sl} (h : slotsB L p = true) : slotsB L none = true := by
  cases L with
  | nil => rfl
  | cons a r =>
    obtain ⟨h1, -, h3⟩ := slots_cons.1 h
    exact slots_cons.2 ⟨h1, rfl, h3⟩
theorem slots_drop {L : List Sl} {p : Option Sl} (h : slotsB L p = true) (k : Nat) : slotsB (L.drop k) none = true := by
  induction L generalizing p k with
  | nil => simp [slotsB]
  | cons a r ih =>
    cases k with
    | zero => exact slots_any h
    | succ k => exact ih (slots_cons.1 h).2.2 k
theorem slots_snoc {L : List Sl} {p : Option Sl} {x : Sl} (h : slotsB L p = true) (hx : okS x = true) (hl : linkB (match L.getLast? with | some l => some l | none => p) x = true) : slotsB (L ++ [x]) p = true := by
  induction L generalizing p with
  | nil => exact slots_cons.2 ⟨hx, by simpa using hl, rfl⟩
  | cons a r ih =>
    obtain ⟨h1, h2, h3⟩ := slots_cons.1 h
    refine slots_cons.2 ⟨h1, h2, ih h3 ?_⟩
    cases r with
    | nil => simpa using hl
    | cons b q =>
      rw [List.getLast?_cons_cons] at hl
      cases hq : (b :: q).getLast? with
      | none => simp at hq
      | some l =>
        rw [hq] at hl
        exact hl
theorem slots_seq {L : List Sl} {p : Option Sl} (h : slotsB L p = true) : ∀ {k : Nat} {s t : Sl}, L[0]? = some s → L[k]? = some t → t.seq = s.seq + k := by
  induction L generalizing p with
  | nil => intro k s t h0; cases h0
  | cons a r ih =>
    intro k s t h0 hk
    obtain rfl : a = s := by simpa using h0
    cases k with
    | zero => obtain rfl : a = t := by simpa using hk
              simp
    | succ k =>
      have hk' : r[k]? = some t := by simpa using hk
      obtain ⟨-, -, h3⟩ := slots_cons.1 h
      cases r with
      | nil => cases hk'
      | cons b q =>
        have := ih h3 (k := k) (s := b) (t := t) rfl hk'
        have h4 := (slots_cons.1 h3).2.1
        simp only [linkB, Bool.and_eq_true, decide_eq_true_eq] at h4
        omega
theorem slotAt_none {L : List Sl} {n : Int} : slotAt L n = none ↔ ∀ s ∈ L, s.seq ≠ n := by
  induction L with
  | nil => simp [slotAt]
  | cons a r ih =>
    unfold slotAt
    split
    · rename_i he; simp [he]
    · rename_i he; rw [ih]; simp [he]
theorem slotAt_some {L : List Sl} {n : Int} {s : Sl} (h : slotAt L n = some s) : s ∈ L ∧ s.seq = n := by
  induction L with
  | nil => cases h
  | cons a r ih =>
    unfold slotAt at h
    split at h
    · rename_i he; cases h; exact ⟨by simp, he⟩
    · exact ⟨by simp [(ih h).1], (ih h).2⟩
theorem slotAt_at {L : List Sl} (h : slotsB L none = true) {k : Nat} {s : Sl} (hk : L[k]? = some s) : slotAt L s.seq = some s := by
  cases ha : slotAt L s.seq with
  | none => exact absurd rfl (slotAt_none.1 ha s (List.mem_of_getElem? hk))
  | some t =>
    obtain ⟨h1, h2⟩ := slotAt_some ha
    obtain ⟨j, hj⟩ := List.getElem?_of_mem h1
    have hlt := (List.getElem?_eq_some_iff.1 hj).1
    obtain ⟨u, hu⟩ : ∃ u, L[0]? = some u := ⟨_, List.getElem?_eq_getElem (by omega)⟩
    have e1 := slots_seq h hu hj
    have e2 := slots_seq h hu hk
    have : j = k := by omega
    subst this
    rw [hk] at hj
    exact hj.symm ▸ rfl
/-- What look says, where it looks. -/
theorem look_old {L : List Sl} (h : slotsB L none = true) {s : Sl} (h0 : L[0]? = some s) {n : Int} (hn : n < s.seq) : look L n = (zeroS, 21) := by
  have : slotAt L n = none := slotAt_none.2 fun t ht => by
    obtain ⟨k, hk⟩ := List.getElem?_of_mem ht
    have := slots_seq h h0 hk
    omega
  unfold look
  rw [this]
  have hh : L.headD zeroS = s := by
    cases L with
    | nil => cases h0
    | cons a r => simpa using h0
  simp only
  rw [hh, if_pos hn]
theorem look_twice {L : List Sl} (h : slotsB L none = true) {k : Nat} {s : Sl} (hk : L[k]? = some s) : look L s.seq = (s, 13) := by
  unfold look
  rw [slotAt_at h hk]
theorem look_next {L : List Sl} (h : slotsB L none = true) {s : Sl} (h0 : L[0]? = some s) {n : Int} (hn : s.seq + L.length ≤ n) : look L n = if n = s.seq + L.length then (zeroS, 0) else (zeroS, 20) := by
  have hno : slotAt L n = none := slotAt_none.2 fun t ht => by
    obtain ⟨k, hk⟩ := List.getElem?_of_mem ht
    have := slots_seq h h0 hk
    have := (List.getElem?_eq_some_iff.1 hk).1
    omega
  have hlt := (List.getElem?_eq_some_iff.1 h0).1
  obtain ⟨l, hl⟩ : ∃ l, L[L.length - 1]? = some l := ⟨_, List.getElem?_eq_getElem (by omega)⟩
  have e1 := slots_seq h h0 hl
  have hh : L.headD zeroS = s := by
    cases L with
    | nil => cases h0
    | cons a r => simpa using h0
  have hla : L.getLastD zeroS = l := by
    rw [List.getLastD_eq_getLast?, List.getLast?_eq_getElem?, hl]; rfl
  unfold look
  rw [hno]
  simp only
  rw [hh, hla, if_neg (by omega)]
  have : (n = l.seq + 1) ↔ (n = s.seq + L.length) := by omega
  simp only [this]

theorem at_put {T : Tb} (hs : T.Pairwise (fun a b => a.1 < b.1)) (n : Int) (L : List Sl) : (put T n L).Pairwise (fun a b => a.1 < b.1) ∧ (∀ x, x ∈ put T n L ↔ x = (n, L) ∨ (x ∈ T ∧ x.1 ≠ n)) ∧ (put T n L).length = if at_ T n = none then T.length + 1 else T.length := by
  unfold put
  cases ha : at_ T n with
  | some i =>
    obtain ⟨M, hi⟩ := at_some ha
    obtain ⟨hlt, he⟩ := List.getElem?_eq_some_iff.1 hi
    simp only
    refine ⟨?_, ?_, by simp⟩
    · rw [List.pairwise_iff_getElem]
      intro j k hj hk hjk
      simp only [List.length_set] at hj hk
      simp only [List.getElem_set]
      have h0 := List.pairwise_iff_getElem.1 hs j k hj hk hjk
      split
      · rename_i e1
        split
        · omega
        · subst e1; rw [he] at h0; exact h0
      · split
        · rename_i e1 e2; subst e2; rw [he] at h0; exact h0
        · exact h0
    · intro x
      rw [List.mem_iff_getElem?]
      constructor
      · rintro ⟨j, hj⟩
        rw [List.getElem?_set] at hj
        split at hj
        · exact .inl (Option.some.inj hj).symm
        · rename_i hne
          refine .inr ⟨List.mem_of_getElem? hj, ?_⟩
          intro e
          have hj' : T[j]? = some (n, x.2) := by rw [hj, ← e]
          have := at_of hs hj'
          rw [ha] at this
          exact hne (Option.some.inj this)
      · rintro (rfl | ⟨hx, hne⟩)
        · exact ⟨i, by rw [List.getElem?_set, if_pos rfl, if_pos hlt]⟩
        · obtain ⟨j, hj⟩ := List.getElem?_of_mem hx
          refine ⟨j, ?_⟩
          rw [List.getElem?_set, if_neg]
          · exact hj
          · rintro rfl
            rw [hi] at hj
            cases hj
            exact hne rfl
  | none =>
    have hno := at_none.1 ha
    simp only
    have hb : ∀ x ∈ T.take (pos T n), x.1 < n := by
      intro x hx
      obtain ⟨j, hj⟩ := List.getElem?_of_mem hx
      rw [List.getElem?_take] at hj
      split at hj
      · rename_i h1; exact pos_before h1 hj
      · cases hj
    have hd : ∀ x ∈ T.drop (pos T n), n < x.1 := by
      intro x hx
      obtain ⟨j, hj⟩ := List.getElem?_of_mem hx
      rw [List.getElem?_drop] at hj
      have hne := hno x (List.mem_of_getElem? hj)
      have hle : n ≤ x.1 := by
        cases j with
        | zero => exact pos_at hj
        | succ j =>
          have h1 := (List.getElem?_eq_some_iff.1 hj).1
          obtain ⟨y, hy⟩ : ∃ y, T[pos T n]? = some y := ⟨_, List.getElem?_eq_getElem (by omega)⟩
          have := pos_at hy
          have := sorted_lt hs hy hj (by omega)
          omega
      omega
    refine ⟨?_, ?_, ?_⟩
    · rw [List.pairwise_append]
      refine ⟨hs.sublist (List.take_sublist _ _), List.pairwise_cons.2 ⟨fun x hx => hd x hx, hs.sublist (List.drop_sublist _ _)⟩, ?_⟩
      intro a ha' b hb'
      have h1 := hb a ha'
      rcases List.mem_cons.1 hb' with rfl | h2
      · exact h1
      · have := hd b h2; omega
    · intro x
      rw [List.mem_append, List.mem_cons]
      constructor
      · rintro (h | rfl | h)
        · exact .inr ⟨List.mem_of_mem_take h, hno x (List.mem_of_mem_take h)⟩
        · exact .inl rfl
        · exact .inr ⟨List.mem_of_mem_drop h, hno x (List.mem_of_mem_drop h)⟩
      · rintro (rfl | ⟨h, -⟩)
        · exact .inr (.inl rfl)
        · have : x ∈ T.take (pos T n) ++ T.drop (pos T n) := by rw [List.take_append_drop]; exact h
          rcases List.mem_append.1 this with h | h
          · exact .inl h
          · exact .inr (.inr h)
    · simp only [if_true]
      have := @pos_le T n
      simp only [List.length_append, List.length_take, List.length_cons, List.length_drop]
      omega
theorem slots_put {T : Tb} (hs : T.Pairwise (fun a b => a.1 < b.1)) (n m : Int) (L : List Sl) : slots (put T n L) m = if m = n then L else slots T m := by
  obtain ⟨h1, h2, -⟩ := at_put hs n L
  split
  · rename_i e
    subst e
    exact slots_of h1 ((h2 _).2 (.inl rfl))
  · rename_i hne
    cases ha : at_ T m with
    | none =>
      rw [slots_none ha]
      refine slots_none (at_none.2 fun x hx => ?_)
      rcases (h2 x).1 hx with rfl | ⟨hx, -⟩
      · exact fun e => hne e.symm
      · exact at_none.1 ha x hx
    | some i =>
      obtain ⟨M, hi⟩ := at_some ha
      rw [slots_some ha hi]
      exact slots_of h1 ((h2 _).2 (.inr ⟨List.mem_of_getElem? hi, hne⟩))
theorem good_put {T : Tb} (hG : goodB T = true) {n : Int} {L : List Sl} (hn : numB n = true) (h1 : 1 ≤ L.length) (h5 : L.length ≤ 5) (hL : slotsB L none = true) (hl : at_ T n = none → T.length < 64) : goodB (put T n L) = true := by
  obtain ⟨g1, g2, g3⟩ := good_iff.1 hG
  obtain ⟨p1, p2, p3⟩ := at_put g3 n L
  refine good_iff.2 ⟨?_, ?_, p1⟩
  · rw [p3]
    split
    · rename_i h; have := hl h; omega
    · exact g1
  · intro x hx
    rcases (p2 x).1 hx with rfl | ⟨hx, -⟩
    · exact rowOk_iff.2 ⟨hn, h1, h5, hL⟩
    · exact g2 x hx
theorem last5_len {L : List Sl} (h : L.length ≤ 5) (x : Sl) : 1 ≤ (last5 (L ++ [x])).length ∧ (last5 (L ++ [x])).length ≤ 5 := by
  unfold last5
  simp only [List.length_drop, List.length_append, List.length_cons, List.length_nil]
  omega
end Ld
end Go.Proofs.YtloallndnmofnaaGreatDoor
