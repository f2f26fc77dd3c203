/- NAMES, MEMBERS, WHO OWNS WHAT: plain facts. Nothing here knows the program. -/
import GoSem.Claims
import Derived.Lib.Strings
namespace Go.Proofs.Ytaefcbgmljaleaa
namespace Sh

/-! ### The order of names -/
theorem less_irrefl : ∀ x : List UInt8, Op.bytesLess x x = false
  | [] => rfl
  | a :: x => by
    simp only [Op.bytesLess, less_irrefl x]
    simp
theorem less_trans : ∀ x y z : List UInt8, Op.bytesLess x y = true → Op.bytesLess y z = true → Op.bytesLess x z = true
  | _, [], _, h, _ => by unfold Op.bytesLess at h; cases h
  | _, _ :: _, [], _, h => by unfold Op.bytesLess at h; cases h
  | [], _ :: _, _ :: _, _, _ => rfl
  | a :: x, b :: y, c :: z, h, k => by
    simp only [Op.bytesLess, Bool.or_eq_true, Bool.and_eq_true, decide_eq_true_eq, beq_iff_eq, UInt8.lt_iff_toNat_lt] at h k ⊢
    rcases h with h | ⟨h, h'⟩
    · rcases k with k | ⟨k, k'⟩
      · left; omega
      · left; rw [← k]; exact h
    · rcases k with k | ⟨k, k'⟩
      · left; rw [h]; exact k
      · right; exact ⟨h.trans k, less_trans x y z h' k'⟩
theorem less_total : ∀ x y : List UInt8, Op.bytesLess x y = false → x ≠ y → Op.bytesLess y x = true
  | [], [], _, h => absurd rfl h
  | _ :: _, [], _, _ => rfl
  | [], _ :: _, h, _ => by simp [Op.bytesLess] at h
  | a :: x, b :: y, h, k => by
    simp only [Op.bytesLess, Bool.or_eq_false_iff, Bool.and_eq_false_iff, decide_eq_false_iff_not, beq_eq_false_iff_ne, Bool.or_eq_true, Bool.and_eq_true, decide_eq_true_eq, beq_iff_eq, UInt8.lt_iff_toNat_lt] at h ⊢
    obtain ⟨h1, h2⟩ := h
    by_cases e : a = b
    · subst e
      right
      refine ⟨rfl, less_total x y ?_ fun e => k (by rw [e])⟩
      rcases h2 with h2 | h2
      · exact absurd rfl h2
      · exact h2
    · left
      have : a.toNat ≠ b.toNat := fun h => e (UInt8.toNat_inj.1 h)
      omega
def leB (a b : ByteArray) : Bool := Op.bytesLess a.toList b.toList || a.toList == b.toList
def eqB (a b : ByteArray) : Bool := a.toList == b.toList
theorem eqB_iff {a b : ByteArray} : eqB a b = true ↔ a = b := by
  unfold eqB
  rw [beq_iff_eq, Lib.toList_data, Lib.toList_data]
  constructor
  · intro h; exact ByteArray.ext (Array.toList_inj.1 h)
  · rintro rfl; rfl
theorem eqB_not {a b : ByteArray} (h : a ≠ b) : eqB a b = false := by
  cases e : eqB a b with
  | false => rfl
  | true => exact absurd (eqB_iff.1 e) h
/-- What isn't at most a stands behind it. -/
theorem lt_of_not_le {a b : ByteArray} (h : leB b a = false) : Op.bytesLess a.toList b.toList = true := by
  unfold leB at h
  rw [Bool.or_eq_false_iff] at h
  exact less_total _ _ h.1 (by simpa using h.2)
theorem lt_ne {a b : ByteArray} (h : Op.bytesLess a.toList b.toList = true) : a ≠ b := by
  rintro rfl
  rw [less_irrefl] at h
  cases h

/-! ### Names -/
/-- A byte that no name has. -/
def badC (c : UInt8) : Bool := (decide ((c.toNat : Int) < 97) || decide ((122 : Int) < c.toNat)) && (decide ((c.toNat : Int) < 48) || decide ((57 : Int) < c.toNat))
def nameB (s : ByteArray) : Bool := decide ((1 : Int) ≤ s.size) && decide ((s.size : Int) ≤ 8) && s.data.toList.all fun c => !badC c
/-- Whether the i-th name may stand there. -/
def atB (L : List ByteArray) (i : Nat) : Bool := nameB (L.getD i default) && !(decide (0 < i) && leB (L.getD i default) (L.getD (i - 1) default))
def goodTo (L : List ByteArray) (n : Nat) : Bool := (List.range n).all (atB L)
def goodB (L : List ByteArray) : Bool := decide (L.length ≤ 4) && goodTo L L.length
theorem goodTo_succ (L : List ByteArray) (n : Nat) : goodTo L (n + 1) = (goodTo L n && atB L n) := by
  unfold goodTo
  rw [List.range_succ, List.all_append]
  simp
theorem goodTo_at {L : List ByteArray} {n : Nat} (h : goodTo L n = true) {i : Nat} (hi : i < n) : atB L i = true := by
  unfold goodTo at h
  exact List.all_eq_true.1 h i (List.mem_range.2 hi)
theorem goodTo_bad {L : List ByteArray} {n i : Nat} (hi : i < n) (h : atB L i = false) : goodTo L n = false := by
  cases e : goodTo L n with
  | false => rfl
  | true => rw [goodTo_at e hi] at h; cases h
theorem good_len {L : List ByteArray} (h : goodB L = true) : L.length ≤ 4 := by
  unfold goodB at h
  simp only [Bool.and_eq_true, decide_eq_true_eq] at h
  exact h.1
theorem good_name {L : List ByteArray} (h : goodB L = true) {i : Nat} (hi : i < L.length) : nameB (L.getD i default) = true := by
  unfold goodB at h
  simp only [Bool.and_eq_true] at h
  have := goodTo_at h.2 hi
  unfold atB at this
  simp only [Bool.and_eq_true] at this
  exact this.1
/-- Members rise. -/
theorem good_next {L : List ByteArray} (h : goodB L = true) {i : Nat} (hi : i + 1 < L.length) : Op.bytesLess (L.getD i default).toList (L.getD (i + 1) default).toList = true := by
  unfold goodB at h
  simp only [Bool.and_eq_true] at h
  have := goodTo_at h.2 hi
  unfold atB at this
  simp only [Bool.and_eq_true, Nat.zero_lt_succ, decide_true, Bool.true_and, Bool.not_eq_true'] at this
  exact lt_of_not_le this.2
theorem good_rise {L : List ByteArray} (h : goodB L = true) : ∀ (k i : Nat), i + k + 1 < L.length → Op.bytesLess (L.getD i default).toList (L.getD (i + k + 1) default).toList = true
  | 0, i, hi => good_next h hi
  | k + 1, i, hi => less_trans _ _ _ (good_rise h k i (by omega)) (good_next h hi)
theorem good_lt {L : List ByteArray} (h : goodB L = true) {i j : Nat} (hij : i < j) (hj : j < L.length) : Op.bytesLess (L.getD i default).toList (L.getD j default).toList = true := by
  have := good_rise h (j - i - 1) i (by omega)
  rwa [show i + (j - i - 1) + 1 = j by omega] at this
/-- No two members are alike. -/
theorem good_ne {L : List ByteArray} (h : goodB L = true) {i j : Nat} (hi : i < L.length) (hj : j < L.length) (e : L.getD i default = L.getD j default) : i = j := by
  rcases Nat.lt_trichotomy i j with k | k | k
  · exact absurd e (lt_ne (good_lt h k hj))
  · exact k
  · exact absurd e.symm (lt_ne (good_lt h k hi))

/-! ### Who owns what -/
def sharN (P m i : Nat) : Nat := P / m + if i < P % m then 1 else 0
def msTo (P : Nat) (L : List ByteArray) : Nat → List ByteArray
  | 0 => []
  | i + 1 => msTo P L i ++ List.replicate (sharN P L.length i) (L.getD i default)
/-- The owners of the partitions 1, 2, .. -/
def msOf (parts : Int) (L : List ByteArray) : List ByteArray := if goodB L = true ∧ 0 ≤ parts ∧ parts ≤ 4 then msTo (parts - 1).toNat L L.length else []
def ocel : Nat → List ByteArray → List Value
  | _, [] => []
  | k, m :: r => .int .i64 ((k : Int) + 1) :: .string m :: ocel (k + 1) r
theorem ocel_len : ∀ (k : Nat) (ms : List ByteArray), (ocel k ms).length = ms.length * 2
  | _, [] => rfl
  | k, m :: r => by rw [ocel, List.length_cons, List.length_cons, ocel_len (k + 1) r, List.length_cons]; omega
theorem ocel_snoc : ∀ (k : Nat) (ms : List ByteArray) (x : ByteArray), ocel k (ms ++ [x]) = ocel k ms ++ [.int .i64 ((k : Int) + ms.length + 1), .string x]
  | k, [], x => by simp [ocel]
  | k, m :: r, x => by
    rw [List.cons_append, ocel, ocel_snoc (k + 1) r x, ocel, List.cons_append, List.cons_append, List.length_cons]
    congr 5
    congr 1
    omega
theorem ocel_at : ∀ (k : Nat) (ms : List ByteArray) (j : Nat) (x : ByteArray), ms[j]? = some x → (ocel k ms)[j * 2]? = some (.int .i64 ((k : Int) + j + 1)) ∧ (ocel k ms)[j * 2 + 1]? = some (.string x)
  | _, [], j, x, h => by simp at h
  | k, m :: r, 0, x, h => by
    simp at h
    subst h
    simp [ocel]
  | k, m :: r, j + 1, x, h => by
    simp at h
    obtain ⟨h1, h2⟩ := ocel_at (k + 1) r j x h
    rw [show (j + 1) * 2 = j * 2 + 1 + 1 by omega, ocel, List.getElem?_cons_succ, List.getElem?_cons_succ, List.getElem?_cons_succ, List.getElem?_cons_succ]
    refine ⟨?_, h2⟩
    rw [h1]
    congr 2
    omega
theorem ocel_one (k : Nat) (ms : List ByteArray) : ∀ u ∈ ocel k ms, u.oneCell' = true := by
  induction ms generalizing k with
  | nil => intro u hu; simp [ocel] at hu
  | cons m r ih =>
    intro u hu
    rw [ocel] at hu
    rcases List.mem_cons.1 hu with rfl | hu
    · rfl
    · rcases List.mem_cons.1 hu with rfl | hu
      · rfl
      · exact ih _ u hu
def pOf : Nat → List ByteArray → ByteArray → List Int
  | _, [], _ => []
  | k, m :: r, x => if eqB m x = true then ((k : Int) + 1) :: pOf (k + 1) r x else pOf (k + 1) r x
theorem pOf_append : ∀ (k : Nat) (a b : List ByteArray) (x : ByteArray), pOf k (a ++ b) x = pOf k a x ++ pOf (k + a.length) b x
  | k, [], b, x => by simp [pOf]
  | k, m :: r, b, x => by
    rw [List.cons_append, pOf, pOf, pOf_append (k + 1) r b x, List.length_cons, show k + 1 + r.length = k + (r.length + 1) by omega]
    split <;> simp
theorem pOf_snoc (k : Nat) (ms : List ByteArray) (m x : ByteArray) : pOf k (ms ++ [m]) x = if eqB m x = true then pOf k ms x ++ [((k : Int) + ms.length + 1)] else pOf k ms x := by
  rw [pOf_append]
  simp only [pOf]
  split
  · congr 2
  · simp
theorem pOf_none : ∀ (k : Nat) (ms : List ByteArray) (x : ByteArray), (∀ m ∈ ms, m ≠ x) → pOf k ms x = []
  | _, [], _, _ => rfl
  | k, m :: r, x, h => by
    rw [pOf, if_neg (by rw [eqB_not (h m (by simp))]; decide), pOf_none (k + 1) r x fun y hy => h y (by simp [hy])]
/-- n numbers from k + 1 on. -/
def fromN (k n : Nat) : List Int := (List.range n).map fun (j : Nat) => ((k : Int) + j + 1)
theorem pOf_all (x : ByteArray) : ∀ (n k : Nat), pOf k (List.replicate n x) x = fromN k n
  | 0, _ => rfl
  | n + 1, k => by
    rw [List.replicate_succ', pOf_snoc, if_pos (eqB_iff.2 rfl), pOf_all x n k]
    unfold fromN
    rw [List.range_succ, List.map_append]
    simp
theorem pOf_len (k : Nat) (ms : List ByteArray) (x : ByteArray) : (pOf k ms x).length ≤ ms.length := by
  induction ms generalizing k with
  | nil => simp [pOf]
  | cons m r ih =>
    rw [pOf]
    have := ih (k + 1)
    split <;> simp <;> omega
theorem pOf_some : ∀ (k : Nat) (ms : List ByteArray) (x : ByteArray), pOf k ms x ≠ [] → x ∈ ms
  | _, [], _, h => absurd rfl h
  | k, m :: r, x, h => by
    rw [pOf] at h
    split at h
    · rename_i e
      rw [eqB_iff.1 e]
      simp
    · exact List.mem_cons_of_mem _ (pOf_some _ r x h)
theorem msTo_mem {P : Nat} {L : List ByteArray} : ∀ {n : Nat}, n ≤ L.length → ∀ x ∈ msTo P L n, ∃ i, i < n ∧ x = L.getD i default
  | 0, _, x, h => by simp [msTo] at h
  | n + 1, hn, x, h => by
    rw [msTo] at h
    rcases List.mem_append.1 h with h | h
    · obtain ⟨i, hi, e⟩ := msTo_mem (by omega) x h
      exact ⟨i, by omega, e⟩
    · exact ⟨n, by omega, (List.mem_replicate.1 h).2⟩
theorem msOf_mem {parts : Int} {L : List ByteArray} {x : ByteArray} (h : x ∈ msOf parts L) : x ∈ L := by
  unfold msOf at h
  split at h
  · obtain ⟨i, hi, rfl⟩ := msTo_mem (Nat.le_refl _) x h
    rw [List.getD_eq_getElem?_getD, List.getElem?_eq_getElem hi]
    exact List.getElem_mem hi
  · simp at h
/-- How many partitions the first n members have. -/
def cntTo (P m : Nat) : Nat → Nat
  | 0 => 0
  | i + 1 => cntTo P m i + sharN P m i
theorem msTo_len (P : Nat) (L : List ByteArray) : ∀ n, (msTo P L n).length = cntTo P L.length n
  | 0 => rfl
  | n + 1 => by rw [msTo, List.length_append, List.length_replicate, msTo_len P L n, cntTo]
theorem cnt_all : ∀ P, P < 4 → ∀ m, m < 5 → 0 < m → cntTo P m m = P := by decide
theorem shar_falls : ∀ P, P < 4 → ∀ m, m < 5 → ∀ i, i < 4 → i + 1 < m → sharN P m (i + 1) ≤ sharN P m i := by decide
theorem shar_near : ∀ P, P < 4 → ∀ m, m < 5 → ∀ i, i < 4 → i < m → sharN P m 0 ≤ sharN P m i + 1 := by decide
theorem shar_more : ∀ P, P < 4 → ∀ m, m < 4 → ∀ i, i < 4 → i < m → sharN P (m + 1) i ≤ sharN P m i ∧ sharN P (m + 1) (i + 1) ≤ sharN P m i := by decide
theorem cnt_small : ∀ P, P < 4 → ∀ m, m < 5 → ∀ i, i < 5 → cntTo P m i ≤ 16 := by decide
theorem shar_small : ∀ P, P < 4 → ∀ m, m < 5 → ∀ i, i < 4 → sharN P m i ≤ 4 := by decide
theorem msOf_len {parts : Int} {L : List ByteArray} : (msOf parts L).length ≤ 3 := by
  unfold msOf
  split
  · rename_i h
    rw [msTo_len]
    have h4 := good_len h.1
    by_cases h0 : 0 < L.length
    · rw [cnt_all _ (by omega) _ (by omega) h0]
      omega
    · rw [show L.length = 0 by omega]
      exact Nat.zero_le _
  · exact Nat.zero_le _
theorem pOf_to {P : Nat} {L : List ByteArray} (hg : goodB L = true) {i : Nat} (hi : i < L.length) : ∀ n, n ≤ L.length → pOf 0 (msTo P L n) (L.getD i default) = if i < n then fromN (cntTo P L.length i) (sharN P L.length i) else []
  | 0, _ => by simp [msTo, pOf]
  | n + 1, hn => by
    rw [msTo, pOf_append, pOf_to hg hi n (by omega), msTo_len, Nat.zero_add]
    by_cases h : i < n
    · rw [if_pos h, if_pos (by omega), pOf_none _ _ _ fun m hm e => ?_, List.append_nil]
      have := good_ne hg (i := n) (j := i) (by omega) hi (by rw [← e]; exact (List.mem_replicate.1 hm).2.symm)
      omega
    · rw [if_neg h]
      by_cases h2 : i = n
      · subst h2
        rw [if_pos (by omega), pOf_all, List.nil_append]
      · rw [if_neg (by omega), pOf_none _ _ _ fun m hm e => ?_]
        rfl
        have := good_ne hg (i := n) (j := i) (by omega) hi (by rw [← e]; exact (List.mem_replicate.1 hm).2.symm)
        exact h2 this.symm
/-- A member's partitions. -/
theorem parts_of {parts : Int} {L : List ByteArray} (hg : goodB L = true) (h0 : 0 ≤ parts) (h4 : parts ≤ 4) {i : Nat} (hi : i < L.length) :
    pOf 0 (msOf parts L) (L.getD i default) = fromN (cntTo (parts - 1).toNat L.length i) (sharN (parts - 1).toNat L.length i) := by
  unfold msOf
  rw [if_pos ⟨hg, h0, h4⟩, pOf_to hg hi _ (Nat.le_refl _), if_pos hi]
/-- Their owner. -/
theorem owner_at {P : Nat} {L : List ByteArray} : ∀ (n i k : Nat), i < n → k < sharN P L.length i → (msTo P L n)[cntTo P L.length i + k]? = some (L.getD i default)
  | 0, i, k, h, _ => by omega
  | n + 1, i, k, h, hk => by
    rw [msTo]
    by_cases h2 : i < n
    · have := owner_at (P := P) (L := L) n i k h2 hk
      rw [List.getElem?_append_left (List.getElem?_eq_some_iff.1 this).1]
      exact this
    · obtain rfl : i = n := by omega
      rw [List.getElem?_append_right (by rw [msTo_len]; omega), msTo_len, show cntTo P L.length i + k - cntTo P L.length i = k by omega, List.getElem?_replicate, if_pos hk]
def ownerOf (ms : List ByteArray) (p : Int) : Option ByteArray := if 1 ≤ p then ms[(p - 1).toNat]? else none
end Sh
end Go.Proofs.Ytaefcbgmljaleaa
