import GoSem.Claims
import Derived.Lib.Strings
import Derived.Test.YtjccfilbihkfpaaGreatDoorProg
import Derived.Test.YtjccfilbihkfpaaGreatDoorM03
import Derived.Lib.ConvBytes
import Derived.WalkSpells
import Derived.WalkLawsBesides
import Derived.Outline
import Derived.Carry
import Derived.Deep.CutBlock
import Derived.Deep.CutRange
import Derived.Deep.DeepCutAuto

/- NAMES, MEMBERS, WHO OWNS WHAT: plain facts. Nothing here knows the program. -/
namespace Go.Proofs.YtjccfilbihkfpaaGreatDoor
namespace Sh

/-! ### The order of names -/
theorem less_irrefl : ∀ x : List UInt8, Op.bytesLess x x = false
  | [] => rfl
  | a :: x => by
    simp only [Op.bytesLess, less_irrefl x]
    simp
theorem less_trans : ∀ x y z : List UInt8, Op.bytesLess x y = true → Op.bytesLess y z = true → Op.bytesLess x z = true
  | _, [], _, h, _ => by unfold Op.bytesLess at h; cases h
  | _, _ :: _, [], _, h => by unfold Op.bytesLess at h; cases h
  | [], _ :: _, _ :: _, _, _ => rfl
  | a :: x, b :: y, c :: z, h, k => by
    simp only [Op.bytesLess, Bool.or_eq_true, Bool.and_eq_true, decide_eq_true_eq, beq_iff_eq, UInt8.lt_iff_toNat_lt] at h k ⊢
    rcases h with h | ⟨h, h'⟩
    · rcases k with k | ⟨k, k'⟩
      · left; omega
      · left; rw [← k]; exact h
    · rcases k with k | ⟨k, k'⟩
      · left; rw [h]; exact k
      · right; exact ⟨h.trans k, less_trans x y z h' k'⟩
theorem less_total : ∀ x y : List UInt8, Op.bytesLess x y = false → x ≠ y → Op.bytesLess y x = true
  | [], [], _, h => absurd rfl h
  | _ :: _, [], _, _ => rfl
  | [], _ :: _, h, _ => by simp [Op.bytesLess] at h
  | a :: x, b :: y, h, k => by
    simp only [Op.bytesLess, Bool.or_eq_false_iff, Bool.and_eq_false_iff, decide_eq_false_iff_not, beq_eq_false_iff_ne, Bool.or_eq_true, Bool.and_eq_true, decide_eq_true_eq, beq_iff_eq, UInt8.lt_iff_toNat_lt] at h ⊢
    obtain ⟨h1, h2⟩ := h
    by_cases e : a = b
    · subst e
      right
      refine ⟨rfl, less_total x y ?_ fun e => k (by rw [e])⟩
      rcases h2 with h2 | h2
      · exact absurd rfl h2
      · exact h2
    · left
      have : a.toNat ≠ b.toNat := fun h => e (UInt8.toNat_inj.1 h)
      omega
def leB (a b : ByteArray) : Bool := Op.bytesLess a.toList b.toList || a.toList == b.toList
def eqB (a b : ByteArray) : Bool := a.toList == b.toList
theorem eqB_iff {a b : ByteArray} : eqB a b = true ↔ a = b := by
  unfold eqB
  rw [beq_iff_eq, Lib.toList_data, Lib.toList_data]
  constructor
  · intro h; exact ByteArray.ext (Array.toList_inj.1 h)
  · rintro rfl; rfl
theorem eqB_not {a b : ByteArray} (h : a ≠ b) : eqB a b = false := by
  cases e : eqB a b with
  | false => rfl
  | true => exact absurd (eqB_iff.1 e) h
/-- What isn't at most a stands behind it. -/
theorem lt_of_not_le {a b : ByteArray} (h : leB b a = false) : Op.bytesLess a.toList b.toList = true := by
  unfold leB at h
  rw [Bool.or_eq_false_iff] at h
  exact less_total _ _ h.1 (by simpa using h.2)
theorem lt_ne {a b : ByteArray} (h : Op.bytesLess a.toList b.toList = true) : a ≠ b := by
  rintro rfl
  rw [less_irrefl] at h
  cases h

/-! ### Names -/
/-- A byte that no name has. -/
def badC (c : UInt8) : Bool := (decide ((c.toNat : Int) < 97) || decide ((122 : Int) < c.toNat)) && (decide ((c.toNat : Int) < 48) || decide ((57 : Int) < c.toNat))
def nameB (s : ByteArray) : Bool := decide ((1 : Int) ≤ s.size) && decide ((s.size : Int) ≤ 8) && s.data.toList.all fun c => !badC c
/-- Whether the i-th name may stand there. -/
def atB (L : List ByteArray) (i : Nat) : Bool := nameB (L.getD i default) && !(decide (0 < i) && leB (L.getD i default) (L.getD (i - 1) default))
def goodTo (L : List ByteArray) (n : Nat) : Bool := (List.range n).all (atB L)
def goodB (L : List ByteArray) : Bool := decide (L.length ≤ 4) && goodTo L L.length
theorem goodTo_succ (L : List ByteArray) (n : Nat) : goodTo L (n + 1) = (goodTo L n && atB L n) := by
  unfold goodTo
  rw [List.range_succ, List.all_append]
  simp
theorem goodTo_at {L : List ByteArray} {n : Nat} (h : goodTo L n = true) {i : Nat} (hi : i < n) : atB L i = true := by
  unfold goodTo at h
  exact List.all_eq_true.1 h i (List.mem_range.2 hi)
theorem goodTo_bad {L : List ByteArray} {n i : Nat} (hi : i < n) (h : atB L i = false) : goodTo L n = false := by
  cases e : goodTo L n with
  | false => rfl
  | true => rw [goodTo_at e hi] at h; cases h
theorem good_len {L : List ByteArray} (h : goodB L = true) : L.length ≤ 4 := by
  unfold goodB at h
  simp only [Bool.and_eq_true, decide_eq_true_eq] at h
  exact h.1
theorem good_name {L : List ByteArray} (h : goodB L = true) {i : Nat} (hi : i < L.length) : nameB (L.getD i default) = true := by
  unfold goodB at h
  simp only [Bool.and_eq_true] at h
  have := goodTo_at h.2 hi
  unfold atB at this
  simp only [Bool.and_eq_true] at this
  exact this.1
/-- Members rise. -/
theorem good_next {L : List ByteArray} (h : goodB L = true) {i : Nat} (hi : i + 1 < L.length) : Op.bytesLess (L.getD i default).toList (L.getD (i + 1) default).toList = true := by
  unfold goodB at h
  simp only [Bool.and_eq_true] at h
  have := goodTo_at h.2 hi
  unfold atB at this
  simp only [Bool.and_eq_true, Nat.zero_lt_succ, decide_true, Bool.true_and, Bool.not_eq_true'] at this
  exact lt_of_not_le this.2
theorem good_rise {L : List ByteArray} (h : goodB L = true) : ∀ (k i : Nat), i + k + 1 < L.length → Op.bytesLess (L.getD i default).toList (L.getD (i + k + 1) default).toList = true
  | 0, i, hi => good_next h hi
  | k + 1, i, hi => less_trans _ _ _ (good_rise h k i (by omega)) (good_next h hi)
theorem good_lt {L : List ByteArray} (h : goodB L = true) {i j : Nat} (hij : i < j) (hj : j < L.length) : Op.bytesLess (L.getD i default).toList (L.getD j default).toList = true := by
  have := good_rise h (j - i - 1) i (by omega)
  rwa [show i + (j - i - 1) + 1 = j by omega] at this
/-- No two members are alike. -/
theorem good_ne {L : List ByteArray} (h : goodB L = true) {i j : Nat} (hi : i < L.length) (hj : j < L.length) (e : L.getD i default = L.getD j default) : i = j := by
  rcases Nat.lt_trichotomy i j with k | k | k
  · exact absurd e (lt_ne (good_lt h k hj))
  · exact k
  · exact absurd e.symm (lt_ne (good_lt h k hi))

/-! ### Who owns what -/
def sharN (P m i : Nat) : Nat := P / m + if i < P % m then 1 else 0
def msTo (P : Nat) (L : List ByteArray) : Nat → List ByteArray
  | 0 => []
  | i + 1 => msTo P L i ++ List.replicate (sharN P L.length i) (L.getD i default)
/-- The owners of the partitions 1, 2, .. -/
def msOf (parts : Int) (L : List ByteArray) : List ByteArray := if goodB L = true ∧ 0 ≤ parts ∧ parts ≤ 4 then msTo (parts - 1).toNat L L.length else []
def ocel : Nat → List ByteArray → List Value
  | _, [] => []
  | k, m :: r => .int .i64 ((k : Int) + 1) :: .string m :: ocel (k + 1) r
theorem ocel_len : ∀ (k : Nat) (ms : List ByteArray), (ocel k ms).length = ms.length * 2
  | _, [] => rfl
  | k, m :: r => by rw [ocel, List.length_cons, List.length_cons, ocel_len (k + 1) r, List.length_cons]; omega
theorem ocel_snoc : ∀ (k : Nat) (ms : List ByteArray) (x : ByteArray), ocel k (ms ++ [x]) = ocel k ms ++ [.int .i64 ((k : Int) + ms.length + 1), .string x]
  | k, [], x => by simp [ocel]
  | k, m :: r, x => by
    rw [List.cons_append, ocel, ocel_snoc (k + 1) r x, ocel, List.cons_append, List.cons_append, List.length_cons]
    congr 5
    congr 1
    omega
theorem ocel_at : ∀ (k : Nat) (ms : List ByteArray) (j : Nat) (x : ByteArray), ms[j]? = some x → (ocel k ms)[j * 2]? = some (.int .i64 ((k : Int) + j + 1)) ∧ (ocel k ms)[j * 2 + 1]? = some (.string x)
  | _, [], j, x, h => by simp at h
  | k, m :: r, 0, x, h => by
    simp at h
    subst h
    simp [ocel]
  | k, m :: r, j + 1, x, h => by
    simp at h
    obtain ⟨h1, h2⟩ := ocel_at (k + 1) r j x h
    rw [show (j + 1) * 2 = j * 2 + 1 + 1 by omega, ocel, List.getElem?_cons_succ, List.getElem?_cons_succ, List.getElem?_cons_succ, List.getElem?_cons_succ]
    refine ⟨?_, h2⟩
    rw [h1]
    congr 2
    omega
theorem ocel_one (k : Nat) (ms : List ByteArray) : ∀ u ∈ ocel k ms, u.oneCell' = true := by
  induction ms generalizing k with
  | nil => intro u hu; simp [ocel] at hu
  | cons m r ih =>
    intro u hu
    rw [ocel] at hu
    rcases List.mem_cons.1 hu with rfl | hu
    · rfl
    · rcases List.mem_cons.1 hu with rfl | hu
      · rfl
      · exact ih _ u hu
def pOf : Nat → List ByteArray → ByteArray → List Int
  | _, [], _ => []
  | k, m :: r, x => if eqB m x = true then ((k : Int) + 1) :: pOf (k + 1) r x else pOf (k + 1) r x
theorem pOf_append : ∀ (k : Nat) (a b : List ByteArray) (x : ByteArray), pOf k (a ++ b) x = pOf k a x ++ pOf (k + a.length) b x
  | k, [], b, x => by simp [pOf]
  | k, m :: r, b, x => by
    rw [List.cons_append, pOf, pOf, pOf_append (k + 1) r b x, List.length_cons, show k + 1 + r.length = k + (r.length + 1) by omega]
    split <;> simp
theorem pOf_snoc (k : Nat) (ms : List ByteArray) (m x : ByteArray) : pOf k (ms ++ [m]) x = if eqB m x = true then pOf k ms x ++ [((k : Int) + ms.length + 1)] else pOf k ms x := by
  rw [pOf_append]
  simp only [pOf]
  split
  · congr 2
  · simp
theorem pOf_none : ∀ (k : Nat) (ms : List ByteArray) (x : ByteArray), (∀ m ∈ ms, m ≠ x) → pOf k ms x = []
  | _, [], _, _ => rfl
  | k, m :: r, x, h => by
    rw [pOf, if_neg (by rw [eqB_not (h m (by simp))]; decide), pOf_none (k + 1) r x fun y hy => h y (by simp [hy])]
/-- n numbers from k + 1 on. -/
def fromN (k n : Nat) : List Int := (List.range n).map fun (j : Nat) => ((k : Int) + j + 1)
theorem pOf_all (x : ByteArray) : ∀ (n k : Nat), pOf k (List.replicate n x) x = fromN k n
  | 0, _ => rfl
  | n + 1, k => by
    rw [List.replicate_succ', pOf_snoc, if_pos (eqB_iff.2 rfl), pOf_all x n k]
    unfold fromN
    rw [List.range_succ, List.map_append]
    simp
theorem pOf_len (k : Nat) (ms : List ByteArray) (x : ByteArray) : (pOf k ms x).length ≤ ms.length := by
  induction ms generalizing k with
  | nil => simp [pOf]
  | cons m r ih =>
    rw [pOf]
    have := ih (k + 1)
    split <;> simp <;> omega
theorem pOf_some : ∀ (k : Nat) (ms : List ByteArray) (x : ByteArray), pOf k ms x ≠ [] → x ∈ ms
  | _, [], _, h => absurd rfl h
  | k, m :: r, x, h => by
    rw [pOf] at h
    split at h
    · rename_i e
      rw [eqB_iff.1 e]
      simp
    · exact List.mem_cons_of_mem _ (pOf_some _ r x h)
theorem msTo_mem {P : Nat} {L : List ByteArray} : ∀ {n : Nat}, n ≤ L.length → ∀ x ∈ msTo P L n, ∃ i, i < n ∧ x = L.getD i default
  | 0, _, x, h => by simp [msTo] at h
  | n + 1, hn, x, h => by
    rw [msTo] at h
    rcases List.mem_append.1 h with h | h
    · obtain ⟨i, hi, e⟩ := msTo_mem (by omega) x h
      exact ⟨i, by omega, e⟩
    · exact ⟨n, by omega, (List.mem_replicate.1 h).2⟩
theorem msOf_mem {parts : Int} {L : List ByteArray} {x : ByteArray} (h : x ∈ msOf parts L) : x ∈ L := by
  unfold msOf at h
  split at h
  · obtain ⟨i, hi, rfl⟩ := msTo_mem (Nat.le_refl _) x h
    rw [List.getD_eq_getElem?_getD, List.getElem?_eq_getElem hi]
    exact List.getElem_mem hi
  · simp at h
/-- How many partitions the first n members have. -/
def cntTo (P m : Nat) : Nat → Nat
  | 0 => 0
  | i + 1 => cntTo P m i + sharN P m i
theorem msTo_len (P : Nat) (L : List ByteArray) : ∀ n, (msTo P L n).length = cntTo P L.length n
  | 0 => rfl
  | n + 1 => by rw [msTo, List.length_append, List.length_replicate, msTo_len P L n, cntTo]
theorem cnt_all : ∀ P, P < 4 → ∀ m, m < 5 → 0 < m → cntTo P m m = P := by decide
theorem shar_falls : ∀ P, P < 4 → ∀ m, m < 5 → ∀ i, i < 4 → i + 1 < m → sharN P m (i + 1) ≤ sharN P m i := by decide
theorem shar_near : ∀ P, P < 4 → ∀ m, m < 5 → ∀ i, i < 4 → i < m → sharN P m 0 ≤ sharN P m i + 1 := by decide
theorem shar_more : ∀ P, P < 4 → ∀ m, m < 4 → ∀ i, i < 4 → i < m → sharN P (m + 1) i ≤ sharN P m i ∧ sharN P (m + 1) (i + 1) ≤ sharN P m i := by decide
theorem cnt_small : ∀ P, P < 4 → ∀ m, m < 5 → ∀ i, i < 5 → cntTo P m i ≤ 16 := by decide
theorem shar_small : ∀ P, P < 4 → ∀ m, m < 5 → ∀ i, i < 4 → sharN P m i ≤ 4 := by decide
theorem msOf_len {parts : Int} {L : List ByteArray} : (msOf parts L).length ≤ 3 := by
  unfold msOf
  split
  · rename_i h
    rw [msTo_len]
    have h4 := good_len h.1
    by_cases h0 : 0 < L.length
    · rw [cnt_all _ (by omega) _ (by omega) h0]
      omega
    · rw [show L.length = 0 by omega]
      exact Nat.zero_le _
  · exact Nat.zero_le _
theorem pOf_to {P : Nat} {L : List ByteArray} (hg : goodB L = true) {i : Nat} (hi : i < L.length) : ∀ n, n ≤ L.length → pOf 0 (msTo P L n) (L.getD i default) = if i < n then fromN (cntTo P L.length i) (sharN P L.length i) else []
  | 0, _ => by simp [msTo, pOf]
  | n + 1, hn => by
    rw [msTo, pOf_append, pOf_to hg hi n (by omega), msTo_len, Nat.zero_add]
    by_cases h : i < n
    · rw [if_pos h, if_pos (by omega), pOf_none _ _ _ fun m hm e => ?_, List.append_nil]
      have := good_ne hg (i := n) (j := i) (by omega) hi (by rw [← e]; exact (List.mem_replicate.1 hm).2.symm)
      omega
    · rw [if_neg h]
      by_cases h2 : i = n
      · subst h2
        rw [if_pos (by omega), pOf_all, List.nil_append]
      · rw [if_neg (by omega), pOf_none _ _ _ fun m hm e => ?_]
        rfl
        have := good_ne hg (i := n) (j := i) (by omega) hi (by rw [← e]; exact (List.mem_replicate.1 hm).2.symm)
        exact h2 this.symm
/-- A member's partitions. -/
theorem parts_of {parts : Int} {L : List ByteArray} (hg : goodB L = true) (h0 : 0 ≤ parts) (h4 : parts ≤ 4) {i : Nat} (hi : i < L.length) :
    pOf 0 (msOf parts L) (L.getD i default) = fromN (cntTo (parts - 1).toNat L.length i) (sharN (parts - 1).toNat L.length i) := by
  unfold msOf
  rw [if_pos ⟨hg, h0, h4⟩, pOf_to hg hi _ (Nat.le_refl _), if_pos hi]
/-- Their owner. -/
theorem owner_at {P : Nat} {L : List ByteArray} : ∀ (n i k : Nat), i < n → k < sharN P L.length i → (msTo P L n)[cntTo P L.length i + k]? = some (L.getD i default)
  | 0, i, k, h, _ => by omega
  | n + 1, i, k, h, hk => by
    rw [msTo]
    by_cases h2 : i < n
    · have := owner_at (P := P) (L := L) n i k h2 hk
      rw [List.getElem?_append_left (List.getElem?_eq_some_iff.1 this).1]
      exact this
    · obtain rfl : i = n := by omega
      rw [List.getElem?_append_right (by rw [msTo_len]; omega), msTo_len, show cntTo P L.length i + k - cntTo P L.length i = k by omega, List.getElem?_replicate, if_pos hk]
def ownerOf (ms : List ByteArray) (p : Int) : Option ByteArray := if 1 ≤ p then ms[(p - 1).toNat]? else none
end Sh
end Go.Proofs.YtjccfilbihkfpaaGreatDoor

/- THE CONTRACTS OF share's isName, Good. -/
namespace Go.Proofs.YtjccfilbihkfpaaGreatDoor
open Go.RowKit

/-- A slice that reads as these texts. -/
def Nms (A : Nat → Prop) (w : World) (v : Value) (L : List ByteArray) : Prop := Rds A w v 1 L.length (L.map Value.string)
section
variable {A A' : Nat → Prop} {w w' : World} {v : Value} {L : List ByteArray}
theorem Nms.form (h : Nms A w v L) : ∃ a cap, v = .slice a L.length cap := Rds.form h
theorem Nms.below (h : Nms A w v L) (hb : Below w.heap.size w w') : Nms A w' v L := Rds.below h hb
theorem Nms.mono (h : Nms A w v L) (k : ∀ b, A b → A' b) : Nms A' w v L := Rds.mono h k
theorem Nms.nil (A : Nat → Prop) (w : World) : Nms A w (.slice none 0 0) [] := Rds.nil A w 1
theorem Nms.at (h : Nms A w v L) {j : Nat} {x : ByteArray} (hj : L[j]? = some x) : ∃ b p cap, v = .slice (some ⟨b, p, none⟩) L.length cap ∧ A b ∧ b < w.heap.size ∧ w.cell? ⟨b, p + j, none⟩ = some (.string x) := by
  obtain ⟨b, p, cap, h1, h2, h3, h4⟩ := Rds.at h (Nat.lt_of_le_of_lt (Nat.zero_le _) (List.getElem?_eq_some_iff.1 hj).1)
  exact ⟨b, p, cap, h1, h2, h3, h4 j _ (by rw [List.getElem?_map, hj]; rfl)⟩
end

set_option maxHeartbeats 1000000 in
set_option maxRecDepth 100000 in
theorem isName_any (s : ByteArray) (w : World) : Calls Tryz.prog 82 #[.string s] w fun e w' => e = .returned (.bool (Sh.nameB s)) ∧ Below w.heap.size w w' := by
  by_cases h1 : (1 : Int) ≤ s.size
  · by_cases h8 : (s.size : Int) ≤ 8
    · have HB : Hid (Sh.nameB s = s.data.toList.all fun c => !Sh.badC c) := Lib.hid (by unfold Sh.nameB; simp [h1, h8])
      have hcv := Lib.run_convert_string_bytes (P := Tryz.prog) w 9 131 5 s Tryz.underlying9 Tryz.underlying131 Tryz.underlying5
      obtain ⟨n, hn⟩ : ∃ n, s.size = n := ⟨_, rfl⟩
      obtain ⟨cp, hcp⟩ : ∃ cp, grownCap w s.size 0 5 = cp := ⟨_, rfl⟩
      obtain ⟨W1, hW⟩ : ∃ W1, Lib.bytesWorld w 5 s = W1 := ⟨_, rfl⟩
      have HC : Hid (∀ j, j < n → W1.cell? ⟨w.heap.size, j, none⟩ = some (.int .u8 (s.data.toList.getD j 0).toNat)) := Lib.hid (by rw [← hW, ← hn]; exact fun j hj => Lib.bytesWorld_cell w _ s j hj)
      have HW : Hid (Below w.heap.size w W1) := Lib.hid (by rw [← hW]; exact ⟨rfl, rfl, rfl, by rw [Lib.bytesWorld_size]; omega, fun k hk => Lib.bytesWorld_at_old w _ s k hk⟩)
      have HL : Hid (s.data.toList.length = n) := Lib.hid (by rw [← hn]; exact Array.length_toList)
      rw [hcp, hn, hW] at hcv
      rw [hn] at h1 h8
      have HN := Lib.hid hn
      clear hcp hW
      go_enter Tryz.func82, Tryz.ntmps82
      go_wp2_with fail
      go_loop [4, 16] (fun _ i => ∃ k : Nat, k ≤ n ∧ i = .int .i64 k ∧ ∀ j, j < k → Sh.badC (s.data.toList.getD j 0) = false) (fun _ i => n - (intOf i).toNat)
      case atStart => exact ⟨0, Nat.zero_le _, rfl, fun j hj => by omega⟩
      case round =>
        obtain ⟨k, hk, rfl, hok⟩ := hrel
        have HOK := Lib.hid hok
        clear hok
        by_cases hlt : k < n
        · have c0 := HC.out k hlt
          obtain ⟨c, hc⟩ : ∃ c, s.data.toList.getD k 0 = c := ⟨_, rfl⟩
          rw [hc] at c0
          obtain ⟨x, hx⟩ : ∃ x : Int, (c.toNat : Int) = x := ⟨_, rfl⟩
          rw [hx] at c0
          have HX := Lib.hid hx
          have HCC := Lib.hid hc
          clear hx hc
          have HBAD : Hid (Sh.badC c = true → Sh.nameB s = false) := Lib.hid fun hb => by
            rw [HB.out]
            refine Bool.eq_false_iff.2 fun h => ?_
            have := List.all_eq_true.1 h c (by rw [← HCC.out, List.getD_eq_getElem?_getD, List.getElem?_eq_getElem (by rw [HL.out]; exact hlt)]; exact List.getElem_mem _)
            rw [hb] at this
            cases this
          have HNX : Hid (Sh.badC c = false → ∀ j, j < k + 1 → Sh.badC (s.data.toList.getD j 0) = false) := Lib.hid fun hb j hj => by
            by_cases e : j = k
            · subst e; rw [HCC.out]; exact hb
            · exact HOK.out j (by omega)
          go_wp2_with fail
          all_goals first
            | (go_ret
               exact ⟨by rw [HBAD.out (by unfold Sh.badC; rw [HX.out]; simp; omega)]; rfl, HW.out⟩)
            | (go_round
               case rel => exact ⟨k + 1, by omega, by go_num, HNX.out (by unfold Sh.badC; rw [HX.out]; simp; omega)⟩
               case measure => simp [intOf]; omega)
        · go_wp2_with fail
          go_ret
          have e : Sh.nameB s = true := by
            rw [HB.out]
            refine List.all_eq_true.2 fun c hc => ?_
            obtain ⟨j, hj, e⟩ := List.getElem_of_mem hc
            have := HOK.out j (by rw [HL.out] at hj; omega)
            rw [List.getD_eq_getElem?_getD, List.getElem?_eq_getElem hj] at this
            rw [← e]
            simpa using this
          exact ⟨by rw [e]; rfl, HW.out⟩
    · have hd : Sh.nameB s = false := by unfold Sh.nameB; simp [h8]
      rw [hd]
      clear hd
      go_enter Tryz.func82, Tryz.ntmps82
      go_wp2_with fail
      go_ret
      exact ⟨rfl, Below.refl _ _⟩
  · have hd : Sh.nameB s = false := by unfold Sh.nameB; simp [h1]
    rw [hd]
    clear hd
    go_enter Tryz.func82, Tryz.ntmps82
    go_wp2_with fail
    go_ret
    exact ⟨rfl, Below.refl _ _⟩
end Go.Proofs.YtjccfilbihkfpaaGreatDoor

/- THE CONTRACT OF share's Good. -/
namespace Go.Proofs.YtjccfilbihkfpaaGreatDoor
open Go.RowKit

theorem getD_of {L : List ByteArray} {k : Nat} {x : ByteArray} (h : L[k]? = some x) : L.getD k default = x := by rw [List.getD_eq_getElem?_getD, h]; rfl
set_option maxHeartbeats 1000000 in
set_option maxRecDepth 100000 in
theorem good_any {A : Nat → Prop} (v : Value) (L : List ByteArray) (w : World) (h : Nms A w v L) :
    Calls Tryz.prog 50 #[v] w fun e w' => e = .returned (.bool (Sh.goodB L)) ∧ Below w.heap.size w w' := by
  obtain ⟨a, cap, rfl⟩ := h.form
  obtain ⟨n, hn⟩ : ∃ n, L.length = n := ⟨_, rfl⟩
  have HV := Lib.hid h
  have HN := Lib.hid hn
  rw [hn]
  clear h hn
  by_cases h4 : (n : Int) ≤ 4
  · have HG : Hid (Sh.goodB L = Sh.goodTo L n) := Lib.hid (by unfold Sh.goodB; rw [HN.out, decide_eq_true (by omega)]; rfl)
    go_enter Tryz.func50, Tryz.ntmps50
    go_wp2_with fail
    have HR := Lib.hid (Below.refl w.heap.size w)
    go_loopw [3, 4, 10] (fun _ _ i wr => ∃ k : Nat, k ≤ n ∧ i = .int .i64 k ∧ Sh.goodTo L k = true ∧ Below w.heap.size w wr) (fun _ _ i _ => n - (intOf i).toNat)
    case atStart => exact ⟨0, Nat.zero_le _, rfl, rfl, HR.out⟩
    case round =>
      obtain ⟨k, hk, rfl, hok, hb⟩ := hrel
      have HOK := Lib.hid hok
      have HB := Lib.hid hb
      clear hok hb
      by_cases hlt : k < n
      · obtain ⟨x, hx⟩ : ∃ x, L[k]? = some x := ⟨_, List.getElem?_eq_getElem (by rw [HN.out]; exact hlt)⟩
        obtain ⟨b, p, cap', e, -, hbl, c0⟩ := (HV.out.below HB.out).at hx
        obtain rfl : a = some ⟨b, p, none⟩ := by injection e
        have HX := Lib.hid (getD_of hx)
        clear e hx
        have HBAD : Hid (Sh.atB L k = false → Sh.goodB L = false) := Lib.hid fun hb => by rw [HG.out]; exact Sh.goodTo_bad hlt hb
        have HNX : Hid (Sh.atB L k = true → Sh.goodTo L (k + 1) = true) := Lib.hid fun hb => by rw [Sh.goodTo_succ, HOK.out, hb]; rfl
        have HAT : Hid (Sh.atB L k = (Sh.nameB x && !(decide (0 < k) && Sh.leB x (L.getD (k - 1) default)))) := Lib.hid (by unfold Sh.atB; rw [HX.out])
        by_cases hN : Sh.nameB x = true
        · by_cases h0 : 0 < k
          · obtain ⟨y, hy⟩ : ∃ y, L[k - 1]? = some y := ⟨_, List.getElem?_eq_getElem (by rw [HN.out]; omega)⟩
            obtain ⟨b', p', cap'', e, -, -, c1⟩ := (HV.out.below HB.out).at hy
            obtain ⟨rfl, rfl⟩ : b = b' ∧ p = p' := by injection e with e _ _; injection e with e; injection e with e1 e2; exact ⟨e1, e2⟩
            have HY := Lib.hid (getD_of hy)
            clear e hy
            have hk1 : (1 : Int) ≤ (k : Int) := by omega
            have hk2 : (k : Int) - 1 < (n : Int) := by omega
            rcases hl : Op.bytesLess x.toList y.toList with _ | _
            · rcases he : (x.toList == y.toList) with _ | _
              · have HT : Hid (Sh.atB L k = true) := Lib.hid (by rw [HAT.out, HY.out, hN]; unfold Sh.leB; rw [hl, he]; simp)
                go_wp2_with (go_at_call 82; refine (isName_any x _).mono ?_; rintro e w1 ⟨rfl, hb1⟩; have HB1 := Lib.hid hb1; have c2 := (hb1.cell (p := ⟨b, p + (k - 1), none⟩) hbl).trans c1; clear hb1)
                go_roundw
                case rel => exact ⟨k + 1, by omega, by go_num, HNX.out HT.out, HB.out.trans (HB1.out.mono HB.out.size)⟩
                case measure => simp [intOf]; omega
              · have HT : Hid (Sh.atB L k = false) := Lib.hid (by rw [HAT.out, HY.out, hN]; unfold Sh.leB; rw [hl, he]; simp [h0])
                go_wp2_with (go_at_call 82; refine (isName_any x _).mono ?_; rintro e w1 ⟨rfl, hb1⟩; have HB1 := Lib.hid hb1; have c2 := (hb1.cell (p := ⟨b, p + (k - 1), none⟩) hbl).trans c1; clear hb1)
                go_ret
                exact ⟨by rw [HBAD.out HT.out]; rfl, HB.out.trans (HB1.out.mono HB.out.size)⟩
            · have HT : Hid (Sh.atB L k = false) := Lib.hid (by rw [HAT.out, HY.out, hN]; unfold Sh.leB; rw [hl]; simp [h0])
              go_wp2_with (go_at_call 82; refine (isName_any x _).mono ?_; rintro e w1 ⟨rfl, hb1⟩; have HB1 := Lib.hid hb1; have c2 := (hb1.cell (p := ⟨b, p + (k - 1), none⟩) hbl).trans c1; clear hb1)
              go_ret
              exact ⟨by rw [HBAD.out HT.out]; rfl, HB.out.trans (HB1.out.mono HB.out.size)⟩
          · have HT : Hid (Sh.atB L k = true) := Lib.hid (by rw [HAT.out, hN, decide_eq_false h0]; rfl)
            go_wp2_with (go_at_call 82; refine (isName_any x _).mono ?_; rintro e w1 ⟨rfl, hb1⟩; have HB1 := Lib.hid hb1; clear hb1)
            go_roundw
            case rel => exact ⟨k + 1, by omega, by go_num, HNX.out HT.out, HB.out.trans (HB1.out.mono HB.out.size)⟩
            case measure => simp [intOf]; omega
        · have hN : Sh.nameB x = false := by simpa using hN
          have HT : Hid (Sh.atB L k = false) := Lib.hid (by rw [HAT.out, hN]; rfl)
          go_wp2_with (go_at_call 82; refine (isName_any x _).mono ?_; rintro e w1 ⟨rfl, hb1⟩; have HB1 := Lib.hid hb1; clear hb1)
          go_ret
          exact ⟨by rw [HBAD.out HT.out]; rfl, HB.out.trans (HB1.out.mono HB.out.size)⟩
      · have HF : Hid (Sh.goodB L = true) := Lib.hid (by rw [HG.out, show n = k by omega]; exact HOK.out)
        go_wp2_with fail
        go_ret
        exact ⟨by rw [HF.out]; rfl, HB.out⟩
  · have hd : Sh.goodB L = false := by unfold Sh.goodB; rw [HN.out, decide_eq_false (by omega)]; rfl
    rw [hd]
    clear hd
    go_enter Tryz.func50, Tryz.ntmps50
    go_wp2_with fail
    go_ret
    exact ⟨rfl, Below.refl _ _⟩
end Go.Proofs.YtjccfilbihkfpaaGreatDoor

/- THE CONTRACT OF share's Assign. -/
namespace Go.Proofs.YtjccfilbihkfpaaGreatDoor
open Go.RowKit

theorem infoOwner : Info Tryz.prog 74 2 24 (.agg #[.int .i64 0, .string ByteArray.empty]) := Info.of (by kernel_rfl) rfl
/-- What an assignment answers. -/
def AsgOut (w : World) (ms : List ByteArray) (e : Ending) (w' : World) : Prop := Below w.heap.size w w' ∧ ∃ v gb, e = .returned v ∧ Wz w.heap.size w' v gb 74 2 ms.length (Sh.ocel 0 ms)
def Eqv (w w' : World) : Prop := w' = w
theorem msTo_next {P : Nat} {L : List ByteArray} {i : Nat} {x : ByteArray} (h : L.getD i default = x) : Sh.msTo P L (i + 1) = Sh.msTo P L i ++ List.replicate (Sh.sharN P L.length i) x := by rw [Sh.msTo, h]
set_option maxHeartbeats 2000000 in
set_option maxRecDepth 100000 in
theorem assign_any {A : Nat → Prop} (parts : Int) (v : Value) (L : List ByteArray) (w : World) (h : Nms A w v L) :
    Calls Tryz.prog 34 #[.int .i64 parts, v] w fun e w' => AsgOut w (Sh.msOf parts L) e w' := by
  obtain ⟨a, cap, rfl⟩ := h.form
  have C := fun w1 (hb : Below w.heap.size w w1) => good_any _ L w1 (h.below hb)
  obtain ⟨m, hm⟩ : ∃ m, L.length = m := ⟨_, rfl⟩
  rw [hm] at C
  have HC := Lib.hid C
  have HV := Lib.hid h
  have HM := Lib.hid hm
  rw [hm]
  clear h C hm
  have HR := Lib.hid (Below.refl w.heap.size w)
  by_cases hg : Sh.goodB L = true
  · by_cases h0 : 0 ≤ parts
    · by_cases h4 : parts ≤ 4
      · obtain ⟨P, hP⟩ : ∃ P, (parts - 1).toNat = P := ⟨_, rfl⟩
        have HP4 : P < 4 := by omega
        have HM4 : m < 5 := by have := Sh.good_len hg; rw [HM.out] at this; omega
        have HMS : Hid (Sh.msOf parts L = Sh.msTo P L m) := Lib.hid (by unfold Sh.msOf; rw [if_pos ⟨hg, h0, h4⟩, hP, HM.out])
        have HPE := Lib.hid hP
        have hP1 : parts - 1 ≤ (P : Int) := by omega
        have hP2 : (0 : Int) ≤ parts - 1 → parts - 1 = (P : Int) := by omega
        have HP2 := Lib.hid hP2
        have HP3 : Hid (¬ (0 : Int) ≤ parts - 1 → (P : Int) = 0) := Lib.hid (by omega)
        clear hP hP2
        go_enter Tryz.func34, Tryz.ntmps34
        go_upto_region 3 with (go_at_call 50; refine (HC.out _ HR.out).mono ?_; rintro e w1 ⟨rfl, hb1⟩; have HB1 := Lib.hid hb1; clear hb1)
        go_cut [5] (fun p5 wx => p5 = .int .i64 P ∧ Eqv w1 wx)
        case first =>
          by_cases hpp : (0 : Int) ≤ parts - 1
          · go_wp2_with fail
            go_meet
            case rel => exact ⟨by rw [HP2.out hpp], rfl⟩
          · go_wp2_with fail
            go_meet
            case rel => exact ⟨by rw [HP3.out hpp], rfl⟩
        case rest =>
          obtain ⟨rfl, he⟩ := hcut
          have hwe : w1 = wc := he.symm
          subst hwe
          clear he
          have HNL : Hid (Wz w.heap.size w1 (.slice none 0 0) none 74 2 0 (Sh.ocel 0 [])) := Lib.hid (Wz.nil _ _ _ _)
          go_wp2_with fail
          go_loopw [6, 7, 8, 9, 26] (fun ov _ _ _ iv wr => ∃ (i : Nat) (gb : Option Nat), i ≤ m ∧ iv = .int .i64 i ∧ Below w.heap.size w wr ∧ Wz w.heap.size wr ov gb 74 2 (Sh.msTo P L i).length (Sh.ocel 0 (Sh.msTo P L i))) (fun _ _ _ _ iv _ => m - (intOf iv).toNat)
          case atStart => exact ⟨0, none, Nat.zero_le _, rfl, HB1.out, HNL.out⟩
          case round =>
            obtain ⟨i, gb, hi, rfl, hb, hz⟩ := hrel
            have HB := Lib.hid hb
            have HZ := Lib.hid hz
            by_cases hlt : i < m
            · obtain ⟨x, hx⟩ : ∃ x, L[i]? = some x := ⟨_, List.getElem?_eq_getElem (by rw [HM.out]; exact hlt)⟩
              obtain ⟨b, p, cap', e, -, hbl, c0⟩ := (HV.out.below HB.out).at hx
              obtain rfl : a = some ⟨b, p, none⟩ := by injection e
              have HX := Lib.hid (getD_of hx)
              obtain ⟨q, hq⟩ : ∃ q, P / m = q := ⟨_, rfl⟩
              obtain ⟨r, hr⟩ : ∃ r, P % m = r := ⟨_, rfl⟩
              have hqi : (P : Int) / (m : Int) = (q : Int) := by rw [← hq]; exact (Int.natCast_ediv P m).symm
              have hri : (P : Int) % (m : Int) = (r : Int) := by rw [← hr]; exact (Int.natCast_emod P m).symm
              obtain ⟨sh, hsh⟩ : ∃ sh, Sh.sharN P m i = sh := ⟨_, rfl⟩
              have hs4 : sh ≤ 4 := by rw [← hsh]; exact Sh.shar_small P HP4 m HM4 i (by omega)
              have HSH : Hid (sh = q + if i < r then 1 else 0) := Lib.hid (by rw [← hsh, ← hq, ← hr]; rfl)
              have HNX : Hid (Sh.msTo P L (i + 1) = Sh.msTo P L i ++ List.replicate sh x) := Lib.hid (by rw [msTo_next HX.out, HM.out, hsh])
              have HLN : Hid ((Sh.msTo P L i).length ≤ 16) := Lib.hid (by rw [Sh.msTo_len, HM.out]; exact Sh.cnt_small P HP4 m HM4 i (by omega))
              have HMM : Hid ((List.replicate 0 x : List ByteArray) = []) := Lib.hid rfl
              have hq4 : q ≤ 3 := by rw [← hq]; exact Nat.le_trans (Nat.div_le_self P m) (by omega)
              clear e hx hq hr hsh hb hz
              have hm1 : (1 : Int) ≤ (m : Int) := by omega
              have hp0 : (0 : Int) ≤ (P : Int) := by omega
              go_upto_if 40 with fail
              go_cut [9] (fun p9 wx => p9 = .int .i64 sh ∧ Eqv wr wx)
              case first =>
                by_cases hir : i < r
                · have hd : decide ((i : Int) < (r : Int)) = true := by simp; omega
                  have hd2 : decide (i < r) = true := by simp; omega
                  go_wp2_with fail
                  go_meet
                  case rel => exact ⟨by rw [HSH.out, if_pos hir]; go_num, rfl⟩
                · have hd : decide ((i : Int) < (r : Int)) = false := by simp; omega
                  have hd2 : decide (i < r) = false := by simp; omega
                  go_wp2_with fail
                  go_meet
                  case rel => exact ⟨by rw [HSH.out, if_neg hir]; go_num, rfl⟩
              case rest =>
                obtain ⟨rfl, he⟩ := hcut
                have hwe : wr = wc := he.symm
                subst hwe
                clear he hqi hri
                have HMS0 : Hid (Sh.msTo P L i = Sh.msTo P L i ++ List.replicate 0 x) := Lib.hid (by rw [HMM.out, List.append_nil])
                have HZ0 : Hid (Wz w.heap.size wr u6 gb 74 2 (Sh.msTo P L i ++ List.replicate 0 x).length (Sh.ocel 0 (Sh.msTo P L i ++ List.replicate 0 x))) := Lib.hid (by rw [← HMS0.out]; exact HZ.out)
                go_wp2_with fail
                go_loopw [6, 44] (fun ov kv wr' => ∃ (k : Nat) (gb : Option Nat), k ≤ sh ∧ kv = .int .i64 k ∧ Below w.heap.size w wr' ∧ Wz w.heap.size wr' ov gb 74 2 (Sh.msTo P L i ++ List.replicate k x).length (Sh.ocel 0 (Sh.msTo P L i ++ List.replicate k x))) (fun _ kv _ => sh - (intOf kv).toNat)
                case atStart => exact ⟨0, gb, Nat.zero_le _, rfl, HB.out, HZ0.out⟩
                case round =>
                  obtain ⟨k, gk, hk, rfl, hb, hz⟩ := hrel
                  have HBK := Lib.hid hb
                  by_cases hlk : k < sh
                  · obtain ⟨N, hN⟩ : ∃ N, (Sh.msTo P L i ++ List.replicate k x).length = N := ⟨_, rfl⟩
                    have hN2 : N ≤ 1048576 := by have := HLN.out; rw [List.length_append, List.length_replicate] at hN; omega
                    rw [hN] at hz
                    obtain ⟨ao, co, rfl⟩ := hz.form
                    obtain ⟨W2, hW2⟩ : ∃ W2, wr.alloc (.cells #[.int .i64 ((N : Int) + 1), .string x] 74) = W2 := ⟨_, rfl⟩
                    have HZK : Hid (Wz w.heap.size W2 (.slice ao N co) gk 74 2 N (Sh.ocel 0 (Sh.msTo P L i ++ List.replicate k x))) := Lib.hid (by rw [← hW2]; exact hz.below ((Below.refl _ _).alloc (Nat.le_refl _) _))
                    have HNEW : Hid (∀ j u, ([.int .i64 ((N : Int) + 1), .string x] : List Value)[j]? = some u → W2.cell? ((⟨wr.heap.size, 0, none⟩ : Addr).add j) = some u) := Lib.hid (by rw [← hW2]; exact built_cells wr _ _)
                    have HBW : Hid (Below w.heap.size w W2) := Lib.hid (by rw [← hW2]; exact hb.alloc hb.size _)
                    have HAP : Hid (Sh.ocel 0 (Sh.msTo P L i ++ List.replicate k x) ++ [.int .i64 ((N : Int) + 1), .string x] = Sh.ocel 0 (Sh.msTo P L i ++ List.replicate (k + 1) x)) := Lib.hid (by
                      rw [List.replicate_succ', ← List.append_assoc, Sh.ocel_snoc, hN]
                      simp)
                    have HLE : Hid (N + 1 = (Sh.msTo P L i ++ List.replicate (k + 1) x).length) := Lib.hid (by rw [← hN]; simp; omega)
                    have HN2 := Lib.hid hN2
                    clear hN hz hb
                    go_wp2_with (at_builtin; refine wp_add infoOwner Tryz.underlying71 (by rfl) _ _ (by rfl) (by rfl) HZK.out ⟨wr.heap.size, 0, none⟩ 1 [.int .i64 ((N : Int) + 1), .string x] (by rfl) rfl HNEW.out (by simp [Value.oneCell']) HN2.out (by decide) HBW.out.size ?_)
                    intro v' g' w' hz' hg' _
                    have HZ' := Lib.hid hz'
                    have HB' := Lib.hid (Below.appended HBW.out hg' HZK.out.2 HBW.out.size)
                    clear hz' hg'
                    go_wp2_with fail
                    go_roundw
                    case rel => exact ⟨k + 1, g', by omega, by go_num, HB'.out, by rw [← HLE.out, ← HAP.out]; exact HZ'.out⟩
                    case measure => simp [intOf]; omega
                  · have HKE : Hid (k = sh) := Lib.hid (by omega)
                    have HZ' := Lib.hid hz
                    clear hz hb
                    go_wp2_with fail
                    go_roundw
                    case rel => exact ⟨i + 1, gk, by omega, by go_num, HBK.out, by rw [HNX.out, ← HKE.out]; exact HZ'.out⟩
                    case measure => simp [intOf]; omega
            · have HF : Hid (Sh.msTo P L i = Sh.msOf parts L) := Lib.hid (by rw [HMS.out, show i = m by omega])
              have HZF : Hid (∃ gb, Wz w.heap.size wr u6 gb 74 2 (Sh.msOf parts L).length (Sh.ocel 0 (Sh.msOf parts L))) := Lib.hid ⟨gb, by rw [← HF.out]; exact HZ.out⟩
              clear hz hb
              go_wp2_with fail
              go_ret
              obtain ⟨gb, h⟩ := HZF.out
              exact ⟨HB.out, _, gb, rfl, h⟩
      · have HD : Hid (Sh.msOf parts L = []) := Lib.hid (by unfold Sh.msOf; rw [if_neg (by omega)])
        go_enter Tryz.func34, Tryz.ntmps34
        go_wp2_with (go_at_call 50; refine (HC.out _ HR.out).mono ?_; rintro e w1 ⟨rfl, hb1⟩; have HB1 := Lib.hid hb1; clear hb1)
        go_ret
        exact ⟨HB1.out, _, none, rfl, by rw [HD.out]; exact Wz.nil _ _ _ _⟩
    · have HD : Hid (Sh.msOf parts L = []) := Lib.hid (by unfold Sh.msOf; rw [if_neg (by omega)])
      go_enter Tryz.func34, Tryz.ntmps34
      go_wp2_with (go_at_call 50; refine (HC.out _ HR.out).mono ?_; rintro e w1 ⟨rfl, hb1⟩; have HB1 := Lib.hid hb1; clear hb1)
      go_ret
      exact ⟨HB1.out, _, none, rfl, by rw [HD.out]; exact Wz.nil _ _ _ _⟩
  · have hg : Sh.goodB L = false := by simpa using hg
    have HD : Hid (Sh.msOf parts L = []) := Lib.hid (by unfold Sh.msOf; rw [hg]; simp)
    go_enter Tryz.func34, Tryz.ntmps34
    go_wp2_with (go_at_call 50; refine (HC.out _ HR.out).mono ?_; rintro e w1 ⟨rfl, hb1⟩; have HB1 := Lib.hid hb1; clear hb1)
    go_ret
    exact ⟨HB1.out, _, none, rfl, by rw [HD.out]; exact Wz.nil _ _ _ _⟩
end Go.Proofs.YtjccfilbihkfpaaGreatDoor

/- THE CONTRACTS OF share's Owner, Parts. -/
namespace Go.Proofs.YtjccfilbihkfpaaGreatDoor
open Go.RowKit

/-- A slice that reads as owners. -/
theorem asg_at {z : Nat} {w : World} {v : Value} {gb : Option Nat} {ms : List ByteArray} (h : Wz z w v gb 74 2 ms.length (Sh.ocel 0 ms)) {j : Nat} {x : ByteArray} (hj : ms[j]? = some x) :
    ∃ b p cap, v = .slice (some ⟨b, p, none⟩) ms.length cap ∧ b < w.heap.size ∧ w.cell? ⟨b, p + j * 2, none⟩ = some (.int .i64 ((j : Int) + 1)) ∧ w.cell? ⟨b, p + j * 2 + 1, none⟩ = some (.string x) := by
  obtain ⟨b, p, cap, h1, -, h3, h4⟩ := h.rd.at (Nat.lt_of_le_of_lt (Nat.zero_le _) (List.getElem?_eq_some_iff.1 hj).1)
  obtain ⟨c0, c1⟩ := Sh.ocel_at 0 ms j x hj
  exact ⟨b, p, cap, h1, h3, by rw [h4 _ _ c0]; simp, h4 _ _ c1⟩
def OwnOut (w : World) (o : Option ByteArray) (e : Ending) (w' : World) : Prop := Below w.heap.size w w' ∧ e = .returned (.tuple #[.string (o.getD ⟨#[]⟩), .bool o.isSome])
theorem ownerOf_hit {ms : List ByteArray} {j : Nat} {x : ByteArray} (h : ms[j]? = some x) : Sh.ownerOf ms ((j : Int) + 1) = some x := by
  unfold Sh.ownerOf
  rw [if_pos (by omega), show ((j : Int) + 1 - 1).toNat = j by omega, h]
theorem ownerOf_miss {ms : List ByteArray} {p : Int} (h : ∀ j : Nat, j < ms.length → p ≠ (j : Int) + 1) : Sh.ownerOf ms p = none := by
  unfold Sh.ownerOf
  split
  · refine List.getElem?_eq_none ?_
    rcases Nat.lt_or_ge (p - 1).toNat ms.length with k | k
    · exact absurd (by omega) (h _ k)
    · exact k
  · rfl
set_option maxHeartbeats 2000000 in
set_option maxRecDepth 100000 in
theorem owner_any {A : Nat → Prop} (parts : Int) (v : Value) (L : List ByteArray) (p : Int) (w : World) (h : Nms A w v L) :
    Calls Tryz.prog 18 #[.int .i64 parts, v, .int .i64 p] w fun e w' => OwnOut w (Sh.ownerOf (Sh.msOf parts L) p) e w' := by
  have C := Lib.hid (assign_any parts v L w h)
  obtain ⟨ms, hms⟩ : ∃ ms, Sh.msOf parts L = ms := ⟨_, rfl⟩
  have hl3 : ms.length ≤ 3 := by rw [← hms]; exact Sh.msOf_len
  rw [hms] at C ⊢
  obtain ⟨a, cap, rfl⟩ := h.form
  obtain ⟨n, hn⟩ : ∃ n, L.length = n := ⟨_, rfl⟩
  rw [hn] at C ⊢
  clear h hms hn
  go_enter Tryz.func18, Tryz.ntmps18
  go_wp2_with fail
  refine C.out.mono ?_
  rintro e w1 ⟨hb1, va, gb, rfl, hz⟩
  obtain ⟨ao, co, rfl⟩ := hz.form
  obtain ⟨N, hN⟩ : ∃ N, ms.length = N := ⟨_, rfl⟩
  have HB1 := Lib.hid hb1
  have HZ := Lib.hid hz
  have HN := Lib.hid hN
  have HR := Lib.hid (Below.refl w1.heap.size w1)
  rw [hN] at hl3 ⊢
  clear hb1 hz C hN
  go_wp2_with fail
  go_loopw [9, 14] (fun _ jv wr => ∃ j : Nat, j ≤ N ∧ jv = .int .i64 j ∧ Below w1.heap.size w1 wr ∧ ∀ t : Nat, t < j → p ≠ (t : Int) + 1) (fun _ jv _ => N - (intOf jv).toNat)
  case atStart => exact ⟨0, Nat.zero_le _, rfl, HR.out, fun t ht => by omega⟩
  case round =>
    obtain ⟨j, hj, rfl, hb, hne⟩ := hrel
    have HB := Lib.hid hb
    have HNE := Lib.hid hne
    clear hne
    by_cases hlt : j < N
    · obtain ⟨x, hx⟩ : ∃ x, ms[j]? = some x := ⟨_, List.getElem?_eq_getElem (by rw [HN.out]; exact hlt)⟩
      obtain ⟨b, q, cap', e, hbl, c0, c1⟩ := asg_at (HZ.out.below hb) hx
      rw [HN.out] at e
      obtain rfl : ao = some ⟨b, q, none⟩ := by injection e
      have HX := Lib.hid hx
      have j0 : (0 : Int) ≤ (j : Int) := by omega
      have j1 : (j : Int) < (N : Int) := by omega
      have HB2 : Hid (∀ o, Below w1.heap.size w1 (wr.alloc o)) := Lib.hid fun o => hb.alloc hb.size o
      clear e hx hb
      by_cases hp : (j : Int) + 1 = p
      · have HO : Hid (Sh.ownerOf ms p = some x) := Lib.hid (by rw [← hp]; exact ownerOf_hit HX.out)
        have hd : ((j : Int) + 1 == p) = true := by simp [hp]
        go_wp2_with fail
        go_ret2
        exact ⟨HB1.out.trans ((HB2.out _).mono HB1.out.size), by rw [HO.out]; rfl⟩
      · have hd : ((j : Int) + 1 == p) = false := by simp [hp]
        have HNX : Hid (∀ t : Nat, t < j + 1 → p ≠ (t : Int) + 1) := Lib.hid fun t ht e => by
          by_cases h : t = j
          · subst h; exact hp e.symm
          · exact HNE.out t (by omega) e
        clear hp
        go_wp2_with fail
        go_roundw
        case rel => exact ⟨j + 1, by omega, by go_num, HB2.out _, HNX.out⟩
        case measure => simp [intOf]; omega
    · have HO : Hid (Sh.ownerOf ms p = none) := Lib.hid (ownerOf_miss fun t ht => HNE.out t (by rw [HN.out] at ht; omega))
      clear hb
      go_wp2_with fail
      go_ret2
      exact ⟨HB1.out.trans (HB.out.mono HB1.out.size), by rw [HO.out]; rfl⟩

theorem infoInt : Info Tryz.prog 3 1 8 (.int .i64 0) := Info.of (by kernel_rfl) rfl
/-- Whole numbers in a slice of the call's own. -/
def PrtOut (w : World) (l : List Int) (e : Ending) (w' : World) : Prop := Below w.heap.size w w' ∧ ∃ v gb, e = .returned v ∧ Wz w.heap.size w' v gb 3 1 l.length (l.map (Value.int .i64))
set_option maxHeartbeats 2000000 in
set_option maxRecDepth 100000 in
theorem parts_any {A : Nat → Prop} (parts : Int) (v : Value) (L : List ByteArray) (y : ByteArray) (w : World) (h : Nms A w v L) :
    Calls Tryz.prog 70 #[.int .i64 parts, v, .string y] w fun e w' => PrtOut w (Sh.pOf 0 (Sh.msOf parts L) y) e w' := by
  have C := Lib.hid (assign_any parts v L w h)
  obtain ⟨ms, hms⟩ : ∃ ms, Sh.msOf parts L = ms := ⟨_, rfl⟩
  have hl3 : ms.length ≤ 3 := by rw [← hms]; exact Sh.msOf_len
  rw [hms] at C ⊢
  obtain ⟨a, cap, rfl⟩ := h.form
  obtain ⟨n, hn⟩ : ∃ n, L.length = n := ⟨_, rfl⟩
  rw [hn] at C ⊢
  clear h hms hn
  go_enter Tryz.func70, Tryz.ntmps70
  go_wp2_with fail
  refine C.out.mono ?_
  rintro e w1 ⟨hb1, va, gb, rfl, hz⟩
  obtain ⟨ao, co, rfl⟩ := hz.form
  obtain ⟨N, hN⟩ : ∃ N, ms.length = N := ⟨_, rfl⟩
  have HB1 := Lib.hid hb1
  have HZ := Lib.hid hz
  have HN := Lib.hid hN
  have HR := Lib.hid (Below.refl w1.heap.size w1)
  have HZ1 : Hid (Wz w1.heap.size w1 (.slice none 0 0) none 3 1 (Sh.pOf 0 (ms.take 0) y).length ((Sh.pOf 0 (ms.take 0) y).map (Value.int .i64))) := Lib.hid (Wz.nil _ _ _ _)
  rw [hN] at hl3 ⊢
  clear hb1 hz C hN
  go_wp2_with fail
  go_loopw [7, 9, 14] (fun ov _ jv wr => ∃ (j : Nat) (g : Option Nat), j ≤ N ∧ jv = .int .i64 j ∧ Below w1.heap.size w1 wr ∧ Wz w1.heap.size wr ov g 3 1 (Sh.pOf 0 (ms.take j) y).length ((Sh.pOf 0 (ms.take j) y).map (Value.int .i64))) (fun _ _ jv _ => N - (intOf jv).toNat)
  case atStart => exact ⟨0, none, Nat.zero_le _, rfl, HR.out, HZ1.out⟩
  case round =>
    obtain ⟨j, gj, hj, rfl, hb, hzj⟩ := hrel
    by_cases hlt : j < N
    · obtain ⟨x, hx⟩ : ∃ x, ms[j]? = some x := ⟨_, List.getElem?_eq_getElem (by rw [HN.out]; exact hlt)⟩
      obtain ⟨b, q, cap', e, hbl, c0, c1⟩ := asg_at (HZ.out.below hb) hx
      rw [HN.out] at e
      obtain rfl : ao = some ⟨b, q, none⟩ := by injection e
      have HT : Hid (ms.take (j + 1) = ms.take j ++ [x]) := Lib.hid (by rw [List.take_add_one, hx]; rfl)
      have HTL : Hid ((ms.take j).length = j) := Lib.hid (by rw [List.length_take, HN.out]; omega)
      have j0 : (0 : Int) ≤ (j : Int) := by omega
      have j1 : (j : Int) < (N : Int) := by omega
      obtain ⟨M, hM⟩ : ∃ M, (Sh.pOf 0 (ms.take j) y).length = M := ⟨_, rfl⟩
      have hM3 : M ≤ 1048576 := by
        rw [← hM]
        have h1 := Sh.pOf_len 0 (ms.take j) y
        rw [HTL.out] at h1
        omega
      rw [hM] at hzj
      obtain ⟨W2, hW2⟩ : ∃ W2, wr.alloc (.cells #[.int .i64 ((j : Int) + 1), .string x] 74) = W2 := ⟨_, rfl⟩
      have HB2 : Hid (Below w1.heap.size w1 W2) := Lib.hid (by rw [← hW2]; exact hb.alloc hb.size _)
      have hzj2 : Wz w1.heap.size W2 u7 gj 3 1 M ((Sh.pOf 0 (ms.take j) y).map (Value.int .i64)) := by rw [← hW2]; exact hzj.below ((Below.refl _ _).alloc (Nat.le_refl _) _)
      have HK := Lib.hid (Blk.new wr #[.int .i64 ((j : Int) + 1), .string x] 74)
      rw [hW2] at HK
      have d0 : W2.cell? ⟨wr.heap.size, 0, none⟩ = some (.int .i64 ((j : Int) + 1)) := HK.out.cell rfl
      have d1 : W2.cell? ⟨wr.heap.size, 1, none⟩ = some (.string x) := HK.out.cell rfl
      have HM := Lib.hid hM
      clear e hx hb hzj hM
      cases hd : (x.toList == y.toList) with
      | true =>
        obtain ⟨W3, hW3⟩ : ∃ W3, W2.alloc (.cells #[.int .i64 ((j : Int) + 1)] 3) = W3 := ⟨_, rfl⟩
        have HB3 : Hid (Below w1.heap.size w1 W3) := Lib.hid (by rw [← hW3]; exact HB2.out.alloc HB2.out.size _)
        obtain ⟨ac, cc, rfl⟩ := hzj2.form
        have HZ3 : Hid (Wz w1.heap.size W3 (.slice ac M cc) gj 3 1 M ((Sh.pOf 0 (ms.take j) y).map (Value.int .i64))) := Lib.hid (by rw [← hW3]; exact hzj2.below ((Below.refl _ _).alloc (Nat.le_refl _) _))
        have HNEW : Hid (∀ t u, ([.int .i64 ((j : Int) + 1)] : List Value)[t]? = some u → W3.cell? ((⟨W2.heap.size, 0, none⟩ : Addr).add t) = some u) := Lib.hid (by rw [← hW3]; exact built_cells W2 _ _)
        have HP : Hid (Sh.pOf 0 (ms.take (j + 1)) y = Sh.pOf 0 (ms.take j) y ++ [((j : Int) + 1)]) := Lib.hid (by
          rw [HT.out, Sh.pOf_snoc, if_pos (by unfold Sh.eqB; exact hd), HTL.out]
          simp)
        have HM3 := Lib.hid hM3
        clear hzj2
        go_wp2_with (at_builtin; refine wp_add infoInt Tryz.underlying37 (by rfl) _ _ (by rfl) (by rfl) HZ3.out ⟨W2.heap.size, 0, none⟩ 1 [.int .i64 ((j : Int) + 1)] (by rfl) rfl HNEW.out (by simp [Value.oneCell']) HM3.out (by decide) HB3.out.size ?_)
        intro v' g' w' hz' hg' _
        have HZ' : Hid (Wz w1.heap.size w' v' g' 3 1 (Sh.pOf 0 (ms.take (j + 1)) y).length ((Sh.pOf 0 (ms.take (j + 1)) y).map (Value.int .i64))) := Lib.hid (by
          rw [HP.out, List.length_append, List.map_append, HM.out]
          exact hz')
        have HB' := Lib.hid (Below.appended HB3.out hg' HZ3.out.2 HB3.out.size)
        clear hz' hg'
        go_wp2_with fail
        go_roundw
        case rel => exact ⟨j + 1, g', by omega, by go_num, HB'.out, HZ'.out⟩
        case measure => simp [intOf]; omega
      | false =>
        have HP : Hid (Sh.pOf 0 (ms.take (j + 1)) y = Sh.pOf 0 (ms.take j) y) := Lib.hid (by
          rw [HT.out, Sh.pOf_snoc, if_neg (by unfold Sh.eqB; rw [hd]; decide)])
        have HZ2 : Hid (Wz w1.heap.size W2 u7 gj 3 1 (Sh.pOf 0 (ms.take (j + 1)) y).length ((Sh.pOf 0 (ms.take (j + 1)) y).map (Value.int .i64))) := Lib.hid (by rw [HP.out, HM.out]; exact hzj2)
        clear hzj2
        go_wp2_with fail
        go_roundw
        case rel => exact ⟨j + 1, gj, by omega, by go_num, HB2.out, HZ2.out⟩
        case measure => simp [intOf]; omega
    · have HZF : Hid (Wz w1.heap.size wr u7 gj 3 1 (Sh.pOf 0 ms y).length ((Sh.pOf 0 ms y).map (Value.int .i64))) := Lib.hid (by
        have e : ms.take j = ms := List.take_of_length_le (by rw [HN.out]; omega)
        rw [e] at hzj
        exact hzj)
      have HB := Lib.hid hb
      clear hzj hb
      go_wp2_with fail
      go_ret
      exact ⟨HB1.out.trans (HB.out.mono HB1.out.size), _, gj, rfl, HZF.out.mono HB1.out.size⟩
end Go.Proofs.YtjccfilbihkfpaaGreatDoor
