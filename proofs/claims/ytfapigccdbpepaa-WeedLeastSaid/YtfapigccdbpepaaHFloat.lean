/- WHOLE NUMBERS BELOW 2^53 AS WORDS OF A DOUBLE: their order, sum, difference, and how they go to an integer and back; which words are parts of a size. Nothing here knows the program. -/
import Derived.Laws.ComplexArith
namespace Go.Proofs.Ytfapigccdbpepaa.Fl
open Ieee

theorem pow_cast (k : Nat) : ((2 : Int) ^ k) = ((2 ^ k : Nat) : Int) := by simp
theorem zero_of {m a b n : Nat} (h : m * 2 ^ a = n * 2 ^ b) (h0 : n = 0) : m = 0 := by
  have := Nat.two_pow_pos a
  rw [h0, Nat.zero_mul] at h
  rcases Nat.mul_eq_zero.1 h with h | h
  · exact h
  · omega
theorem log2_mul_pow (n k : Nat) (h : n ≠ 0) : (n * 2 ^ k).log2 = n.log2 + k := by
  induction k with
  | zero => simp
  | succ k ih =>
    have h2 : n * 2 ^ (k + 1) = 2 * (n * 2 ^ k) := by rw [Nat.pow_succ, Nat.mul_comm 2, Nat.mul_assoc]
    have h3 : n * 2 ^ k ≠ 0 := Nat.mul_ne_zero h (Nat.ne_of_gt (Nat.two_pow_pos k))
    rw [h2, Nat.log2_two_mul h3, ih]; omega

theorem log2_eq {m k n q : Nat} (h : m * 2 ^ k = n * 2 ^ q) (hm : m ≠ 0) (h0 : n ≠ 0) : m.log2 + k = n.log2 + q := by
  have hk := congrArg Nat.log2 h
  rwa [log2_mul_pow _ _ hm, log2_mul_pow _ _ h0] at hk
theorem sgn_cast (neg : Bool) (n k : Nat) : (if neg then -((n * 2 ^ k : Nat) : Int) else ((n * 2 ^ k : Nat) : Int)) = (if neg then -(n : Int) else n) * 2 ^ k := by
  cases neg
  · simp
  · simp [Int.neg_mul]

/-- How many units of the least place a word of a double stands for. -/
def U (b : Nat) (u : Int) : Prop := ∃ s m, ∃ e : Nat, Ieee.double.read b = Datum.number s m ((e : Int) - 1074) ∧ signed s m e = u
/-- The whole number that it stands for. -/
def Is (b : Nat) (z : Int) : Prop := U b (z * 2 ^ 1074)

theorem signed_mul (s : Bool) (m a b : Nat) : signed s m (a + b) = signed s m a * 2 ^ b := by
  have e : ((2 : Int) ^ b) = ((2 ^ b : Nat) : Int) := by simp
  unfold signed
  simp only [Nat.shiftLeft_eq, Nat.pow_add, e]
  split
  · rw [Int.neg_mul]; push_cast; rw [Int.mul_assoc]
  · push_cast; rw [Int.mul_assoc]

theorem signed_zero (s : Bool) (e : Nat) : signed s 0 e = 0 := by
  unfold signed; cases s <;> simp
theorem pow_pos_int (k : Nat) : (0 : Int) < 2 ^ k := by
  have e : ((2 : Int) ^ k) = ((2 ^ k : Nat) : Int) := by simp
  rw [e]; exact Int.ofNat_lt.2 (Nat.two_pow_pos k)

theorem cmp_of {A B a b : Int} (h1 : A < B ↔ a < b) (h2 : A = B ↔ a = b) : compare A B = compare a b := by
  simp only [compare, compareOfLessAndEq, h1, h2]

theorem order_U {x y : Nat} {a b : Int} (hx : U x a) (hy : U y b) : Ieee.double.order x y = some (compare a b) := by
  obtain ⟨s, m, e, hr, hv⟩ := hx
  obtain ⟨t, n, g, hr', hv'⟩ := hy
  unfold Format.order
  rw [hr, hr']
  simp only [Datum.order]
  have p : (0 : Int) < 2 ^ (min e g) := pow_pos_int _
  have e1 : ((e : Int) - 1074 - min ((e : Int) - 1074) ((g : Int) - 1074)).toNat = e - min e g := by omega
  have e2 : ((g : Int) - 1074 - min ((e : Int) - 1074) ((g : Int) - 1074)).toNat = g - min e g := by omega
  rw [e1, e2]
  have f1 : signed s m (e - min e g) * 2 ^ (min e g) = a := by
    rw [← hv, ← signed_mul]; congr 1; omega
  have f2 : signed t n (g - min e g) * 2 ^ (min e g) = b := by
    rw [← hv', ← signed_mul]; congr 1; omega
  congr 1
  apply cmp_of
  · rw [← Int.mul_lt_mul_right p, f1, f2]
  · constructor
    · intro h; rw [h, f2] at f1; exact f1.symm
    · intro h; rw [h, ← f2] at f1; exact Int.eq_of_mul_eq_mul_right (Int.ne_of_gt p) f1

theorem cmp_mul {a b q : Int} (hq : 0 < q) : compare (a * q) (b * q) = compare a b :=
  cmp_of (Int.mul_lt_mul_right hq) ⟨fun h => Int.eq_of_mul_eq_mul_right (Int.ne_of_gt hq) h, fun h => by rw [h]⟩

theorem order_is {x y : Nat} {a b : Int} (hx : Is x a) (hy : Is y b) : Ieee.double.order x y = some (compare a b) := by
  rw [order_U hx hy, cmp_mul (pow_pos_int _)]

/-- The rung of a whole number. -/
def rung (n : Nat) : Nat := if n = 0 then 0 else (n.log2 + 1022) * 2 ^ 52 + n * 2 ^ (52 - n.log2)

theorem log2_le {n : Nat} (hn : n < 2 ^ 53) (h0 : n ≠ 0) : n.log2 ≤ 52 := by
  have : n.log2 < 53 := (Nat.log2_lt h0).2 hn
  omega

theorem mant {n : Nat} (hn : n < 2 ^ 53) (h0 : n ≠ 0) : 2 ^ 52 ≤ n * 2 ^ (52 - n.log2) ∧ n * 2 ^ (52 - n.log2) < 2 ^ 53 := by
  have hl := log2_le hn h0
  have h1 : 2 ^ n.log2 ≤ n := Nat.log2_self_le h0
  have h2 : n < 2 ^ (n.log2 + 1) := Nat.lt_log2_self
  have p : 0 < 2 ^ (52 - n.log2) := Nat.two_pow_pos _
  constructor
  · calc 2 ^ 52 = 2 ^ n.log2 * 2 ^ (52 - n.log2) := by rw [← Nat.pow_add]; congr 1; omega
      _ ≤ _ := Nat.mul_le_mul_right _ h1
  · calc _ < 2 ^ (n.log2 + 1) * 2 ^ (52 - n.log2) := Nat.mul_lt_mul_of_pos_right h2 p
      _ = 2 ^ 53 := by rw [← Nat.pow_add]; congr 1; omega

theorem cut_whole (s : Bool) (k d : Nat) (w : Toward) : w.cut s (k * 2 ^ d) d = k := by
  unfold Toward.cut
  by_cases h : k = 0
  · subst h
    simp only [Nat.zero_mul, Nat.zero_div, Nat.zero_mod]
    have : 0 < 1 <<< min d (Nat.log2 0 + 2) := by rw [Nat.shiftLeft_eq]; exact Nat.mul_pos (by decide) (Nat.two_pow_pos _)
    cases w <;> simp <;> omega
  · have hm : min d ((k * 2 ^ d).log2 + 2) = d := by rw [log2_mul_pow k d h]; omega
    simp only [hm, Nat.shiftLeft_eq, Nat.one_mul]
    have p : 0 < 2 ^ d := Nat.two_pow_pos _
    rw [Nat.mul_div_cancel _ p, Nat.mul_mod_left]
    have q : ¬ 2 ^ d < 2 * 0 := by omega
    cases w <;> simp <;> omega

theorem small_rung {l m : Nat} (hl : l ≤ 52) (hm : m < 2 ^ 53) : (l + 1022) * 2 ^ 52 + m ≤ (2 ^ 11 - 1) * 2 ^ 52 := by
  omega

theorem up_whole {m z e q : Nat} (ha : m * 2 ^ e = z * 2 ^ q) (hc : q ≤ e) : m * 2 ^ (e - q) = z := by
  apply Nat.eq_of_mul_eq_mul_right (Nat.two_pow_pos q)
  rw [← ha, Nat.mul_assoc, ← Nat.pow_add]; congr 2; omega

theorem down_whole {m z e q : Nat} (ha : m * 2 ^ e = z * 2 ^ q) (hc : e ≤ q) : m = z * 2 ^ (q - e) := by
  apply Nat.eq_of_mul_eq_mul_right (Nat.two_pow_pos e)
  rw [ha, Nat.mul_assoc, ← Nat.pow_add]; congr 2; omega

theorem nearest_is (neg : Bool) (mag k n : Nat) (h : mag * 2 ^ k = n * 2 ^ 1074) (hn : n < 2 ^ 53) : Ieee.double.nearest neg mag ((k : Int) - 1074) = Ieee.double.word neg (rung n) := by
  have p := Nat.two_pow_pos k
  have q := Nat.two_pow_pos 1074
  unfold Format.nearest rung
  by_cases h0 : n = 0
  · have : mag = 0 := zero_of h h0
    simp [this, h0]
  · have hm : mag ≠ 0 := fun hm => h0 (zero_of h.symm hm)
    rw [if_neg hm, if_neg h0]
    have hl := log2_le hn h0
    have hk := log2_eq h hm h0
    have eb : Ieee.double.leastPlace = -1074 := by decide
    have ef : (Ieee.double.fractionBits : Int) = 52 := rfl
    have e1 : max ((k : Int) - 1074 + (mag.log2 : Nat) - (Ieee.double.fractionBits : Nat)) Ieee.double.leastPlace = (n.log2 : Int) - 52 := by rw [eb, ef]; omega
    simp only [e1]
    simp only [eb]
    have e2 : ((n.log2 : Int) - 52 - -1074).toNat = n.log2 + 1022 := by omega
    have hb : Ieee.double.binade = 2 ^ 52 := rfl
    have hi : Ieee.double.infRung = (2 ^ 11 - 1) * 2 ^ 52 := rfl
    have hmant := mant hn h0
    have kept : Toward.even.cut neg (mag <<< ((k : Int) - 1074 - ((n.log2 : Int) - 52)).toNat) ((n.log2 : Int) - 52 - ((k : Int) - 1074)).toNat = n * 2 ^ (52 - n.log2) := by
      by_cases hc : 1074 + n.log2 ≤ k + 52
      · have d1 : ((k : Int) - 1074 - ((n.log2 : Int) - 52)).toNat = k + 52 - 1074 - n.log2 := by omega
        have d2 : ((n.log2 : Int) - 52 - ((k : Int) - 1074)).toNat = 0 := by omega
        rw [d1, d2, Nat.shiftLeft_eq]
        have := cut_whole neg (mag * 2 ^ (k + 52 - 1074 - n.log2)) 0 .even
        rw [Nat.pow_zero, Nat.mul_one] at this
        rw [this]
        have r : 0 < 2 ^ (1022 + n.log2) := Nat.two_pow_pos _
        apply Nat.eq_of_mul_eq_mul_right r
        rw [Nat.mul_assoc, Nat.mul_assoc, ← Nat.pow_add, ← Nat.pow_add]
        have a1 : k + 52 - 1074 - n.log2 + (1022 + n.log2) = k := by omega
        have a2 : 52 - n.log2 + (1022 + n.log2) = 1074 := by omega
        rw [a1, a2, h]
      · have d1 : ((k : Int) - 1074 - ((n.log2 : Int) - 52)).toNat = 0 := by omega
        have d2 : ((n.log2 : Int) - 52 - ((k : Int) - 1074)).toNat = n.log2 + 1022 - k := by omega
        rw [d1, d2, Nat.shiftLeft_eq, Nat.pow_zero, Nat.mul_one]
        have e3 : mag = n * 2 ^ (52 - n.log2) * 2 ^ (n.log2 + 1022 - k) := by
          apply Nat.eq_of_mul_eq_mul_right p
          rw [h, Nat.mul_assoc, Nat.mul_assoc, ← Nat.pow_add, ← Nat.pow_add]
          congr 2; omega
        rw [e3]; exact cut_whole ..
    rw [kept, e2, hb, hi]
    rw [Nat.min_eq_left (small_rung hl hmant.2)]

theorem read_word (neg : Bool) {n : Nat} (hn : n < 2 ^ 53) : Is (Ieee.double.word neg (rung n)) (if neg then -(n : Int) else n) := by
  have hs : Ieee.double.signWeight = 2 ^ 63 := rfl
  have hb : Ieee.double.binade = 2 ^ 52 := rfl
  have hi : Ieee.double.infRung = (2 ^ 11 - 1) * 2 ^ 52 := rfl
  have hp : Ieee.double.leastPlace = -1074 := by decide
  have hr : rung n < (2 ^ 11 - 1) * 2 ^ 52 := by
    unfold rung
    split
    · decide
    · rename_i h0
      have hl := log2_le hn h0
      have hmant := mant hn h0
      have : (n.log2 + 1022) * 2 ^ 52 ≤ (52 + 1022) * 2 ^ 52 := Nat.mul_le_mul_right _ (by omega)
      omega
  have h1 : (Ieee.double.word neg (rung n) / Ieee.double.signWeight % 2 == 1) = neg := by
    unfold Format.word; rw [hs]
    cases neg
    · simp; omega
    · simp; omega
  have h2 : Ieee.double.word neg (rung n) % Ieee.double.signWeight = rung n := by
    unfold Format.word; rw [hs]
    cases neg
    · simp; omega
    · simp; omega
  unfold Is U Format.read
  simp only [h1, h2, hb, hi, hp]
  by_cases h0 : n = 0
  · subst h0
    have : rung 0 = 0 := rfl
    rw [this]
    refine ⟨neg, 0, 0, by simp, ?_⟩
    rw [signed_zero]
    cases neg
    · exact (Int.zero_mul _).symm
    · exact (Int.zero_mul _).symm
  · have hl := log2_le hn h0
    have hmant := mant hn h0
    have er : rung n = (n.log2 + 1022) * 2 ^ 52 + n * 2 ^ (52 - n.log2) := by unfold rung; rw [if_neg h0]
    have g1 : ¬ rung n < 2 ^ 52 := by omega
    have g2 : rung n / 2 ^ 52 = n.log2 + 1023 := by omega
    have g3 : 2 ^ 52 + rung n % 2 ^ 52 = n * 2 ^ (52 - n.log2) := by omega
    rw [if_neg g1, if_pos hr, g2, g3]
    refine ⟨neg, n * 2 ^ (52 - n.log2), n.log2 + 1022, ?_, ?_⟩
    · congr 1
    · unfold signed
      rw [Nat.shiftLeft_eq, Nat.mul_assoc, ← Nat.pow_add]
      have : 52 - n.log2 + (n.log2 + 1022) = 1074 := by omega
      rw [this]
      exact sgn_cast neg n 1074

theorem signed_abs {s : Bool} {m e : Nat} {z : Int} (h : signed s m e = z * 2 ^ 1074) : m * 2 ^ e = z.natAbs * 2 ^ 1074 := by
  have := congrArg Int.natAbs h
  unfold signed at this
  rw [Int.natAbs_mul, Nat.shiftLeft_eq] at this
  have e2 : Int.natAbs ((2 : Int) ^ 1074) = 2 ^ 1074 := by rw [pow_cast, Int.natAbs_natCast]
  rw [e2] at this
  cases s
  · simp only [Bool.false_eq_true, ↓reduceIte, Int.natAbs_natCast] at this; exact this
  · simp only [↓reduceIte, Int.natAbs_neg, Int.natAbs_natCast] at this; exact this

/-- Written, a whole number below 2^53 stands for itself. -/
theorem write_is {neg : Bool} {mag k : Nat} {z : Int} (h : mag * 2 ^ k = z.natAbs * 2 ^ 1074) (hz : z.natAbs < 2 ^ 53) (hneg : z ≠ 0 → (neg = true ↔ z < 0)) : Is (Ieee.double.write (Datum.number neg mag ((k : Int) - 1074))) z := by
  have h1 : Ieee.double.write (Datum.number neg mag ((k : Int) - 1074)) = Ieee.double.word neg (rung z.natAbs) := nearest_is neg mag k _ h hz
  rw [h1]
  have := read_word neg hz
  by_cases h0 : z = 0
  · subst h0
    cases neg <;> simpa using this
  · have h3 := hneg h0
    cases neg
    · have : ¬ z < 0 := by simpa using h3
      have e : ((z.natAbs : Nat) : Int) = z := by omega
      simpa [e] using read_word false hz
    · have : z < 0 := by simpa using h3
      have e : -((z.natAbs : Nat) : Int) = z := by omega
      simpa [e] using read_word true hz

theorem sum_is {s t : Bool} {m n e g : Nat} {a b : Int} (h : signed s m e = a * 2 ^ 1074) (h' : signed t n g = b * 2 ^ 1074) (hb : (a + b).natAbs < 2 ^ 53) : ∃ r, ((Datum.number s m ((e : Int) - 1074)).sum (Datum.number t n ((g : Int) - 1074))).map Ieee.double.write = some r ∧ Is r (a + b) := by
  refine ⟨_, rfl, ?_⟩
  have e0 : min ((e : Int) - 1074) ((g : Int) - 1074) = ((min e g : Nat) : Int) - 1074 := by omega
  have e1 : ((e : Int) - 1074 - (((min e g : Nat) : Int) - 1074)).toNat = e - min e g := by omega
  have e2 : ((g : Int) - 1074 - (((min e g : Nat) : Int) - 1074)).toNat = g - min e g := by omega
  simp only [e0, e1, e2]
  have p : (0 : Int) < 2 ^ (min e g) := pow_pos_int _
  have q : (0 : Int) < 2 ^ 1074 := pow_pos_int _
  have f1 : signed s m (e - min e g) * 2 ^ (min e g) = a * 2 ^ 1074 := by
    rw [← h, ← signed_mul]; congr 1; omega
  have f2 : signed t n (g - min e g) * 2 ^ (min e g) = b * 2 ^ 1074 := by
    rw [← h', ← signed_mul]; congr 1; omega
  have f3 : (signed s m (e - min e g) + signed t n (g - min e g)) * 2 ^ (min e g) = (a + b) * 2 ^ 1074 := by
    rw [Int.add_mul, f1, f2, Int.add_mul]
  generalize signed s m (e - min e g) + signed t n (g - min e g) = T at f3
  have hT : T = 0 ↔ a + b = 0 := by
    constructor
    · intro hT; rw [hT, Int.zero_mul] at f3
      rcases Int.mul_eq_zero.1 f3.symm with h | h
      · exact h
      · omega
    · intro hT; rw [hT, Int.zero_mul] at f3
      rcases Int.mul_eq_zero.1 f3 with h | h
      · exact h
      · omega
  have hT' : T < 0 ↔ a + b < 0 := by
    have := Int.mul_lt_mul_right (a := 2 ^ (min e g)) (b := T) (c := 0) p
    rw [← this, Int.zero_mul, f3]
    have := Int.mul_lt_mul_right (a := 2 ^ 1074) (b := a + b) (c := 0) q
    rw [Int.zero_mul] at this; exact this
  refine write_is (z := a + b) ?_ hb ?_
  · have := congrArg Int.natAbs f3
    rw [Int.natAbs_mul, Int.natAbs_mul] at this
    have e3 : ∀ k : Nat, Int.natAbs ((2 : Int) ^ k) = 2 ^ k := fun k => by rw [show ((2 : Int) ^ k) = ((2 ^ k : Nat) : Int) by simp, Int.natAbs_natCast]
    rw [e3, e3] at this; exact this
  · intro hz
    have : ¬ T = 0 := fun h => hz (hT.1 h)
    rw [if_neg this]
    simp [hT']

theorem add_is {x y : Nat} {a b : Int} (hx : Is x a) (hy : Is y b) (hb : (a + b).natAbs < 2 ^ 53) : ∃ r, Ieee.double.add x y = some r ∧ Is r (a + b) := by
  obtain ⟨s, m, e, hr, hv⟩ := hx
  obtain ⟨t, n, g, hr', hv'⟩ := hy
  unfold Format.add
  rw [hr, hr']
  exact sum_is hv hv' hb

theorem sub_is {x y : Nat} {a b : Int} (hx : Is x a) (hy : Is y b) (hb : (a - b).natAbs < 2 ^ 53) : ∃ r, Ieee.double.sub x y = some r ∧ Is r (a - b) := by
  obtain ⟨s, m, e, hr, hv⟩ := hx
  obtain ⟨t, n, g, hr', hv'⟩ := hy
  unfold Format.sub
  rw [hr, hr']
  have h2 : signed (!t) n g = (-b) * 2 ^ 1074 := by
    rw [Int.neg_mul, ← hv']; unfold signed
    cases t <;> simp
  exact sum_is hv h2 (b := -b) (by rw [← Int.sub_eq_add_neg]; exact hb)

theorem ofInt_is {z : Int} (hz : z.natAbs < 2 ^ 53) : Is (floatOfInt .f64 z) z := by
  have := write_is (neg := decide (z < 0)) (mag := z.natAbs) (k := 1074) (z := z) rfl hz (by simp)
  exact this

theorem toInt_is {b : Nat} {z : Int} (h : Is b z) : (Ieee.double.read b).toInt .zero = some z := by
  obtain ⟨s, m, e, hr, hv⟩ := h
  rw [hr]
  simp only [Datum.toInt, Datum.integral]
  have ha := signed_abs hv
  have q : (0 : Int) < 2 ^ 1074 := pow_pos_int _
  have key : Toward.zero.cut s (m <<< ((e : Int) - 1074).toNat) (-((e : Int) - 1074)).toNat = z.natAbs := by
    by_cases hc : 1074 ≤ e
    · have d1 : ((e : Int) - 1074).toNat = e - 1074 := by omega
      have d2 : (-((e : Int) - 1074)).toNat = 0 := by omega
      rw [d1, d2, Nat.shiftLeft_eq]
      have := cut_whole s (m * 2 ^ (e - 1074)) 0 .zero
      rw [Nat.pow_zero, Nat.mul_one] at this
      rw [this]
      exact up_whole ha hc
    · have d1 : ((e : Int) - 1074).toNat = 0 := by omega
      have d2 : (-((e : Int) - 1074)).toNat = 1074 - e := by omega
      rw [d1, d2, Nat.shiftLeft_eq, Nat.pow_zero, Nat.mul_one]
      have : m = z.natAbs * 2 ^ (1074 - e) := down_whole ha (by omega)
      rw [this]; exact cut_whole ..
  rw [key]
  congr 1
  have hs : signed s m e = signed s m 0 * 2 ^ e := by rw [← signed_mul]; congr 1; omega
  have hsg : (signed s z.natAbs 0) * 2 ^ 1074 = z * 2 ^ 1074 := by
    rw [← hv]; unfold signed
    rw [Nat.shiftLeft_eq, Nat.shiftLeft_eq, ha, Nat.pow_zero, Nat.mul_one]
    exact (sgn_cast s z.natAbs 1074).symm
  exact Int.eq_of_mul_eq_mul_right (Int.ne_of_gt q) hsg

theorem toIntVal_is {b : Nat} {z : Int} (h : Is b z) (hz : z.natAbs < 2 ^ 63) : floatToIntVal .f64 b .i64 = some z := by
  unfold floatToIntVal
  have : (FloatKind.f64.decode b).toInt .zero = some z := toInt_is h
  rw [this]
  have h1 : IntKind.i64.min = -2 ^ 63 := by decide
  have h2 : IntKind.i64.max = 2 ^ 63 - 1 := by decide
  simp only [h1, h2]
  rw [if_pos]; omega

theorem read_kind (x : Nat) : (∃ u, U x u) ∨ (∃ s, Ieee.double.read x = Datum.infinity s) ∨ (∃ s t, Ieee.double.read x = Datum.nan s t) := by
  have hp : Ieee.double.leastPlace = -1074 := by decide
  unfold U Format.read
  simp only [hp]
  split
  · exact .inl ⟨_, _, _, 0, rfl, rfl⟩
  · split
    · exact .inl ⟨_, x / Ieee.double.signWeight % 2 == 1, Ieee.double.binade + x % Ieee.double.signWeight % Ieee.double.binade, x % Ieee.double.signWeight / Ieee.double.binade - 1, congrArg (Datum.number _ _) (by omega), rfl⟩
    · split
      · exact .inr (.inl ⟨_, rfl⟩)
      · exact .inr (.inr ⟨_, _, rfl⟩)

theorem cut_zero (s : Bool) (n d : Nat) : Toward.zero.cut s n d = n / 2 ^ d := by
  unfold Toward.cut
  simp only [Nat.shiftLeft_eq, Nat.one_mul, Bool.toNat_false, Nat.add_zero]
  by_cases h : d ≤ n.log2 + 2
  · rw [Nat.min_eq_left h]
  · rw [Nat.min_eq_right (by omega)]
    have h1 : n < 2 ^ (n.log2 + 2) := Nat.lt_of_lt_of_le Nat.lt_log2_self (Nat.pow_le_pow_right (by decide) (by omega))
    have h2 : n < 2 ^ d := Nat.lt_of_lt_of_le h1 (Nat.pow_le_pow_right (by decide) (by omega))
    rw [Nat.div_eq_of_lt h1, Nat.div_eq_of_lt h2]

theorem div_shift {m e q : Nat} : (if q ≤ e then m * 2 ^ (e - q) else m / 2 ^ (q - e)) = m * 2 ^ e / 2 ^ q := by
  split
  · rename_i h
    have : m * 2 ^ e = m * 2 ^ (e - q) * 2 ^ q := by rw [Nat.mul_assoc, ← Nat.pow_add]; congr 2; omega
    rw [this, Nat.mul_div_cancel _ (Nat.two_pow_pos q)]
  · rename_i h
    have : 2 ^ q = 2 ^ (q - e) * 2 ^ e := by rw [← Nat.pow_add]; congr 1; omega
    rw [this, Nat.mul_div_mul_right _ _ (Nat.two_pow_pos e)]

theorem integral_zero (s : Bool) (m e : Nat) : (Datum.number s m ((e : Int) - 1074)).integral .zero = Datum.number s (m * 2 ^ e / 2 ^ 1074) 0 := by
  simp only [Datum.integral, cut_zero]
  congr 1
  rw [← div_shift (m := m) (e := e) (q := 1074), Nat.shiftLeft_eq]
  by_cases h : 1074 ≤ e
  · have d1 : ((e : Int) - 1074).toNat = e - 1074 := by omega
    have d2 : (-((e : Int) - 1074)).toNat = 0 := by omega
    rw [d1, d2, if_pos h, Nat.pow_zero, Nat.div_one]
  · have d1 : ((e : Int) - 1074).toNat = 0 := by omega
    have d2 : (-((e : Int) - 1074)).toNat = 1074 - e := by omega
    rw [d1, d2, if_neg h, Nat.pow_zero, Nat.mul_one]

/-- Cut towards zero. -/
def tr (x : Nat) : Nat := Ieee.double.write ((Ieee.double.read x).integral .zero)

theorem nonneg_sign {s : Bool} {m e : Nat} {u : Int} (h : signed s m e = u) (h0 : 0 ≤ u) : ((m * 2 ^ e : Nat) : Int) = u ∧ (u ≠ 0 → s = false) := by
  unfold signed at h
  rw [Nat.shiftLeft_eq] at h
  cases s
  · simp only [Bool.false_eq_true, ↓reduceIte] at h; exact ⟨h, fun _ => rfl⟩
  · simp only [↓reduceIte] at h
    exact ⟨by omega, fun hu => by omega⟩

theorem tr_is {x : Nat} {u q : Int} (hq : q = 2 ^ 1074) (h : U x u) (h0 : 0 ≤ u) (hb : u / q < 2 ^ 53) : Is (tr x) (u / q) := by
  obtain ⟨s, m, e, hr, hv⟩ := h
  obtain ⟨h1, h2⟩ := nonneg_sign hv h0
  unfold tr
  rw [hr, integral_zero]
  have e1 : ((m * 2 ^ e / 2 ^ 1074 : Nat) : Int) = u / q := by
    rw [Int.natCast_ediv, h1, hq, pow_cast]
  have hq0 : 0 < q := by rw [hq]; exact pow_pos_int _
  have h3 : 0 ≤ u / q := Int.ediv_nonneg h0 (Int.le_of_lt hq0)
  have := write_is (neg := s) (mag := m * 2 ^ e / 2 ^ 1074) (k := 1074) (z := u / q) (by congr 1; omega) (by omega) (fun hz => by
    have hu : u ≠ 0 := fun hu => hz (by rw [hu, Int.zero_ediv])
    rw [h2 hu]; constructor
    · intro h; cases h
    · intro h; omega)
  exact this

theorem toInt_U {x : Nat} {u q : Int} (hq : q = 2 ^ 1074) (h : U x u) (h0 : 0 ≤ u) : (Ieee.double.read x).toInt .zero = some (u / q) := by
  obtain ⟨s, m, e, hr, hv⟩ := h
  obtain ⟨h1, h2⟩ := nonneg_sign hv h0
  rw [hr]
  unfold Datum.toInt
  rw [integral_zero]
  have e1 : ((m * 2 ^ e / 2 ^ 1074 : Nat) : Int) = u / q := by
    rw [Int.natCast_ediv, h1, hq, pow_cast]
  simp only
  congr 1
  unfold signed
  rw [Nat.shiftLeft_eq, Nat.pow_zero, Nat.mul_one, e1]
  cases s
  · simp
  · simp only [↓reduceIte]
    by_cases hu : u = 0
    · rw [hu, Int.zero_ediv]; rfl
    · exact absurd (h2 hu) (by decide)

/-- The part that a word is, if it is one. -/
def part (x : Nat) : Option Nat :=
  match Ieee.double.read x with
  | .number s m p => if 0 ≤ signed s m (p + 1074).toNat ∧ signed s m (p + 1074).toNat ≤ 2 ^ 40 * 2 ^ 1074 ∧ signed s m (p + 1074).toNat % 2 ^ 1074 = 0 then some (signed s m (p + 1074).toNat / 2 ^ 1074).toNat else none
  | _ => none

theorem part_U {x : Nat} {u q : Int} (hq : q = 2 ^ 1074) (h : U x u) : part x = if 0 ≤ u ∧ u ≤ 2 ^ 40 * q ∧ u % q = 0 then some (u / q).toNat else none := by
  obtain ⟨s, m, e, hr, hv⟩ := h
  unfold part
  rw [hr]
  have : (((e : Int) - 1074) + 1074).toNat = e := by omega
  simp only [this, hv, ← hq]
theorem part_inf {x : Nat} {s : Bool} (h : Ieee.double.read x = Datum.infinity s) : part x = none := by unfold part; rw [h]
theorem part_nan {x : Nat} {s : Bool} {t : Nat} (h : Ieee.double.read x = Datum.nan s t) : part x = none := by unfold part; rw [h]

theorem is_part {x : Nat} {z : Int} (h : Is x z) (h0 : 0 ≤ z) (h1 : z ≤ 1099511627776) : part x = some z.toNat := by
  obtain ⟨q, hq⟩ : ∃ q : Int, q = 2 ^ 1074 := ⟨_, rfl⟩
  have hq0 : 0 < q := by rw [hq]; exact pow_pos_int _
  have h' : U x (z * q) := by rw [hq]; exact h
  rw [part_U hq h', if_pos ⟨Int.mul_nonneg h0 (Int.le_of_lt hq0), Int.mul_le_mul_of_nonneg_right h1 (Int.le_of_lt hq0), Int.mul_emod_left _ _⟩, Int.mul_ediv_cancel _ (Int.ne_of_gt hq0)]
theorem is_no_part {x : Nat} {z : Int} (h : Is x z) (h0 : z < 0) : part x = none := by
  obtain ⟨q, hq⟩ : ∃ q : Int, q = 2 ^ 1074 := ⟨_, rfl⟩
  have hq0 : 0 < q := by rw [hq]; exact pow_pos_int _
  have h' : U x (z * q) := by rw [hq]; exact h
  rw [part_U hq h', if_neg]
  rintro ⟨h2, -⟩
  have := Int.mul_neg_of_neg_of_pos h0 hq0
  omega
theorem part_is {x n : Nat} (h : part x = some n) : Is x n ∧ n ≤ 1099511627776 := by
  obtain ⟨q, hq⟩ : ∃ q : Int, q = 2 ^ 1074 := ⟨_, rfl⟩
  have hq0 : 0 < q := by rw [hq]; exact pow_pos_int _
  rcases read_kind x with ⟨u, hu⟩ | ⟨s, hs⟩ | ⟨s, t, hs⟩
  · rw [part_U hq hu] at h
    split at h
    · rename_i hc
      obtain ⟨c0, c1, c2⟩ := hc
      have h3 : 0 ≤ u / q := Int.ediv_nonneg c0 (Int.le_of_lt hq0)
      have hn : (n : Int) = u / q := by have := Option.some.inj h; omega
      have hu' : u = n * q := by rw [hn]; exact (Int.ediv_mul_cancel (Int.dvd_of_emod_eq_zero c2)).symm
      refine ⟨?_, ?_⟩
      · unfold Is; rw [← hq, ← hu']; exact hu
      · rw [hu'] at c1
        have := Int.le_of_mul_le_mul_right c1 hq0
        omega
    · cases h
  · rw [part_inf hs] at h; cases h
  · rw [part_nan hs] at h; cases h
end Go.Proofs.Ytfapigccdbpepaa.Fl
