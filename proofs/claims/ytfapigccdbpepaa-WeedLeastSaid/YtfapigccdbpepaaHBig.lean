/- WHOLE NUMBERS FROM 2^53 ON, AS WORDS OF A DOUBLE: none is a part of a size. Nothing here knows the program. -/
import Derived.Test.YtfapigccdbpepaaHFloat
namespace Go.Proofs.Ytfapigccdbpepaa.Fl
open Ieee

theorem cut_ge (s : Bool) (n d : Nat) : n / 2 ^ d ≤ Toward.even.cut s n d := by
  unfold Toward.cut
  simp only [Nat.shiftLeft_eq, Nat.one_mul]
  have h : n / 2 ^ d ≤ n / 2 ^ min d (n.log2 + 2) := Nat.div_le_div_left (Nat.pow_le_pow_right (by decide) (Nat.min_le_left _ _)) (Nat.two_pow_pos _)
  omega
/-- The rung of a whole number of 2^53 or more. -/
theorem big_rung (neg : Bool) {mag : Nat} (h1 : 2 ^ 53 ≤ mag) : ∃ R, Ieee.double.nearest neg mag 0 = Ieee.double.word neg R ∧ 1076 * 2 ^ 52 ≤ R ∧ R ≤ (2 ^ 11 - 1) * 2 ^ 52 := by
  have hm : mag ≠ 0 := by intro e; rw [e] at h1; exact absurd h1 (by decide)
  have hL : 53 ≤ mag.log2 := (Nat.le_log2 hm).2 h1
  have hlow : 2 ^ mag.log2 ≤ mag := Nat.log2_self_le hm
  unfold Format.nearest
  rw [if_neg hm]
  have eb : Ieee.double.leastPlace = -1074 := by decide
  have ef : (Ieee.double.fractionBits : Int) = 52 := rfl
  have e1 : max ((0 : Int) + (mag.log2 : Nat) - (Ieee.double.fractionBits : Nat)) Ieee.double.leastPlace = (mag.log2 : Int) - 52 := by rw [eb, ef]; omega
  have hb : Ieee.double.binade = 2 ^ 52 := rfl
  have hi : Ieee.double.infRung = (2 ^ 11 - 1) * 2 ^ 52 := rfl
  simp only [e1]
  simp only [eb, hb, hi]
  have d1 : ((0 : Int) - ((mag.log2 : Int) - 52)).toNat = 0 := by omega
  have d2 : ((mag.log2 : Int) - 52 - 0).toNat = mag.log2 - 52 := by omega
  have d3 : ((mag.log2 : Int) - 52 - -1074).toNat = mag.log2 + 1022 := by omega
  rw [d1, d2, d3, Nat.shiftLeft_eq, Nat.pow_zero, Nat.mul_one]
  have hk : 2 ^ 52 ≤ Toward.even.cut neg mag (mag.log2 - 52) := by
    refine Nat.le_trans ?_ (cut_ge neg mag (mag.log2 - 52))
    rw [Nat.le_div_iff_mul_le (Nat.two_pow_pos _), ← Nat.pow_add, show 52 + (mag.log2 - 52) = mag.log2 by omega]
    exact hlow
  have hr : 1075 * 2 ^ 52 ≤ (mag.log2 + 1022) * 2 ^ 52 := Nat.mul_le_mul_right _ (by omega)
  refine ⟨_, rfl, ?_, Nat.min_le_right _ _⟩
  refine Nat.le_min.2 ⟨?_, by decide⟩
  omega
/-- What stands on such a rung is no part. -/
theorem high_no_part (neg : Bool) {R : Nat} (h1 : 1076 * 2 ^ 52 ≤ R) (h2 : R ≤ (2 ^ 11 - 1) * 2 ^ 52) : part (Ieee.double.word neg R) = none := by
  have hs : Ieee.double.signWeight = 2 ^ 63 := rfl
  have hb : Ieee.double.binade = 2 ^ 52 := rfl
  have hi : Ieee.double.infRung = (2 ^ 11 - 1) * 2 ^ 52 := rfl
  have hp : Ieee.double.leastPlace = -1074 := by decide
  have e1 : (Ieee.double.word neg R / Ieee.double.signWeight % 2 == 1) = neg := by
    unfold Format.word; rw [hs]
    cases neg
    · simp; omega
    · simp; omega
  have e2 : Ieee.double.word neg R % Ieee.double.signWeight = R := by
    unfold Format.word; rw [hs]
    cases neg
    · simp; omega
    · simp; omega
  have hread : Ieee.double.read (Ieee.double.word neg R) = if R < (2 ^ 11 - 1) * 2 ^ 52 then Datum.number neg (2 ^ 52 + R % 2 ^ 52) (((R / 2 ^ 52 - 1 : Nat) : Int) - 1074) else Datum.infinity neg := by
    unfold Format.read
    simp only [e1, e2, hb, hi, hp]
    rw [if_neg (by omega)]
    split
    · congr 1
    · rw [if_pos (by omega)]
  by_cases hlt : R < (2 ^ 11 - 1) * 2 ^ 52
  · rw [if_pos hlt] at hread
    obtain ⟨q, hq⟩ : ∃ q : Int, q = 2 ^ 1074 := ⟨_, rfl⟩
    have hq0 : 0 < q := by rw [hq]; exact pow_pos_int _
    obtain ⟨m, hm⟩ : ∃ m, 2 ^ 52 + R % 2 ^ 52 = m := ⟨_, rfl⟩
    obtain ⟨e, he⟩ : ∃ e, R / 2 ^ 52 - 1 = e := ⟨_, rfl⟩
    have hm0 : 2 ^ 52 ≤ m := by omega
    have he0 : 1074 ≤ e := by omega
    rw [hm, he] at hread
    have hU : U (Ieee.double.word neg R) (signed neg m e) := ⟨neg, m, e, hread, rfl⟩
    rw [part_U hq hU, if_neg]
    rintro ⟨h3, h4, -⟩
    have hse : signed neg m e = signed neg m (e - 1074) * q := by rw [hq, ← signed_mul]; congr 1; omega
    rw [hse] at h3 h4
    have h5 := Int.le_of_mul_le_mul_right h4 hq0
    have h6 : 0 ≤ signed neg m (e - 1074) := by
      rcases Int.lt_or_le (signed neg m (e - 1074)) 0 with h | h
      · have := Int.mul_neg_of_neg_of_pos h hq0
        omega
      · exact h
    have hpos : 2 ^ 52 ≤ m * 2 ^ (e - 1074) := Nat.le_trans hm0 (Nat.le_mul_of_pos_right _ (Nat.two_pow_pos _))
    unfold signed at h5 h6
    rw [Nat.shiftLeft_eq] at h5 h6
    generalize m * 2 ^ (e - 1074) = t at hpos h5 h6
    cases neg
    · simp only [Bool.false_eq_true, ↓reduceIte] at h5
      omega
    · simp only [↓reduceIte] at h6
      omega
  · rw [if_neg hlt] at hread
    exact part_inf hread
/-- Just the numbers from 0 to 2^40 are parts. -/
theorem ofInt_part {z : Int} (h0 : 0 ≤ z) (h1 : z ≤ 1099511627776) : part (floatOfInt .f64 z) = some z.toNat := is_part (ofInt_is (by omega)) h0 h1
theorem ofInt_no_part {z : Int} (h : z < 0 ∨ 1099511627776 < z) : part (floatOfInt .f64 z) = none := by
  by_cases hz : z.natAbs < 2 ^ 53
  · rcases h with h | h
    · exact is_no_part (ofInt_is hz) h
    · obtain ⟨q, hq⟩ : ∃ q : Int, q = 2 ^ 1074 := ⟨_, rfl⟩
      have hq0 : 0 < q := by rw [hq]; exact pow_pos_int _
      have h' : U (floatOfInt .f64 z) (z * q) := by rw [hq]; exact ofInt_is hz
      rw [part_U hq h', if_neg]
      rintro ⟨-, h4, -⟩
      have := Int.le_of_mul_le_mul_right h4 hq0
      omega
  · obtain ⟨R, hR, h1, h2⟩ := big_rung (decide (z < 0)) (mag := z.natAbs) (by omega)
    have : floatOfInt .f64 z = Ieee.double.nearest (decide (z < 0)) z.natAbs 0 := rfl
    rw [this, hR]
    exact high_no_part _ h1 h2
end Go.Proofs.Ytfapigccdbpepaa.Fl
