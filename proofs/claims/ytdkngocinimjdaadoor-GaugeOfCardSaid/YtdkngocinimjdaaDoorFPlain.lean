/- PLAIN MATHEMATICS OF THE CHECK: the register's step, its sum over bytes, that it is linear and loses nothing. Nothing here knows the program. -/
namespace Go.Proofs.YtdkngocinimjdaaDoor.Fr.Pl

def P : BitVec 32 := 0xedb88320#32
/-- One bit's step. -/
def sh (r : BitVec 32) : BitVec 32 := if r.getLsbD 0 then (r >>> 1) ^^^ P else r >>> 1
def shn : Nat → BitVec 32 → BitVec 32
  | 0, r => r
  | n + 1, r => shn n (sh r)
def word8 (b : UInt8) : BitVec 32 := BitVec.ofNat 32 b.toNat
def byS (r : BitVec 32) (b : UInt8) : BitVec 32 := shn 8 (r ^^^ word8 b)
def regs (l : List UInt8) (r : BitVec 32) : BitVec 32 := l.foldl byS r
def sum (l : List UInt8) : BitVec 32 := ~~~ (regs l (BitVec.allOnes 32))

theorem sh_xor (a b : BitVec 32) : sh (a ^^^ b) = sh a ^^^ sh b := by
  unfold sh
  rw [BitVec.getLsbD_xor, BitVec.ushiftRight_xor_distrib]
  cases a.getLsbD 0 <;> cases b.getLsbD 0 <;> simp
  · rw [BitVec.xor_assoc]
  · rw [BitVec.xor_assoc, BitVec.xor_assoc, BitVec.xor_comm P]
  · rw [BitVec.xor_assoc, BitVec.xor_comm P, BitVec.xor_assoc, BitVec.xor_self, BitVec.xor_zero]
theorem lsb_nat (r : BitVec 32) : r.getLsbD 0 = decide (r.toNat % 2 = 1) := by
  rw [BitVec.getLsbD, Nat.testBit_zero]
theorem sh_zero (r : BitVec 32) (h : sh r = 0#32) : r = 0#32 := by
  unfold sh at h
  rw [lsb_nat] at h
  have hr := r.isLt
  apply BitVec.eq_of_toNat_eq
  by_cases h1 : r.toNat % 2 = 1
  · simp only [h1, decide_true, if_true] at h
    have h2 := BitVec.xor_eq_zero_iff.1 h
    have h3 := congrArg BitVec.toNat h2
    rw [BitVec.toNat_ushiftRight, Nat.shiftRight_eq_div_pow] at h3
    have hP : P.toNat = 3988292384 := rfl
    omega
  · simp only [h1, decide_false] at h
    have h3 := congrArg BitVec.toNat h
    simp only [Bool.false_eq_true, if_false] at h3
    rw [BitVec.toNat_ushiftRight, Nat.shiftRight_eq_div_pow] at h3
    have hP : (0#32).toNat = 0 := rfl
    omega
theorem xor_zero_eq {a b : BitVec 32} (h : a ^^^ b = 0#32) : a = b := BitVec.xor_eq_zero_iff.1 h
theorem sh_inj {a b : BitVec 32} (h : sh a = sh b) : a = b := by
  apply xor_zero_eq
  apply sh_zero
  rw [sh_xor, h, BitVec.xor_self]
theorem shn_xor (n : Nat) (a b : BitVec 32) : shn n (a ^^^ b) = shn n a ^^^ shn n b := by
  induction n generalizing a b with
  | zero => rfl
  | succ n ih => simp only [shn, sh_xor, ih]
theorem shn_inj {n : Nat} {a b : BitVec 32} (h : shn n a = shn n b) : a = b := by
  induction n generalizing a b with
  | zero => exact h
  | succ n ih => exact sh_inj (ih h)
theorem shn_succ (n : Nat) (a : BitVec 32) : shn (n + 1) a = sh (shn n a) := by
  induction n generalizing a with
  | zero => rfl
  | succ n ih => rw [shn, ih]; rfl
theorem shn_add (m n : Nat) (a : BitVec 32) : shn (m + n) a = shn n (shn m a) := by
  induction m generalizing a with
  | zero => rw [Nat.zero_add]; rfl
  | succ m ih => rw [Nat.succ_add]; simp only [shn]; exact ih _
/-- What has no bit at its low end is only moved. -/
theorem sh_even (z : Nat) (h : 2 * z < 2 ^ 32) : sh (BitVec.ofNat 32 (2 * z)) = BitVec.ofNat 32 z := by
  unfold sh
  rw [lsb_nat]
  have e : (BitVec.ofNat 32 (2 * z)).toNat = 2 * z := by rw [BitVec.toNat_ofNat]; exact Nat.mod_eq_of_lt h
  rw [e]
  have : ¬ (2 * z % 2 = 1) := by omega
  simp only [this, decide_false, Bool.false_eq_true, if_false]
  apply BitVec.eq_of_toNat_eq
  rw [BitVec.toNat_ushiftRight, e, Nat.shiftRight_eq_div_pow, BitVec.toNat_ofNat, Nat.mod_eq_of_lt (by omega)]
  omega
theorem shn_up (n z : Nat) (h : 2 ^ n * z < 2 ^ 32) : shn n (BitVec.ofNat 32 (2 ^ n * z)) = BitVec.ofNat 32 z := by
  induction n generalizing z with
  | zero => simp [shn]
  | succ n ih =>
    have e : 2 ^ (n + 1) * z = 2 * (2 ^ n * z) := by rw [Nat.pow_succ, Nat.mul_comm (2 ^ n) 2, Nat.mul_assoc]
    rw [e] at h ⊢
    rw [shn, sh_even _ h]
    exact ih z (by omega)

/-- Four bytes as a number, the lowest first. -/
def num (a b c d : Nat) : Nat := a + 256 * b + 65536 * c + 16777216 * d
theorem ofNat_add_xor (a z : Nat) (ha : a < 256) : BitVec.ofNat 32 (a + 256 * z) = BitVec.ofNat 32 a ^^^ BitVec.ofNat 32 (256 * z) := by
  apply BitVec.eq_of_toNat_eq
  rw [BitVec.toNat_xor, BitVec.toNat_ofNat, BitVec.toNat_ofNat, BitVec.toNat_ofNat, ← Nat.xor_mod_two_pow]
  congr 1
  apply Nat.eq_of_testBit_eq
  intro i
  rw [Nat.testBit_xor, show a + 256 * z = 2 ^ 8 * z + a by omega, Nat.testBit_two_pow_mul_add z (show a < 2 ^ 8 from ha), show 256 * z = 2 ^ 8 * z from rfl, Nat.testBit_two_pow_mul]
  by_cases h : i < 8
  · have h2 : ¬ 8 ≤ i := by omega
    simp [h, h2]
  · have h2 : 8 ≤ i := by omega
    have h3 : a.testBit i = false := Nat.testBit_lt_two_pow (Nat.lt_of_lt_of_le (show a < 2 ^ 8 from ha) (Nat.pow_le_pow_right (by omega) h2))
    simp [h, h2, h3]
theorem byS_num (r : BitVec 32) (b : UInt8) (z : Nat) (h : 256 * z < 2 ^ 32) : shn 8 (r ^^^ BitVec.ofNat 32 (b.toNat + 256 * z)) = byS r b ^^^ BitVec.ofNat 32 z := by
  have hb : b.toNat < 256 := b.toNat_lt
  rw [ofNat_add_xor _ _ hb, ← BitVec.xor_assoc, shn_xor]
  congr 1
  exact shn_up 8 z h
/-- Four bytes at once. -/
theorem four_at_once (r : BitVec 32) (a b c d : UInt8) : regs [a, b, c, d] r = shn 32 (r ^^^ BitVec.ofNat 32 (num a.toNat b.toNat c.toNat d.toNat)) := by
  have ha : a.toNat < 256 := a.toNat_lt
  have hb : b.toNat < 256 := b.toNat_lt
  have hc : c.toNat < 256 := c.toNat_lt
  have hd : d.toNat < 256 := d.toNat_lt
  have e : num a.toNat b.toNat c.toNat d.toNat = a.toNat + 256 * (b.toNat + 256 * (c.toNat + 256 * d.toNat)) := by unfold num; omega
  rw [e, show ∀ x, shn 32 x = shn (8 + (8 + (8 + 8))) x from fun _ => rfl, shn_add, byS_num _ _ _ (by omega), shn_add, byS_num _ _ _ (by omega), shn_add, byS_num _ _ _ (by omega)]
  rfl
theorem regs_append (l m : List UInt8) (r : BitVec 32) : regs (l ++ m) r = regs m (regs l r) := List.foldl_append
theorem regs_cons (b : UInt8) (l : List UInt8) (r : BitVec 32) : regs (b :: l) r = regs l (byS r b) := rfl
theorem byS_inj {a b : BitVec 32} {c : UInt8} (h : byS a c = byS b c) : a = b := by
  have := shn_inj h
  have h2 := congrArg (· ^^^ word8 c) this
  simpa [BitVec.xor_assoc] using h2
theorem regs_inj {l : List UInt8} {a b : BitVec 32} (h : regs l a = regs l b) : a = b := by
  induction l generalizing a b with
  | nil => exact h
  | cons c l ih => exact byS_inj (ih h)

def le (v : BitVec 32) : List UInt8 := [UInt8.ofNat (v.toNat % 256), UInt8.ofNat (v.toNat / 256 % 256), UInt8.ofNat (v.toNat / 65536 % 256), UInt8.ofNat (v.toNat / 16777216 % 256)]
theorem toNat_ofNat256 (n : Nat) : (UInt8.ofNat (n % 256)).toNat = n % 256 := by simp
theorem num_le (v : BitVec 32) : num (UInt8.ofNat (v.toNat % 256)).toNat (UInt8.ofNat (v.toNat / 256 % 256)).toNat (UInt8.ofNat (v.toNat / 65536 % 256)).toNat (UInt8.ofNat (v.toNat / 16777216 % 256)).toNat = v.toNat := by
  rw [toNat_ofNat256, toNat_ofNat256, toNat_ofNat256, toNat_ofNat256]
  have := v.isLt
  unfold num
  omega
theorem regs_le (r v : BitVec 32) : regs (le v) r = shn 32 (r ^^^ v) := by
  unfold le
  rw [four_at_once, num_le, BitVec.ofNat_toNat, BitVec.setWidth_eq]
/-- A text and its check have one and the same check. -/
theorem sum_rest (l : List UInt8) : sum (l ++ le (sum l)) = 0x2144df1c#32 := by
  have e : ∀ r : BitVec 32, r ^^^ ~~~ r = BitVec.allOnes 32 := fun r => by
    rw [← BitVec.xor_allOnes (x := r), ← BitVec.xor_assoc, BitVec.xor_self, BitVec.zero_xor]
  rw [sum, regs_append, regs_le, sum, e]
  decide +kernel
/-- Four bytes that are others make another check. -/
theorem sum_tells {l m : List UInt8} {a b c d a' b' c' d' : UInt8} (h : sum (l ++ [a, b, c, d] ++ m) = sum (l ++ [a', b', c', d'] ++ m)) : [a, b, c, d] = [a', b', c', d'] := by
  have h1 := BitVec.not_inj.1 (show ~~~ _ = ~~~ _ from h)
  rw [regs_append, regs_append, regs_append, regs_append] at h1
  have h2 := regs_inj h1
  rw [four_at_once, four_at_once] at h2
  have h3 := shn_inj h2
  have h4 := congrArg (regs l (BitVec.allOnes 32) ^^^ ·) h3
  simp only [← BitVec.xor_assoc, BitVec.xor_self, BitVec.zero_xor] at h4
  have h5 := congrArg BitVec.toNat h4
  have ha : a.toNat < 256 := a.toNat_lt
  have hb : b.toNat < 256 := b.toNat_lt
  have hc : c.toNat < 256 := c.toNat_lt
  have hd : d.toNat < 256 := d.toNat_lt
  have ha' : a'.toNat < 256 := a'.toNat_lt
  have hb' : b'.toNat < 256 := b'.toNat_lt
  have hc' : c'.toNat < 256 := c'.toNat_lt
  have hd' : d'.toNat < 256 := d'.toNat_lt
  rw [BitVec.toNat_ofNat, BitVec.toNat_ofNat] at h5
  unfold num at h5
  rw [Nat.mod_eq_of_lt (by omega), Nat.mod_eq_of_lt (by omega)] at h5
  rw [show a = a' from UInt8.toNat_inj.1 (by omega), show b = b' from UInt8.toNat_inj.1 (by omega), show c = c' from UInt8.toNat_inj.1 (by omega), show d = d' from UInt8.toNat_inj.1 (by omega)]

/-- The document's own step, bit by bit of a byte. -/
def bit (b : UInt8) (k : Nat) : Nat := b.toNat / 2 ^ k % 2
def rk (r : BitVec 32) (b : UInt8) : Nat → BitVec 32
  | 0 => r
  | k + 1 => if bit b k = (rk r b k).toNat % 2 then (rk r b k) >>> 1 else (rk r b k) >>> 1 ^^^ P
theorem sh_nat (r : BitVec 32) : sh r = if r.toNat % 2 = 1 then (r >>> 1) ^^^ P else r >>> 1 := by
  unfold sh
  rw [lsb_nat]
  simp only [decide_eq_true_eq]
theorem half (n : Nat) (hn : n < 256) : BitVec.ofNat 32 n >>> 1 = BitVec.ofNat 32 (n / 2) := by
  apply BitVec.eq_of_toNat_eq
  rw [BitVec.toNat_ushiftRight, Nat.shiftRight_eq_div_pow, BitVec.toNat_ofNat, BitVec.toNat_ofNat, Nat.mod_eq_of_lt (by omega), Nat.mod_eq_of_lt (by omega)]
theorem rk_eq (r : BitVec 32) (b : UInt8) (k : Nat) : rk r b k ^^^ BitVec.ofNat 32 (b.toNat / 2 ^ k) = shn k (r ^^^ word8 b) := by
  have hb : b.toNat < 256 := b.toNat_lt
  induction k with
  | zero => simp [rk, shn, word8]
  | succ k ih =>
    have hq : b.toNat / 2 ^ k < 256 := Nat.lt_of_le_of_lt (Nat.div_le_self _ _) hb
    rw [shn_succ, ← ih, sh_nat, BitVec.toNat_xor, BitVec.toNat_ofNat, Nat.mod_eq_of_lt (show b.toNat / 2 ^ k < 2 ^ 32 by omega), BitVec.ushiftRight_xor_distrib, half _ hq]
    have e : b.toNat / 2 ^ (k + 1) = b.toNat / 2 ^ k / 2 := by rw [Nat.pow_succ, Nat.div_div_eq_div_mul]
    have ex : ((rk r b k).toNat ^^^ b.toNat / 2 ^ k) % 2 = ((rk r b k).toNat % 2 + b.toNat / 2 ^ k % 2) % 2 := by
      have h0 : ∀ x y : Nat, (x ^^^ y) % 2 = (x % 2 + y % 2) % 2 := fun x y => by
        have h1 : (x ^^^ y) % 2 = (x % 2) ^^^ (y % 2) := Nat.xor_mod_two_pow (n := 1)
        rw [h1]
        rcases Nat.mod_two_eq_zero_or_one x with h | h <;> rcases Nat.mod_two_eq_zero_or_one y with h' | h' <;> rw [h, h'] <;> rfl
      exact h0 _ _
    rw [e, ex]
    rw [show rk r b (k + 1) = if b.toNat / 2 ^ k % 2 = (rk r b k).toNat % 2 then (rk r b k) >>> 1 else (rk r b k) >>> 1 ^^^ P from rfl]
    have h1 : (rk r b k).toNat % 2 < 2 := Nat.mod_lt _ (by omega)
    have h2 : b.toNat / 2 ^ k % 2 < 2 := Nat.mod_lt _ (by omega)
    by_cases h : b.toNat / 2 ^ k % 2 = (rk r b k).toNat % 2
    · rw [if_pos h, if_neg (by omega)]
    · rw [if_neg h, if_pos (by omega), BitVec.xor_assoc, BitVec.xor_assoc, BitVec.xor_comm P]
theorem rk_byS (r : BitVec 32) (b : UInt8) : rk r b 8 = byS r b := by
  have hb : b.toNat < 256 := b.toNat_lt
  have h := rk_eq r b 8
  rw [show b.toNat / 2 ^ 8 = 0 by omega, show BitVec.ofNat 32 0 = 0#32 from rfl, BitVec.xor_zero] at h
  exact h
end Go.Proofs.YtdkngocinimjdaaDoor.Fr.Pl
