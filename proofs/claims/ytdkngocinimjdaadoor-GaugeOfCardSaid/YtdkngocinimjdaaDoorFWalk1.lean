/- THE CONTRACTS OF Sum, the program's and the document's. -/
import Derived.Test.YtdkngocinimjdaaDoorProg
import Derived.Test.YtdkngocinimjdaaDoorFScanPlain
import Derived.WalkKit
import Derived.WalkSpells
import Derived.WalkLawsBesides
import Derived.Handy
import Derived.Outline
import Derived.Lib.Hide
import Derived.Lib.Strings
import Derived.Laws.BitsAllLaws
namespace Go.Proofs.YtdkngocinimjdaaDoor.Fr
open Go.RowKit

/-- A register as the walk's number. -/
def U (r : BitVec 32) : Int := (r.toNat : Int)
theorem U_nonneg (r : BitVec 32) : 0 ≤ U r := Int.natCast_nonneg _
theorem U_lt (r : BitVec 32) : U r < 4294967296 := by have := r.isLt; unfold U; omega

theorem bits_xor (a b : BitVec 32) : bits .xor .u32 (U a) (U b) = U (a ^^^ b) := by
  unfold U
  rw [u32_xor_nat _ _ a.isLt b.isLt, BitVec.toNat_xor]
theorem bits_and (a b : BitVec 32) : bits .and .u32 (U a) (U b) = U (a &&& b) := by
  unfold U
  rw [u32_and_nat _ _ a.isLt b.isLt, BitVec.toNat_and]
theorem U_of (n : Nat) (h : n < 4294967296) : (n : Int) = U (BitVec.ofNat 32 n) := by
  unfold U
  rw [BitVec.toNat_ofNat, Nat.mod_eq_of_lt h]
theorem U_word8 (r : BitVec 32) (b : UInt8) : bits .xor .u32 (U r) ((b.toNat : Int) % 4294967296) = U (r ^^^ Pl.word8 b) := by
  have hb : b.toNat < 256 := b.toNat_lt
  rw [show (b.toNat : Int) % 4294967296 = (b.toNat : Int) by omega, U_of _ (show b.toNat < 4294967296 by omega), bits_xor]
  rfl
theorem take_snoc (s : ByteArray) (k : Nat) (h : k < s.size) : s.data.toList.take (k + 1) = s.data.toList.take k ++ [s[k]] := by
  rw [List.take_succ_eq_append_getElem (by simpa using h)]; rfl
theorem U_and1 (x : BitVec 32) : bits .and .u32 (U x) 1 = ((x.toNat % 2 : Nat) : Int) := by
  rw [show (1 : Int) = U 1#32 from rfl, bits_and]
  unfold U
  rw [BitVec.toNat_and, show (1#32).toNat = 1 from rfl, Nat.and_one_is_mod]
theorem U_half (x : BitVec 32) : (U x) / (2 : Int) = U (BitVec.ushiftRight x 1) := by
  show U x / 2 = U (x >>> 1)
  unfold U
  rw [BitVec.toNat_ushiftRight, Nat.shiftRight_eq_div_pow]
  omega
theorem U_sh (x : BitVec 32) : bits BinOp.xor IntKind.u32 (U x / 2) (bits BinOp.and IntKind.u32 3988292384 (-bits BinOp.and IntKind.u32 (U x) 1 % 4294967296)) = U (Pl.sh x) := by
  rw [U_and1, U_half, Pl.sh_nat]
  show bits BinOp.xor IntKind.u32 (U (x >>> 1)) _ = _
  rcases Nat.mod_two_eq_zero_or_one x.toNat with h | h
  · rw [h, if_neg (by decide), show (-((0 : Nat) : Int) % 4294967296) = U 0#32 from rfl, show (3988292384 : Int) = U Pl.P from rfl, bits_and, bits_xor, BitVec.and_zero, BitVec.xor_zero]
  · rw [h, if_pos rfl, show (-((1 : Nat) : Int) % 4294967296) = U (BitVec.allOnes 32) from rfl, show (3988292384 : Int) = U Pl.P from rfl, bits_and, bits_xor, BitVec.and_allOnes]
theorem U_not (x : BitVec 32) : bits .xor .u32 4294967295 (U x) = U (~~~ x) := by
  rw [show (4294967295 : Int) = U (BitVec.allOnes 32) from rfl, bits_xor, BitVec.allOnes_xor]
theorem U_not' (x : BitVec 32) : bits .xor .u32 (U x) 4294967295 = U (~~~ x) := by
  rw [show (4294967295 : Int) = U (BitVec.allOnes 32) from rfl, bits_xor, BitVec.xor_allOnes]
theorem U_end {s : ByteArray} {k : Nat} {r : BitVec 32} (hlt : ¬ k < s.size) (h : Pl.regs (s.data.toList.take k) (BitVec.allOnes 32) = r) : bits .xor .u32 IntKind.u32.max (U r) = U (Pl.sum s.data.toList) := by
  rw [List.take_of_length_le (by have : s.data.toList.length = s.size := (Lib.size_eq s).symm; omega)] at h
  rw [show IntKind.u32.max = 4294967295 from rfl, U_not, Pl.sum, h]
theorem U_end' {s : ByteArray} {k : Nat} {r : BitVec 32} (hlt : ¬ k < s.size) (h : Pl.regs (s.data.toList.take k) (BitVec.allOnes 32) = r) : bits .xor .u32 (U r) 4294967295 = U (Pl.sum s.data.toList) := by
  rw [List.take_of_length_le (by have : s.data.toList.length = s.size := (Lib.size_eq s).symm; omega)] at h
  rw [U_not', Pl.sum, h]
theorem U_bit (b : UInt8) (j : Nat) : bits BinOp.and IntKind.u32 ((b.toNat : Int) / 2 ^ j % 4294967296) 1 = ((Pl.bit b j : Nat) : Int) := by
  have hb : b.toNat < 256 := b.toNat_lt
  have hq : b.toNat / 2 ^ j < 256 := Nat.lt_of_le_of_lt (Nat.div_le_self _ _) hb
  have e : (b.toNat : Int) / 2 ^ j = ((b.toNat / 2 ^ j : Nat) : Int) := by
    rw [Int.natCast_ediv, Int.natCast_pow]; rfl
  unfold Pl.bit
  rw [e]
  revert hq
  generalize b.toNat / 2 ^ j = q
  intro hq
  rw [show (q : Int) % 4294967296 = (q : Int) by omega, U_of _ (show q < 4294967296 by omega), U_and1, BitVec.toNat_ofNat, Nat.mod_eq_of_lt (show q < 2 ^ 32 by omega)]
theorem U_bit1 {b : UInt8} {j : Nat} {x : BitVec 32} (h : (bits BinOp.and IntKind.u32 ((b.toNat : Int) / 2 ^ j % 4294967296) 1 != bits BinOp.and IntKind.u32 (U x) 1) = true) : bits BinOp.xor IntKind.u32 (U x / 2) 3988292384 = U (if Pl.bit b j = x.toNat % 2 then x >>> 1 else x >>> 1 ^^^ Pl.P) := by
  rw [U_bit, U_and1] at h
  simp only [bne_iff_ne, ne_eq, Int.natCast_inj] at h
  rw [if_neg h, U_half, show (3988292384 : Int) = U Pl.P from rfl, bits_xor]
  rfl
theorem U_bit0 {b : UInt8} {j : Nat} {x : BitVec 32} (h : (bits BinOp.and IntKind.u32 ((b.toNat : Int) / 2 ^ j % 4294967296) 1 != bits BinOp.and IntKind.u32 (U x) 1) = false) : (U x) / (2 : Int) = U (if Pl.bit b j = x.toNat % 2 then x >>> 1 else x >>> 1 ^^^ Pl.P) := by
  rw [U_bit, U_and1] at h
  simp only [bne_eq_false_iff_eq, Int.natCast_inj] at h
  rw [if_pos h]
  exact U_half x

set_option maxHeartbeats 1000000 in
theorem sum_any (s : ByteArray) (w : World) (hs : s.size ≤ 140737488355328) :
    Calls Tryd.prog 24 #[.string s] w fun e w' => e = .returned (.int .u32 (U (Pl.sum s.data.toList))) ∧ w = w' := by
  go_enter Tryd.func24, Tryd.ntmps24
  go_wp2
  go_loop [3, 7] (fun r i => ∃ k : Nat, k ≤ s.size ∧ i = .int .i64 k ∧ r = .int .u32 (U (Pl.regs (s.data.toList.take k) (BitVec.allOnes 32)))) (fun _ i => s.size - (intOf i).toNat)
  case atStart => exact ⟨0, Nat.zero_le _, rfl, rfl⟩
  case round =>
    obtain ⟨k, hk, rfl, rfl⟩ := hrel
    obtain ⟨r, hr⟩ : ∃ r, Pl.regs (s.data.toList.take k) (BitVec.allOnes 32) = r := ⟨_, rfl⟩
    have HR := Lib.hid hr
    rw [hr]
    clear hr
    have u0 := U_nonneg r
    have u1 := U_lt r
    by_cases hlt : k < s.size
    · have hx : bits BinOp.xor IntKind.u32 (U r) ((s[k].toNat : Int) % 4294967296) = U (r ^^^ Pl.word8 s[k]) := U_word8 r s[k]
      go_wp2
      clear hx u0 u1
      obtain ⟨q, hq⟩ : ∃ q, r ^^^ Pl.word8 s[k] = q := ⟨_, rfl⟩
      have HQ := Lib.hid hq
      rw [hq]
      clear hq
      go_loop [3, 16] (fun r i => ∃ j : Nat, j ≤ 8 ∧ i = .int .i64 j ∧ r = .int .u32 (U (Pl.shn j q))) (fun _ i => 8 - (intOf i).toNat)
      case atStart => exact ⟨0, by omega, rfl, rfl⟩
      case round =>
        obtain ⟨j, hj, rfl, rfl⟩ := hrel
        obtain ⟨x, hx⟩ : ∃ x, Pl.shn j q = x := ⟨_, rfl⟩
        have HX := Lib.hid hx
        rw [hx]
        clear hx
        have u0 := U_nonneg x
        by_cases hlt8 : j < 8
        · go_wp2
          go_round
          case rel => exact ⟨j + 1, by omega, by go_num, by rw [U_sh, Pl.shn_succ, HX.out]⟩
          case measure => simp [intOf]; omega
        · go_wp2
          go_round
          case rel => exact ⟨k + 1, by omega, by go_num, by
            obtain rfl : j = 8 := by omega
            rw [take_snoc s k hlt, Pl.regs_append, HR.out, ← HX.out, ← HQ.out]
            rfl⟩
          case measure => simp [intOf]; omega
    · clear u1
      go_wp2
      go_ret
      exact ⟨congrArg (fun z => Ending.returned (.int .u32 z)) (U_end hlt HR.out), rfl⟩

end Go.Proofs.YtdkngocinimjdaaDoor.Fr
