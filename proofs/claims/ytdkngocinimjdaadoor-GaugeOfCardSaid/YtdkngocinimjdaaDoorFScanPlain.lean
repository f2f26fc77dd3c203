/- PLAIN MATHEMATICS OF FRAMES: the frame that a row of bytes begins with, all frames of it. Nothing here knows the program. -/
import Derived.Test.YtdkngocinimjdaaDoorFPlain
namespace Go.Proofs.YtdkngocinimjdaaDoor.Fr.Pl

/-- A text's frame. -/
def frame (l : List UInt8) : List UInt8 := le (BitVec.ofNat 32 l.length) ++ le (sum l) ++ l

/-- The text of the frame with which these bytes begin, and the error. -/
def nx : List UInt8 → List UInt8 × Nat
  | a :: b :: c :: d :: e :: f :: g :: h :: t =>
    if 16384 < num a.toNat b.toNat c.toNat d.toNat then ([], 4)
    else if t.length < num a.toNat b.toNat c.toNat d.toNat then ([], 5)
    else if sum (t.take (num a.toNat b.toNat c.toNat d.toNat)) = BitVec.ofNat 32 (num e.toNat f.toNat g.toNat h.toNat) then (t.take (num a.toNat b.toNat c.toNat d.toNat), 0)
    else ([], 6)
  | _ => ([], 5)
/-- What Next answers. -/
def next (l : List UInt8) (z : Int) : List UInt8 × Int × Nat :=
  if z < 0 ∨ (l.length : Int) < z then ([], 0, 1)
  else if (nx (l.drop z.toNat)).2 = 0 then ((nx (l.drop z.toNat)).1, z + 8 + (nx (l.drop z.toNat)).1.length, 0)
  else ([], 0, (nx (l.drop z.toNat)).2)

theorem eight {l : List UInt8} (h : 8 ≤ l.length) : ∃ a b c d e f g i t, l = a :: b :: c :: d :: e :: f :: g :: i :: t := by
  match l, h with
  | a :: b :: c :: d :: e :: f :: g :: i :: t, _ => exact ⟨a, b, c, d, e, f, g, i, t, rfl⟩
theorem nx_few {l : List UInt8} (h : l.length < 8) : nx l = ([], 5) := by
  match l, h with
  | [], _ => rfl
  | [_], _ => rfl
  | [_, _], _ => rfl
  | [_, _, _], _ => rfl
  | [_, _, _, _], _ => rfl
  | [_, _, _, _, _], _ => rfl
  | [_, _, _, _, _, _], _ => rfl
  | [_, _, _, _, _, _, _], _ => rfl
  | a :: b :: c :: d :: e :: f :: g :: i :: t, h => exact absurd h (by simp)
theorem num_lt (a b c d : UInt8) : num a.toNat b.toNat c.toNat d.toNat < 4294967296 := by
  have ha : a.toNat < 256 := a.toNat_lt
  have hb : b.toNat < 256 := b.toNat_lt
  have hc : c.toNat < 256 := c.toNat_lt
  have hd : d.toNat < 256 := d.toNat_lt
  unfold num
  omega
theorem ofNat_num {v : BitVec 32} {m : Nat} (hm : m < 4294967296) : (v = BitVec.ofNat 32 m) ↔ v.toNat = m := by
  constructor
  · intro h; rw [h, BitVec.toNat_ofNat, Nat.mod_eq_of_lt (show m < 2 ^ 32 from hm)]
  · intro h; rw [← h, BitVec.ofNat_toNat, BitVec.setWidth_eq]

/-- A frame that is right: its bytes are its text's frame. -/
theorem le_num (a b c d : UInt8) : le (BitVec.ofNat 32 (num a.toNat b.toNat c.toNat d.toNat)) = [a, b, c, d] := by
  have ha : a.toNat < 256 := a.toNat_lt
  have hb : b.toNat < 256 := b.toNat_lt
  have hc : c.toNat < 256 := c.toNat_lt
  have hd : d.toNat < 256 := d.toNat_lt
  unfold le
  rw [BitVec.toNat_ofNat, Nat.mod_eq_of_lt (show num a.toNat b.toNat c.toNat d.toNat < 2 ^ 32 from num_lt a b c d)]
  unfold num
  rw [show (a.toNat + 256 * b.toNat + 65536 * c.toNat + 16777216 * d.toNat) % 256 = a.toNat by omega,
    show (a.toNat + 256 * b.toNat + 65536 * c.toNat + 16777216 * d.toNat) / 256 % 256 = b.toNat by omega,
    show (a.toNat + 256 * b.toNat + 65536 * c.toNat + 16777216 * d.toNat) / 65536 % 256 = c.toNat by omega,
    show (a.toNat + 256 * b.toNat + 65536 * c.toNat + 16777216 * d.toNat) / 16777216 % 256 = d.toNat by omega]
  simp
theorem frame_length (l : List UInt8) : (frame l).length = 8 + l.length := by
  simp [frame, le]; omega
theorem nx_ok {l : List UInt8} (h : (nx l).2 = 0) : (nx l).1.length ≤ 16384 ∧ ∃ r, l = frame (nx l).1 ++ r := by
  rcases Nat.lt_or_ge l.length 8 with h8 | h8
  · rw [nx_few h8] at h; cases h
  · obtain ⟨a, b, c, d, e, f, g, i, t, rfl⟩ := eight h8
    have hn := num_lt a b c d
    simp only [nx] at h ⊢
    split at h
    · cases h
    · split at h
      · cases h
      · split at h
        · rename_i h1 h2 h3
          rw [if_neg h1, if_neg h2, if_pos h3]
          have hl : (t.take (num a.toNat b.toNat c.toNat d.toNat)).length = num a.toNat b.toNat c.toNat d.toNat := by rw [List.length_take]; omega
          refine ⟨by show (t.take _).length ≤ _; omega, t.drop (num a.toNat b.toNat c.toNat d.toNat), ?_⟩
          unfold frame
          show _ = le (BitVec.ofNat 32 (t.take _).length) ++ le (sum (t.take _)) ++ t.take _ ++ _
          rw [hl, h3, le_num, le_num, List.append_assoc, List.take_append_drop]
          rfl
        · cases h
theorem le_cons (v : BitVec 32) : ∃ a b c d : UInt8, le v = [a, b, c, d] ∧ num a.toNat b.toNat c.toNat d.toNat = v.toNat := ⟨_, _, _, _, rfl, num_le v⟩
/-- A frame is found as it was put, whatever follows. -/
theorem nx_frame (l r : List UInt8) (h : l.length ≤ 16384) : nx (frame l ++ r) = (l, 0) := by
  obtain ⟨a, b, c, d, e1, n1⟩ := le_cons (BitVec.ofNat 32 l.length)
  obtain ⟨e, f, g, i, e2, n2⟩ := le_cons (sum l)
  have hf : frame l ++ r = a :: b :: c :: d :: e :: f :: g :: i :: (l ++ r) := by
    unfold frame
    rw [e1, e2]
    simp
  rw [BitVec.toNat_ofNat, Nat.mod_eq_of_lt (by omega)] at n1
  rw [hf]
  simp only [nx]
  rw [n1, n2, if_neg (by omega), if_neg (by rw [List.length_append]; omega), List.take_left, if_pos (by rw [BitVec.ofNat_toNat, BitVec.setWidth_eq])]
/-- Of a frame that is cut off nothing is found. -/
theorem nx_cut (l : List UInt8) (n : Nat) (h : n < 8 + l.length) (hl : l.length ≤ 16384) : (nx ((frame l).take n)).2 ≠ 0 := by
  intro hz
  obtain ⟨-, r, hr⟩ := nx_ok hz
  obtain ⟨a, b, c, d, e1, n1⟩ := le_cons (BitVec.ofNat 32 l.length)
  generalize (nx ((frame l).take n)).1 = m at hr
  have hlen := congrArg List.length hr
  rw [List.length_take, List.length_append, frame_length, frame_length] at hlen
  have h8 : 8 ≤ n := by omega
  obtain ⟨a', b', c', d', e1', n1'⟩ := le_cons (BitVec.ofNat 32 m.length)
  have ht : (frame l).take n = a :: b :: c :: d :: ((le (sum l) ++ l).take (n - 4)) := by
    unfold frame
    rw [e1]
    obtain ⟨k, rfl⟩ : ∃ k, n = k + 4 := ⟨n - 4, by omega⟩
    simp
  rw [ht] at hr
  unfold frame at hr
  rw [e1'] at hr
  simp only [List.cons_append, List.nil_append, List.cons.injEq] at hr
  obtain ⟨ha, hb, hc, hd, -⟩ := hr
  rw [ha, hb, hc, hd, n1'] at n1
  rw [BitVec.toNat_ofNat, BitVec.toNat_ofNat, Nat.mod_eq_of_lt (show m.length < 2 ^ 32 by omega), Nat.mod_eq_of_lt (show l.length < 2 ^ 32 by omega)] at n1
  omega


end Go.Proofs.YtdkngocinimjdaaDoor.Fr.Pl
