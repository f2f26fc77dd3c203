/- PLAIN MATHEMATICS: a frame whose text was changed at four bytes that stand together. -/
import Derived.Test.YtddlkagcdlgllaaScanPlain
namespace Go.Proofs.Ytddlkagcdlgllaa.Pl

/-- The head of a text's frame. -/
def head (l : List UInt8) : List UInt8 := le (BitVec.ofNat 32 l.length) ++ le (sum l)
theorem frame_head (l : List UInt8) : frame l = head l ++ l := rfl
theorem head_length (l : List UInt8) : (head l).length = 8 := by simp [head, le]
/-- Another text of as many bytes, with another check, behind that head. -/
theorem nx_other {l m : List UInt8} (hl : l.length ≤ 16384) (hm : m.length = l.length) (h : sum m ≠ sum l) : nx (head l ++ m) = ([], 6) := by
  obtain ⟨a, b, c, d, e1, n1⟩ := le_cons (BitVec.ofNat 32 l.length)
  obtain ⟨e, f, g, i, e2, n2⟩ := le_cons (sum l)
  have hf : head l ++ m = a :: b :: c :: d :: e :: f :: g :: i :: m := by
    unfold head
    rw [e1, e2]
    rfl
  rw [BitVec.toNat_ofNat, Nat.mod_eq_of_lt (by omega)] at n1
  rw [hf]
  simp only [nx]
  rw [n1, n2, if_neg (by omega), if_neg (by omega), List.take_of_length_le (by omega), if_neg (by rw [BitVec.ofNat_toNat, BitVec.setWidth_eq]; exact h)]
def P4 (l : List UInt8) (o : Nat) : List UInt8 := l.take o
/-- Four bytes within a text. -/
theorem parts {l : List UInt8} {o : Nat} (h : o + 4 ≤ l.length) : ∃ P a b c d R, l = P ++ [a, b, c, d] ++ R ∧ P.length = o := by
  match hd : l.drop o with
  | a :: b :: c :: d :: R =>
    refine ⟨l.take o, a, b, c, d, R, ?_, by rw [List.length_take]; omega⟩
    have e := List.take_append_drop o l
    rw [hd] at e
    rw [List.append_assoc]
    exact e.symm
  | [] => have := congrArg List.length hd; rw [List.length_drop] at this; simp at this; omega
  | [_] => have := congrArg List.length hd; rw [List.length_drop] at this; simp at this; omega
  | [_, _] => have := congrArg List.length hd; rw [List.length_drop] at this; simp at this; omega
  | [_, _, _] => have := congrArg List.length hd; rw [List.length_drop] at this; simp at this; omega
/-- The bytes as they stand behind the change. -/
theorem changed {A : List UInt8} {P R y : List UInt8} {x : List UInt8} (hx : x.length = 4) (o : Nat) (hP : P.length = o) {l : List UInt8} (hl : l = P ++ x ++ R) :
    (A ++ frame l).take (A.length + 8 + o) ++ y ++ (A ++ frame l).drop (A.length + 8 + o + 4) = A ++ (head l ++ (P ++ y ++ R)) := by
  have e : A ++ frame l = (A ++ head l ++ P) ++ (x ++ R) := by
    have e0 : frame l = head l ++ (P ++ x ++ R) := by rw [frame_head, ← hl]
    rw [e0]
    simp
  have e1 : (A ++ head l ++ P).length = A.length + 8 + o := by rw [List.length_append, List.length_append, head_length, hP]
  have e2 : A ++ frame l = (A ++ head l ++ P ++ x) ++ R := by rw [e]; simp
  have e3 : (A ++ head l ++ P ++ x).length = A.length + 8 + o + 4 := by rw [List.length_append, e1, hx]
  have t1 : (A ++ frame l).take (A.length + 8 + o) = A ++ head l ++ P := by rw [e, ← e1, List.take_left]
  have t2 : (A ++ frame l).drop (A.length + 8 + o + 4) = R := by rw [e2, ← e3, List.drop_left]
  rw [t1, t2]
  simp
theorem scan_changed {a l m : List UInt8} (ha : a.length ≤ 16384) (hl : l.length ≤ 16384) (hm : m.length = l.length) (h : sum m ≠ sum l) : scan (frame a ++ (head l ++ m)) = ([a], 8 + a.length) := by
  rw [scan_frame _ _ ha, scan_stop (by rw [nx_other hl hm h]; decide)]
  rfl
theorem scan_two {a l : List UInt8} (ha : a.length ≤ 16384) (hl : l.length ≤ 16384) : (scan (frame a ++ frame l)).1 = [a, l] := by
  have h := scan_frame l [] hl
  rw [List.append_nil, scan_stop (l := []) (by rw [nx_few (by simp)]; decide)] at h
  rw [scan_frame _ _ ha, h]
end Go.Proofs.Ytddlkagcdlgllaa.Pl
