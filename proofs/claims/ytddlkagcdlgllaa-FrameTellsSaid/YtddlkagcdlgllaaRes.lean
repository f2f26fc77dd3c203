/- WHAT Next ANSWERS, in plain words. -/
import Derived.Test.YtddlkagcdlgllaaWalk3
import Derived.Deep.RegionWith
namespace Go.Proofs.Ytddlkagcdlgllaa
open Go.RowKit

theorem bytes4 {s : ByteArray} {a b c d : UInt8} {t : List UInt8} (h : s.data.toList = a :: b :: c :: d :: t) : ∃ hs : 4 ≤ s.size, s[0] = a ∧ s[1] = b ∧ s[2] = c ∧ s[3] = d := by
  have hl : s.data.toList.length = s.size := (Lib.size_eq s).symm
  have hs : 4 ≤ s.size := by rw [← hl, h]; simp
  have at' : ∀ (i : Nat) (hi : i < s.size) (x : UInt8), s.data.toList[i]? = some x → s[i] = x := fun i hi x hx => by
    have e : s.data.toList[i]? = some s[i] := by
      rw [List.getElem?_eq_getElem (by rw [hl]; exact hi)]
      simp
      rfl
    exact Option.some.inj (e.symm.trans hx)
  exact ⟨hs, at' 0 (by omega) a (by rw [h]; rfl), at' 1 (by omega) b (by rw [h]; rfl), at' 2 (by omega) c (by rw [h]; rfl), at' 3 (by omega) d (by rw [h]; rfl)⟩

theorem Pl.nx_long {l t : List UInt8} {a b c d e f g i : UInt8} {n : Nat} (hl : l = a :: b :: c :: d :: e :: f :: g :: i :: t) (hn : Pl.num a.toNat b.toNat c.toNat d.toNat = n) (h : 16384 < n) : Pl.nx l = ([], 4) := by
  subst hl hn
  simp only [Pl.nx]
  rw [if_pos h]
theorem Pl.nx_short {l t : List UInt8} {a b c d e f g i : UInt8} {n : Nat} (hl : l = a :: b :: c :: d :: e :: f :: g :: i :: t) (hn : Pl.num a.toNat b.toNat c.toNat d.toNat = n) (h : ¬ 16384 < n) (h2 : t.length < n) : Pl.nx l = ([], 5) := by
  subst hl hn
  simp only [Pl.nx]
  rw [if_neg h, if_pos h2]
theorem Pl.nx_good {l t : List UInt8} {a b c d e f g i : UInt8} {n m : Nat} (hl : l = a :: b :: c :: d :: e :: f :: g :: i :: t) (hn : Pl.num a.toNat b.toNat c.toNat d.toNat = n) (hm : Pl.num e.toNat f.toNat g.toNat i.toNat = m) (h : ¬ 16384 < n) (h2 : ¬ t.length < n) (h3 : U (Pl.sum (t.take n)) = (m : Int)) : Pl.nx l = (t.take n, 0) := by
  subst hl hn hm
  simp only [Pl.nx]
  rw [if_neg h, if_neg h2, if_pos ((Pl.ofNat_num (Pl.num_lt e f g i)).2 (by unfold U at h3; omega))]
theorem Pl.nx_wrong {l t : List UInt8} {a b c d e f g i : UInt8} {n m : Nat} (hl : l = a :: b :: c :: d :: e :: f :: g :: i :: t) (hn : Pl.num a.toNat b.toNat c.toNat d.toNat = n) (hm : Pl.num e.toNat f.toNat g.toNat i.toNat = m) (h : ¬ 16384 < n) (h2 : ¬ t.length < n) (h3 : ¬ U (Pl.sum (t.take n)) = (m : Int)) : Pl.nx l = ([], 6) := by
  subst hl hn hm
  simp only [Pl.nx]
  rw [if_neg h, if_neg h2, if_neg (fun h => h3 (by have := (Pl.ofNat_num (Pl.num_lt e f g i)).1 h; unfold U; omega))]
/-- What Next answers at a place. -/
def Res (s : ByteArray) (p : Nat) : Ending := .returned (.tuple #[.string ⟨(Pl.nx (s.data.toList.drop p)).1.toArray⟩, .int .i64 (Pl.next s.data.toList p).2.1, .int .i64 ((Pl.nx (s.data.toList.drop p)).2 : Nat)])
theorem next_place {s : ByteArray} {p : Nat} (hp : p ≤ s.size) : (Pl.next s.data.toList p).2.1 = if (Pl.nx (s.data.toList.drop p)).2 = 0 then (p : Int) + 8 + (Pl.nx (s.data.toList.drop p)).1.length else 0 := by
  have hl : s.data.toList.length = s.size := (Lib.size_eq s).symm
  unfold Pl.next
  rw [if_neg (by omega), Int.toNat_natCast]
  split <;> rfl
theorem res_of {s : ByteArray} {p : Nat} {B : List UInt8} {E : Nat} {Z : Int} (h1 : Pl.nx (s.data.toList.drop p) = (B, E)) (hp : p ≤ s.size) (h3 : Z = if E = 0 then (p : Int) + 8 + B.length else 0) : Ending.returned (.tuple #[.string ⟨B.toArray⟩, .int .i64 Z, .int .i64 (E : Nat)]) = Res s p := by
  unfold Res
  rw [next_place hp, h1, h3]

theorem res_good {s y : ByteArray} {p n : Nat} {B : List UInt8} (hy : y = ⟨B.toArray⟩) (hn : y.size = n) (h1 : Pl.nx (s.data.toList.drop p) = (B, 0)) (hp : p ≤ s.size) (hB : B.length = n) : Ending.returned (.tuple #[.string y, .int .i64 ((p : Int) + 8 + (y.size : Nat)), .int .i64 0]) = Res s p := by
  rw [← res_of h1 hp rfl, hn, hy, if_pos rfl, hB]
  rfl
theorem res_rgood {s y : ByteArray} {p n : Nat} {B : List UInt8} (hy : y = ⟨B.toArray⟩) (h1 : Pl.nx (s.data.toList.drop p) = (B, 0)) (hp : p ≤ s.size) (hB : B.length = n) : Ending.returned (.tuple #[.string y, .int .i64 ((p : Int) + 8 + (n : Nat)), .int .i64 0]) = Res s p := by
  rw [← res_of h1 hp rfl, hy, if_pos rfl, hB]
  rfl
end Go.Proofs.Ytddlkagcdlgllaa
