/- Next AT EVERY PLACE, the program's and the document's: one contract each. -/
import Derived.Test.YtddlkagcdlgllaaWalk4
import Derived.Test.YtddlkagcdlgllaaWalk5
namespace Go.Proofs.Ytddlkagcdlgllaa
open Go.RowKit

theorem res_few {s : ByteArray} {p : Nat} (hp : p ≤ s.size) (h8 : s.size - p < 8) : Ending.returned (.tuple #[.string ⟨#[]⟩, .int .i64 0, .int .i64 5]) = Res s p := by
  have hl : s.data.toList.length = s.size := (Lib.size_eq s).symm
  exact res_of (Pl.nx_few (by rw [List.length_drop]; omega)) hp rfl
theorem next_at (s : ByteArray) (p : Nat) (w : World) (hp : p ≤ s.size) (hs : s.size ≤ 1048576) :
    Calls Try.prog 15 #[.string s, .int .i64 p] w fun e w' => e = Res s p ∧ Below w.heap.size w w' := by
  by_cases h8 : s.size - p < 8
  · rw [← res_few hp h8]
    exact (next_few s p w hp h8 hs).mono fun _ _ ⟨he, hw⟩ => ⟨he, hw ▸ Below.refl _ _⟩
  · have hl : s.data.toList.length = s.size := (Lib.size_eq s).symm
    obtain ⟨a, b, c, d, e, f, g, i, t, h⟩ := Pl.eight (l := s.data.toList.drop p) (by rw [List.length_drop]; omega)
    exact next_many s p w (by omega) hs h
theorem rnext_at (s : ByteArray) (p : Nat) (w : World) (hp : p ≤ s.size) (hs : s.size ≤ 1048576) :
    Calls Try.prog 16 #[.string s, .int .i64 p] w fun e w' => e = Res s p ∧ Below w.heap.size w w' := by
  by_cases h8 : s.size - p < 8
  · rw [← res_few hp h8]
    exact (rnext_few s p w hp h8 hs).mono fun _ _ ⟨he, hw⟩ => ⟨he, hw ▸ Below.refl _ _⟩
  · have hl : s.data.toList.length = s.size := (Lib.size_eq s).symm
    obtain ⟨a, b, c, d, e, f, g, i, t, h⟩ := Pl.eight (l := s.data.toList.drop p) (by rw [List.length_drop]; omega)
    exact rnext_many s p w (by omega) hs h
/-- Next's answer, part by part: a frame is there. -/
theorem res_ok {s : ByteArray} {p : Nat} (hp : p ≤ s.size) (h : (Pl.nx (s.data.toList.drop p)).2 = 0) : Res s p = Ending.returned (.tuple #[.string ⟨(Pl.nx (s.data.toList.drop p)).1.toArray⟩, .int .i64 ((p + 8 + (Pl.nx (s.data.toList.drop p)).1.length : Nat) : Int), .int .i64 0]) := by
  rw [← res_of (s := s) (p := p) (B := (Pl.nx (s.data.toList.drop p)).1) (E := 0) (Prod.ext rfl h) hp rfl, if_pos rfl]
  have e : ((p + 8 + (Pl.nx (s.data.toList.drop p)).1.length : Nat) : Int) = (p : Int) + 8 + (Pl.nx (s.data.toList.drop p)).1.length := by omega
  rw [e]
  rfl
/-- None is there: nothing beside the error. -/
theorem nx_none {l : List UInt8} (h : (Pl.nx l).2 ≠ 0) : (Pl.nx l).1 = [] := by
  rcases Nat.lt_or_ge l.length 8 with h8 | h8
  · rw [Pl.nx_few h8]
  · obtain ⟨a, b, c, d, e, f, g, i, t, rfl⟩ := Pl.eight h8
    simp only [Pl.nx] at h ⊢
    split
    · rfl
    · split
      · rfl
      · split
        · rename_i h1 h2 h3
          rw [if_neg h1, if_neg h2, if_pos h3] at h
          exact absurd rfl h
        · rfl
theorem res_no {s : ByteArray} {p : Nat} (hp : p ≤ s.size) (h : (Pl.nx (s.data.toList.drop p)).2 ≠ 0) : Res s p = Ending.returned (.tuple #[.string ⟨#[]⟩, .int .i64 0, .int .i64 ((Pl.nx (s.data.toList.drop p)).2 : Nat)]) := by
  rw [← res_of (s := s) (p := p) (B := []) (E := (Pl.nx (s.data.toList.drop p)).2) (Prod.ext (nx_none h) rfl) hp rfl, if_neg h]
end Go.Proofs.Ytddlkagcdlgllaa
