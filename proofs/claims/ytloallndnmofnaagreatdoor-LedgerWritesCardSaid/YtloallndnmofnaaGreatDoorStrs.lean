/- Slices of strings of the call's own; bead.List of them; how long a table's bytes are. -/
import Derived.Test.YtloallndnmofnaaGreatDoorWalk4
import Derived.Test.YtloallndnmofnaaGreatDoorTb
import Derived.Test.YtloallndnmofnaaGreatDoorSl
import Derived.Test.YtloallndnmofnaaGreatDoorOwn
import Derived.Test.YtloallndnmofnaaGreatDoorClo
import Derived.Test.YtloallndnmofnaaGreatDoorCPlain
namespace Go.Proofs.YtloallndnmofnaaGreatDoor
open Go.RowKit

theorem infoStr' : (Tryz.prog.info? 9).map (fun i => (i.zero, i.size, i.bytes)) = some (some (.string ByteArray.empty), 1, 16) := by kernel_rfl
theorem infoStr : ∃ i, Tryz.prog.info? 9 = some i ∧ i.zero = some (.string ByteArray.empty) ∧ i.size = 1 ∧ i.bytes = 16 := by
  obtain ⟨i, h⟩ := info_parts infoStr'
  exact ⟨i, h⟩
def strs (l : List (List UInt8)) : List Value := l.map fun s => .string ⟨s.toArray⟩
theorem strs_snoc (l : List (List UInt8)) (s : List UInt8) : strs (l ++ [s]) = strs l ++ [.string ⟨s.toArray⟩] := by simp [strs]
/-- A slice just built. -/
theorem Sl.new (w : World) (e size n : Nat) (cs : Array Value) (h : cs.size = n * size) : Sl (w.alloc (.cells cs e)) (.slice (some ⟨w.heap.size, 0, none⟩) n n) (some w.heap.size) e size n cs.toList :=
  ⟨by simpa using h, .inr ⟨w.heap.size, 0, n, cs, rfl, rfl, heap_alloc_new w _, Nat.le_refl _, by omega, by rw [List.drop_zero]; exact List.take_of_length_le (by simp; omega)⟩⟩
theorem bead_list_nil (w : World) : Calls Tryz.prog 18 #[.slice none 0 0] w fun e w' => e = .returned (.string ⟨#[108, 101]⟩) ∧ Below w.heap.size w w' := by
  have C := Lib.hid (Any.strings_Join_none Tryz.lays156 Tryz.Builder_Extra_156 none 0 ⟨#[]⟩ w)
  go_enter Tryz.func18, Tryz.ntmps18
  go_wp2_with fail
  refine C.out.mono ?_
  rintro e w1 ⟨rfl, rfl⟩
  go_wp2_with fail
  all_goals first | (exfalso; omega) | skip
  go_ret
  exact ⟨rfl, Below.refl _ _⟩
theorem list_sl {w : World} {v : Value} {gb : Option Nat} {n : Nat} {l : List (List UInt8)} (h : Sl w v gb 9 1 n (strs l)) (hl : l.length = n) (hn1 : 1 ≤ n) (hn : n ≤ 100) (hlen : l.flatten.length ≤ 281474976710656) :
    Calls Tryz.prog 18 #[v] w fun e w' => e = .returned (.string ⟨(108 :: (l.flatten ++ [101])).toArray⟩) ∧ Below w.heap.size w w' := by
  obtain ⟨ao, cap, hv, hcap, hp, -⟩ := Sl.make h
  obtain ⟨g, p, rfl, hg⟩ := hp (by omega)
  have hml : (l.map fun s => (⟨s.toArray⟩ : ByteArray)).length = n := by rw [List.length_map]; exact hl
  have hfl : ((l.map fun s => (⟨s.toArray⟩ : ByteArray)).map (·.data.toList)) = l := by
    rw [List.map_map]
    simp [Function.comp_def]
  have C := bead_list g p cap (l.map fun s => (⟨s.toArray⟩ : ByteArray)) w (fun j x hj => by
    refine Sl.cell h hv j _ ?_
    unfold strs
    rw [List.getElem?_map] at hj ⊢
    cases hl' : l[j]? with
    | none => rw [hl'] at hj; cases hj
    | some s => rw [hl'] at hj; obtain rfl := Option.some.inj hj; rfl) (h.lt g hg) (by rw [hml]; omega) (by rw [hml]; exact hcap) (by rw [hfl]; exact hlen)
  rw [hfl, hml, ← hv] at C
  exact C

namespace Ld
theorem encS_len {s : Sl} (h : okS s = true) : (encS s).length ≤ 47 := by
  obtain ⟨a, b, c, -⟩ := okS_iff h
  have h1 := (Pl.wInt_short a.1 12 (by have : (10 : Int) ^ (12 + 1) = 10000000000000 := by decide
                                       omega)).1
  have h2 := (Pl.wInt_short b.1 12 (by have : (10 : Int) ^ (12 + 1) = 10000000000000 := by decide
                                       omega)).1
  have h3 := (Pl.wInt_short c.1 12 (by have : (10 : Int) ^ (12 + 1) = 10000000000000 := by decide
                                       omega)).1
  unfold encS
  simp only [List.length_cons, List.length_append, List.length_nil]
  omega
theorem flat_le {α : Type} {f : α → List UInt8} {k : Nat} : ∀ {L : List α}, (∀ x ∈ L, (f x).length ≤ k) → (L.flatMap f).length ≤ L.length * k
  | [], _ => by simp
  | a :: r, h => by
    have h1 := h a (by simp)
    have h2 := flat_le (L := r) (fun x hx => h x (by simp [hx]))
    rw [List.flatMap_cons, List.length_append, List.length_cons, Nat.add_mul]
    omega
theorem encP_len {x : Int × List Sl} (h : rowOk x = true) : (encP x).length ≤ 252 := by
  obtain ⟨h1, -, h5, hs⟩ := rowOk_iff.1 h
  have a := numB_iff.1 h1
  have e1 := (Pl.wInt_short a.1 12 (by have : (10 : Int) ^ (12 + 1) = 10000000000000 := by decide
                                       omega)).1
  have e2 := flat_le (f := encS) (k := 47) (L := x.2) (fun s hx => encS_len (slots_mem hs s hx))
  have e3 : x.2.length * 47 ≤ 5 * 47 := Nat.mul_le_mul_right _ h5
  unfold encP
  simp only [List.length_cons, List.length_append, List.length_nil]
  omega
theorem encT_len {T : Tb} (h : goodB T = true) : (encT T).length ≤ 16130 := by
  obtain ⟨h64, hr, -⟩ := good_iff.1 h
  have e2 := flat_le (f := encP) (k := 252) (L := T) (fun s hx => encP_len (hr s hx))
  have e3 : T.length * 252 ≤ 64 * 252 := Nat.mul_le_mul_right _ h64
  unfold encT
  simp only [List.length_cons, List.length_append, List.length_nil]
  omega
theorem encS_parts (s : Sl) : encS s = 108 :: (([Pl.wInt s.seq, Pl.wInt s.base, Pl.wInt s.fin] : List (List UInt8)).flatten ++ [101]) := by simp [encS]
theorem encP_parts (x : Int × List Sl) : encP x = 108 :: ((Pl.wInt x.1 :: x.2.map encS).flatten ++ [101]) := by simp [encP, List.flatMap_def]
theorem encT_parts (T : Tb) : encT T = 108 :: ((T.map encP).flatten ++ [101]) := by simp [encT, List.flatMap_def]
end Ld
end Go.Proofs.YtloallndnmofnaaGreatDoor
