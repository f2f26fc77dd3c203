/- Rows of texts, each a list of its own, as bytes; read one by one. -/
import Derived.Test.YtjjlkijconlbaaaDoorNums
namespace Go.Proofs.YtjjlkijconlbaaaDoor
open Go.RowKit

/-- A list that holds one text. -/
def wOne (t : List UInt8) : List UInt8 := 108 :: (Pl.wText t ++ [101])
def wOnes (ts : List (List UInt8)) : List UInt8 := (ts.map wOne).flatten
theorem wOnes_app (xs ys : List (List UInt8)) : wOnes (xs ++ ys) = wOnes xs ++ wOnes ys := by simp [wOnes]
theorem wOnes_take (ts : List (List UInt8)) (k : Nat) (hk : k < ts.length) : wOnes (ts.take (k + 1)) = wOnes (ts.take k) ++ wOne (ts.getD k []) := by
  rw [List.take_add_one, List.getElem?_eq_getElem hk, wOnes_app]
  simp [wOnes, hk]
theorem wOne_len (t : List UInt8) (h : t.length ≤ 4096) : (wOne t).length ≤ 4200 := by
  have := Lib.itoa_length_le t.length (by omega) (by omega)
  simp [wOne, Pl.wText]
  omega
theorem wOnes_len (ts : List (List UInt8)) (h : ∀ t ∈ ts, t.length ≤ 4096) : (wOnes ts).length ≤ 4200 * ts.length := by
  induction ts with
  | nil => simp [wOnes]
  | cons t ts ih =>
    have h1 := wOne_len t (h t List.mem_cons_self)
    have h2 := ih fun x hx => h x (List.mem_cons_of_mem _ hx)
    have e : wOnes (t :: ts) = wOne t ++ wOnes ts := rfl
    rw [e, List.length_append, List.length_cons]
    omega

/-- What a reader answers within the numbers of a list, one behind the other. -/
theorem back_int (zs : List Int) (hz : ∀ z ∈ zs, Pl.I64 z) (r : List UInt8) (k : Nat) (hk : k < zs.length) :
    St.int ⟨wInts (zs.drop k) ++ 101 :: r, false⟩ = (zs.getD k 0, ⟨wInts (zs.drop (k + 1)) ++ 101 :: r, false⟩) := by
  have hd : zs.drop k = zs[k] :: zs.drop (k + 1) := List.drop_eq_getElem_cons hk
  rw [hd, wInts_cons, List.append_assoc, int_of _ (hz _ (List.getElem_mem _))]
  simp [hk]
theorem back_more (zs : List Int) (r : List UInt8) (k : Nat) (hk : k < zs.length) : St.more ⟨wInts (zs.drop k) ++ 101 :: r, false⟩ = true := by
  have hd : zs.drop k = zs[k] :: zs.drop (k + 1) := List.drop_eq_getElem_cons hk
  rw [hd, wInts_cons, Pl.wInt]
  rfl
theorem back_end (r : List UInt8) : St.more ⟨101 :: r, false⟩ = false := rfl
theorem back_close (r : List UInt8) : St.byte 101 ⟨101 :: r, false⟩ = ⟨r, false⟩ := by simp [St.byte, Pl.rByte]
theorem back_open (ts : List (List UInt8)) (k : Nat) (hk : k < ts.length) : St.byte 108 ⟨wOnes (ts.drop k), false⟩ = ⟨Pl.wText (ts.getD k []) ++ 101 :: wOnes (ts.drop (k + 1)), false⟩ := by
  have hd : ts.drop k = ts[k] :: ts.drop (k + 1) := List.drop_eq_getElem_cons hk
  have e : wOnes (ts.drop k) = 108 :: (Pl.wText ts[k] ++ 101 :: wOnes (ts.drop (k + 1))) := by
    rw [hd]
    show wOne ts[k] ++ wOnes (ts.drop (k + 1)) = _
    simp [wOne]
  rw [e]
  simp [St.byte, Pl.rByte, hk]
theorem back_text (t r : List UInt8) (ht : t.length ≤ 4096) : St.text 4096 ⟨Pl.wText t ++ r, false⟩ = (t, ⟨r, false⟩) := by
  have h := Pl.rText_w t 4096 (by omega) (by omega) r
  simp [St.text, h]

theorem wText_len2 (t : List UInt8) (hb : (t.length : Int) ≤ 9223372036854775807) : (Pl.wText t).length ≤ t.length + 22 := by
  have := Lib.itoa_length_le t.length (by omega) hb
  simp [Pl.wText]
  omega
theorem cell_at_new (w : World) (x : Value) (T : TypeId) : (w.alloc (.cells #[x] T)).cell? ⟨w.heap.size, 0 + 0, none⟩ = some x := by
  have h := heap_alloc_new w (.cells #[x] T)
  unfold World.cell?
  rw [h]
  rfl
/-- bead.List of one thing. -/
theorem bead_list1 (x : List UInt8) (hx : x.length ≤ 281474976710656) (w : World) :
    Calls Tryd.prog 16 #[.slice (some ⟨w.heap.size, 0, none⟩) 1 1] (w.alloc (.cells #[.string ⟨x.toArray⟩] 9)) fun e w' => e = .returned (.string ⟨(108 :: (x ++ [101])).toArray⟩) ∧ Below w.heap.size w w' := by
  have C := bead_list w.heap.size 0 1 [⟨x.toArray⟩] (w.alloc (.cells #[.string ⟨x.toArray⟩] 9)) (by
    intro j y hy
    match j with
    | 0 => obtain rfl := Option.some.inj hy; exact cell_at_new _ _ _
    | j + 1 => simp at hy) (by simp) (by simp) (by simp) (by simpa using hx)
  refine C.mono fun e w' ⟨he, hb⟩ => ⟨?_, ((Below.refl _ _).alloc (Nat.le_refl _) _).trans (hb.mono (by simp))⟩
  rw [he]
  simp

/-- A slice of texts, as a walk wants it. -/
def Texts (a0 : Option Addr) (ss : List ByteArray) (w : World) : Prop := ss = [] ∨ ∃ nb off, a0 = some ⟨nb, off, none⟩ ∧ nb < w.heap.size ∧ ∀ i, i < ss.length → w.cell? ⟨nb, off + i, none⟩ = some (.string (ss.getD i ByteArray.empty))
theorem Texts.cell {a0 : Option Addr} {ss : List ByteArray} {w w' : World} (h : Texts a0 ss w) (hb : Below w.heap.size w w') {k : Nat} (hk : k < ss.length) : ∃ nb off, a0 = some ⟨nb, off, none⟩ ∧ w'.cell? ⟨nb, off + k, none⟩ = some (.string (ss.getD k ByteArray.empty)) := by
  rcases h with h | ⟨nb, off, h1, h2, h3⟩
  · rw [h] at hk; simp at hk
  · exact ⟨nb, off, h1, (hb.cell (p := ⟨nb, off + k, none⟩) h2).trans (h3 k hk)⟩
end Go.Proofs.YtjjlkijconlbaaaDoor
