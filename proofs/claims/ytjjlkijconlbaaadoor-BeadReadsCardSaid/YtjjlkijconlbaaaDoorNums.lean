/- Rows of numbers as bytes, read one by one. -/
import Derived.Test.YtjjlkijconlbaaaDoorAwake
namespace Go.Proofs.YtjjlkijconlbaaaDoor
open Go.RowKit

def wInts (zs : List Int) : List UInt8 := (zs.map Pl.wInt).flatten
theorem wInts_cons (z : Int) (zs : List Int) : wInts (z :: zs) = Pl.wInt z ++ wInts zs := rfl
theorem wInts_app (xs ys : List Int) : wInts (xs ++ ys) = wInts xs ++ wInts ys := by simp [wInts]
theorem wInts_one (z : Int) : wInts [z] = Pl.wInt z := by simp [wInts]
theorem wInts_take (zs : List Int) (k : Nat) (hk : k < zs.length) : wInts (zs.take (k + 1)) = wInts (zs.take k) ++ Pl.wInt (zs.getD k 0) := by
  rw [List.take_add_one, List.getElem?_eq_getElem hk, wInts_app]
  simp [wInts_one, hk]
theorem wInt_len (n : Int) (h : Pl.I64 n) : (Pl.wInt n).length ≤ 23 := by
  have := Lib.itoa_length_le n h.1 h.2
  simp [Pl.wInt]
  omega
theorem wInts_len (zs : List Int) (h : ∀ z ∈ zs, Pl.I64 z) : (wInts zs).length ≤ 23 * zs.length := by
  induction zs with
  | nil => simp [wInts]
  | cons z zs ih =>
    have h1 := wInt_len z (h z List.mem_cons_self)
    have h2 := ih fun x hx => h x (List.mem_cons_of_mem _ hx)
    rw [wInts_cons, List.length_append, List.length_cons]
    omega

/-- A number taken k times. -/
def ints : Nat → St → St
  | 0, u => u
  | k + 1, u => (ints k u).int.2

theorem int_len (u : St) : u.int.2.s.length ≤ u.s.length := by
  obtain ⟨s, bad⟩ := u
  cases bad with
  | true => exact Nat.le_refl _
  | false =>
    cases hr : Pl.rInt s with
    | none => simp [St.int, hr]
    | some p =>
      obtain ⟨n, r⟩ := p
      have e := (Pl.rInt_some hr).1
      simp [St.int, hr]
      rw [e]; simp
theorem ints_len (u : St) (k : Nat) : (ints k u).s.length ≤ u.s.length := by
  induction k with
  | zero => exact Nat.le_refl _
  | succ k ih => exact Nat.le_trans (int_len _) ih
theorem byte_len (c : UInt8) (u : St) : (u.byte c).s.length ≤ u.s.length := by
  obtain ⟨s, bad⟩ := u
  cases bad with
  | true => exact Nat.le_refl _
  | false =>
    cases hr : Pl.rByte c s with
    | none => simp [St.byte, hr]
    | some r =>
      have e := Pl.rByte_some hr
      simp [St.byte, hr]
      rw [e]; simp

theorem int_right {u : St} (h : u.int.2.bad = false) : u.bad = false ∧ u.s = Pl.wInt u.int.1 ++ u.int.2.s ∧ Pl.I64 u.int.1 := by
  obtain ⟨s, bad⟩ := u
  cases bad with
  | true => cases h
  | false =>
    cases hr : Pl.rInt s with
    | none => simp [St.int, hr] at h
    | some p =>
      obtain ⟨n, r⟩ := p
      obtain ⟨e, hb⟩ := Pl.rInt_some hr
      simp only [St.int, hr]
      exact ⟨trivial, e, hb⟩
theorem ints_right : ∀ (k : Nat) (u : St), (ints k u).bad = false → u.bad = false ∧ ∃ ms : List Int, ms.length = k ∧ (∀ m ∈ ms, Pl.I64 m) ∧ u.s = wInts ms ++ (ints k u).s
  | 0, u, h => ⟨h, [], rfl, by simp, rfl⟩
  | k + 1, u, h => by
    obtain ⟨h1, h2, h3⟩ := int_right (u := ints k u) h
    obtain ⟨h4, ms, h5, h6, h7⟩ := ints_right k u h1
    refine ⟨h4, ms ++ [(ints k u).int.1], by simp [h5], ?_, ?_⟩
    · intro m hm
      rcases List.mem_append.1 hm with hm | hm
      · exact h6 m hm
      · rw [List.mem_singleton.1 hm]; exact h3
    · rw [h7, wInts_app, wInts_one, List.append_assoc]
      exact congrArg (wInts ms ++ ·) h2
theorem byte_right {c : UInt8} {u : St} (h : (u.byte c).bad = false) : u.bad = false ∧ u.s = c :: (u.byte c).s := by
  obtain ⟨s, bad⟩ := u
  cases bad with
  | true => cases h
  | false =>
    cases hr : Pl.rByte c s with
    | none => simp [St.byte, hr] at h
    | some r =>
      have e := Pl.rByte_some hr
      simp only [St.byte, hr]
      exact ⟨trivial, e⟩

theorem int_of (n : Int) (h : Pl.I64 n) (r : List UInt8) : St.int ⟨Pl.wInt n ++ r, false⟩ = (n, ⟨r, false⟩) := by
  simp [St.int, Pl.rInt_w n h r]
theorem byte_of (c : UInt8) (r : List UInt8) : St.byte c ⟨c :: r, false⟩ = ⟨r, false⟩ := by
  simp [St.byte, Pl.rByte]
theorem ints_of (zs : List Int) (hz : ∀ z ∈ zs, Pl.I64 z) (r : List UInt8) : ∀ k, k ≤ zs.length → ints k ⟨wInts zs ++ r, false⟩ = ⟨wInts (zs.drop k) ++ r, false⟩
  | 0, _ => rfl
  | k + 1, hk => by
    have ih := ints_of zs hz r k (by omega)
    have hd : zs.drop k = zs[k] :: zs.drop (k + 1) := List.drop_eq_getElem_cons (by omega)
    show (ints k _).int.2 = _
    rw [ih, hd, wInts_cons, List.append_assoc, int_of _ (hz _ (List.getElem_mem _))]

/-- Two rows of as many numbers, the one with its end the beginning of the other with its end: they are one. -/
theorem rows_one : ∀ (ms zs : List Int) (q : List UInt8), ms.length = zs.length → (∀ m ∈ ms, Pl.I64 m) → (∀ z ∈ zs, Pl.I64 z) → wInts ms ++ ([101] ++ q) = wInts zs ++ [101] → ms = zs ∧ q = []
  | [], [], q, _, _, _, h => by
    refine ⟨rfl, ?_⟩
    simpa [wInts] using h
  | [], _ :: _, _, hl, _, _, _ => by simp at hl
  | _ :: _, [], _, hl, _, _, _ => by simp at hl
  | m :: ms, z :: zs, q, hl, hm, hz, h => by
    rw [wInts_cons, wInts_cons, List.append_assoc, List.append_assoc] at h
    have h1 := Pl.rInt_w m (hm m List.mem_cons_self) (wInts ms ++ ([101] ++ q))
    have h2 := Pl.rInt_w z (hz z List.mem_cons_self) (wInts zs ++ [101])
    rw [h, h2] at h1
    injection h1 with h1
    injection h1 with e1 e2
    obtain ⟨e3, e4⟩ := rows_one ms zs q (by simpa using hl) (fun x hx => hm x (List.mem_cons_of_mem _ hx)) (fun x hx => hz x (List.mem_cons_of_mem _ hx)) e2.symm
    exact ⟨by rw [e1, e3], e4⟩

theorem done_zero (u : St) : u.done = 0 ↔ u.bad = false ∧ u.s = [] := by
  obtain ⟨s, bad⟩ := u
  cases bad <;> cases s <;> simp [St.done]

/-- BYTES THAT ARE CUT OFF WITHIN A LIST ARE NO LIST. -/
theorem cuts_plain (zs : List Int) (hz : ∀ z ∈ zs, Pl.I64 z) (K : Nat) (hK : K ≤ (108 :: (wInts zs ++ [101])).length) :
    ((ints zs.length (St.byte 108 ⟨(108 :: (wInts zs ++ [101])).take K, false⟩)).byte 101).done = 0 ↔ K = (108 :: (wInts zs ++ [101])).length := by
  constructor
  · intro h
    rw [done_zero] at h
    obtain ⟨h1, h2⟩ := h
    obtain ⟨h3, h4⟩ := byte_right h1
    rw [h2] at h4
    obtain ⟨h5, ms, h6, h7, h8⟩ := ints_right _ _ h3
    rw [h4] at h8
    obtain ⟨h9, h10⟩ := byte_right h5
    rw [h8] at h10
    have h11 : (108 :: (wInts zs ++ [101])).take K ++ (108 :: (wInts zs ++ [101])).drop K = 108 :: (wInts zs ++ [101]) := List.take_append_drop _ _
    have h12 : (108 : UInt8) :: (wInts ms ++ [101]) ++ (108 :: (wInts zs ++ [101])).drop K = 108 :: (wInts zs ++ [101]) := by
      rw [← h10]; exact h11
    have h13 : wInts ms ++ ([101] ++ (108 :: (wInts zs ++ [101])).drop K) = wInts zs ++ [101] := by
      have := List.cons.inj h12
      rw [← List.append_assoc]
      exact this.2
    obtain ⟨-, h14⟩ := rows_one ms zs _ h6 h7 hz h13
    have := List.drop_eq_nil_iff.1 h14
    omega
  · intro h
    rw [h, List.take_length, byte_of, ints_of zs hz [101] zs.length (Nat.le_refl _)]
    simp only [List.drop_length]
    rw [show wInts [] ++ [101] = (101 :: [] : List UInt8) from rfl, byte_of]
    rfl

/-- A slice of numbers, as a walk wants it. -/
def Nums (a0 : Option Addr) (zs : List Int) (w : World) : Prop := zs = [] ∨ ∃ nb off, a0 = some ⟨nb, off, none⟩ ∧ nb < w.heap.size ∧ ∀ i, i < zs.length → w.cell? ⟨nb, off + i, none⟩ = some (.int .i64 (zs.getD i 0))
theorem Nums.cell {a0 : Option Addr} {zs : List Int} {w w' : World} (h : Nums a0 zs w) (hb : Below w.heap.size w w') {k : Nat} (hk : k < zs.length) : ∃ nb off, a0 = some ⟨nb, off, none⟩ ∧ w'.cell? ⟨nb, off + k, none⟩ = some (.int .i64 (zs.getD k 0)) := by
  rcases h with h | ⟨nb, off, h1, h2, h3⟩
  · rw [h] at hk; simp at hk
  · exact ⟨nb, off, h1, (hb.cell (p := ⟨nb, off + k, none⟩) h2).trans (h3 k hk)⟩
end Go.Proofs.YtjjlkijconlbaaaDoor
