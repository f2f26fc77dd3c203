/- PLAIN: a reader; a table's bytes, and the table of bytes. -/
import Derived.Test.YtloallndnmofnaaGreatDoorPlain
import Derived.Test.YtloallndnmofnaaGreatDoorLd
namespace Go.Proofs.YtloallndnmofnaaGreatDoor

structure St where
  s : List UInt8
  bad : Bool

def St.int (u : St) : Int × St :=
  if u.bad then (0, u) else match Pl.rInt u.s with | some (n, r) => (n, ⟨r, false⟩) | none => (0, ⟨u.s, true⟩)
def St.text (most : Int) (u : St) : List UInt8 × St :=
  if u.bad then ([], u) else match Pl.rText most u.s with | some (x, r) => (x, ⟨r, false⟩) | none => ([], ⟨u.s, true⟩)
def St.byte (c : UInt8) (u : St) : St :=
  if u.bad then u else match Pl.rByte c u.s with | some r => ⟨r, false⟩ | none => ⟨u.s, true⟩
def St.more (u : St) : Bool := !u.bad && match u.s with | [] => false | x :: _ => x != 101
def St.done (u : St) : Int := if u.bad || !u.s.isEmpty then 3 else 0

theorem int_len (u : St) : u.int.2.s.length ≤ u.s.length := by
  obtain ⟨s, bad⟩ := u
  cases bad with
  | true => exact Nat.le_refl _
  | false =>
    cases hr : Pl.rInt s with
    | none => simp [St.int, hr]
    | some p =>
      obtain ⟨n, r⟩ := p
      have e := (Pl.rInt_some hr).1
      simp [St.int, hr]
      rw [e]; simp
theorem byte_len (c : UInt8) (u : St) : (u.byte c).s.length ≤ u.s.length := by
  obtain ⟨s, bad⟩ := u
  cases bad with
  | true => exact Nat.le_refl _
  | false =>
    cases hr : Pl.rByte c s with
    | none => simp [St.byte, hr]
    | some r =>
      have e := Pl.rByte_some hr
      simp [St.byte, hr]
      rw [e]; simp
theorem int_64 (u : St) : Pl.I64 (St.int u).1 := by
  obtain ⟨l, bad⟩ := u
  cases bad with
  | true => exact ⟨by simp [St.int], by simp [St.int]⟩
  | false =>
    cases hr : Pl.rInt l with
    | none => simp [St.int, hr]; exact ⟨by omega, by omega⟩
    | some p => simp [St.int, hr]; exact (Pl.rInt_some hr).2
/-- Not wrong behind a byte: it stood there. -/
theorem byte_ok {c : UInt8} {u : St} (h : (u.byte c).bad = false) : u.bad = false ∧ u.s = c :: (u.byte c).s := by
  obtain ⟨s, bad⟩ := u
  cases bad with
  | true => simp [St.byte] at h
  | false =>
    cases hr : Pl.rByte c s with
    | none => simp [St.byte, hr] at h
    | some r =>
      have e := Pl.rByte_some hr
      simp [St.byte, hr]
      exact e
theorem int_ok {u : St} (h : u.int.2.bad = false) : u.bad = false ∧ u.s = Pl.wInt u.int.1 ++ u.int.2.s := by
  obtain ⟨s, bad⟩ := u
  cases bad with
  | true => simp [St.int] at h
  | false =>
    cases hr : Pl.rInt s with
    | none => simp [St.int, hr] at h
    | some p =>
      obtain ⟨n, r⟩ := p
      have e := (Pl.rInt_some hr).1
      simp [St.int, hr]
      exact e
theorem rByte_cons (c : UInt8) (r : List UInt8) : Pl.rByte c (c :: r) = some r := by
  unfold Pl.rByte
  simp
theorem byte_at (c : UInt8) (r : List UInt8) : St.byte c ⟨c :: r, false⟩ = ⟨r, false⟩ := by
  simp [St.byte, rByte_cons]
theorem int_at {n : Int} (h : Pl.I64 n) (r : List UInt8) : St.int ⟨Pl.wInt n ++ r, false⟩ = (n, ⟨r, false⟩) := by
  simp [St.int, Pl.rInt_w n h r]
theorem more_l (r : List UInt8) : St.more ⟨108 :: r, false⟩ = true := by simp [St.more]
theorem more_e (r : List UInt8) : St.more ⟨101 :: r, false⟩ = false := by simp [St.more]
theorem more_ok {u : St} (h : u.more = true) : u.bad = false := by
  obtain ⟨s, bad⟩ := u
  cases bad with
  | true => simp [St.more] at h
  | false => rfl
theorem done_ok {u : St} (h : u.done = 0) : u.bad = false ∧ u.s = [] := by
  obtain ⟨s, bad⟩ := u
  cases bad with
  | true => simp [St.done] at h
  | false =>
    cases s with
    | nil => exact ⟨rfl, rfl⟩
    | cons a r => simp [St.done] at h

namespace Ld
def encS (s : Sl) : List UInt8 := 108 :: (Pl.wInt s.seq ++ Pl.wInt s.base ++ Pl.wInt s.fin ++ [101])
def encP (x : Int × List Sl) : List UInt8 := 108 :: (Pl.wInt x.1 ++ x.2.flatMap encS ++ [101])
def encT (T : Tb) : List UInt8 := 108 :: (T.flatMap encP ++ [101])
/-- A slot taken. -/
def tkSlot (u : St) : Sl × St :=
  (⟨(u.byte 108).int.1, (u.byte 108).int.2.int.1, (u.byte 108).int.2.int.2.int.1⟩, (u.byte 108).int.2.int.2.int.2.byte 101)
def tkSlots : Nat → St → List Sl → List Sl × St
  | 0, u, acc => (acc, u)
  | f + 1, u, acc => if u.more then tkSlots f (tkSlot u).2 (acc ++ [(tkSlot u).1]) else (acc, u)
/-- A producer taken, of at most f slots. -/
def tkRow (f : Nat) (u : St) : (Int × List Sl) × St :=
  (((u.byte 108).int.1, (tkSlots f (u.byte 108).int.2 []).1), (tkSlots f (u.byte 108).int.2 []).2.byte 101)
def tkRows (f : Nat) : Nat → St → Tb → Tb × St
  | 0, u, acc => (acc, u)
  | g + 1, u, acc => if u.more then tkRows f g (tkRow f u).2 (acc ++ [(tkRow f u).1]) else (acc, u)
/-- All but the last look: the table, and where the reader stands. -/
def tkTab (f g : Nat) (s : List UInt8) : Tb × St :=
  ((tkRows f g (St.byte 108 ⟨s, false⟩) []).1, (tkRows f g (St.byte 108 ⟨s, false⟩) []).2.byte 101)
def decT (f g : Nat) (s : List UInt8) : Option Tb := if (tkTab f g s).2.done = 0 ∧ goodB (tkTab f g s).1 = true then some (tkTab f g s).1 else none

theorem tkSlot_ok {u : St} (h : (tkSlot u).2.bad = false) : u.bad = false ∧ u.s = encS (tkSlot u).1 ++ (tkSlot u).2.s := by
  unfold tkSlot at h ⊢
  simp only at h ⊢
  obtain ⟨h1, e1⟩ := byte_ok h
  obtain ⟨h2, e2⟩ := int_ok h1
  obtain ⟨h3, e3⟩ := int_ok h2
  obtain ⟨h4, e4⟩ := int_ok h3
  obtain ⟨h5, e5⟩ := byte_ok h4
  refine ⟨h5, ?_⟩
  rw [e5, e4, e3, e2, e1]
  simp [encS]
theorem tkSlot_at (s : Sl) (hs : okS s = true) (r : List UInt8) : tkSlot ⟨encS s ++ r, false⟩ = (s, ⟨r, false⟩) := by
  obtain ⟨a, b, c, -⟩ := okS_iff hs
  have i1 : Pl.I64 s.seq := ⟨by omega, by omega⟩
  have i2 : Pl.I64 s.base := ⟨by omega, by omega⟩
  have i3 : Pl.I64 s.fin := ⟨by omega, by omega⟩
  have e : encS s ++ r = 108 :: (Pl.wInt s.seq ++ (Pl.wInt s.base ++ (Pl.wInt s.fin ++ (101 :: r)))) := by simp [encS]
  unfold tkSlot
  rw [e, byte_at, int_at i1, int_at i2, int_at i3, byte_at]
theorem tkSlots_ok : ∀ (f : Nat) {u : St} {acc : List Sl}, (tkSlots f u acc).2.bad = false → u.bad = false ∧ ∃ L, (tkSlots f u acc).1 = acc ++ L ∧ u.s = L.flatMap encS ++ (tkSlots f u acc).2.s
  | 0, u, acc, h => ⟨h, [], by simp [tkSlots], by simp [tkSlots]⟩
  | f + 1, u, acc, h => by
    unfold tkSlots at h ⊢
    split
    · rename_i hm
      rw [if_pos hm] at h
      obtain ⟨h1, L, e1, e2⟩ := tkSlots_ok f h
      obtain ⟨h3, e3⟩ := tkSlot_ok h1
      exact ⟨h3, (tkSlot u).1 :: L, by rw [e1]; simp, by rw [e3, e2]; simp⟩
    · rename_i hm
      rw [if_neg hm] at h
      exact ⟨h, [], by simp, by simp⟩
theorem tkSlots_at : ∀ (L : List Sl) (f : Nat) (r : List UInt8) (acc : List Sl), L.length ≤ f → (∀ s ∈ L, okS s = true) → tkSlots f ⟨L.flatMap encS ++ 101 :: r, false⟩ acc = (acc ++ L, ⟨101 :: r, false⟩)
  | [], 0, r, acc, _, _ => by simp [tkSlots]
  | [], f + 1, r, acc, _, _ => by
    unfold tkSlots
    rw [if_neg (by simp [more_e])]
    simp
  | s :: L, 0, r, acc, h, _ => by simp at h
  | s :: L, f + 1, r, acc, h, hs => by
    unfold tkSlots
    have e : (s :: L).flatMap encS ++ 101 :: r = encS s ++ (L.flatMap encS ++ 101 :: r) := by simp
    rw [e]
    have hm : St.more ⟨encS s ++ (L.flatMap encS ++ 101 :: r), false⟩ = true := by
      unfold encS; exact more_l _
    rw [if_pos hm, tkSlot_at s (hs s (by simp)), tkSlots_at L f r _ (by simpa using h) (fun x hx => hs x (by simp [hx]))]
    simp
theorem tkRow_ok {f : Nat} {u : St} (h : (tkRow f u).2.bad = false) : u.bad = false ∧ u.s = encP (tkRow f u).1 ++ (tkRow f u).2.s := by
  unfold tkRow at h ⊢
  simp only at h ⊢
  obtain ⟨h1, e1⟩ := byte_ok h
  obtain ⟨h2, L, e2, e3⟩ := tkSlots_ok f h1
  obtain ⟨h3, e4⟩ := int_ok h2
  obtain ⟨h5, e5⟩ := byte_ok h3
  refine ⟨h5, ?_⟩
  rw [e2, e5, e4, e3, e1]
  simp [encP]
theorem tkRow_at {f : Nat} {x : Int × List Sl} (hx : rowOk x = true) (hf : 5 ≤ f) (r : List UInt8) : tkRow f ⟨encP x ++ r, false⟩ = (x, ⟨r, false⟩) := by
  obtain ⟨h1, h2, h3, h4⟩ := rowOk_iff.1 hx
  have i1 : Pl.I64 x.1 := by have := numB_iff.1 h1; exact ⟨by omega, by omega⟩
  have e : encP x ++ r = 108 :: (Pl.wInt x.1 ++ (x.2.flatMap encS ++ 101 :: r)) := by simp [encP]
  unfold tkRow
  rw [e, byte_at, int_at i1, tkSlots_at x.2 f r [] (by omega) (slots_mem h4), byte_at]
  simp
theorem tkRows_ok {f : Nat} : ∀ (g : Nat) {u : St} {acc : Tb}, (tkRows f g u acc).2.bad = false → u.bad = false ∧ ∃ T, (tkRows f g u acc).1 = acc ++ T ∧ u.s = T.flatMap encP ++ (tkRows f g u acc).2.s
  | 0, u, acc, h => ⟨h, [], by simp [tkRows], by simp [tkRows]⟩
  | g + 1, u, acc, h => by
    unfold tkRows at h ⊢
    split
    · rename_i hm
      rw [if_pos hm] at h
      obtain ⟨h1, L, e1, e2⟩ := tkRows_ok g h
      obtain ⟨h3, e3⟩ := tkRow_ok h1
      exact ⟨h3, (tkRow f u).1 :: L, by rw [e1]; simp, by rw [e3, e2]; simp⟩
    · rename_i hm
      rw [if_neg hm] at h
      exact ⟨h, [], by simp, by simp⟩
theorem tkRows_at {f : Nat} (hf : 5 ≤ f) : ∀ (T : Tb) (g : Nat) (r : List UInt8) (acc : Tb), T.length ≤ g → (∀ x ∈ T, rowOk x = true) → tkRows f g ⟨T.flatMap encP ++ 101 :: r, false⟩ acc = (acc ++ T, ⟨101 :: r, false⟩)
  | [], 0, r, acc, _, _ => by simp [tkRows]
  | [], g + 1, r, acc, _, _ => by
    unfold tkRows
    rw [if_neg (by simp [more_e])]
    simp
  | x :: T, 0, r, acc, h, _ => by simp at h
  | x :: T, g + 1, r, acc, h, hs => by
    unfold tkRows
    have e : (x :: T).flatMap encP ++ 101 :: r = encP x ++ (T.flatMap encP ++ 101 :: r) := by simp
    rw [e]
    have hm : St.more ⟨encP x ++ (T.flatMap encP ++ 101 :: r), false⟩ = true := by
      unfold encP; exact more_l _
    rw [if_pos hm, tkRow_at (hs x (by simp)) hf, tkRows_at hf T g r _ (by simpa using h) (fun y hy => hs y (by simp [hy]))]
    simp
/-- What is read of bytes is written as those bytes; and every table's bytes are read. -/
theorem decT_iff {f g : Nat} (hf : 5 ≤ f) (hg : 64 ≤ g) {s : List UInt8} {T : Tb} : decT f g s = some T ↔ goodB T = true ∧ s = encT T := by
  constructor
  · intro h
    unfold decT at h
    split at h
    · rename_i hc
      obtain ⟨hd, hG⟩ := hc
      have hT : (tkTab f g s).1 = T := Option.some.inj h
      obtain ⟨h1, e1⟩ := done_ok hd
      obtain ⟨h2, e2⟩ := byte_ok h1
      obtain ⟨h3, T0, e3, e4⟩ := tkRows_ok g h2
      obtain ⟨h5, e5⟩ := byte_ok h3
      have e6 : T = T0 := by rw [← hT]; show (tkRows f g _ []).1 = T0; rw [e3]; rfl
      refine ⟨hT ▸ hG, ?_⟩
      have e7 : s = 108 :: (St.byte 108 ⟨s, false⟩).s := e5
      rw [e7, e4, e2]
      have e8 : (tkTab f g s).2.s = [] := e1
      have e9 : ((tkRows f g (St.byte 108 ⟨s, false⟩) []).2.byte 101).s = [] := e8
      rw [e9, e6]
      rfl
    · cases h
  · rintro ⟨hG, rfl⟩
    obtain ⟨h64, hrow, -⟩ := good_iff.1 hG
    have e : tkTab f g (encT T) = (T, ⟨[], false⟩) := by
      have h0 : St.byte 108 ⟨encT T, false⟩ = ⟨T.flatMap encP ++ 101 :: [], false⟩ := by unfold encT; rw [byte_at]
      unfold tkTab
      rw [h0, tkRows_at hf T g [] [] (by omega) hrow, byte_at]
      rfl
    unfold decT
    rw [e]
    rw [if_pos ⟨rfl, hG⟩]
theorem decT_same {f g f' g' : Nat} (hf : 5 ≤ f) (hg : 64 ≤ g) (hf' : 5 ≤ f') (hg' : 64 ≤ g') (s : List UInt8) : decT f g s = decT f' g' s := by
  cases h : decT f g s with
  | none =>
    cases h' : decT f' g' s with
    | none => rfl
    | some T =>
      have := (decT_iff hf hg).2 ((decT_iff hf' hg').1 h')
      rw [h] at this
      cases this
  | some T => exact ((decT_iff hf' hg').2 ((decT_iff hf hg).1 h)).symm
end Ld
end Go.Proofs.YtloallndnmofnaaGreatDoor
