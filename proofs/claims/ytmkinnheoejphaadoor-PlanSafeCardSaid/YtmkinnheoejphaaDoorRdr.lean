/- Readers, plainly: what stands there. Nothing here knows the program but the reader's state. -/
import Derived.Test.YtmkinnheoejphaaDoorWalk4
namespace Go.Proofs.YtmkinnheoejphaaDoor
theorem int_len (u : St) : u.int.2.s.length ≤ u.s.length := by
  obtain ⟨s, bad⟩ := u
  cases bad with
  | true => exact Nat.le_refl _
  | false =>
    cases hr : Pl.rInt s with
    | none => simp [St.int, hr]
    | some p =>
      obtain ⟨n, r⟩ := p
      have e := (Pl.rInt_some hr).1
      simp [St.int, hr]
      rw [e]; simp
theorem byte_len (c : UInt8) (u : St) : (u.byte c).s.length ≤ u.s.length := by
  obtain ⟨s, bad⟩ := u
  cases bad with
  | true => exact Nat.le_refl _
  | false =>
    cases hr : Pl.rByte c s with
    | none => simp [St.byte, hr]
    | some r =>
      have e := Pl.rByte_some hr
      simp [St.byte, hr]
      rw [e]; simp
theorem int_64 (u : St) : Pl.I64 (St.int u).1 := by
  obtain ⟨l, bad⟩ := u
  cases bad with
  | true => exact ⟨by simp [St.int], by simp [St.int]⟩
  | false =>
    cases hr : Pl.rInt l with
    | none => simp [St.int, hr]; exact ⟨by omega, by omega⟩
    | some p => simp [St.int, hr]; exact (Pl.rInt_some hr).2
/-- Not wrong behind a byte: it stood there. -/
theorem byte_ok {c : UInt8} {u : St} (h : (u.byte c).bad = false) : u.bad = false ∧ u.s = c :: (u.byte c).s := by
  obtain ⟨s, bad⟩ := u
  cases bad with
  | true => simp [St.byte] at h
  | false =>
    cases hr : Pl.rByte c s with
    | none => simp [St.byte, hr] at h
    | some r =>
      have e := Pl.rByte_some hr
      simp [St.byte, hr]
      exact e
theorem int_ok {u : St} (h : u.int.2.bad = false) : u.bad = false ∧ u.s = Pl.wInt u.int.1 ++ u.int.2.s := by
  obtain ⟨s, bad⟩ := u
  cases bad with
  | true => simp [St.int] at h
  | false =>
    cases hr : Pl.rInt s with
    | none => simp [St.int, hr] at h
    | some p =>
      obtain ⟨n, r⟩ := p
      have e := (Pl.rInt_some hr).1
      simp [St.int, hr]
      exact e
theorem rByte_cons (c : UInt8) (r : List UInt8) : Pl.rByte c (c :: r) = some r := by
  unfold Pl.rByte
  simp
theorem byte_at (c : UInt8) (r : List UInt8) : St.byte c ⟨c :: r, false⟩ = ⟨r, false⟩ := by
  simp [St.byte, rByte_cons]
theorem int_at {n : Int} (h : Pl.I64 n) (r : List UInt8) : St.int ⟨Pl.wInt n ++ r, false⟩ = (n, ⟨r, false⟩) := by
  simp [St.int, Pl.rInt_w n h r]
theorem more_l (r : List UInt8) : St.more ⟨108 :: r, false⟩ = true := by simp [St.more]
theorem more_e (r : List UInt8) : St.more ⟨101 :: r, false⟩ = false := by simp [St.more]
theorem more_ok {u : St} (h : u.more = true) : u.bad = false := by
  obtain ⟨s, bad⟩ := u
  cases bad with
  | true => simp [St.more] at h
  | false => rfl
theorem done_ok {u : St} (h : u.done = 0) : u.bad = false ∧ u.s = [] := by
  obtain ⟨s, bad⟩ := u
  cases bad with
  | true => simp [St.done] at h
  | false =>
    cases s with
    | nil => exact ⟨rfl, rfl⟩
    | cons a r => simp [St.done] at h

theorem text_len (m : Int) (u : St) : (u.text m).2.s.length ≤ u.s.length := by
  obtain ⟨s, bad⟩ := u
  cases bad with
  | true => exact Nat.le_refl _
  | false =>
    cases hr : Pl.rText m s with
    | none => simp [St.text, hr]
    | some p =>
      obtain ⟨t, r⟩ := p
      have e := (Pl.rText_some hr).1
      simp [St.text, hr]
      rw [e]; simp
theorem text_short (m : Int) (u : St) (h : 0 ≤ m) : ((u.text m).1.length : Int) ≤ m := by
  obtain ⟨s, bad⟩ := u
  cases bad with
  | true => simpa [St.text] using h
  | false =>
    cases hr : Pl.rText m s with
    | none => simpa [St.text, hr] using h
    | some p =>
      obtain ⟨t, r⟩ := p
      have e := (Pl.rText_some hr).2.1
      simpa [St.text, hr] using e
theorem text_at {t : List UInt8} {m : Int} (h : (t.length : Int) ≤ m) (h2 : (t.length : Int) ≤ 9223372036854775807) (r : List UInt8) : St.text m ⟨Pl.wText t ++ r, false⟩ = (t, ⟨r, false⟩) := by
  simp [St.text, Pl.rText_w t m h h2 r]
theorem more_text (t r : List UInt8) : St.more ⟨Pl.wText t ++ r, false⟩ = true := by
  obtain ⟨c, k, e, hc⟩ := Pl.wText_head t
  rw [e]
  simp only [St.more, List.cons_append, Bool.not_false, Bool.true_and, bne_iff_ne, ne_eq]
  intro h
  subst h
  simp at hc
end Go.Proofs.YtmkinnheoejphaaDoor
