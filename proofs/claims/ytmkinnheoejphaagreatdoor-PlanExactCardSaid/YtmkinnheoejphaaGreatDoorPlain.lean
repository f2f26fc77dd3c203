/- PLAIN FACTS, no model in this text: decimal numerals there and back; a text cut at a byte; the forms of numbers and texts as bytes, and what a reader takes of them. -/
import Derived.Lib.AtoiAllCases
import Derived.Lib.ItoaNum
import Derived.Lib.IndexMore
import Derived.Lib.Strings
namespace Go.Proofs.YtmkinnheoejphaaGreatDoor
namespace Pl
open Go.Lib

theorem ofNat_toNat (k : Nat) (h : k < 256) : (UInt8.ofNat k).toNat = k := by
  rw [UInt8.toNat_ofNat']; omega

theorem parse_snoc : ∀ (l : List UInt8) (c : UInt8) (acc u : Nat), parseUint10 acc l = .ok u →
    parseUint10 acc (l ++ [c]) = parseUint10 u [c]
  | [], c, acc, u, h => by
    simp only [parseUint10] at h
    injection h with h
    subst h
    rfl
  | x :: l, c, acc, u, h => by
    simp only [List.cons_append, parseUint10] at h ⊢
    split at h
    · rename_i hx
      rw [if_pos hx]
      split at h
      · cases h
      · rename_i h1
        rw [if_neg h1]
        split at h
        · cases h
        · rename_i h2
          rw [if_neg h2]
          have := parse_snoc l c _ u h
          simpa only [parseUint10] using this
    · cases h

theorem parse_dec (u : Nat) (h : u < 18446744073709551616) : parseUint10 0 (decDigits u) = .ok u := by
  induction u using Nat.strongRecOn with
  | _ u ih =>
    by_cases h1 : u < 10
    · rw [decDigits, dif_pos h1]
      have e := ofNat_toNat (48 + u) (by omega)
      simp only [parseUint10, e]
      rw [if_pos (by omega), if_neg (by omega), if_neg (by omega)]
      congr 1
      omega
    · rw [decDigits, dif_neg h1]
      rw [parse_snoc _ _ 0 (u / 10) (ih (u / 10) (by omega) (by omega))]
      have e := ofNat_toNat (48 + u % 10) (by omega)
      simp only [parseUint10, e]
      rw [if_pos (by omega), if_neg (by omega), if_neg (by omega)]
      congr 1
      omega

/-- The digits of a numeral are digits. -/
theorem dec_digit (u : Nat) : ∀ c ∈ decDigits u, 48 ≤ c.toNat ∧ c.toNat ≤ 57 := by
  induction u using Nat.strongRecOn with
  | _ u ih =>
    intro c hc
    by_cases h1 : u < 10
    · rw [decDigits, dif_pos h1] at hc
      have : c = UInt8.ofNat (48 + u) := by simpa using hc
      subst this
      rw [ofNat_toNat _ (by omega)]
      omega
    · rw [decDigits, dif_neg h1] at hc
      rcases List.mem_append.1 hc with hc | hc
      · exact ih (u / 10) (by omega) c hc
      · have : c = UInt8.ofNat (48 + u % 10) := by simpa using hc
        subst this
        rw [ofNat_toNat _ (by omega)]
        omega

theorem dec_ne (u : Nat) : decDigits u ≠ [] := by
  intro h
  have := decDigits_length u
  rw [h] at this
  have := nDigits_pos u
  simp at *
  omega

/-- A numeral's bytes are digits and '-'. -/
theorem itoa_byte (n : Int) : ∀ c ∈ itoa n, c.toNat = 45 ∨ (48 ≤ c.toNat ∧ c.toNat ≤ 57) := by
  intro c hc
  unfold itoa at hc
  split at hc
  · rcases List.mem_cons.1 hc with h | h
    · left; rw [h]; rfl
    · right; exact dec_digit _ c h
  · right; exact dec_digit _ c hc

theorem itoa_ne (n : Int) : itoa n ≠ [] := by
  unfold itoa
  split
  · simp
  · exact dec_ne _

theorem itoa_not_mem (n : Int) (c : UInt8) (h : c.toNat ≠ 45) (h2 : c.toNat < 48 ∨ 57 < c.toNat) : c ∉ itoa n := by
  intro hc
  have := itoa_byte n c hc
  omega

/-- THERE AND BACK. -/
theorem atoi_itoa (n : Int) (h0 : -9223372036854775808 ≤ n) (h1 : n ≤ 9223372036854775807) : atoiAll (itoa n) = .ok n := by
  unfold itoa
  by_cases hn : n < 0
  · rw [if_pos hn, atoiAll_minus]
    have e : parseMag (decDigits n.natAbs) = .ok n.natAbs := by
      unfold parseMag
      rw [if_neg (dec_ne _)]
      exact parse_dec _ (by omega)
    rw [e]
    simp only [signed]
    rw [if_neg (by omega)]
    congr 1
    omega
  · rw [if_neg hn]
    have e : parseMag (decDigits n.toNat) = .ok n.toNat := by
      unfold parseMag
      rw [if_neg (dec_ne _)]
      exact parse_dec _ (by omega)
    cases hd : decDigits n.toNat with
    | nil => exact absurd hd (dec_ne _)
    | cons c r =>
      have hc := dec_digit n.toNat c (by rw [hd]; exact List.mem_cons_self)
      rw [atoiAll_plain c r (by omega) (by omega), ← hd, e]
      simp only [signless]
      rw [if_neg (by omega)]
      congr 1
      omega

/-- What the program's 'decimal' answers: the number, if the digits are as it would be written. -/
def dec (l : List UInt8) : Option Int :=
  match atoiAll l with
  | .ok n => if itoa n = l then some n else none
  | _ => none

theorem dec_itoa (n : Int) (h0 : -9223372036854775808 ≤ n) (h1 : n ≤ 9223372036854775807) : dec (itoa n) = some n := by
  unfold dec
  rw [atoi_itoa n h0 h1]
  simp

theorem dec_some {l : List UInt8} {n : Int} (h : dec l = some n) : l = itoa n ∧ -9223372036854775808 ≤ n ∧ n ≤ 9223372036854775807 := by
  unfold dec at h
  split at h
  · rename_i m hm
    split at h
    · rename_i e
      injection h with h
      subst h
      exact ⟨e.symm, atoiAll_bounds hm⟩
    · cases h
  · cases h

/-! ### A text cut at a byte -/
theorem occ_one (s : List UInt8) (c : UInt8) (i : Nat) : occAt s [c] i = true ↔ s[i]? = some c := by
  unfold occAt
  rw [List.isPrefixOf_iff_prefix]
  constructor
  · rintro ⟨r, hr⟩
    have : (s.drop i)[0]? = some c := by rw [← hr]; rfl
    simpa using this
  · intro h
    have hi : i < s.length := by
      rcases Nat.lt_or_ge i s.length with h' | h'
      · exact h'
      · rw [List.getElem?_eq_none h'] at h; cases h
    rw [List.getElem?_eq_getElem hi] at h
    injection h with h
    refine ⟨s.drop (i + 1), ?_⟩
    rw [List.drop_eq_getElem_cons hi, h]
    rfl

theorem cut_hit (a b : List UInt8) (c : UInt8) (h : c ∉ a) : cut (a ++ c :: b) [c] = (a, b, true) := by
  have e : index (a ++ c :: b) [c] = (a.length : Nat) := by
    refine index_first (by simp) ((occ_one _ _ _).2 (by simp)) fun j hj => ?_
    cases ho : occAt (a ++ c :: b) [c] j with
    | false => rfl
    | true =>
      have := (occ_one _ _ _).1 ho
      rw [List.getElem?_append_left hj] at this
      exact absurd (List.mem_of_getElem? this) h
  unfold cut
  rw [e, if_pos (by omega)]
  simp

theorem cut_miss (s : List UInt8) (c : UInt8) (h : c ∉ s) : cut s [c] = (s, [], false) := by
  have e : index s [c] = -1 := by
    refine index_none fun j _ => ?_
    cases ho : occAt s [c] j with
    | false => rfl
    | true => exact absurd (List.mem_of_getElem? ((occ_one _ _ _).1 ho)) h
  unfold cut
  rw [e, if_neg (by omega)]

theorem split_at (c : UInt8) : ∀ (s : List UInt8), c ∈ s → ∃ a b, s = a ++ c :: b ∧ c ∉ a
  | [], h => by cases h
  | x :: s, h => by
    by_cases hx : x = c
    · exact ⟨[], s, by rw [hx]; rfl, by simp⟩
    · have hs : c ∈ s := by
        rcases List.mem_cons.1 h with h | h
        · exact absurd h.symm hx
        · exact h
      obtain ⟨a, b, e, ha⟩ := split_at c s hs
      refine ⟨x :: a, b, by rw [e]; rfl, ?_⟩
      intro hm
      rcases List.mem_cons.1 hm with h | h
      · exact hx h.symm
      · exact ha h

theorem cut_true {s : List UInt8} {c : UInt8} (h : (cut s [c]).2.2 = true) : s = (cut s [c]).1 ++ c :: (cut s [c]).2.1 ∧ c ∉ (cut s [c]).1 := by
  by_cases hc : c ∈ s
  · obtain ⟨a, b, e, ha⟩ := split_at c s hc
    rw [e, cut_hit a b c ha]
    exact ⟨rfl, ha⟩
  · rw [cut_miss s c hc] at h
    cases h

/-! ### What a reader takes -/
/-- A number's bytes at the beginning: the number, and what stands behind. -/
def rInt (s : List UInt8) : Option (Int × List UInt8) :=
  if hasPrefix s [105] = true ∧ (cut (trimPrefix s [105]) [101]).2.2 = true then
    match dec (cut (trimPrefix s [105]) [101]).1 with
    | some n => some (n, (cut (trimPrefix s [105]) [101]).2.1)
    | none => none
  else none

/-- A text's. -/
def rText (most : Int) (s : List UInt8) : Option (List UInt8 × List UInt8) :=
  if (cut s [58]).2.2 = true then
    match dec (cut s [58]).1 with
    | some n => if 0 ≤ n ∧ n ≤ most ∧ n ≤ (cut s [58]).2.1.length then some ((cut s [58]).2.1.take n.toNat, (cut s [58]).2.1.drop n.toNat) else none
    | none => none
  else none

theorem rInt_parts {s r : List UInt8} {n : Int} (h : rInt s = some (n, r)) : ∃ body ds, trimPrefix s [105] = body ∧ hasPrefix s [105] = true ∧ cut body [101] = (ds, r, true) ∧ dec ds = some n := by
  unfold rInt at h
  split at h
  · rename_i hh
    split at h
    · rename_i m hm
      injection h with h
      injection h with h h'
      subst h
      exact ⟨_, _, rfl, hh.1, by rw [← h', ← hh.2], hm⟩
    · cases h
  · cases h
theorem rInt_none {s : List UInt8} (h : rInt s = none) : ∃ body ds bh p f, trimPrefix s [105] = body ∧ hasPrefix s [105] = p ∧ cut body [101] = (ds, bh, f) ∧ (p && f && (dec ds).isSome) = false := by
  refine ⟨_, (cut (trimPrefix s [105]) [101]).1, (cut (trimPrefix s [105]) [101]).2.1, _, (cut (trimPrefix s [105]) [101]).2.2, rfl, rfl, rfl, ?_⟩
  unfold rInt at h
  split at h
  · rename_i hh
    split at h
    · cases h
    · rename_i hm
      rw [hm]
      simp
  · rename_i hh
    cases h1 : hasPrefix s [105] <;> cases h2 : (cut (trimPrefix s [105]) [101]).2.2 <;> simp_all
theorem rText_parts {s t r : List UInt8} {most : Int} (h : rText most s = some (t, r)) : ∃ ds bh n, cut s [58] = (ds, bh, true) ∧ dec ds = some n ∧ 0 ≤ n ∧ n ≤ most ∧ n ≤ bh.length ∧ t = bh.take n.toNat ∧ r = bh.drop n.toNat := by
  unfold rText at h
  split at h
  · rename_i hh
    split at h
    · rename_i m hm
      split at h
      · rename_i hb
        injection h with h
        injection h with h h'
        exact ⟨_, _, m, by rw [← hh], hm, hb.1, hb.2.1, hb.2.2, h.symm, h'.symm⟩
      · cases h
    · cases h
  · cases h
theorem rText_none {s : List UInt8} {most : Int} (h : rText most s = none) : ∃ ds bh f, cut s [58] = (ds, bh, f) ∧
    (f = false ∨ (f = true ∧ dec ds = none) ∨ ∃ n, f = true ∧ dec ds = some n ∧ (n < 0 ∨ (0 ≤ n ∧ most < n) ∨ (0 ≤ n ∧ n ≤ most ∧ (bh.length : Int) < n))) := by
  refine ⟨(cut s [58]).1, (cut s [58]).2.1, (cut s [58]).2.2, rfl, ?_⟩
  unfold rText at h
  split at h
  · rename_i hh
    split at h
    · rename_i m hm
      split at h
      · cases h
      · rename_i hb
        right; right
        exact ⟨m, hh, hm, by omega⟩
    · rename_i hm
      right; left
      exact ⟨hh, hm⟩
  · rename_i hh
    left
    simpa using hh

/-- A letter. -/
def rByte (c : UInt8) (s : List UInt8) : Option (List UInt8) :=
  match s with
  | x :: r => if x = c then some r else none
  | [] => none

def wInt (n : Int) : List UInt8 := 105 :: (itoa n ++ [101])
def wText (t : List UInt8) : List UInt8 := itoa t.length ++ 58 :: t

def I64 (n : Int) : Prop := -9223372036854775808 ≤ n ∧ n ≤ 9223372036854775807

theorem rInt_w (n : Int) (h : I64 n) (r : List UInt8) : rInt (wInt n ++ r) = some (n, r) := by
  have e1 : wInt n ++ r = 105 :: (itoa n ++ 101 :: r) := by simp [wInt]
  have e2 : trimPrefix (wInt n ++ r) [105] = itoa n ++ 101 :: r := by rw [e1]; simp [trimPrefix, hasPrefix]
  have e3 := cut_hit (itoa n) r 101 (itoa_not_mem n 101 (by decide) (by decide))
  unfold rInt
  rw [e2, e3, e1]
  simp [hasPrefix, dec_itoa n h.1 h.2]

theorem rInt_some {s r : List UInt8} {n : Int} (h : rInt s = some (n, r)) : s = wInt n ++ r ∧ I64 n := by
  unfold rInt at h
  split at h
  · rename_i hh
    obtain ⟨hp, hc⟩ := hh
    obtain ⟨e, -⟩ := cut_true hc
    split at h
    · rename_i m hm
      obtain ⟨e2, hb⟩ := dec_some hm
      injection h with h
      injection h with h h'
      subst h
      refine ⟨?_, hb⟩
      rw [e2, h'] at e
      cases s with
      | nil => simp [hasPrefix] at hp
      | cons x s =>
        have hx : (105 : UInt8) = x := by simpa [hasPrefix] using hp
        subst hx
        have : trimPrefix (105 :: s) [105] = s := by simp [trimPrefix, hasPrefix]
        rw [this] at e
        rw [e]
        simp [wInt]
    · cases h
  · cases h

theorem rText_w (t : List UInt8) (most : Int) (ht : (t.length : Int) ≤ most) (hb : (t.length : Int) ≤ 9223372036854775807) (r : List UInt8) : rText most (wText t ++ r) = some (t, r) := by
  have e1 : wText t ++ r = itoa t.length ++ 58 :: (t ++ r) := by simp [wText]
  have e3 := cut_hit (itoa t.length) (t ++ r) 58 (itoa_not_mem _ 58 (by decide) (by decide))
  unfold rText
  rw [e1, e3]
  simp only [if_true, dec_itoa (t.length : Int) (by omega) hb]
  rw [if_pos ⟨by omega, ht, by simp only [List.length_append]; omega⟩]
  simp

theorem rText_long (t : List UInt8) (most : Int) (ht : most < (t.length : Int)) (hb : (t.length : Int) ≤ 9223372036854775807) (r : List UInt8) : rText most (wText t ++ r) = none := by
  have e1 : wText t ++ r = itoa t.length ++ 58 :: (t ++ r) := by simp [wText]
  have e3 := cut_hit (itoa t.length) (t ++ r) 58 (itoa_not_mem _ 58 (by decide) (by decide))
  unfold rText
  rw [e1, e3]
  simp only [if_true, dec_itoa (t.length : Int) (by omega) hb]
  rw [if_neg (by omega)]

theorem rText_some {s t r : List UInt8} {most : Int} (h : rText most s = some (t, r)) : s = wText t ++ r ∧ (t.length : Int) ≤ most ∧ (t.length : Int) ≤ 9223372036854775807 := by
  unfold rText at h
  split at h
  · rename_i hc
    obtain ⟨e, -⟩ := cut_true hc
    split at h
    · rename_i m hm
      obtain ⟨e2, hb⟩ := dec_some hm
      split at h
      · rename_i hh
        injection h with h
        injection h with h h'
        have hl : (t.length : Int) = m := by rw [← h, List.length_take]; omega
        refine ⟨?_, by omega, by omega⟩
        rw [e2] at e
        rw [e, wText, hl]
        simp only [List.append_assoc, List.cons_append]
        congr 2
        rw [← h, ← h', List.take_append_drop]
      · cases h
    · cases h
  · cases h

theorem rByte_some {c : UInt8} {s r : List UInt8} (h : rByte c s = some r) : s = c :: r := by
  cases s with
  | nil => cases h
  | cons x s =>
    simp only [rByte] at h
    split at h
    · rename_i e; injection h with h; rw [e, h]
    · cases h

/-- What is read of a beginning is read of the whole. -/
theorem rInt_more {s r : List UInt8} {n : Int} (h : rInt s = some (n, r)) (q : List UInt8) : rInt (s ++ q) = some (n, r ++ q) := by
  obtain ⟨e, hb⟩ := rInt_some h
  rw [e, List.append_assoc]
  exact rInt_w n hb _
theorem rText_more {s t r : List UInt8} {most : Int} (h : rText most s = some (t, r)) (q : List UInt8) : rText most (s ++ q) = some (t, r ++ q) := by
  obtain ⟨e, hb, hc⟩ := rText_some h
  rw [e, List.append_assoc]
  exact rText_w t most hb hc _

/-- A number's bytes are no text's, nor the other way round. -/
theorem wText_head (t : List UInt8) : ∃ c r, wText t = c :: r ∧ (c.toNat = 45 ∨ (48 ≤ c.toNat ∧ c.toNat ≤ 57)) := by
  unfold wText
  cases h : itoa t.length with
  | nil => exact absurd h (itoa_ne _)
  | cons c r => exact ⟨c, r ++ 58 :: t, rfl, itoa_byte _ c (by rw [h]; exact List.mem_cons_self)⟩
theorem wText_not_wInt {t q r : List UInt8} {n : Int} (h : wText t ++ q = wInt n ++ r) : False := by
  obtain ⟨c, k, e, hc⟩ := wText_head t
  rw [e, wInt] at h
  simp only [List.cons_append] at h
  injection h with h
  subst h
  simp at hc
theorem wText_ne (t : List UInt8) : wText t ≠ [] := by
  obtain ⟨c, k, e, -⟩ := wText_head t
  rw [e]; simp
theorem wInt_ne (n : Int) : wInt n ≠ [] := by simp [wInt]

theorem rInt_nil : rInt [] = none := by
  cases h : rInt [] with
  | none => rfl
  | some p => obtain ⟨n, r⟩ := p; have := (rInt_some h).1; simp [wInt] at this
theorem rText_nil (most : Int) : rText most [] = none := by
  cases h : rText most [] with
  | none => rfl
  | some p =>
    obtain ⟨t, r⟩ := p
    have := (rText_some h).1
    have h2 := wText_ne t
    simp at this
    exact absurd this.1 h2
end Pl
end Go.Proofs.YtmkinnheoejphaaGreatDoor
