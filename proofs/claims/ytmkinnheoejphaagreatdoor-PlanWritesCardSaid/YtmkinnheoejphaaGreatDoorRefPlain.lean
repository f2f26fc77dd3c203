/- PLAIN FACTS on the document's own reader: its loop over digits, and that it takes just the numerals that are written. No model in this text. -/
import Derived.Test.YtmkinnheoejphaaGreatDoorPlain
namespace Go.Proofs.YtmkinnheoejphaaGreatDoor
namespace Pl
open Go.Lib

def dig (c : UInt8) : Prop := 48 ≤ c.toNat ∧ c.toNat ≤ 57
instance (c : UInt8) : Decidable (dig c) := by unfold dig; exact inferInstance

/-- One digit more is more than 64 bits hold. -/
def over (u : Nat) (c : UInt8) : Prop := 18446744073709551616 ≤ 10 * u + (c.toNat - 48)
noncomputable instance (u : Nat) (c : UInt8) : Decidable (over u c) := Classical.propDecidable _

/-- The loop: k digits taken, u what they say; none: it would be more than 64 bits hold. -/
noncomputable def scanL : List UInt8 → Nat → Nat → Option (Nat × Nat)
  | [], k, u => some (k, u)
  | c :: r, k, u => if k < 20 ∧ dig c then (if over u c then none else scanL r (k + 1) (10 * u + (c.toNat - 48))) else some (k, u)
noncomputable def scan (k u : Nat) (l : List UInt8) : Option (Nat × Nat) := scanL l k u
theorem scan_nil (k u : Nat) : scan k u [] = some (k, u) := by unfold scan; rw [scanL]
theorem scan_cons (k u : Nat) (c : UInt8) (r : List UInt8) : scan k u (c :: r) = if k < 20 ∧ dig c then (if over u c then none else scan (k + 1) (10 * u + (c.toNat - 48)) r) else some (k, u) := by unfold scan; rw [scanL]

def numBad (l : List UInt8) (k : Nat) : Prop := (1 < k ∧ l[0]? = some 48) ∨ ∃ c, l[k]? = some c ∧ dig c
noncomputable instance (l : List UInt8) (k : Nat) : Decidable (numBad l k) := Classical.propDecidable _

/-- What the document's 'number' answers. -/
noncomputable def num (l : List UInt8) : Nat × Nat :=
  match scan 0 0 l with
  | none => (0, 0)
  | some (k, u) => if numBad l k then (0, 0) else (k, u)

theorem num_none {l : List UInt8} (h : scan 0 0 l = none) : num l = (0, 0) := by unfold num; rw [h]
theorem num_bad {l : List UInt8} {k u : Nat} (h : scan 0 0 l = some (k, u)) (hb : numBad l k) : num l = (0, 0) := by unfold num; rw [h]; exact if_pos hb
theorem num_good {l : List UInt8} {k u : Nat} (h : scan 0 0 l = some (k, u)) (hb : ¬ numBad l k) : num l = (k, u) := by unfold num; rw [h]; exact if_neg hb

/-- What digits say. -/
def val (u : Nat) (l : List UInt8) : Nat := l.foldl (fun u c => 10 * u + (c.toNat - 48)) u
theorem val_nil (u : Nat) : val u [] = u := rfl
theorem val_cons (u : Nat) (c : UInt8) (r : List UInt8) : val u (c :: r) = val (10 * u + (c.toNat - 48)) r := by unfold val; rw [List.foldl_cons]
theorem val_app (u : Nat) (xs ys : List UInt8) : val u (xs ++ ys) = val (val u xs) ys := by
  induction xs generalizing u with
  | nil => rfl
  | cons x xs ih => rw [List.cons_append, val_cons, val_cons]; exact ih _
theorem val_le (u : Nat) (xs : List UInt8) : u ≤ val u xs := by
  induction xs generalizing u with
  | nil => exact Nat.le_refl _
  | cons x xs ih => rw [val_cons]; exact Nat.le_trans (by omega) (ih _)
theorem val_one (u : Nat) (c : UInt8) : val u [c] = 10 * u + (c.toNat - 48) := by rw [val_cons, val_nil]
theorem val_dec (u : Nat) : val 0 (decDigits u) = u := by
  induction u using Nat.strongRecOn with
  | _ u ih =>
    by_cases h : u < 10
    · have e := ofNat_toNat (48 + u) (by omega)
      rw [decDigits, dif_pos h, val_one, e]
      omega
    · have e := ofNat_toNat (48 + u % 10) (by omega)
      rw [decDigits, dif_neg h, val_app, ih (u / 10) (by omega), val_one, e]
      omega

/-- The loop over digits that stand for less than 2^64. -/
theorem scan_step {k u : Nat} {c : UInt8} {r : List UInt8} (h1 : k < 20) (h2 : dig c) (h3 : ¬ over u c) : scan k u (c :: r) = scan (k + 1) (10 * u + (c.toNat - 48)) r := by
  rw [scan_cons, if_pos ⟨h1, h2⟩, if_neg h3]
theorem scan_digits (B : Nat) (hB : B ≤ 18446744073709551616) (ds : List UInt8) : ∀ (k u : Nat) (r : List UInt8), (∀ c ∈ ds, dig c) → k + ds.length ≤ 20 → val u ds < B → scan k u (ds ++ r) = scan (k + ds.length) (val u ds) r := by
  induction ds with
  | nil => intro k u r _ _ _; rw [val_nil]; rfl
  | cons c ds ih =>
    intro k u r hd hk hv
    have hc := hd c List.mem_cons_self
    have hle := val_le (10 * u + (c.toNat - 48)) ds
    rw [val_cons] at hv ⊢
    rw [List.length_cons] at hk
    have h2 : ¬ over u c := by unfold over; omega
    have e2 := ih (k + 1) (10 * u + (c.toNat - 48)) r (fun x hx => hd x (List.mem_cons_of_mem _ hx)) (by omega) hv
    have e3 : k + 1 + ds.length = k + (ds.length + 1) := by omega
    rw [List.cons_append, scan_step (by omega) hc h2, e2, List.length_cons, e3]

theorem nDigits_20 (u : Nat) (h : u < 18446744073709551616) : (decDigits u).length ≤ 20 := by
  rw [decDigits_length]
  rcases Nat.eq_zero_or_pos u with rfl | h1
  · rw [nDigits_small (by omega)]; omega
  · have := numDigits_eq u h1 h
    split at this <;> omega

theorem scan_stop {k u : Nat} {r : List UInt8} (h : ∀ c, r[0]? = some c → ¬ dig c) : scan k u r = some (k, u) := by
  cases r with
  | nil => exact scan_nil k u
  | cons c r => rw [scan_cons, if_neg (fun hh => h c rfl hh.2)]

/-- The numeral's first digit is no 0, but for 0 itself. -/
theorem dec_head (u : Nat) (h : 1 < (decDigits u).length) : (decDigits u)[0]? ≠ some 48 := by
  induction u using Nat.strongRecOn with
  | _ u ih =>
    by_cases h1 : u < 10
    · rw [decDigits, dif_pos h1] at h
      simp at h
    · rw [decDigits, dif_neg h1] at h ⊢
      rw [List.getElem?_append_left (by have := dec_ne (u / 10); exact List.length_pos_iff.2 this)]
      by_cases h2 : 1 < (decDigits (u / 10)).length
      · exact ih (u / 10) (by omega) h2
      · have h3 : u / 10 < 10 := by
          rcases Nat.lt_or_ge (u / 10) 10 with h' | h'
          · exact h'
          · exfalso
            rw [decDigits, dif_neg (by omega)] at h2
            have := List.length_pos_iff.2 (dec_ne (u / 10 / 10))
            rw [List.length_append, List.length_cons, List.length_nil] at h2
            omega
        rw [decDigits, dif_pos h3]
        intro e
        have e2 : UInt8.ofNat (48 + u / 10) = 48 := by simpa using e
        have e3 := congrArg UInt8.toNat e2
        rw [ofNat_toNat _ (by omega)] at e3
        have : (48 : UInt8).toNat = 48 := rfl
        omega

/-- A numeral that is written, and no digit behind it: it is taken. -/
theorem num_of (u : Nat) (hu : u < 18446744073709551616) (r : List UInt8) (hr : ∀ c, r[0]? = some c → ¬ dig c) : num (decDigits u ++ r) = ((decDigits u).length, u) := by
  have h20 := nDigits_20 u hu
  have hs : scan 0 0 (decDigits u ++ r) = some ((decDigits u).length, u) := by
    rw [scan_digits 18446744073709551616 (Nat.le_refl _) (decDigits u) 0 0 r (fun c hc => dec_digit u c hc) (by omega) (by rw [val_dec]; exact hu), val_dec, Nat.zero_add]
    exact scan_stop hr
  refine num_good hs ?_
  rintro (⟨h1, h2⟩ | ⟨c, h1, h2⟩)
  · rw [List.getElem?_append_left (by omega)] at h2
    exact dec_head u h1 h2
  · rw [List.getElem?_append_right (Nat.le_refl _), Nat.sub_self] at h1
    exact hr c h1 h2

/-- What the loop has taken. -/
theorem scan_some (B : Nat) (hB : B = 18446744073709551616) (l : List UInt8) : ∀ (k u k' u' : Nat), u < B → scan k u l = some (k', u') →
    k ≤ k' ∧ k' - k ≤ l.length ∧ (∀ c ∈ l.take (k' - k), dig c) ∧ u' = val u (l.take (k' - k)) ∧ u' < B := by
  induction l with
  | nil =>
    intro k u k' u' hu h
    rw [scan_nil] at h
    injection h with h
    injection h with h1 h2
    subst h1; subst h2
    refine ⟨Nat.le_refl _, by simp, by simp, ?_, hu⟩
    rw [Nat.sub_self, List.take_zero, val_nil]
  | cons c r ih =>
    intro k u k' u' hu h
    rw [scan_cons] at h
    split at h
    · rename_i hc
      split at h
      · cases h
      · rename_i ho
        have hd : 48 ≤ c.toNat ∧ c.toNat ≤ 57 := hc.2
        unfold over at ho
        obtain ⟨h1, h2, h3, h4, h5⟩ := ih (k + 1) _ k' u' (by omega) h
        have e : k' - k = (k' - (k + 1)) + 1 := by omega
        refine ⟨by omega, by rw [List.length_cons]; omega, ?_, ?_, h5⟩
        · rw [e, List.take_succ_cons]
          intro x hx
          rcases List.mem_cons.1 hx with hx | hx
          · rw [hx]; exact hc.2
          · exact h3 x hx
        · rw [e, List.take_succ_cons, val_cons]
          exact h4
    · injection h with h
      injection h with h1 h2
      subst h1; subst h2
      refine ⟨Nat.le_refl _, by simp, by simp, ?_, hu⟩
      rw [Nat.sub_self, List.take_zero, val_nil]

/-- Digits without a 0 ahead are the numeral of what they say. -/
theorem dec_val (n : Nat) : ∀ (ds : List UInt8), ds.length = n + 1 → (∀ c ∈ ds, dig c) → (1 < ds.length → ds[0]? ≠ some 48) → decDigits (val 0 ds) = ds ∧ (ds[0]? ≠ some 48 → 1 ≤ val 0 ds) := by
  induction n with
  | zero =>
    intro ds hl hd _
    match ds, hl with
    | [c], _ =>
      have hc : 48 ≤ c.toNat ∧ c.toNat ≤ 57 := hd c List.mem_cons_self
      have e : val 0 [c] = c.toNat - 48 := by rw [val_one]; omega
      rw [e]
      constructor
      · rw [decDigits, dif_pos (by omega), show 48 + (c.toNat - 48) = c.toNat by omega]
        simp
      · intro h
        have : c.toNat ≠ 48 := fun e => h (by
          have : c = 48 := UInt8.toNat_inj.1 e
          simp [this])
        omega
  | succ n ih =>
    intro ds hl hd hh
    have hne : ds ≠ [] := by intro e; rw [e] at hl; simp at hl
    obtain ⟨xs, c, rfl⟩ : ∃ xs c, ds = xs ++ [c] := ⟨ds.dropLast, ds.getLast hne, (List.dropLast_concat_getLast hne).symm⟩
    have hxl : xs.length = n + 1 := by simpa using hl
    have hc : 48 ≤ c.toNat ∧ c.toNat ≤ 57 := hd c (by simp)
    have h0 : (xs ++ [c])[0]? = xs[0]? := List.getElem?_append_left (by omega)
    have hz : xs[0]? ≠ some 48 := by
      rw [← h0]
      exact hh (by rw [List.length_append]; simp; omega)
    obtain ⟨e1, e2⟩ := ih xs hxl (fun x hx => hd x (List.mem_append_left _ hx)) (fun _ => hz)
    have hv := e2 hz
    have e : val 0 (xs ++ [c]) = 10 * val 0 xs + (c.toNat - 48) := by rw [val_app, val_one]
    rw [e]
    constructor
    · rw [decDigits, dif_neg (by omega), show (10 * val 0 xs + (c.toNat - 48)) / 10 = val 0 xs by omega, e1, show 48 + (10 * val 0 xs + (c.toNat - 48)) % 10 = c.toNat by omega]
      simp
    · intro _; omega

/-- What is taken is a numeral that is written, and no digit stands behind it. -/
theorem num_some {l : List UInt8} {k u : Nat} (h : num l = (k, u)) (hk : 0 < k) : l = decDigits u ++ l.drop k ∧ k = (decDigits u).length ∧ u < 18446744073709551616 ∧ (∀ c, (l.drop k)[0]? = some c → ¬ dig c) := by
  cases hs : scan 0 0 l with
  | none => rw [num_none hs] at h; injection h with h; omega
  | some p =>
    obtain ⟨k', u'⟩ := p
    by_cases hb : numBad l k'
    · rw [num_bad hs hb] at h; injection h with h; omega
    · rw [num_good hs hb] at h
      injection h with h1 h2
      subst h1; subst h2
      obtain ⟨-, h2, h3, h4, h5⟩ := scan_some _ rfl l 0 0 k' u' (by omega) hs
      rw [Nat.sub_zero] at h2 h3 h4
      have hl : (l.take k').length = k' := by rw [List.length_take]; omega
      obtain ⟨e1, -⟩ := dec_val (k' - 1) (l.take k') (by omega) h3 (fun h => by
        rw [List.getElem?_take_of_lt hk]
        intro e
        exact hb (Or.inl ⟨by omega, e⟩))
      rw [← h4] at e1
      refine ⟨?_, by rw [e1, hl], h5, ?_⟩
      · rw [e1, List.take_append_drop]
      · intro c hc hd
        exact hb (Or.inr ⟨c, by simpa using hc, hd⟩)

theorem not_dig_101 : ∀ (r : List UInt8) (c : UInt8), (101 :: r)[0]? = some c → ¬ dig c := by
  intro r c h
  have : c = 101 := by simpa using h.symm
  rw [this]; decide
theorem not_dig_58 : ∀ (r : List UInt8) (c : UInt8), (58 :: r)[0]? = some c → ¬ dig c := by
  intro r c h
  have : c = 58 := by simpa using h.symm
  rw [this]; decide

/-- The document's reader of numbers, in its cases. -/
def IntOk (neg : Bool) (M : List UInt8) (k u : Nat) : Prop := 0 < k ∧ (M.drop k)[0]? = some 101 ∧ ((neg = false ∧ u < 9223372036854775808) ∨ (neg = true ∧ 0 < u ∧ u ≤ 9223372036854775808))
theorem head_drop {M : List UInt8} {k : Nat} {c : UInt8} (h : (M.drop k)[0]? = some c) : M.drop k = c :: M.drop (k + 1) := by
  have h' : M[k]? = some c := by simpa using h
  have hk : k < M.length := by
    rcases Nat.lt_or_ge k M.length with h1 | h1
    · exact h1
    · rw [List.getElem?_eq_none h1] at h'; cases h'
  rw [List.drop_eq_getElem_cons hk]
  rw [List.getElem?_eq_getElem hk] at h'
  injection h' with h'
  rw [h']

theorem refInt_pos {M : List UInt8} {k u : Nat} (h : num M = (k, u)) (hok : IntOk false M k u) : rInt (105 :: M) = some ((u : Int), M.drop (k + 1)) := by
  obtain ⟨h1, h2, h3⟩ := hok
  obtain ⟨e, -, -, -⟩ := num_some h h1
  have h4 : u < 9223372036854775808 := by rcases h3 with h3 | h3 <;> simp at h3; exact h3
  have hw : (105 : UInt8) :: M = wInt (u : Int) ++ M.drop (k + 1) := by
    have hi : itoa (u : Int) = decDigits u := by unfold itoa; rw [if_neg (by omega)]; rfl
    rw [wInt, hi]
    conv => lhs; rw [e, head_drop h2]
    simp
  rw [hw]
  exact rInt_w _ (by unfold I64; omega) _
theorem refInt_neg {M : List UInt8} {k u : Nat} (h : num M = (k, u)) (hok : IntOk true M k u) : rInt (105 :: 45 :: M) = some (-(u : Int), M.drop (k + 1)) := by
  obtain ⟨h1, h2, h3⟩ := hok
  obtain ⟨e, -, -, -⟩ := num_some h h1
  have h4 : 0 < u ∧ u ≤ 9223372036854775808 := by rcases h3 with h3 | h3 <;> simp at h3; exact h3
  have hw : (105 : UInt8) :: 45 :: M = wInt (-(u : Int)) ++ M.drop (k + 1) := by
    have hi : itoa (-(u : Int)) = 45 :: decDigits u := by unfold itoa; rw [if_pos (by omega)]; simp
    rw [wInt, hi]
    conv => lhs; rw [e, head_drop h2]
    simp
  rw [hw]
  exact rInt_w _ (by unfold I64; omega) _
/-- .. and where it goes wrong. -/
theorem refInt_no {L : List UInt8} (h1 : ∀ M, L = 105 :: M → (∀ M2, M ≠ 45 :: M2) → ¬ IntOk false M (num M).1 (num M).2) (h2 : ∀ M, L = 105 :: 45 :: M → ¬ IntOk true M (num M).1 (num M).2) : rInt L = none := by
  cases hr : rInt L with
  | none => rfl
  | some p =>
    exfalso
    obtain ⟨n, r⟩ := p
    obtain ⟨e, hb⟩ := rInt_some hr
    unfold I64 at hb
    by_cases hn : n < 0
    · have hi : itoa n = 45 :: decDigits n.natAbs := by unfold itoa; rw [if_pos hn]
      have e2 : L = 105 :: 45 :: (decDigits n.natAbs ++ 101 :: r) := by rw [e, wInt, hi]; simp
      have hnum := num_of n.natAbs (by omega) (101 :: r) (not_dig_101 r)
      refine h2 _ e2 ?_
      rw [hnum]
      exact ⟨List.length_pos_iff.2 (dec_ne _), by simp, Or.inr ⟨rfl, by omega, by omega⟩⟩
    · have hi : itoa n = decDigits n.toNat := by unfold itoa; rw [if_neg hn]
      have e2 : L = 105 :: (decDigits n.toNat ++ 101 :: r) := by rw [e, wInt, hi]; simp
      have hnum := num_of n.toNat (by omega) (101 :: r) (not_dig_101 r)
      refine h1 _ e2 ?_ ?_
      · intro M2 hM
        cases hd : decDigits n.toNat with
        | nil => exact dec_ne _ hd
        | cons c t =>
          rw [hd] at hM
          have hc := dec_digit n.toNat c (by rw [hd]; exact List.mem_cons_self)
          injection hM with hM
          rw [hM] at hc
          revert hc; decide
      · rw [hnum]
        exact ⟨List.length_pos_iff.2 (dec_ne _), by simp, Or.inl ⟨rfl, by omega⟩⟩

/-- The document's reader of texts. -/
def TextOk (most : Int) (L : List UInt8) (k u : Nat) : Prop := 0 < k ∧ (L.drop k)[0]? = some 58 ∧ 0 ≤ most ∧ (u : Int) ≤ most ∧ u ≤ (L.drop (k + 1)).length
theorem refText_pos {L : List UInt8} {most : Int} {k u : Nat} (h : num L = (k, u)) (hm : most ≤ 9223372036854775807) (hok : TextOk most L k u) : rText most L = some ((L.drop (k + 1)).take u, (L.drop (k + 1)).drop u) := by
  obtain ⟨h1, h2, h3, h4, h5⟩ := hok
  obtain ⟨e, -, -, -⟩ := num_some h h1
  have hl : ((L.drop (k + 1)).take u).length = u := by rw [List.length_take]; omega
  have hw : L = wText ((L.drop (k + 1)).take u) ++ (L.drop (k + 1)).drop u := by
    have hi : itoa (u : Int) = decDigits u := by unfold itoa; rw [if_neg (by omega)]; rfl
    rw [wText, hl, hi, List.append_assoc, List.cons_append, List.take_append_drop]
    conv => lhs; rw [e, head_drop h2]
  have := rText_w ((L.drop (k + 1)).take u) most (by rw [hl]; exact h4) (by rw [hl]; omega) ((L.drop (k + 1)).drop u)
  rw [← hw] at this
  exact this
theorem refText_no {L : List UInt8} {most : Int} (h1 : ¬ TextOk most L (num L).1 (num L).2) : rText most L = none := by
  cases hr : rText most L with
  | none => rfl
  | some p =>
    exfalso
    obtain ⟨t, r⟩ := p
    obtain ⟨e, hm, hb⟩ := rText_some hr
    have hi : itoa (t.length : Int) = decDigits t.length := by unfold itoa; rw [if_neg (by omega)]; rfl
    have e2 : L = decDigits t.length ++ 58 :: (t ++ r) := by rw [e, wText, hi]; simp
    have hnum := num_of t.length (by omega) (58 :: (t ++ r)) (not_dig_58 _)
    rw [e2, hnum] at h1
    refine h1 ⟨List.length_pos_iff.2 (dec_ne _), by simp, by omega, hm, ?_⟩
    have : (decDigits t.length ++ 58 :: (t ++ r)).drop ((decDigits t.length).length + 1) = t ++ r := by
      rw [List.drop_append]
      simp
    simp only [this, List.length_append]
    omega
end Pl
end Go.Proofs.YtmkinnheoejphaaGreatDoor
