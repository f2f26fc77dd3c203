import Derived.Test.YtdaoeplblkfapaaGreatDoorM01
import Derived.Test.YtdaoeplblkfapaaGreatDoorM00
import Derived.Laws.AppendOwn
import Derived.Below
import Derived.OwnWalk
import Derived.Deep.AppendLies
import Derived.Laws.ResultCell
import Derived.Laws.Rows
import Derived.OneCell
import Derived.Lib.AppendStr

/- PLAIN MATHEMATICS OF SEGMENTS: batches as frames, one behind the other; what is found of bytes. Nothing here knows the program. -/
namespace Go.Proofs.YtdaoeplblkfapaaGreatDoor

/-- A batch's frame; batches' frames. -/
def fr (b : Pl.Bt) : List UInt8 := Fr.Pl.frame (Pl.enc b)
def frs (l : List Pl.Bt) : List UInt8 := (l.map fr).flatten
def bend (b : Pl.Bt) : Int := b.base + b.count
/-- Where batches end that begin at x. -/
def lend : Int → List Pl.Bt → Int
  | x, [] => x
  | _, b :: l => lend (bend b) l
/-- Batches one behind the other, from x on. -/
def Chain : Int → List Pl.Bt → Prop
  | _, [] => True
  | x, b :: l => Pl.goodB b = true ∧ b.base = x ∧ Chain (bend b) l

theorem frs_nil : frs [] = [] := rfl
theorem frs_cons (b : Pl.Bt) (l : List Pl.Bt) : frs (b :: l) = fr b ++ frs l := by simp [frs]
theorem frs_append (l m : List Pl.Bt) : frs (l ++ m) = frs l ++ frs m := by simp [frs]
theorem frs_one (b : Pl.Bt) : frs [b] = fr b := by simp [frs]
theorem fr_length (b : Pl.Bt) : (fr b).length = 8 + (Pl.enc b).length := Fr.Pl.frame_length _
theorem good_enc {b : Pl.Bt} (h : Pl.goodB b = true) : (Pl.enc b).length ≤ 16384 ∧ 25 ≤ (fr b).length ∧ (fr b).length ≤ 1130 := by
  obtain ⟨h1, h2, h3⟩ := Pl.enc_short h
  rw [fr_length]
  omega
theorem lend_append (x : Int) (l m : List Pl.Bt) : lend x (l ++ m) = lend (lend x l) m := by
  induction l generalizing x with
  | nil => rfl
  | cons b l ih => exact ih _
theorem lend_snoc (x : Int) (l : List Pl.Bt) (b : Pl.Bt) : lend x (l ++ [b]) = bend b := lend_append x l [b]
theorem Chain.append {x : Int} {l m : List Pl.Bt} : Chain x (l ++ m) ↔ Chain x l ∧ Chain (lend x l) m := by
  induction l generalizing x with
  | nil => simp [Chain, lend]
  | cons b l ih => simp only [List.cons_append, Chain, lend, ih, and_assoc]
theorem Chain.good {x : Int} {l : List Pl.Bt} (h : Chain x l) : ∀ b ∈ l, Pl.goodB b = true := by
  induction l generalizing x with
  | nil => intro b hb; cases hb
  | cons a l ih =>
    intro b hb
    rcases List.mem_cons.1 hb with rfl | hb
    · exact h.1
    · exact ih h.2.2 b hb
theorem Chain.take {x : Int} {l : List Pl.Bt} (h : Chain x l) (k : Nat) : Chain x (l.take k) := by
  have := h
  rw [← List.take_append_drop k l] at this
  exact (Chain.append.1 this).1
theorem good_bend {b : Pl.Bt} (h : Pl.goodB b = true) : 0 ≤ b.base ∧ b.base < bend b ∧ bend b ≤ 1099511627776 ∧ b.count ≤ 8 := by
  obtain ⟨h1, h2, -⟩ := Pl.goodB_iff.1 h
  unfold bend
  omega
theorem Chain.ends {x : Int} {l : List Pl.Bt} (h : Chain x l) : x + l.length ≤ lend x l ∧ (l ≠ [] → lend x l ≤ 1099511627776 ∧ 0 ≤ x) := by
  induction l generalizing x with
  | nil => exact ⟨by simp [lend], fun h => absurd rfl h⟩
  | cons b l ih =>
    obtain ⟨h1, h2, h3⟩ := h
    obtain ⟨i1, i2⟩ := ih h3
    have hb := good_bend h1
    refine ⟨by simp only [List.length_cons, lend]; omega, fun _ => ⟨?_, by omega⟩⟩
    cases l with
    | nil => exact hb.2.2.1
    | cons c l => exact (i2 (by simp)).1
theorem frs_length {x : Int} {l : List Pl.Bt} (h : Chain x l) : 25 * l.length ≤ (frs l).length := by
  induction l generalizing x with
  | nil => simp
  | cons b l ih =>
    have h1 := ih h.2.2
    have h2 := (good_enc h.1).2.1
    rw [frs_cons, List.length_append, List.length_cons]
    omega

/-- What is found of bytes: batches from x on, one behind the other, and how many bytes they have. -/
def foundF : Nat → List UInt8 → Int → List Pl.Bt × Nat
  | 0, _, _ => ([], 0)
  | n + 1, s, x =>
    if (Fr.Pl.nx s).2 = 0 then
      match decB (Fr.Pl.nx s).1 with
      | none => ([], 0)
      | some b => if b.base = x then (b :: (foundF n (s.drop (8 + (Fr.Pl.nx s).1.length)) (bend b)).1, 8 + (Fr.Pl.nx s).1.length + (foundF n (s.drop (8 + (Fr.Pl.nx s).1.length)) (bend b)).2) else ([], 0)
    else ([], 0)
def found (s : List UInt8) (x : Int) : List Pl.Bt × Nat := foundF (s.length + 1) s x
theorem nx_length {s : List UInt8} (h : (Fr.Pl.nx s).2 = 0) : 8 + (Fr.Pl.nx s).1.length ≤ s.length := by
  obtain ⟨-, r, hr⟩ := Fr.Pl.nx_ok h
  have := congrArg List.length hr
  rw [List.length_append, Fr.Pl.frame_length] at this
  omega
theorem foundF_more (n m : Nat) (s : List UInt8) (x : Int) (h : s.length < n) (h' : s.length < m) : foundF n s x = foundF m s x := by
  induction n generalizing m s x with
  | zero => exact absurd h (Nat.not_lt_zero _)
  | succ n ih =>
    cases m with
    | zero => exact absurd h' (Nat.not_lt_zero _)
    | succ m =>
      simp only [foundF]
      by_cases hz : (Fr.Pl.nx s).2 = 0
      · have hl := nx_length hz
        rw [if_pos hz, if_pos hz]
        cases hd : decB (Fr.Pl.nx s).1 with
        | none => rfl
        | some b =>
          dsimp only
          rw [ih m (s.drop (8 + (Fr.Pl.nx s).1.length)) (bend b) (by rw [List.length_drop]; omega) (by rw [List.length_drop]; omega)]
      · rw [if_neg hz, if_neg hz]
theorem found_stop {s : List UInt8} {x : Int} (h : (Fr.Pl.nx s).2 ≠ 0) : found s x = ([], 0) := by
  unfold found
  simp only [foundF]
  rw [if_neg h]
theorem found_none {s : List UInt8} {x : Int} (h : (Fr.Pl.nx s).2 = 0) (hd : decB (Fr.Pl.nx s).1 = none) : found s x = ([], 0) := by
  unfold found
  simp only [foundF]
  rw [if_pos h, hd]
theorem found_gap {s : List UInt8} {x : Int} {b : Pl.Bt} (h : (Fr.Pl.nx s).2 = 0) (hd : decB (Fr.Pl.nx s).1 = some b) (hb : b.base ≠ x) : found s x = ([], 0) := by
  unfold found
  simp only [foundF]
  rw [if_pos h, hd]
  simp only [if_neg hb]
theorem found_step {s : List UInt8} {x : Int} {b : Pl.Bt} (h : (Fr.Pl.nx s).2 = 0) (hd : decB (Fr.Pl.nx s).1 = some b) (hb : b.base = x) :
    found s x = (b :: (found (s.drop (8 + (Fr.Pl.nx s).1.length)) (bend b)).1, 8 + (Fr.Pl.nx s).1.length + (found (s.drop (8 + (Fr.Pl.nx s).1.length)) (bend b)).2) := by
  have hl := nx_length h
  unfold found
  rw [foundF_more ((s.drop (8 + (Fr.Pl.nx s).1.length)).length + 1) s.length _ _ (by omega) (by rw [List.length_drop]; omega)]
  simp only [foundF]
  rw [if_pos h, hd]
  simp only [if_pos hb]
/-- Batches are found as they were written. -/
theorem found_frs : ∀ (l : List Pl.Bt) (x : Int) (r : List UInt8), Chain x l → found (frs l ++ r) x = (l ++ (found r (lend x l)).1, (frs l).length + (found r (lend x l)).2)
  | [], x, r, _ => by simp [frs, lend]
  | b :: l, x, r, h => by
    obtain ⟨h1, h2, h3⟩ := h
    have hn : Fr.Pl.nx (frs (b :: l) ++ r) = (Pl.enc b, 0) := by
      rw [frs_cons, List.append_assoc]
      exact Fr.Pl.nx_frame _ _ (good_enc h1).1
    have hs := found_step (s := frs (b :: l) ++ r) (x := x) (b := b) (by rw [hn]) (by rw [hn]; exact dec_enc h1) h2
    rw [hn] at hs
    have hd : (frs (b :: l) ++ r).drop (8 + (Pl.enc b).length) = frs l ++ r := by
      rw [frs_cons, List.append_assoc, ← fr_length]
      exact List.drop_left
    simp only at hs
    rw [hd, found_frs l (bend b) r h3] at hs
    rw [hs, frs_cons, List.length_append, fr_length]
    simp only [List.cons_append, lend, Nat.add_assoc]
theorem found_nil (x : Int) : found [] x = ([], 0) := found_stop (by simp [Fr.Pl.nx])
theorem found_all {x : Int} {l : List Pl.Bt} (h : Chain x l) : found (frs l) x = (l, (frs l).length) := by
  have := found_frs l x [] h
  simpa [found_nil] using this
/-- Of batches' bytes that are cut off anywhere a beginning is found. -/
theorem found_take : ∀ (l : List Pl.Bt) (x : Int) (n : Nat), Chain x l → ∃ k, k ≤ l.length ∧ found ((frs l).take n) x = (l.take k, (frs (l.take k)).length) ∧ (frs (l.take k)).length ≤ n ∧ (∀ j, j ≤ l.length → (frs (l.take j)).length ≤ n → j ≤ k)
  | [], x, n, _ => ⟨0, Nat.le_refl _, by simp [frs, found_nil], by simp [frs], fun j h _ => h⟩
  | b :: l, x, n, h => by
    obtain ⟨h1, h2, h3⟩ := h
    have hg := good_enc h1
    by_cases hn : n < 8 + (Pl.enc b).length
    · have e : (frs (b :: l)).take n = (Fr.Pl.frame (Pl.enc b)).take n := by
        rw [frs_cons, List.take_append_of_le_length (by rw [fr_length]; omega)]
        rfl
      refine ⟨0, Nat.zero_le _, ?_, by simp [frs], fun j hj hjn => ?_⟩
      · rw [e, found_stop (Fr.Pl.nx_cut _ _ hn hg.1)]
        simp [frs]
      · cases j with
        | zero => exact Nat.le_refl _
        | succ j =>
          rw [List.take_succ_cons, frs_cons, List.length_append, fr_length] at hjn
          omega
    · obtain ⟨k, hk, hf, hle, hmax⟩ := found_take l (bend b) (n - (8 + (Pl.enc b).length)) h3
      have e : (frs (b :: l)).take n = fr b ++ (frs l).take (n - (8 + (Pl.enc b).length)) := by
        rw [frs_cons, List.take_append, List.take_of_length_le (by rw [fr_length]; omega), fr_length]
      have hc : frs [b] = fr b := frs_one b
      have hff := found_frs [b] x ((frs l).take (n - (8 + (Pl.enc b).length))) ⟨h1, h2, trivial⟩
      rw [hc, show lend x [b] = bend b from rfl, hf] at hff
      refine ⟨k + 1, by simp only [List.length_cons]; omega, ?_, ?_, fun j hj hjn => ?_⟩
      · rw [e, hff, List.take_succ_cons, frs_cons, List.length_append]
        simp
      · rw [List.take_succ_cons, frs_cons, List.length_append, fr_length]
        omega
      · cases j with
        | zero => exact Nat.zero_le _
        | succ j =>
          rw [List.take_succ_cons, frs_cons, List.length_append, fr_length] at hjn
          have := hmax j (by simp only [List.length_cons] at hj; omega) (by omega)
          omega
/-- What is found is a chain, and no more bytes than there are. -/
theorem found_chain : ∀ (n : Nat) (s : List UInt8) (x : Int), s.length < n → Chain x (found s x).1 ∧ (found s x).2 = (frs (found s x).1).length ∧ s.take (found s x).2 = frs (found s x).1
  | 0, _, _, h => absurd h (Nat.not_lt_zero _)
  | n + 1, s, x, hn => by
    by_cases h : (Fr.Pl.nx s).2 = 0
    · cases hd : decB (Fr.Pl.nx s).1 with
      | none => rw [found_none h hd]; exact ⟨trivial, rfl, rfl⟩
      | some b =>
        by_cases hb : b.base = x
        · obtain ⟨hg, he⟩ := enc_dec hd
          obtain ⟨-, r, hr⟩ := Fr.Pl.nx_ok h
          have hl := nx_length h
          rw [found_step h hd hb]
          have ih := found_chain n (s.drop (8 + (Fr.Pl.nx s).1.length)) (bend b) (by rw [List.length_drop]; omega)
          obtain ⟨i1, i2, i3⟩ := ih
          refine ⟨⟨hg, hb, i1⟩, ?_, ?_⟩
          · simp only
            rw [frs_cons, List.length_append, fr_length, ← he, ← i2]
          · simp only
            rw [frs_cons, ← i3, List.take_add]
            congr 1
            show s.take (8 + (Fr.Pl.nx s).1.length) = Fr.Pl.frame (Pl.enc b)
            rw [← he]
            obtain ⟨y, hy⟩ : ∃ y, (Fr.Pl.nx s).1 = y := ⟨_, rfl⟩
            rw [hy] at hr ⊢
            rw [hr, List.take_append_of_le_length (by rw [Fr.Pl.frame_length]; exact Nat.le_refl _), List.take_of_length_le (by rw [Fr.Pl.frame_length]; exact Nat.le_refl _)]
        · rw [found_gap h hd hb]; exact ⟨trivial, rfl, rfl⟩
    · rw [found_stop h]; exact ⟨trivial, rfl, rfl⟩
end Go.Proofs.YtdaoeplblkfapaaGreatDoor

/- PLAIN MATHEMATICS OF SEGMENTS' NAMES: thirteen digits behind a prefix; which numbers names tell; names rise as numbers do. -/
namespace Go.Proofs.YtdaoeplblkfapaaGreatDoor
open Go.Lib

/-- So many digits. -/
def dg : Nat → Nat → List UInt8
  | 0, _ => []
  | k + 1, x => dg k (x / 10) ++ [UInt8.ofNat (48 + x % 10)]
theorem dg_length (k x : Nat) : (dg k x).length = k := by
  induction k generalizing x with
  | zero => rfl
  | succ k ih => simp [dg, ih]
theorem dg_zero (k : Nat) : dg k 0 = List.replicate k 48 := by
  induction k with
  | zero => rfl
  | succ k ih =>
    show dg k (0 / 10) ++ [UInt8.ofNat (48 + 0 % 10)] = _
    rw [Nat.zero_div, ih, List.replicate_succ']
    rfl
theorem dg_dec (k x : Nat) (h : x < 10 ^ (k + 1)) : dg (k + 1) x = List.replicate (k + 1 - (decDigits x).length) 48 ++ decDigits x := by
  induction k generalizing x with
  | zero =>
    have hx : x < 10 := by simpa using h
    rw [decDigits, dif_pos hx]
    simp [dg, Nat.mod_eq_of_lt hx]
  | succ k ih =>
    by_cases hx : x < 10
    · rw [decDigits, dif_pos hx]
      show dg (k + 1) (x / 10) ++ [UInt8.ofNat (48 + x % 10)] = _
      rw [Nat.div_eq_of_lt hx, dg_zero, Nat.mod_eq_of_lt hx]
      simp
    · have h1 : x / 10 < 10 ^ (k + 1) := by rw [Nat.pow_succ] at h; omega
      rw [decDigits, dif_neg hx]
      show dg (k + 1) (x / 10) ++ [UInt8.ofNat (48 + x % 10)] = _
      rw [ih _ h1, List.append_assoc]
      congr 2
      simp
theorem lex_append {a b : List UInt8} (hl : a.length = b.length) (h : a < b) (c d : List UInt8) : a ++ c < b ++ d := by
  induction a generalizing b with
  | nil =>
    cases b with
    | nil => exact absurd h (by simp)
    | cons y b => simp at hl
  | cons x a ih =>
    cases b with
    | nil => simp at hl
    | cons y b =>
      simp only [List.cons_append, List.cons_lt_cons_iff] at h ⊢
      rcases h with h | ⟨h1, h2⟩
      · exact .inl h
      · exact .inr ⟨h1, ih (by simpa using hl) h2⟩
theorem lex_left (a : List UInt8) {c d : List UInt8} (h : c < d) : a ++ c < a ++ d := by
  induction a with
  | nil => exact h
  | cons x a ih => simp only [List.cons_append, List.cons_lt_cons_iff]; exact .inr ⟨trivial, ih⟩
theorem dg_lt (k x y : Nat) (h : x < y) (hy : y < 10 ^ k) : dg k x < dg k y := by
  induction k generalizing x y with
  | zero => simp at hy; omega
  | succ k ih =>
    by_cases hd : x / 10 < y / 10
    · exact lex_append (by rw [dg_length, dg_length]) (ih _ _ hd (by rw [Nat.pow_succ] at hy; omega)) _ _
    · have e : x / 10 = y / 10 := by omega
      show dg k (x / 10) ++ _ < dg k (y / 10) ++ _
      rw [e]
      refine lex_left _ ?_
      simp only [List.cons_lt_cons_iff]
      left
      rw [UInt8.lt_iff_toNat_lt, Pl.ofNat_toNat _ (by omega), Pl.ofNat_toNat _ (by omega)]
      omega

/-- The name of the segment with a first offset. -/
def pad (x : Int) : List UInt8 := List.replicate (13 - (itoa x).length) 48 ++ itoa x
def nm (P : List UInt8) (x : Int) : List UInt8 := P ++ 46 :: pad x
def nmNew (P : List UInt8) : List UInt8 := P ++ [46, 110, 101, 119]
theorem itoa_nat {x : Int} (h : 0 ≤ x) : itoa x = decDigits x.toNat := by unfold itoa; rw [if_neg (by omega)]
theorem itoa_13 {x : Int} (h0 : 0 ≤ x) (h1 : x ≤ 1099511627776) : 1 ≤ (itoa x).length ∧ (itoa x).length ≤ 13 :=
  ⟨List.length_pos_iff.2 (Pl.itoa_ne x), Pl.itoa_short h0 12 (by omega)⟩
theorem pad_dg {x : Int} (h0 : 0 ≤ x) (h1 : x ≤ 1099511627776) : pad x = dg 13 x.toNat := by
  unfold pad
  rw [dg_dec 12 _ (by omega), itoa_nat h0]
theorem pad_length {x : Int} (h0 : 0 ≤ x) (h1 : x ≤ 1099511627776) : (pad x).length = 13 := by rw [pad_dg h0 h1, dg_length]
theorem nm_length {P : List UInt8} {x : Int} (h0 : 0 ≤ x) (h1 : x ≤ 1099511627776) : (nm P x).length = P.length + 14 := by simp [nm, pad_length h0 h1]
theorem nm_lt {P : List UInt8} {x y : Int} (h0 : 0 ≤ x) (h : x < y) (h1 : y ≤ 1099511627776) : nm P x < nm P y := by
  unfold nm
  refine lex_left P ?_
  simp only [List.cons_lt_cons_iff]
  refine .inr ⟨trivial, ?_⟩
  rw [pad_dg h0 (by omega), pad_dg (by omega) h1]
  exact dg_lt 13 _ _ (by omega) (by omega)
theorem nm_inj {P : List UInt8} {x y : Int} (hx : 0 ≤ x ∧ x ≤ 1099511627776) (hy : 0 ≤ y ∧ y ≤ 1099511627776) (h : nm P x = nm P y) : x = y := by
  rcases Int.lt_trichotomy x y with hlt | rfl | hlt
  · have := nm_lt (P := P) hx.1 hlt hy.2
    rw [h] at this
    exact absurd this (List.lt_irrefl _)
  · rfl
  · have := nm_lt (P := P) hy.1 hlt hx.2
    rw [h] at this
    exact absurd this (List.lt_irrefl _)
theorem nm_le {P : List UInt8} {x y : Int} (hx : 0 ≤ x ∧ x ≤ 1099511627776) (hy : 0 ≤ y ∧ y ≤ 1099511627776) (h : nm P x ≤ nm P y) : x ≤ y := by
  rcases Int.lt_or_le y x with hlt | hle
  · exact absurd (nm_lt (P := P) hy.1 hlt hx.2) (List.not_lt.2 h)
  · exact hle
theorem nm_not_new {P : List UInt8} {x : Int} (h0 : 0 ≤ x) (h1 : x ≤ 1099511627776) : nm P x ≠ nmNew P := by
  intro h
  have := congrArg List.length h
  rw [nm_length h0 h1] at this
  simp [nmNew] at this

theorem parse_zeros (m : Nat) (l : List UInt8) : parseUint10 0 (List.replicate m 48 ++ l) = parseUint10 0 l := by
  induction m with
  | zero => rfl
  | succ m ih =>
    rw [List.replicate_succ, List.cons_append]
    simp only [parseUint10]
    rw [if_pos (by decide), if_neg (by decide), if_neg (by decide)]
    exact ih
theorem atoi_pad {x : Int} (h0 : 0 ≤ x) (h1 : x ≤ 1099511627776) : atoiAll (pad x) = .ok x := by
  have e : parseMag (pad x) = .ok x.toNat := by
    unfold parseMag
    rw [if_neg (by intro h; have := congrArg List.length h; rw [pad_length h0 h1] at this; simp at this)]
    unfold pad
    rw [parse_zeros, itoa_nat h0]
    exact Pl.parse_dec _ (by omega)
  cases hp : pad x with
  | nil => have := pad_length h0 h1; rw [hp] at this; simp at this
  | cons c r =>
    have hc : 48 ≤ c.toNat ∧ c.toNat ≤ 57 := by
      have hm : c ∈ pad x := by rw [hp]; exact List.mem_cons_self
      unfold pad at hm
      rcases List.mem_append.1 hm with hm | hm
      · have := List.eq_of_mem_replicate hm
        subst this
        decide
      · rw [itoa_nat h0] at hm
        exact Pl.dec_digit _ c hm
    rw [atoiAll_plain c r (by omega) (by omega), ← hp, e]
    simp only [signless]
    rw [if_neg (by omega)]
    congr 1
    omega
/-- The first offset that a name tells. -/
def numOf (P k : List UInt8) : Option Int :=
  if hasPrefix k (P ++ [46]) = true then
    match atoiAll (k.drop (P.length + 1)) with
    | .ok n => if 0 ≤ n ∧ n ≤ 1099511627776 ∧ nm P n = k then some n else none
    | _ => none
  else none
theorem numOf_some {P k : List UInt8} {n : Int} (h : numOf P k = some n) : 0 ≤ n ∧ n ≤ 1099511627776 ∧ k = nm P n := by
  unfold numOf at h
  split at h
  · split at h
    · split at h
      · rename_i h1
        injection h with h
        subst h
        exact ⟨h1.1, h1.2.1, h1.2.2.symm⟩
      · cases h
    · cases h
  · cases h
theorem numOf_nm {P : List UInt8} {n : Int} (h0 : 0 ≤ n) (h1 : n ≤ 1099511627776) : numOf P (nm P n) = some n := by
  unfold numOf
  have e1 : hasPrefix (nm P n) (P ++ [46]) = true := by
    unfold hasPrefix nm
    rw [List.isPrefixOf_iff_prefix]
    exact ⟨pad n, by simp⟩
  have e2 : (nm P n).drop (P.length + 1) = pad n := by
    unfold nm
    rw [show P.length + 1 = (P ++ [46]).length by simp, show P ++ 46 :: pad n = (P ++ [46]) ++ pad n by simp]
    exact List.drop_left
  rw [if_pos e1, e2, atoi_pad h0 h1]
  simp only
  rw [if_pos ⟨h0, h1, trivial⟩]
theorem numOf_new (P : List UInt8) : numOf P (nmNew P) = none := by
  cases h : numOf P (nmNew P) with
  | none => rfl
  | some n =>
    obtain ⟨h0, h1, h2⟩ := numOf_some h
    exact absurd h2.symm (nm_not_new h0 h1)
end Go.Proofs.YtdaoeplblkfapaaGreatDoor

/- SLICES THAT THE CALL OWNS, FROM ANY PLACE OF THEIR BLOCK ON: how append, a cut at the front, a store leave them. Nothing here knows the program. -/
namespace Go.Proofs.YtdaoeplblkfapaaGreatDoor
open Go.RowKit

/-- Every block but a and b is as it was. -/
structure Kb2 (a b : Option Nat) (w w' : World) : Prop where
  os : w'.os = w.os
  tape : w'.tape = w.tape
  output : w'.output = w.output
  size : w.heap.size ≤ w'.heap.size
  block : ∀ k, k < w.heap.size → some k ≠ a → some k ≠ b → w'.heap[k]? = w.heap[k]?
theorem Kb2.refl (a b : Option Nat) (w : World) : Kb2 a b w w := ⟨rfl, rfl, rfl, Nat.le_refl _, fun _ _ _ _ => rfl⟩
theorem Kb2.trans {a b : Option Nat} {u v w : World} (h : Kb2 a b u v) (k : Kb2 a b v w) : Kb2 a b u w :=
  ⟨k.os.trans h.os, k.tape.trans h.tape, k.output.trans h.output, Nat.le_trans h.size k.size, fun i hi h1 h2 => (k.block i (Nat.lt_of_lt_of_le hi h.size) h1 h2).trans (h.block i hi h1 h2)⟩
/-- .. where the second step's second block is the first's or a new one. -/
theorem Kb2.trans' {a b b' : Option Nat} {u v w : World} (h : Kb2 a b u v) (k : Kb2 a b' v w) (hb : b' = b ∨ ∃ i, b' = some i ∧ u.heap.size ≤ i) : Kb2 a b u w :=
  ⟨k.os.trans h.os, k.tape.trans h.tape, k.output.trans h.output, Nat.le_trans h.size k.size, fun i hi h1 h2 => (k.block i (Nat.lt_of_lt_of_le hi h.size) h1 (by
    rcases hb with rfl | ⟨j, rfl, hj⟩
    · exact h2
    · intro e; cases e; omega)).trans (h.block i hi h1 h2)⟩
theorem Kb2.of_grown {a b : Option Nat} {w w' : World} (h : w.grownBy w' b) : Kb2 a b w w' := ⟨h.os, h.tape, h.output, h.size, fun k hk _ h2 => h.block k hk h2⟩
theorem Kb2.setCell {a b : Option Nat} (w : World) (p : Addr) (v : Value) (h : some p.block = a ∨ some p.block = b) : Kb2 a b w (w.setCell p v) :=
  ⟨rfl, rfl, rfl, by simp [World.setCell], fun k _ h1 h2 => Below.heap_setCell _ _ _ _ (by rintro rfl; rcases h with h | h <;> simp_all)⟩
theorem Kb2.alloc {a b : Option Nat} (w : World) (o : Obj) : Kb2 a b w (w.alloc o) := ⟨rfl, rfl, rfl, by simp, fun k hk _ _ => Below.heap_alloc _ _ _ hk⟩
theorem Kb2.drew {a b : Option Nat} (w : World) : Kb2 a b w w.drew := ⟨rfl, rfl, rfl, Nat.le_refl _, fun _ _ _ _ => rfl⟩
/-- What lies below B is as it was, if neither block lies there. -/
theorem Kb2.below {a b : Option Nat} {w w' : World} {B : Nat} (h : Kb2 a b w w') (hB : B ≤ w.heap.size) (ha : ∀ k, a = some k → B ≤ k) (hb : ∀ k, b = some k → B ≤ k) : Below B w w' :=
  ⟨h.os, h.tape, h.output, h.size, fun k hk => h.block k (by omega) (fun e => by have := ha k e.symm; omega) (fun e => by have := hb k e.symm; omega)⟩
theorem Kb2.cell {a b : Option Nat} {w w' : World} (h : Kb2 a b w w') {p : Addr} (hp : p.block < w.heap.size) (h1 : some p.block ≠ a) (h2 : some p.block ≠ b) : w'.cell? p = w.cell? p := World.cell?_of_block (h.block p.block hp h1 h2)

/-- The slice v, its elements' cells xs, in block gb (none: it has none). -/
def Sl (w : World) (v : Value) (gb : Option Nat) (e size : Nat) (n : Nat) (xs : List Value) : Prop :=
  xs.length = n * size ∧ ((v = .slice none 0 0 ∧ gb = none ∧ n = 0) ∨
    ∃ g p cap cur, gb = some g ∧ v = .slice (some ⟨g, p, none⟩) n cap ∧ w.heap[g]? = some (.cells cur e (0, 0)) ∧ n ≤ cap ∧ p + cap * size ≤ cur.size ∧ (cur.toList.drop p).take (n * size) = xs)

section
variable {w : World} {v : Value} {gb : Option Nat} {e size n : Nat} {xs : List Value}
theorem Sl.lt (h : Sl w v gb e size n xs) : ∀ k, gb = some k → k < w.heap.size := by
  rintro k rfl
  rcases h.2 with ⟨_, h, _⟩ | ⟨g, p, cap, cur, h, _, hg, _⟩
  · cases h
  · cases h; exact (Array.getElem?_eq_some_iff.1 hg).1
theorem Sl.same {w' : World} (h : Sl w v gb e size n xs) (hb : ∀ k, gb = some k → w'.heap[k]? = w.heap[k]?) : Sl w' v gb e size n xs := by
  obtain ⟨h1, h2⟩ := h
  refine ⟨h1, ?_⟩
  rcases h2 with h2 | ⟨g, p, cap, cur, rfl, hv, hg, h3⟩
  · exact .inl h2
  · exact .inr ⟨g, p, cap, cur, rfl, hv, by rw [hb g rfl]; exact hg, h3⟩
theorem Sl.cell (h : Sl w v gb e size n xs) {g p cap m : Nat} (hv : v = .slice (some ⟨g, p, none⟩) m cap) (j : Nat) (u : Value) (hj : xs[j]? = some u) : w.cell? ⟨g, p + j, none⟩ = some u := by
  rcases h.2 with ⟨hv', _⟩ | ⟨g', p', cap', cur, _, hv', hg, _, _, ht⟩
  · rw [hv] at hv'; cases hv'
  · rw [hv] at hv'; cases hv'
    rw [cell_of_row w g (p + j) cur e (0, 0) hg]
    rw [← ht, List.getElem?_take] at hj
    split at hj
    · rw [List.getElem?_drop] at hj; simpa using hj
    · cases hj
theorem Sl.frozen (h : Sl w v gb e size n xs) {g p cap m : Nat} (hv : v = .slice (some ⟨g, p, none⟩) m cap) (j : Nat) : w.frozen? ⟨g, j, none⟩ = false := by
  rcases h.2 with ⟨hv', _⟩ | ⟨g', p', cap', cur, _, hv', hg, _, _, ht⟩
  · rw [hv] at hv'; cases hv'
  · rw [hv] at hv'; cases hv'
    simp [World.frozen?, hg]
end

section
variable {P : Program} (w : World)
theorem run_append_room_at (t ty e : TypeId) (i : TypeInfo) (ht : P.underlying t = some (.slice e)) (hi : P.info? e = some i)
    (g p sLen sCap : Nat) (cur : Array Value) (hg : w.heap[g]? = some (.cells cur e (0, 0)))
    (a : Addr) (m c : Nat) (news : List Value) (hl : news.length = m * i.size) (hnews : ∀ j u, news[j]? = some u → w.cell? (a.add j) = some u) (h1 : ∀ u ∈ news, u.oneCell' = true)
    (hroom : sLen + m ≤ sCap) (hfit : p + sLen * i.size + news.length ≤ cur.size) :
    (Builtin.append_ #[t, t] ty #[.slice (some ⟨g, p, none⟩) sLen sCap, .slice (some a) m c]).run P w =
      .ok (.slice (some ⟨g, p, none⟩) (sLen + m) sCap) (w.setRow g (cur.toList.take (p + sLen * i.size) ++ news ++ cur.toList.drop (p + sLen * i.size + news.length)).toArray) := by
  have hf := run_firstCells_some (P := P) w i.size m a m c news hl hnews
  have hst := run_storeCells_at P g (p + sLen * i.size) e news 0 cur w hg (by simpa using hfit) h1
  simp only [Nat.add_zero] at hst
  simp [Builtin.append_, run_underlying ht, sizeOf, typeInfo, hi, Builtin.lenOf, hroom, hf, Addr.add_lit, hst]

theorem run_append_sl (t ty e : TypeId) (i : TypeInfo) (z : Value) (size bytes : Nat) (ht : P.underlying t = some (.slice e)) (hi : P.info? e = some i) (hz : i.zero = some z)
    (hsize : i.size = size) (hby : i.bytes = bytes) (hzs : z.cells.size = size)
    (v : Value) (gb : Option Nat) (n : Nat) (xs : List Value) (hown : Sl w v gb e size n xs)
    (a : Addr) (m c : Nat) (news : List Value) (hl : news.length = m * size) (hnews : ∀ j u, news[j]? = some u → w.cell? (a.add j) = some u) (h1 : ∀ u ∈ news, u.oneCell' = true)
    (h0 : 0 < m) (hbytes : (n + m) * bytes ≤ 140737488355328) (hsmall : n + m ≤ 9223372036854775807) :
    ∃ g p cap w' gb', (Builtin.append_ #[t, t] ty #[v, .slice (some a) m c]).run P w = .ok (.slice (some ⟨g, p, none⟩) (n + m) cap) w' ∧ Sl w' (.slice (some ⟨g, p, none⟩) (n + m) cap) gb' e size (n + m) (xs ++ news) ∧ w.grownBy w' gb ∧ gb' = some g ∧ (gb' = gb ∨ w.heap.size ≤ g) := by
  subst hsize
  subst hby
  have hlen : (xs ++ news).length = (n + m) * i.size := by rw [List.length_append, hown.1, hl, Nat.add_mul]
  have grown : ∀ (old : Nat), old < n + m →
      Sl (w.drew.alloc (.cells (xs.toArray ++ news.toArray ++ Builtin.zeroCells z.cells (grownCap w (n + m) old e - (n + m))) e))
        (.slice (some ⟨w.heap.size, 0, none⟩) (n + m) (grownCap w (n + m) old e)) (some w.heap.size) e i.size (n + m) (xs ++ news) ∧
      w.grownBy (w.drew.alloc (.cells (xs.toArray ++ news.toArray ++ Builtin.zeroCells z.cells (grownCap w (n + m) old e - (n + m))) e)) gb := by
    intro old ho
    have hge := grownCap_ge w (n + m) old e
    refine ⟨⟨hlen, .inr ⟨w.heap.size, 0, _, _, rfl, rfl, heap_alloc_new w.drew _, hge, ?_, ?_⟩⟩, ⟨rfl, rfl, rfl, by simp, fun k hk _ => Below.heap_alloc _ _ _ hk⟩⟩
    · simp only [Array.size_append, List.size_toArray, size_zeroCells, hzs, hown.1, hl, ← Nat.add_mul, Nat.zero_add]
      apply Nat.le_of_eq
      congr 1
      omega
    · simp only [Array.toList_append, List.append_assoc, List.drop_zero]
      rw [← List.append_assoc, ← hlen]
      exact List.take_left
  rcases hown.2 with ⟨rfl, rfl, rfl⟩ | ⟨g, p, cap, cur, rfl, rfl, hg, hnc, hcs, htake⟩
  · have hx : xs = [] := List.eq_nil_of_length_eq_zero (by simpa using hown.1)
    subst hx
    have hr := run_append_nil (P := P) w t ty e i z ht hi hz a m c news hl hnews h0 (by omega) (by have hb := hbytes; simp only [Nat.zero_add] at hb; omega)
    have hgr := grown 0 (by omega)
    simp only [Nat.zero_add, List.nil_append, Array.empty_append] at hgr ⊢
    exact ⟨_, _, _, _, _, hr, hgr.1, hgr.2, rfl, .inr (Nat.le_refl _)⟩
  · by_cases hroom : n + m ≤ cap
    · have hfit : p + n * i.size + news.length ≤ cur.size := by
        have : (n + m) * i.size ≤ cap * i.size := Nat.mul_le_mul_right _ hroom
        rw [Nat.add_mul] at this
        rw [hl]; omega
      have hr := run_append_room_at (P := P) w t ty e i ht hi g p n cap cur hg a m c news hl hnews h1 hroom hfit
      refine ⟨_, _, _, _, _, hr, ⟨hlen, .inr ⟨g, p, cap, _, rfl, rfl, setRow_heap w g cur _ e _ hg, hroom, ?_, ?_⟩⟩, ⟨rfl, rfl, rfl, by simp, fun k _ hk => setRow_other w g k _ (fun e => hk (by simp [e]))⟩, rfl, .inl rfl⟩
      · simp only [List.size_toArray, List.length_append, List.length_take, List.length_drop, Array.length_toList]
        omega
      · show List.take ((n + m) * i.size) (List.drop p (cur.toList.take (p + n * i.size) ++ news ++ cur.toList.drop (p + n * i.size + news.length))) = xs ++ news
        have hp : p ≤ (cur.toList.take (p + n * i.size)).length := by
          rw [List.length_take, Array.length_toList]; omega
        rw [List.append_assoc, List.drop_append_of_le_length hp, List.drop_take, Nat.add_sub_cancel_left, htake, ← List.append_assoc, ← hlen]
        exact List.take_left
    · have holds : ∀ j u, xs[j]? = some u → w.cell? ((⟨g, p, none⟩ : Addr).add j) = some u := fun j u hj => by
        rw [Addr.add_lit]; exact hown.cell rfl j u hj
      have hr := run_append_grow (P := P) w t ty e i z ht hi hz ⟨g, p, none⟩ n cap xs hown.1 holds a m c news hl hnews (by omega) (by omega) (growslice_fits (by omega) hbytes)
      have hgr := grown cap (by omega)
      exact ⟨_, _, _, _, _, hr, hgr.1, hgr.2, rfl, .inr (Nat.le_refl _)⟩

theorem wpList_append_sl {ops : Array Oper} {rest : List Oper} {o : Oper} {a : Act} {Q : Exit → Act → World → Prop} (hgd : o.guard = none) (s x : Operand) (t : TypeId)
    (ho : o.op = .call { callee := .builtin .append, args := #[s, x], argTypes := #[t, t] })
    (e : TypeId) (i : TypeInfo) (z : Value) (size bytes : Nat) (ht : P.underlying t = some (.slice e)) (hi : P.info? e = some i) (hz : i.zero = some z)
    (hsize : i.size = size) (hby : i.bytes = bytes) (hzs : z.cells.size = size)
    (v : Value) (gb : Option Nat) (n : Nat) (xs : List Value) (hs : a.eval s = v) (hown : Sl w v gb e size n xs)
    (ad : Addr) (m c : Nat) (news : List Value) (hx : a.eval x = .slice (some ad) m c) (hl : news.length = m * size) (hnews : ∀ j u, news[j]? = some u → w.cell? (ad.add j) = some u) (h1 : ∀ u ∈ news, u.oneCell' = true)
    (h0 : 0 < m) (hbytes : (n + m) * bytes ≤ 140737488355328) (hsmall : n + m ≤ 9223372036854775807)
    (h : ∀ g p cap w' gb', Sl w' (.slice (some ⟨g, p, none⟩) (n + m) cap) gb' e size (n + m) (xs ++ news) → w.grownBy w' gb → gb' = some g → (gb' = gb ∨ w.heap.size ≤ g) → wpList P ops Q rest (a.put o.dst (.slice (some ⟨g, p, none⟩) (n + m) cap)) w') : wpList P ops Q (o :: rest) a w := by
  refine wpList_plain hgd fun K hK => ?_
  obtain ⟨g, p, cap, w', gb', hr, h2, h3, h4, h5⟩ := run_append_sl (P := P) w t o.type e i z size bytes ht hi hz hsize hby hzs v gb n xs hown ad m c news hl hnews h1 h0 hbytes hsmall
  unfold Oper.wp execOp
  simp only [ho, resolve, invoke, builtin, Sem.run_bind, Sem.run_pure, Result.andThen_ok, List.map_toArray, List.map_cons, List.map_nil, hs, hx, hr]
  exact hK _ _ (h g p cap w' gb' h2 h3 h4 h5)
end
section
variable {P : Program} (w : World)
/-- An append to such a slice, at a step of a region that draws its order. -/
theorem step_append_sl {ops : Array Oper} {o : Oper} {a : Act} {K : Act → World → Prop} {Q : Exit → Act → World → Prop} {E : Prop} (hgd : o.guard = none) (s x : Operand) (t : TypeId)
    (ho : o.op = .call { callee := .builtin .append, args := #[s, x], argTypes := #[t, t] })
    (e : TypeId) (i : TypeInfo) (z : Value) (size bytes : Nat) (ht : P.underlying t = some (.slice e)) (hi : P.info? e = some i) (hz : i.zero = some z)
    (hsize : i.size = size) (hby : i.bytes = bytes) (hzs : z.cells.size = size)
    (v : Value) (gb : Option Nat) (n : Nat) (xs : List Value) (hs : a.eval s = v) (hown : Sl w v gb e size n xs)
    (ad : Addr) (m c : Nat) (news : List Value) (hx : a.eval x = .slice (some ad) m c) (hl : news.length = m * size) (hnews : ∀ j u, news[j]? = some u → w.cell? (ad.add j) = some u) (h1 : ∀ u ∈ news, u.oneCell' = true)
    (h0 : 0 < m) (hbytes : (n + m) * bytes ≤ 140737488355328) (hsmall : n + m ≤ 9223372036854775807)
    (h : ∀ g p cap w' gb', Sl w' (.slice (some ⟨g, p, none⟩) (n + m) cap) gb' e size (n + m) (xs ++ news) → w.grownBy w' gb → gb' = some g → (gb' = gb ∨ w.heap.size ≤ g) → K (a.put o.dst (.slice (some ⟨g, p, none⟩) (n + m) cap)) w') :
    if Region.wanted o (yielded ops a.tmps) = true then Oper.wp P o a w K Q else E := by
  have hw : Region.wanted o (yielded ops a.tmps) = true := by simp [Region.wanted, hgd]
  rw [if_pos hw]
  obtain ⟨g, p, cap, w', gb', hr, h2, h3, h4, h5⟩ := run_append_sl (P := P) w t o.type e i z size bytes ht hi hz hsize hby hzs v gb n xs hown ad m c news hl hnews h1 h0 hbytes hsmall
  unfold Oper.wp execOp
  simp only [ho, resolve, invoke, builtin, Sem.run_bind, Sem.run_pure, Result.andThen_ok, List.map_toArray, List.map_cons, List.map_nil, hs, hx, hr]
  exact h g p cap w' gb' h2 h3 h4 h5
end
end Go.Proofs.YtdaoeplblkfapaaGreatDoor

/- A slice that reads as records. -/
namespace Go.Proofs.YtdaoeplblkfapaaGreatDoor
open Go.RowKit

/-- A slice that reads as these records. -/
def Recs (sv : Value) (ls : List Pl.Rc) (w : World) : Prop :=
  ∃ a cap, sv = .slice a ls.length cap ∧ ∀ j x, ls[j]? = some x → ∃ b off, a = some ⟨b, off, none⟩ ∧ b < w.heap.size ∧
    w.cell? ⟨b, off + j * 4, none⟩ = some (.int .i64 x.off) ∧ w.cell? ⟨b, off + j * 4 + 1, none⟩ = some (.string ⟨x.key.toArray⟩) ∧ w.cell? ⟨b, off + j * 4 + 2, none⟩ = some (.string ⟨x.val.toArray⟩) ∧ w.cell? ⟨b, off + j * 4 + 3, none⟩ = some (.bool x.gone)
theorem Recs.below {v : Value} {ls : List Pl.Rc} {w w' : World} (h : Recs v ls w) (hb : Below w.heap.size w w') : Recs v ls w' := by
  obtain ⟨a, cap, rfl, hc⟩ := h
  refine ⟨a, cap, rfl, fun j l hj => ?_⟩
  obtain ⟨b, off, rfl, hlt, h0, h1, h2, h3⟩ := hc j l hj
  have e : ∀ o, w'.cell? ⟨b, o, none⟩ = w.cell? ⟨b, o, none⟩ := fun o => hb.cell (p := ⟨b, o, none⟩) hlt
  exact ⟨b, off, rfl, Nat.lt_of_lt_of_le hlt hb.size, (e _).trans h0, (e _).trans h1, (e _).trans h2, (e _).trans h3⟩
end Go.Proofs.YtdaoeplblkfapaaGreatDoor

/- Blocks that are known whole; a slice of records that a call has built. -/
namespace Go.Proofs.YtdaoeplblkfapaaGreatDoor
open Go.RowKit

/-- A block that is known whole. -/
def Blk (w : World) (b : Nat) (cs : Array Value) (T : TypeId) : Prop := w.heap[b]? = some (.cells cs T (0, 0))
theorem Blk.lt {w : World} {b : Nat} {cs : Array Value} {T : TypeId} (h : Blk w b cs T) : b < w.heap.size := lt_of_block h
theorem Blk.kb {w w' : World} {b c : Nat} {cs : Array Value} {T : TypeId} (h : Blk w b cs T) (hk : Kb c w w') (hn : b ≠ c) : Blk w' b cs T := by
  unfold Blk at h ⊢
  rw [hk.block b (lt_of_block h) hn]
  exact h
theorem Blk.below {w w' : World} {b : Nat} {cs : Array Value} {T : TypeId} (h : Blk w b cs T) (hb : Below w.heap.size w w') : Blk w' b cs T := by
  unfold Blk at h ⊢
  rw [hb.block b (lt_of_block h)]
  exact h
theorem Blk.cell {w : World} {b i : Nat} {cs : Array Value} {T : TypeId} {x : Value} (h : Blk w b cs T) (hx : cs[i]? = some x) : w.cell? ⟨b, i, none⟩ = some x := by
  unfold Blk at h
  unfold World.cell?
  rw [h]
  exact hx
theorem Blk.free {w : World} {b i : Nat} {cs : Array Value} {T : TypeId} (h : Blk w b cs T) : w.frozen? ⟨b, i, none⟩ = false := by
  unfold Blk at h
  simp [World.frozen?, h]
theorem Blk.new (w : World) (cs : Array Value) (T : TypeId) : Blk (w.alloc (.cells cs T)) w.heap.size cs T := heap_alloc_new w _
theorem Blk.set {w : World} {b i : Nat} {cs : Array Value} {T : TypeId} (h : Blk w b cs T) (v : Value) : Blk (w.setCell ⟨b, i, none⟩ v) b (cs.setIfInBounds i v) T := by
  have hlt := h.lt
  unfold Blk at h ⊢
  have h' : w.heap[b] = .cells cs T (0, 0) := by simpa [Array.getElem?_eq_getElem hlt] using h
  show (w.heap.modify b _)[b]? = _
  rw [Array.getElem?_eq_getElem (by simpa using hlt), Array.getElem_modify_self, h']
  rfl
theorem Blk.setOther {w : World} {b c i : Nat} {cs : Array Value} {T : TypeId} (h : Blk w b cs T) (v : Value) (hn : b ≠ c) : Blk (w.setCell ⟨c, i, none⟩ v) b cs T := h.kb (Kb.setCell w v) hn

def zeroB : Array Value := #[.int .i64 0, .int .i64 0, .int .i64 0, .int .i64 0, .int .i64 0, .slice none 0 0]
theorem size_list (a : List UInt8) : (⟨a.toArray⟩ : ByteArray).size = a.length := by show a.toArray.size = _; simp
theorem cells_five (w : World) (x0 x1 x2 x3 x4 : Value) (T : TypeId) : (w.alloc (.cells #[x0, x1, x2, x3, x4] T)).cell? ⟨w.heap.size, 0, none⟩ = some x0 ∧ (w.alloc (.cells #[x0, x1, x2, x3, x4] T)).cell? ⟨w.heap.size, 1, none⟩ = some x1 ∧ (w.alloc (.cells #[x0, x1, x2, x3, x4] T)).cell? ⟨w.heap.size, 2, none⟩ = some x2 ∧ (w.alloc (.cells #[x0, x1, x2, x3, x4] T)).cell? ⟨w.heap.size, 3, none⟩ = some x3 ∧ (w.alloc (.cells #[x0, x1, x2, x3, x4] T)).cell? ⟨w.heap.size, 4, none⟩ = some x4 := by
  have h := heap_alloc_new w (.cells #[x0, x1, x2, x3, x4] T)
  refine ⟨?_, ?_, ?_, ?_, ?_⟩ <;> (unfold World.cell?; rw [h]; rfl)
theorem cells_four (w : World) (x0 x1 x2 x3 : Value) (T : TypeId) : (w.alloc (.cells #[x0, x1, x2, x3] T)).cell? ⟨w.heap.size, 0, none⟩ = some x0 ∧ (w.alloc (.cells #[x0, x1, x2, x3] T)).cell? ⟨w.heap.size, 1, none⟩ = some x1 ∧ (w.alloc (.cells #[x0, x1, x2, x3] T)).cell? ⟨w.heap.size, 2, none⟩ = some x2 ∧ (w.alloc (.cells #[x0, x1, x2, x3] T)).cell? ⟨w.heap.size, 3, none⟩ = some x3 := by
  have h := heap_alloc_new w (.cells #[x0, x1, x2, x3] T)
  refine ⟨?_, ?_, ?_, ?_⟩ <;> (unfold World.cell?; rw [h]; rfl)
theorem cells_six' (w : World) (x0 x1 x2 x3 x4 x5 : Value) (T : TypeId) : ∀ i x, [x0, x1, x2, x3, x4, x5][i]? = some x → (w.alloc (.cells #[x0, x1, x2, x3, x4, x5] T)).cell? ⟨w.heap.size, i, none⟩ = some x := by
  have h := heap_alloc_new w (.cells #[x0, x1, x2, x3, x4, x5] T)
  intro i x hx
  unfold World.cell?
  rw [h]
  show (#[x0, x1, x2, x3, x4, x5] : Array Value)[i]? = some x
  rw [← hx, ← List.getElem?_toArray]

def zeroR : Array Value := #[.int .i64 0, .string ⟨#[]⟩, .string ⟨#[]⟩, .bool false]
theorem infoRec' : (Tryz.prog.info? 75).map (fun i => (i.zero, i.size, i.bytes)) = some (some (.agg zeroR), 4, 48) := by kernel_rfl
theorem infoRec : ∃ i, Tryz.prog.info? 75 = some i ∧ i.zero = some (.agg zeroR) ∧ i.size = 4 ∧ i.bytes = 48 := by
  have h := infoRec'
  cases hi : Tryz.prog.info? 75 with
  | none => rw [hi] at h; cases h
  | some i =>
    rw [hi] at h
    simp only [Option.map_some, Option.some.injEq, Prod.mk.injEq] at h
    exact ⟨i, rfl, h.1, h.2.1, h.2.2⟩
theorem own_kb2 {w w' : World} {base n size c : Nat} {e : TypeId} {v : Value} {xs : List Value} (h : w.ownsRow base e size v n xs) (hk : Kb c w w') (hne : ∀ k, v.ownBlock = some k → k ≠ c) : w'.ownsRow base e size v n xs :=
  h.kept (row := some c) ⟨hk.os, hk.tape, hk.output, hk.size, fun k hl hn => hk.block k hl (fun e => hn (by rw [e]))⟩ (Or.inr fun e => hne c e rfl)
def sliceLen : Option Value → Nat
  | some (.slice _ n _) => n
  | _ => 0
def cells4 (x : Pl.Rc) : List Value := [.int .i64 x.off, .string ⟨x.key.toArray⟩, .string ⟨x.val.toArray⟩, .bool x.gone]
theorem own_below {w w' : World} {base n size : Nat} {e : TypeId} {v : Value} {xs : List Value} (h : w.ownsRow base e size v n xs) (hb : Below w.heap.size w w') : w'.ownsRow base e size v n xs :=
  h.kept (row := none) ⟨hb.os, hb.tape, hb.output, hb.size, fun k hk _ => hb.block k hk⟩ (by cases v.ownBlock <;> simp)
theorem own_kb {w w' : World} {base n size c : Nat} {e : TypeId} {v : Value} {xs : List Value} (h : w.ownsRow base e size v n xs) (hk : Kb c w w') (hc : c < base) : w'.ownsRow base e size v n xs :=
  h.kept (row := some c) ⟨hk.os, hk.tape, hk.output, hk.size, fun k hl hn => hk.block k hl (fun e => hn (by rw [e]))⟩ (Or.inr fun e => by have := (h.lt c e).1; omega)

theorem flat4 : ∀ (acc : List Pl.Rc) (j : Nat) (x : Pl.Rc), acc[j]? = some x → ∀ i, i < 4 → (acc.flatMap cells4)[j * 4 + i]? = (cells4 x)[i]?
  | [], j, x, h, _, _ => by simp at h
  | y :: acc, 0, x, h, i, hi => by
    simp at h
    subst h
    rw [List.flatMap_cons, List.getElem?_append_left (by simp [cells4]; omega)]
    simp
  | y :: acc, j + 1, x, h, i, hi => by
    simp at h
    rw [List.flatMap_cons, List.getElem?_append_right (by simp [cells4]; omega)]
    rw [← flat4 acc j x h i hi]
    congr 1
    simp [cells4]
    omega
theorem own_recs {w : World} {base : Nat} {sv : Value} {acc : List Pl.Rc} {e : TypeId} (h : w.ownsRow base e 4 sv acc.length (acc.flatMap cells4)) : Recs sv acc w := by
  rcases h.2 with ⟨rfl, h0⟩ | ⟨g, cap, cur, rfl, -, hg, -, -, -, ht⟩
  · refine ⟨none, 0, by rw [h0], fun j x hj => ?_⟩
    have := List.length_eq_zero_iff.1 h0
    subst this
    simp at hj
  · refine ⟨_, cap, rfl, fun j x hj => ⟨g, 0, rfl, lt_of_block hg, ?_⟩⟩
    have hjl : j < acc.length := (List.getElem?_eq_some_iff.1 hj).1
    have key : ∀ i v, i < 4 → (cells4 x)[i]? = some v → w.cell? ⟨g, 0 + j * 4 + i, none⟩ = some v := by
      intro i v hi hv
      have h1 := flat4 acc j x hj i hi
      rw [← ht, List.getElem?_take_of_lt (by omega), hv] at h1
      refine Blk.cell hg ?_
      rw [Nat.zero_add]
      rw [← Array.getElem?_toList]
      exact h1
    exact ⟨key 0 _ (by decide) rfl, key 1 _ (by decide) rfl, key 2 _ (by decide) rfl, key 3 _ (by decide) rfl⟩
theorem Blk.six {w : World} {r : Nat} {a0 a1 a2 a3 a4 a5 : Value} {T : TypeId} (h : Blk w r #[a0, a1, a2, a3, a4, a5] T) (v0 v1 v2 v3 v4 v5 : Value) :
    Blk ((((((w.setCell ⟨r, 0, none⟩ v0).setCell ⟨r, 1, none⟩ v1).setCell ⟨r, 2, none⟩ v2).setCell ⟨r, 3, none⟩ v3).setCell ⟨r, 4, none⟩ v4).setCell ⟨r, 5, none⟩ v5) r #[v0, v1, v2, v3, v4, v5] T :=
  (((((h.set (i := 0) v0).set (i := 1) v1).set (i := 2) v2).set (i := 3) v3).set (i := 4) v4).set (i := 5) v5
end Go.Proofs.YtdaoeplblkfapaaGreatDoor

/- What a call leaves as it was (Moved), and blocks that are known whole. -/
namespace Go.Proofs.YtdaoeplblkfapaaGreatDoor
open Go.RowKit

/-- But for the blocks of B the world is as it was; the blocks of B' are of B, or new. -/
structure Moved (B B' : Nat → Prop) (w w' : World) : Prop where
  os : w'.os = w.os
  tape : w'.tape = w.tape
  output : w'.output = w.output
  size : w.heap.size ≤ w'.heap.size
  block : ∀ k, k < w.heap.size → ¬ B k → w'.heap[k]? = w.heap[k]?
  new : ∀ k, B' k → B k ∨ w.heap.size ≤ k
theorem Moved.refl (B : Nat → Prop) (w : World) : Moved B B w w := ⟨rfl, rfl, rfl, Nat.le_refl _, fun _ _ _ => rfl, fun _ h => .inl h⟩
theorem Moved.trans {A B C : Nat → Prop} {u v w : World} (h : Moved A B u v) (k : Moved B C v w) : Moved A C u w :=
  ⟨k.os.trans h.os, k.tape.trans h.tape, k.output.trans h.output, Nat.le_trans h.size k.size,
    fun i hi hn => (k.block i (Nat.lt_of_lt_of_le hi h.size) (fun hb => by rcases h.new i hb with h1 | h1; exact hn h1; omega)).trans (h.block i hi hn),
    fun i hi => by rcases k.new i hi with h1 | h1; exact h.new i h1; exact .inr (Nat.le_trans h.size h1)⟩
theorem Moved.of_below {B : Nat → Prop} {w w' : World} (h : Below w.heap.size w w') : Moved B B w w' := ⟨h.os, h.tape, h.output, h.size, fun k hk _ => h.block k hk, fun _ h => .inl h⟩
theorem Moved.of_grown {B : Nat → Prop} {w w' : World} {r : Option Nat} (h : w.grownBy w' r) (hr : ∀ k, r = some k → B k) : Moved B B w w' := ⟨h.os, h.tape, h.output, h.size, fun k hk hn => h.block k hk (fun e => hn (hr k e.symm)), fun _ h => .inl h⟩
theorem Moved.setCell {B : Nat → Prop} (w : World) (a : Addr) (v : Value) (h : B a.block) : Moved B B w (w.setCell a v) :=
  ⟨rfl, rfl, rfl, by simp [World.setCell], fun k _ hn => Below.heap_setCell _ _ _ _ (by rintro rfl; exact hn h), fun _ h => .inl h⟩
theorem Moved.alloc {B : Nat → Prop} (w : World) (o : Obj) : Moved B B w (w.alloc o) := .of_below ((Below.refl _ _).alloc (Nat.le_refl _) o)
theorem Moved.mono {A A' B B' : Nat → Prop} {w w' : World} (h : Moved A B w w') (h1 : ∀ k, A k → A' k) (h2 : ∀ k, B' k → A' k ∨ w.heap.size ≤ k) : Moved A' B' w w' :=
  ⟨h.os, h.tape, h.output, h.size, fun k hk hn => h.block k hk (fun hb => hn (h1 k hb)), h2⟩
theorem Moved.below {B B' : Nat → Prop} {w0 w w' : World} (h : Moved B B' w w') (h0 : Below w0.heap.size w0 w) (hB : ∀ k, B k → w0.heap.size ≤ k) : Below w0.heap.size w0 w' ∧ ∀ k, B' k → w0.heap.size ≤ k :=
  ⟨h0.trans ⟨h.os, h.tape, h.output, h.size, fun k hk => h.block k (Nat.lt_of_lt_of_le hk h0.size) (fun hb => by have := hB k hb; omega)⟩, fun k hk => by
    have := h0.size
    rcases h.new k hk with h1 | h1
    · exact hB k h1
    · omega⟩

section
variable {w w' : World} {b i : Nat} {cs : Array Value} {T : TypeId}
theorem Blk.same (h : Blk w b cs T) (e : w'.heap[b]? = w.heap[b]?) : Blk w' b cs T := e.trans h
theorem Blk.moved {B B' : Nat → Prop} (h : Blk w b cs T) (hk : Moved B B' w w') (hn : ¬ B b) : Blk w' b cs T ∧ ¬ B' b :=
  ⟨h.same (hk.block b h.lt hn), fun hb => by have := h.lt; rcases hk.new b hb with h1 | h1; exact hn h1; omega⟩
theorem Blk.alloc (h : Blk w b cs T) (o : Obj) : Blk (w.alloc o) b cs T := h.same (Below.heap_alloc _ _ _ h.lt)
theorem Blk.grown {r : Option Nat} (h : Blk w b cs T) (hg : w.grownBy w' r) (hn : some b ≠ r) : Blk w' b cs T := h.same (hg.block _ h.lt hn)
theorem Blk.setAway (h : Blk w b cs T) (a : Addr) (v : Value) (hn : b ≠ a.block) : Blk (w.setCell a v) b cs T := h.same (Below.heap_setCell _ _ _ _ hn)
end
theorem Moved.iff {w w' : World} {A A' C C' : Nat → Prop} (h : Moved A C w w') (h1 : ∀ b, A' b ↔ A b) (h2 : ∀ b, C' b ↔ C b) : Moved A' C' w w' :=
  ⟨h.os, h.tape, h.output, h.size, fun k hk hn => h.block k hk (fun ha => hn ((h1 k).2 ha)), fun k hk => (h.new k ((h2 k).1 hk)).imp (h1 k).2 id⟩
end Go.Proofs.YtdaoeplblkfapaaGreatDoor
