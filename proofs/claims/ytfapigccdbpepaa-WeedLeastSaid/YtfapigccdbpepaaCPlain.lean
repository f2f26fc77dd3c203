/- PLAIN MATHEMATICS OF BATCHES: which can be, their bytes. Nothing here knows the program. -/
import Derived.Test.YtfapigccdbpepaaPlain
namespace Go.Proofs.Ytfapigccdbpepaa.Pl
open Go.Lib

structure Rc where
  off : Int
  key : List UInt8
  val : List UInt8
  gone : Bool
structure Bt where
  base : Int
  count : Int
  prod : Int
  seq : Int
  time : Int
  recs : List Rc

def numB (n : Int) : Bool := decide (0 ≤ n ∧ n ≤ 1099511627776)
def recB (x : Rc) : Bool := decide (x.key.length ≤ 16 ∧ x.val.length ≤ 64) && (!x.gone || x.val.isEmpty)
def riseB : List Rc → Int → Int → Bool
  | [], _, _ => true
  | x :: l, last, hi => recB x && decide (last < x.off ∧ x.off < hi) && riseB l x.off hi
def goodB (b : Bt) : Bool :=
  numB b.base && decide (1 ≤ b.count ∧ b.count ≤ 8 ∧ b.base ≤ 1099511627776 - b.count) && numB b.prod && numB b.seq && numB b.time && decide ((b.recs.length : Int) ≤ b.count) && riseB b.recs (b.base - 1) (b.base + b.count)
def fitsB (l : List Rc) : Bool := decide (1 ≤ l.length ∧ l.length ≤ 8) && l.all recB

theorem numB_iff {n : Int} : numB n = true ↔ 0 ≤ n ∧ n ≤ 1099511627776 := by unfold numB; exact decide_eq_true_iff
theorem recB_iff {x : Rc} : recB x = true ↔ x.key.length ≤ 16 ∧ x.val.length ≤ 64 ∧ (x.gone = true → x.val = []) := by
  unfold recB
  rw [Bool.and_eq_true, decide_eq_true_iff, and_assoc]
  cases x.gone <;> simp
theorem riseB_cons {x : Rc} {l : List Rc} {last hi : Int} : riseB (x :: l) last hi = true ↔ recB x = true ∧ last < x.off ∧ x.off < hi ∧ riseB l x.off hi = true := by
  simp only [riseB, Bool.and_eq_true, decide_eq_true_iff]
  constructor
  · rintro ⟨⟨h1, h2, h3⟩, h4⟩; exact ⟨h1, h2, h3, h4⟩
  · rintro ⟨h1, h2, h3, h4⟩; exact ⟨⟨h1, h2, h3⟩, h4⟩
theorem goodB_iff {b : Bt} : goodB b = true ↔ (0 ≤ b.base ∧ b.base ≤ 1099511627776) ∧ (1 ≤ b.count ∧ b.count ≤ 8 ∧ b.base ≤ 1099511627776 - b.count) ∧ (0 ≤ b.prod ∧ b.prod ≤ 1099511627776) ∧ (0 ≤ b.seq ∧ b.seq ≤ 1099511627776) ∧ (0 ≤ b.time ∧ b.time ≤ 1099511627776) ∧ (b.recs.length : Int) ≤ b.count ∧ riseB b.recs (b.base - 1) (b.base + b.count) = true := by
  simp only [goodB, Bool.and_eq_true, decide_eq_true_iff, numB_iff]
  constructor
  · rintro ⟨⟨⟨⟨⟨⟨h1, h2⟩, h3⟩, h4⟩, h5⟩, h6⟩, h7⟩; exact ⟨h1, h2, h3, h4, h5, h6, h7⟩
  · rintro ⟨h1, h2, h3, h4, h5, h6, h7⟩; exact ⟨⟨⟨⟨⟨⟨h1, h2⟩, h3⟩, h4⟩, h5⟩, h6⟩, h7⟩
theorem rise_mem {l : List Rc} {last hi : Int} (h : riseB l last hi = true) : ∀ x ∈ l, recB x = true ∧ last < x.off ∧ x.off < hi := by
  induction l generalizing last with
  | nil => intro x hx; cases hx
  | cons y l ih =>
    obtain ⟨h1, h2, h3, h4⟩ := riseB_cons.1 h
    intro x hx
    rcases List.mem_cons.1 hx with rfl | hx
    · exact ⟨h1, h2, h3⟩
    · obtain ⟨a, b, c⟩ := ih h4 x hx
      exact ⟨a, by omega, c⟩
theorem rise_less {l : List Rc} {a b hi : Int} (h : riseB l b hi = true) (hab : a ≤ b) : riseB l a hi = true := by
  cases l with
  | nil => rfl
  | cons x l =>
    obtain ⟨h1, h2, h3, h4⟩ := riseB_cons.1 h
    exact riseB_cons.2 ⟨h1, by omega, h3, h4⟩
/-- Records taken out: what is left rises too. -/
theorem rise_sub {l m : List Rc} (hs : m.Sublist l) : ∀ {last hi : Int}, riseB l last hi = true → riseB m last hi = true := by
  induction hs with
  | slnil => intro _ _ h; exact h
  | cons x _ ih =>
    intro last hi h
    obtain ⟨_, h2, _, h4⟩ := riseB_cons.1 h
    exact rise_less (ih h4) (by omega)
  | cons_cons x _ ih =>
    intro last hi h
    obtain ⟨h1, h2, h3, h4⟩ := riseB_cons.1 h
    exact riseB_cons.2 ⟨h1, h2, h3, ih h4⟩
theorem good_sub {b : Bt} {m : List Rc} (hs : m.Sublist b.recs) (h : goodB b = true) : goodB { b with recs := m } = true := by
  obtain ⟨h1, h2, h3, h4, h5, h6, h7⟩ := goodB_iff.1 h
  have := hs.length_le
  exact goodB_iff.2 ⟨h1, h2, h3, h4, h5, by show (m.length : Int) ≤ b.count; omega, rise_sub hs h7⟩

def goneN (g : Bool) : Int := if g then 1 else 0
def encR (x : Rc) : List UInt8 := 108 :: (wInt x.off ++ wText x.key ++ wText x.val ++ wInt (goneN x.gone) ++ [101])
def encRs (l : List Rc) : List UInt8 := (l.map encR).flatten
def enc (b : Bt) : List UInt8 := 108 :: (wInt b.base ++ wInt b.count ++ wInt b.prod ++ wInt b.seq ++ wInt b.time ++ encRs b.recs ++ [101])
theorem encRs_cons (x : Rc) (l : List Rc) : encRs (x :: l) = encR x ++ encRs l := rfl
theorem encRs_append (l m : List Rc) : encRs (l ++ m) = encRs l ++ encRs m := by simp [encRs]

theorem dec_short (k u : Nat) (h : u < 10 ^ (k + 1)) : (decDigits u).length ≤ k + 1 := by
  rw [decDigits_length]
  induction k generalizing u with
  | zero => rw [nDigits_small (by simpa using h)]; exact Nat.le_refl _
  | succ k ih =>
    by_cases h10 : u < 10
    · rw [nDigits_small h10]; omega
    · rw [nDigits_big h10]
      have := ih (u / 10) (by rw [Nat.pow_succ] at h; omega)
      omega
theorem itoa_short {n : Int} (h0 : 0 ≤ n) (k : Nat) (h : n < 10 ^ (k + 1)) : (itoa n).length ≤ k + 1 := by
  obtain ⟨u, rfl⟩ : ∃ u : Nat, n = u := ⟨n.toNat, by omega⟩
  unfold itoa
  rw [if_neg (by omega)]
  exact dec_short k u (by exact_mod_cast h)
theorem wInt_short {n : Int} (h0 : 0 ≤ n) (k : Nat) (h : n < 10 ^ (k + 1)) : (wInt n).length ≤ k + 3 ∧ 3 ≤ (wInt n).length := by
  have h1 := itoa_short h0 k h
  have h2 : 0 < (itoa n).length := List.length_pos_iff.2 (itoa_ne n)
  simp only [wInt, List.length_cons, List.length_append, List.length_nil]
  omega
theorem wText_short {t : List UInt8} (k : Nat) (h : t.length < 10 ^ (k + 1)) : (wText t).length ≤ k + 2 + t.length := by
  have h1 := itoa_short (n := (t.length : Int)) (by omega) k (by exact_mod_cast h)
  simp only [wText, List.length_append, List.length_cons]
  omega
theorem encR_short {x : Rc} (h : recB x = true) (h0 : 0 ≤ x.off) (h1 : x.off ≤ 1099511627776) : (encR x).length ≤ 130 := by
  obtain ⟨hk, hv, -⟩ := recB_iff.1 h
  have a := (wInt_short h0 12 (by omega)).1
  have b := wText_short (t := x.key) 1 (by omega)
  have c := wText_short (t := x.val) 1 (by omega)
  have d : (wInt (goneN x.gone)).length ≤ 3 := (wInt_short (by unfold goneN; split <;> omega) 0 (by unfold goneN; split <;> omega)).1
  simp only [encR, List.length_cons, List.length_append, List.length_nil]
  omega
theorem encRs_short {l : List Rc} (h : ∀ x ∈ l, recB x = true ∧ 0 ≤ x.off ∧ x.off ≤ 1099511627776) : (encRs l).length ≤ 130 * l.length := by
  induction l with
  | nil => simp [encRs]
  | cons x l ih =>
    obtain ⟨h1, h2, h3⟩ := h x List.mem_cons_self
    have := encR_short h1 h2 h3
    have := ih fun y hy => h y (List.mem_cons_of_mem _ hy)
    rw [encRs_cons, List.length_append, List.length_cons]
    omega
theorem good_recs {b : Bt} (h : goodB b = true) : ∀ x ∈ b.recs, recB x = true ∧ 0 ≤ x.off ∧ x.off ≤ 1099511627776 := by
  obtain ⟨h1, h2, -, -, -, -, h7⟩ := goodB_iff.1 h
  intro x hx
  obtain ⟨a, b', c⟩ := rise_mem h7 x hx
  exact ⟨a, by omega, by omega⟩
/-- How long a batch's bytes are. -/
theorem enc_short {b : Bt} (h : goodB b = true) : (enc b).length ≤ 82 + 130 * b.recs.length ∧ 17 ≤ (enc b).length ∧ b.recs.length ≤ 8 := by
  have hr := encRs_short (good_recs h)
  obtain ⟨h1, h2, h3, h4, h5, h6, -⟩ := goodB_iff.1 h
  have a := wInt_short h1.1 12 (by omega)
  have b' := wInt_short (n := b.count) (by omega) 12 (by omega)
  have c := wInt_short h3.1 12 (by omega)
  have d := wInt_short h4.1 12 (by omega)
  have e := wInt_short h5.1 12 (by omega)
  simp only [enc, List.length_cons, List.length_append, List.length_nil]
  omega
end Go.Proofs.Ytfapigccdbpepaa.Pl
