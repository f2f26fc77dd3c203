import Derived.Test.YtdaoeplblkfapaaGreatDoorProg
import Derived.Lib.LaidTab
import Derived.Lib.ItoaNum
import Derived.Below
import Derived.OneCell
import Derived.Sort.Grow
import Derived.Deep.Draws
import Derived.Lib.Hide
import Derived.Lib.AtoiAllCases
import Derived.Lib.IndexMore
import Derived.Lib.Strings
import Derived.Test.YtdaoeplblkfapaaGreatDoorShelf
import Derived.WalkKit
import Derived.WalkSpells
import Derived.WalkLawsBesides
import Derived.Handy
import Derived.Outline
import Derived.Lib.IndexBytes
import Derived.Lib.ItoaLen
import Derived.Lib.CutLaws
import Derived.ScopeJumps

/- WHAT IS CARRIED FROM CALL TO CALL: what the library's variables hold ('Lb'), what a call on the reader in block b leaves alone ('Kb'), what a reader holds ('Rdr'). -/
namespace Go.Proofs.YtdaoeplblkfapaaGreatDoor
open Go.RowKit

/-- What the library's variables hold. -/
structure Lb (w : World) : Prop where
  pow : Lib.TabIs Tryz.prog w "internal/strconv.uint64pow10" .u64 Lib.pow10Tab
  syn : ∃ tp p, w.var? Tryz.prog "strconv.ErrSyntax" = some #[.iface tp p]
  rng : ∃ tp p, w.var? Tryz.prog "strconv.ErrRange" = some #[.iface tp p]
  lst : Lib.TabIs Tryz.prog w "heliograph/crate.least" .i64 [0, 1, 0, 0, 0]
  grt : Lib.TabIs Tryz.prog w "heliograph/crate.greatest" .i64 [1099511627776, 8, 1099511627776, 1099511627776, 1099511627776]
  size : 8 ≤ w.heap.size

theorem gPow : Tryz.prog.globalNamed "internal/strconv.uint64pow10" = some 4 := by kernel_rfl
theorem gSyn : Tryz.prog.globalNamed "strconv.ErrSyntax" = some 2 := by kernel_rfl
theorem gRng : Tryz.prog.globalNamed "strconv.ErrRange" = some 3 := by kernel_rfl

theorem gLst : Tryz.prog.globalNamed "heliograph/crate.least" = some 0 := by kernel_rfl
theorem gGrt : Tryz.prog.globalNamed "heliograph/crate.greatest" = some 1 := by kernel_rfl

theorem var_of_block {w w' : World} {name : String} {g : Nat} (hg : Tryz.prog.globalNamed name = some g) (h : w'.heap[g]? = w.heap[g]?) : w'.var? Tryz.prog name = w.var? Tryz.prog name := by
  unfold World.var?
  rw [hg]
  simp only [Option.bind_some]
  rw [h]

theorem Lb.of_low {w w' : World} (h : Lb w) (hs : w.heap.size ≤ w'.heap.size) (hb : ∀ k, k < 8 → w'.heap[k]? = w.heap[k]?) : Lb w' := by
  obtain ⟨h1, ⟨t3, p3, h3⟩, ⟨t4, p4, h4⟩, h6, h7, h5⟩ := h
  refine ⟨?_, ⟨t3, p3, ?_⟩, ⟨t4, p4, ?_⟩, ?_, ?_, by omega⟩
  · unfold Lib.TabIs at h1 ⊢
    rw [var_of_block gPow (hb _ (by decide))]
    exact h1
  · rw [var_of_block gSyn (hb _ (by decide))]
    exact h3
  · rw [var_of_block gRng (hb _ (by decide))]
    exact h4
  · unfold Lib.TabIs at h6 ⊢
    rw [var_of_block gLst (hb _ (by decide))]
    exact h6
  · unfold Lib.TabIs at h7 ⊢
    rw [var_of_block gGrt (hb _ (by decide))]
    exact h7

theorem Lb.below {w w' : World} {B : Nat} (h : Lb w) (hB : 8 ≤ B) (hb : Below B w w') : Lb w' := h.of_low hb.size fun k hk => hb.block k (by omega)

/-- A call that may write block b alone of what there was. -/
structure Kb (b : Nat) (w w' : World) : Prop where
  os : w'.os = w.os
  tape : w'.tape = w.tape
  output : w'.output = w.output
  size : w.heap.size ≤ w'.heap.size
  block : ∀ k, k < w.heap.size → k ≠ b → w'.heap[k]? = w.heap[k]?

theorem Kb.refl (b : Nat) (w : World) : Kb b w w := ⟨rfl, rfl, rfl, Nat.le_refl _, fun _ _ _ => rfl⟩
theorem Kb.trans {b : Nat} {u v w : World} (h : Kb b u v) (k : Kb b v w) : Kb b u w :=
  ⟨k.os.trans h.os, k.tape.trans h.tape, k.output.trans h.output, Nat.le_trans h.size k.size, fun i hi hn => (k.block i (Nat.lt_of_lt_of_le hi h.size) hn).trans (h.block i hi hn)⟩
theorem Kb.of_below {b : Nat} {w w' : World} (h : Below w.heap.size w w') : Kb b w w' := ⟨h.os, h.tape, h.output, h.size, fun k hk _ => h.block k hk⟩
theorem Kb.below {b B : Nat} {w w' : World} (h : Kb b w w') (h1 : B ≤ b) (h2 : b < w.heap.size) : Below B w w' := ⟨h.os, h.tape, h.output, h.size, fun k hk => h.block k (by omega) (by omega)⟩
theorem Kb.setCell {b o : Nat} (w : World) (v : Value) : Kb b w (w.setCell ⟨b, o, none⟩ v) :=
  ⟨rfl, rfl, rfl, by simp [World.setCell], fun k _ hn => Below.heap_setCell _ _ _ _ hn⟩
theorem Kb.drewN {b : Nat} {w w' : World} (h : Kb b w w') (n : Nat) : Kb b w (w'.drewN n) := ⟨h.os, h.tape, h.output, h.size, h.block⟩
theorem Lb.kb {b : Nat} {w w' : World} (h : Lb w) (hb : 8 ≤ b) (hk : Kb b w w') : Lb w' := h.of_low hk.size fun k hl => hk.block k (by have := h.size; omega) (by omega)

theorem below_drewN {B : Nat} (w : World) (n : Nat) : Below B w (w.drewN n) := ⟨rfl, rfl, rfl, Nat.le_refl _, fun _ _ => rfl⟩
theorem below_grow {w : World} (n : Nat) (os : Array Obj) : Below w.heap.size w (Sort.grow (w.drewN n) os) :=
  ⟨rfl, rfl, rfl, by simp [World.drewN], fun k hk => Sort.heap_grow_old (w.drewN n) os hk⟩

/-- The reader in block b: the bytes from its place on; whether it is wrong. -/
def Rdr (b : Nat) (w : World) (s : ByteArray) (bad : Bool) : Prop := w.heap[b]? = some (.cells #[.string s, .bool bad] 246 (0, 0))

theorem Rdr.lt {b : Nat} {w : World} {s : ByteArray} {bad : Bool} (h : Rdr b w s bad) : b < w.heap.size := lt_of_block h
theorem Rdr.rest {b : Nat} {w : World} {s : ByteArray} {bad : Bool} (h : Rdr b w s bad) : w.cell? ⟨b, 0, none⟩ = some (.string s) := by unfold Rdr at h; simp [World.cell?, h]
theorem Rdr.wrong {b : Nat} {w : World} {s : ByteArray} {bad : Bool} (h : Rdr b w s bad) : w.cell? ⟨b, 1, none⟩ = some (.bool bad) := by unfold Rdr at h; simp [World.cell?, h]
theorem Rdr.free0 {b : Nat} {w : World} {s : ByteArray} {bad : Bool} (h : Rdr b w s bad) : w.frozen? ⟨b, 0, none⟩ = false := by unfold Rdr at h; simp [World.frozen?, h]
theorem Rdr.free1 {b : Nat} {w : World} {s : ByteArray} {bad : Bool} (h : Rdr b w s bad) : w.frozen? ⟨b, 1, none⟩ = false := by unfold Rdr at h; simp [World.frozen?, h]
theorem Rdr.same {b : Nat} {w w' : World} {s : ByteArray} {bad : Bool} (h : Rdr b w s bad) (hb : Below w.heap.size w w') : Rdr b w' s bad := by
  unfold Rdr at h ⊢
  rw [hb.block b (lt_of_block h)]
  exact h
theorem Rdr.other {b c : Nat} {w w' : World} {s : ByteArray} {bad : Bool} (h : Rdr b w s bad) (hk : Kb c w w') (hn : b ≠ c) : Rdr b w' s bad := by
  unfold Rdr at h ⊢
  rw [hk.block b (lt_of_block h) hn]
  exact h
theorem Rdr.set0 {b : Nat} {w : World} {s : ByteArray} {bad : Bool} (h : Rdr b w s bad) (s' : ByteArray) : Rdr b (w.setCell ⟨b, 0, none⟩ (.string s')) s' bad := by
  have hlt := h.lt
  unfold Rdr at h ⊢
  have h' : w.heap[b] = .cells #[.string s, .bool bad] 246 (0, 0) := by simpa [Array.getElem?_eq_getElem hlt] using h
  show (w.heap.modify b _)[b]? = _
  rw [Array.getElem?_eq_getElem (by simpa using hlt), Array.getElem_modify_self, h']
  rfl
theorem Rdr.set1 {b : Nat} {w : World} {s : ByteArray} {bad : Bool} (h : Rdr b w s bad) (bad' : Bool) : Rdr b (w.setCell ⟨b, 1, none⟩ (.bool bad')) s bad' := by
  have hlt := h.lt
  unfold Rdr at h ⊢
  have h' : w.heap[b] = .cells #[.string s, .bool bad] 246 (0, 0) := by simpa [Array.getElem?_eq_getElem hlt] using h
  show (w.heap.modify b _)[b]? = _
  rw [Array.getElem?_eq_getElem (by simpa using hlt), Array.getElem_modify_self, h']
  rfl
theorem Rdr.drewN {b : Nat} {w : World} {s : ByteArray} {bad : Bool} (h : Rdr b w s bad) (n : Nat) : Rdr b (w.drewN n) s bad := h
end Go.Proofs.YtdaoeplblkfapaaGreatDoor

/- PLAIN FACTS, no model in this text: decimal numerals there and back; a text cut at a byte; the forms of numbers and texts as bytes, and what a reader takes of them. -/
namespace Go.Proofs.YtdaoeplblkfapaaGreatDoor
namespace Pl
open Go.Lib

theorem ofNat_toNat (k : Nat) (h : k < 256) : (UInt8.ofNat k).toNat = k := by
  rw [UInt8.toNat_ofNat']; omega

theorem parse_snoc : ∀ (l : List UInt8) (c : UInt8) (acc u : Nat), parseUint10 acc l = .ok u →
    parseUint10 acc (l ++ [c]) = parseUint10 u [c]
  | [], c, acc, u, h => by
    simp only [parseUint10] at h
    injection h with h
    subst h
    rfl
  | x :: l, c, acc, u, h => by
    simp only [List.cons_append, parseUint10] at h ⊢
    split at h
    · rename_i hx
      rw [if_pos hx]
      split at h
      · cases h
      · rename_i h1
        rw [if_neg h1]
        split at h
        · cases h
        · rename_i h2
          rw [if_neg h2]
          have := parse_snoc l c _ u h
          simpa only [parseUint10] using this
    · cases h

theorem parse_dec (u : Nat) (h : u < 18446744073709551616) : parseUint10 0 (decDigits u) = .ok u := by
  induction u using Nat.strongRecOn with
  | _ u ih =>
    by_cases h1 : u < 10
    · rw [decDigits, dif_pos h1]
      have e := ofNat_toNat (48 + u) (by omega)
      simp only [parseUint10, e]
      rw [if_pos (by omega), if_neg (by omega), if_neg (by omega)]
      congr 1
      omega
    · rw [decDigits, dif_neg h1]
      rw [parse_snoc _ _ 0 (u / 10) (ih (u / 10) (by omega) (by omega))]
      have e := ofNat_toNat (48 + u % 10) (by omega)
      simp only [parseUint10, e]
      rw [if_pos (by omega), if_neg (by omega), if_neg (by omega)]
      congr 1
      omega

/-- The digits of a numeral are digits. -/
theorem dec_digit (u : Nat) : ∀ c ∈ decDigits u, 48 ≤ c.toNat ∧ c.toNat ≤ 57 := by
  induction u using Nat.strongRecOn with
  | _ u ih =>
    intro c hc
    by_cases h1 : u < 10
    · rw [decDigits, dif_pos h1] at hc
      have : c = UInt8.ofNat (48 + u) := by simpa using hc
      subst this
      rw [ofNat_toNat _ (by omega)]
      omega
    · rw [decDigits, dif_neg h1] at hc
      rcases List.mem_append.1 hc with hc | hc
      · exact ih (u / 10) (by omega) c hc
      · have : c = UInt8.ofNat (48 + u % 10) := by simpa using hc
        subst this
        rw [ofNat_toNat _ (by omega)]
        omega

theorem dec_ne (u : Nat) : decDigits u ≠ [] := by
  intro h
  have := decDigits_length u
  rw [h] at this
  have := nDigits_pos u
  simp at *
  omega

/-- A numeral's bytes are digits and '-'. -/
theorem itoa_byte (n : Int) : ∀ c ∈ itoa n, c.toNat = 45 ∨ (48 ≤ c.toNat ∧ c.toNat ≤ 57) := by
  intro c hc
  unfold itoa at hc
  split at hc
  · rcases List.mem_cons.1 hc with h | h
    · left; rw [h]; rfl
    · right; exact dec_digit _ c h
  · right; exact dec_digit _ c hc

theorem itoa_ne (n : Int) : itoa n ≠ [] := by
  unfold itoa
  split
  · simp
  · exact dec_ne _

theorem itoa_not_mem (n : Int) (c : UInt8) (h : c.toNat ≠ 45) (h2 : c.toNat < 48 ∨ 57 < c.toNat) : c ∉ itoa n := by
  intro hc
  have := itoa_byte n c hc
  omega

/-- THERE AND BACK. -/
theorem atoi_itoa (n : Int) (h0 : -9223372036854775808 ≤ n) (h1 : n ≤ 9223372036854775807) : atoiAll (itoa n) = .ok n := by
  unfold itoa
  by_cases hn : n < 0
  · rw [if_pos hn, atoiAll_minus]
    have e : parseMag (decDigits n.natAbs) = .ok n.natAbs := by
      unfold parseMag
      rw [if_neg (dec_ne _)]
      exact parse_dec _ (by omega)
    rw [e]
    simp only [signed]
    rw [if_neg (by omega)]
    congr 1
    omega
  · rw [if_neg hn]
    have e : parseMag (decDigits n.toNat) = .ok n.toNat := by
      unfold parseMag
      rw [if_neg (dec_ne _)]
      exact parse_dec _ (by omega)
    cases hd : decDigits n.toNat with
    | nil => exact absurd hd (dec_ne _)
    | cons c r =>
      have hc := dec_digit n.toNat c (by rw [hd]; exact List.mem_cons_self)
      rw [atoiAll_plain c r (by omega) (by omega), ← hd, e]
      simp only [signless]
      rw [if_neg (by omega)]
      congr 1
      omega

/-- What the program's 'decimal' answers: the number, if the digits are as it would be written. -/
def dec (l : List UInt8) : Option Int :=
  match atoiAll l with
  | .ok n => if itoa n = l then some n else none
  | _ => none

theorem dec_itoa (n : Int) (h0 : -9223372036854775808 ≤ n) (h1 : n ≤ 9223372036854775807) : dec (itoa n) = some n := by
  unfold dec
  rw [atoi_itoa n h0 h1]
  simp

theorem dec_some {l : List UInt8} {n : Int} (h : dec l = some n) : l = itoa n ∧ -9223372036854775808 ≤ n ∧ n ≤ 9223372036854775807 := by
  unfold dec at h
  split at h
  · rename_i m hm
    split at h
    · rename_i e
      injection h with h
      subst h
      exact ⟨e.symm, atoiAll_bounds hm⟩
    · cases h
  · cases h

/-! ### A text cut at a byte -/
theorem occ_one (s : List UInt8) (c : UInt8) (i : Nat) : occAt s [c] i = true ↔ s[i]? = some c := by
  unfold occAt
  rw [List.isPrefixOf_iff_prefix]
  constructor
  · rintro ⟨r, hr⟩
    have : (s.drop i)[0]? = some c := by rw [← hr]; rfl
    simpa using this
  · intro h
    have hi : i < s.length := by
      rcases Nat.lt_or_ge i s.length with h' | h'
      · exact h'
      · rw [List.getElem?_eq_none h'] at h; cases h
    rw [List.getElem?_eq_getElem hi] at h
    injection h with h
    refine ⟨s.drop (i + 1), ?_⟩
    rw [List.drop_eq_getElem_cons hi, h]
    rfl

theorem cut_hit (a b : List UInt8) (c : UInt8) (h : c ∉ a) : cut (a ++ c :: b) [c] = (a, b, true) := by
  have e : index (a ++ c :: b) [c] = (a.length : Nat) := by
    refine index_first (by simp) ((occ_one _ _ _).2 (by simp)) fun j hj => ?_
    cases ho : occAt (a ++ c :: b) [c] j with
    | false => rfl
    | true =>
      have := (occ_one _ _ _).1 ho
      rw [List.getElem?_append_left hj] at this
      exact absurd (List.mem_of_getElem? this) h
  unfold cut
  rw [e, if_pos (by omega)]
  simp

theorem cut_miss (s : List UInt8) (c : UInt8) (h : c ∉ s) : cut s [c] = (s, [], false) := by
  have e : index s [c] = -1 := by
    refine index_none fun j _ => ?_
    cases ho : occAt s [c] j with
    | false => rfl
    | true => exact absurd (List.mem_of_getElem? ((occ_one _ _ _).1 ho)) h
  unfold cut
  rw [e, if_neg (by omega)]

theorem split_at (c : UInt8) : ∀ (s : List UInt8), c ∈ s → ∃ a b, s = a ++ c :: b ∧ c ∉ a
  | [], h => by cases h
  | x :: s, h => by
    by_cases hx : x = c
    · exact ⟨[], s, by rw [hx]; rfl, by simp⟩
    · have hs : c ∈ s := by
        rcases List.mem_cons.1 h with h | h
        · exact absurd h.symm hx
        · exact h
      obtain ⟨a, b, e, ha⟩ := split_at c s hs
      refine ⟨x :: a, b, by rw [e]; rfl, ?_⟩
      intro hm
      rcases List.mem_cons.1 hm with h | h
      · exact hx h.symm
      · exact ha h

theorem cut_true {s : List UInt8} {c : UInt8} (h : (cut s [c]).2.2 = true) : s = (cut s [c]).1 ++ c :: (cut s [c]).2.1 ∧ c ∉ (cut s [c]).1 := by
  by_cases hc : c ∈ s
  · obtain ⟨a, b, e, ha⟩ := split_at c s hc
    rw [e, cut_hit a b c ha]
    exact ⟨rfl, ha⟩
  · rw [cut_miss s c hc] at h
    cases h

/-! ### What a reader takes -/
/-- A number's bytes at the beginning: the number, and what stands behind. -/
def rInt (s : List UInt8) : Option (Int × List UInt8) :=
  if hasPrefix s [105] = true ∧ (cut (trimPrefix s [105]) [101]).2.2 = true then
    match dec (cut (trimPrefix s [105]) [101]).1 with
    | some n => some (n, (cut (trimPrefix s [105]) [101]).2.1)
    | none => none
  else none

/-- A text's. -/
def rText (most : Int) (s : List UInt8) : Option (List UInt8 × List UInt8) :=
  if (cut s [58]).2.2 = true then
    match dec (cut s [58]).1 with
    | some n => if 0 ≤ n ∧ n ≤ most ∧ n ≤ (cut s [58]).2.1.length then some ((cut s [58]).2.1.take n.toNat, (cut s [58]).2.1.drop n.toNat) else none
    | none => none
  else none

theorem rInt_parts {s r : List UInt8} {n : Int} (h : rInt s = some (n, r)) : ∃ body ds, trimPrefix s [105] = body ∧ hasPrefix s [105] = true ∧ cut body [101] = (ds, r, true) ∧ dec ds = some n := by
  unfold rInt at h
  split at h
  · rename_i hh
    split at h
    · rename_i m hm
      injection h with h
      injection h with h h'
      subst h
      exact ⟨_, _, rfl, hh.1, by rw [← h', ← hh.2], hm⟩
    · cases h
  · cases h
theorem rInt_none {s : List UInt8} (h : rInt s = none) : ∃ body ds bh p f, trimPrefix s [105] = body ∧ hasPrefix s [105] = p ∧ cut body [101] = (ds, bh, f) ∧ (p && f && (dec ds).isSome) = false := by
  refine ⟨_, (cut (trimPrefix s [105]) [101]).1, (cut (trimPrefix s [105]) [101]).2.1, _, (cut (trimPrefix s [105]) [101]).2.2, rfl, rfl, rfl, ?_⟩
  unfold rInt at h
  split at h
  · rename_i hh
    split at h
    · cases h
    · rename_i hm
      rw [hm]
      simp
  · rename_i hh
    cases h1 : hasPrefix s [105] <;> cases h2 : (cut (trimPrefix s [105]) [101]).2.2 <;> simp_all
theorem rText_parts {s t r : List UInt8} {most : Int} (h : rText most s = some (t, r)) : ∃ ds bh n, cut s [58] = (ds, bh, true) ∧ dec ds = some n ∧ 0 ≤ n ∧ n ≤ most ∧ n ≤ bh.length ∧ t = bh.take n.toNat ∧ r = bh.drop n.toNat := by
  unfold rText at h
  split at h
  · rename_i hh
    split at h
    · rename_i m hm
      split at h
      · rename_i hb
        injection h with h
        injection h with h h'
        exact ⟨_, _, m, by rw [← hh], hm, hb.1, hb.2.1, hb.2.2, h.symm, h'.symm⟩
      · cases h
    · cases h
  · cases h
theorem rText_none {s : List UInt8} {most : Int} (h : rText most s = none) : ∃ ds bh f, cut s [58] = (ds, bh, f) ∧
    (f = false ∨ (f = true ∧ dec ds = none) ∨ ∃ n, f = true ∧ dec ds = some n ∧ (n < 0 ∨ (0 ≤ n ∧ most < n) ∨ (0 ≤ n ∧ n ≤ most ∧ (bh.length : Int) < n))) := by
  refine ⟨(cut s [58]).1, (cut s [58]).2.1, (cut s [58]).2.2, rfl, ?_⟩
  unfold rText at h
  split at h
  · rename_i hh
    split at h
    · rename_i m hm
      split at h
      · cases h
      · rename_i hb
        right; right
        exact ⟨m, hh, hm, by omega⟩
    · rename_i hm
      right; left
      exact ⟨hh, hm⟩
  · rename_i hh
    left
    simpa using hh

/-- A letter. -/
def rByte (c : UInt8) (s : List UInt8) : Option (List UInt8) :=
  match s with
  | x :: r => if x = c then some r else none
  | [] => none

def wInt (n : Int) : List UInt8 := 105 :: (itoa n ++ [101])
def wText (t : List UInt8) : List UInt8 := itoa t.length ++ 58 :: t

def I64 (n : Int) : Prop := -9223372036854775808 ≤ n ∧ n ≤ 9223372036854775807

theorem rInt_w (n : Int) (h : I64 n) (r : List UInt8) : rInt (wInt n ++ r) = some (n, r) := by
  have e1 : wInt n ++ r = 105 :: (itoa n ++ 101 :: r) := by simp [wInt]
  have e2 : trimPrefix (wInt n ++ r) [105] = itoa n ++ 101 :: r := by rw [e1]; simp [trimPrefix, hasPrefix]
  have e3 := cut_hit (itoa n) r 101 (itoa_not_mem n 101 (by decide) (by decide))
  unfold rInt
  rw [e2, e3, e1]
  simp [hasPrefix, dec_itoa n h.1 h.2]

theorem rInt_some {s r : List UInt8} {n : Int} (h : rInt s = some (n, r)) : s = wInt n ++ r ∧ I64 n := by
  unfold rInt at h
  split at h
  · rename_i hh
    obtain ⟨hp, hc⟩ := hh
    obtain ⟨e, -⟩ := cut_true hc
    split at h
    · rename_i m hm
      obtain ⟨e2, hb⟩ := dec_some hm
      injection h with h
      injection h with h h'
      subst h
      refine ⟨?_, hb⟩
      rw [e2, h'] at e
      cases s with
      | nil => simp [hasPrefix] at hp
      | cons x s =>
        have hx : (105 : UInt8) = x := by simpa [hasPrefix] using hp
        subst hx
        have : trimPrefix (105 :: s) [105] = s := by simp [trimPrefix, hasPrefix]
        rw [this] at e
        rw [e]
        simp [wInt]
    · cases h
  · cases h

theorem rText_w (t : List UInt8) (most : Int) (ht : (t.length : Int) ≤ most) (hb : (t.length : Int) ≤ 9223372036854775807) (r : List UInt8) : rText most (wText t ++ r) = some (t, r) := by
  have e1 : wText t ++ r = itoa t.length ++ 58 :: (t ++ r) := by simp [wText]
  have e3 := cut_hit (itoa t.length) (t ++ r) 58 (itoa_not_mem _ 58 (by decide) (by decide))
  unfold rText
  rw [e1, e3]
  simp only [if_true, dec_itoa (t.length : Int) (by omega) hb]
  rw [if_pos ⟨by omega, ht, by simp only [List.length_append]; omega⟩]
  simp

theorem rText_long (t : List UInt8) (most : Int) (ht : most < (t.length : Int)) (hb : (t.length : Int) ≤ 9223372036854775807) (r : List UInt8) : rText most (wText t ++ r) = none := by
  have e1 : wText t ++ r = itoa t.length ++ 58 :: (t ++ r) := by simp [wText]
  have e3 := cut_hit (itoa t.length) (t ++ r) 58 (itoa_not_mem _ 58 (by decide) (by decide))
  unfold rText
  rw [e1, e3]
  simp only [if_true, dec_itoa (t.length : Int) (by omega) hb]
  rw [if_neg (by omega)]

theorem rText_some {s t r : List UInt8} {most : Int} (h : rText most s = some (t, r)) : s = wText t ++ r ∧ (t.length : Int) ≤ most ∧ (t.length : Int) ≤ 9223372036854775807 := by
  unfold rText at h
  split at h
  · rename_i hc
    obtain ⟨e, -⟩ := cut_true hc
    split at h
    · rename_i m hm
      obtain ⟨e2, hb⟩ := dec_some hm
      split at h
      · rename_i hh
        injection h with h
        injection h with h h'
        have hl : (t.length : Int) = m := by rw [← h, List.length_take]; omega
        refine ⟨?_, by omega, by omega⟩
        rw [e2] at e
        rw [e, wText, hl]
        simp only [List.append_assoc, List.cons_append]
        congr 2
        rw [← h, ← h', List.take_append_drop]
      · cases h
    · cases h
  · cases h

theorem rByte_some {c : UInt8} {s r : List UInt8} (h : rByte c s = some r) : s = c :: r := by
  cases s with
  | nil => cases h
  | cons x s =>
    simp only [rByte] at h
    split at h
    · rename_i e; injection h with h; rw [e, h]
    · cases h

/-- What is read of a beginning is read of the whole. -/
theorem rInt_more {s r : List UInt8} {n : Int} (h : rInt s = some (n, r)) (q : List UInt8) : rInt (s ++ q) = some (n, r ++ q) := by
  obtain ⟨e, hb⟩ := rInt_some h
  rw [e, List.append_assoc]
  exact rInt_w n hb _
theorem rText_more {s t r : List UInt8} {most : Int} (h : rText most s = some (t, r)) (q : List UInt8) : rText most (s ++ q) = some (t, r ++ q) := by
  obtain ⟨e, hb, hc⟩ := rText_some h
  rw [e, List.append_assoc]
  exact rText_w t most hb hc _

/-- A number's bytes are no text's, nor the other way round. -/
theorem wText_head (t : List UInt8) : ∃ c r, wText t = c :: r ∧ (c.toNat = 45 ∨ (48 ≤ c.toNat ∧ c.toNat ≤ 57)) := by
  unfold wText
  cases h : itoa t.length with
  | nil => exact absurd h (itoa_ne _)
  | cons c r => exact ⟨c, r ++ 58 :: t, rfl, itoa_byte _ c (by rw [h]; exact List.mem_cons_self)⟩
theorem wText_not_wInt {t q r : List UInt8} {n : Int} (h : wText t ++ q = wInt n ++ r) : False := by
  obtain ⟨c, k, e, hc⟩ := wText_head t
  rw [e, wInt] at h
  simp only [List.cons_append] at h
  injection h with h
  subst h
  simp at hc
theorem wText_ne (t : List UInt8) : wText t ≠ [] := by
  obtain ⟨c, k, e, -⟩ := wText_head t
  rw [e]; simp
theorem wInt_ne (n : Int) : wInt n ≠ [] := by simp [wInt]

theorem rInt_nil : rInt [] = none := by
  cases h : rInt [] with
  | none => rfl
  | some p => obtain ⟨n, r⟩ := p; have := (rInt_some h).1; simp [wInt] at this
theorem rText_nil (most : Int) : rText most [] = none := by
  cases h : rText most [] with
  | none => rfl
  | some p =>
    obtain ⟨t, r⟩ := p
    have := (rText_some h).1
    have h2 := wText_ne t
    simp at this
    exact absurd this.1 h2
end Pl
end Go.Proofs.YtdaoeplblkfapaaGreatDoor

/- PLAIN MATHEMATICS OF BATCHES: which can be, their bytes. Nothing here knows the program. -/
namespace Go.Proofs.YtdaoeplblkfapaaGreatDoor.Pl
open Go.Lib

structure Rc where
  off : Int
  key : List UInt8
  val : List UInt8
  gone : Bool
structure Bt where
  base : Int
  count : Int
  prod : Int
  seq : Int
  time : Int
  recs : List Rc

def numB (n : Int) : Bool := decide (0 ≤ n ∧ n ≤ 1099511627776)
def recB (x : Rc) : Bool := decide (x.key.length ≤ 16 ∧ x.val.length ≤ 64) && (!x.gone || x.val.isEmpty)
def riseB : List Rc → Int → Int → Bool
  | [], _, _ => true
  | x :: l, last, hi => recB x && decide (last < x.off ∧ x.off < hi) && riseB l x.off hi
def goodB (b : Bt) : Bool :=
  numB b.base && decide (1 ≤ b.count ∧ b.count ≤ 8 ∧ b.base ≤ 1099511627776 - b.count) && numB b.prod && numB b.seq && numB b.time && decide ((b.recs.length : Int) ≤ b.count) && riseB b.recs (b.base - 1) (b.base + b.count)
def fitsB (l : List Rc) : Bool := decide (1 ≤ l.length ∧ l.length ≤ 8) && l.all recB

theorem numB_iff {n : Int} : numB n = true ↔ 0 ≤ n ∧ n ≤ 1099511627776 := by unfold numB; exact decide_eq_true_iff
theorem recB_iff {x : Rc} : recB x = true ↔ x.key.length ≤ 16 ∧ x.val.length ≤ 64 ∧ (x.gone = true → x.val = []) := by
  unfold recB
  rw [Bool.and_eq_true, decide_eq_true_iff, and_assoc]
  cases x.gone <;> simp
theorem riseB_cons {x : Rc} {l : List Rc} {last hi : Int} : riseB (x :: l) last hi = true ↔ recB x = true ∧ last < x.off ∧ x.off < hi ∧ riseB l x.off hi = true := by
  simp only [riseB, Bool.and_eq_true, decide_eq_true_iff]
  constructor
  · rintro ⟨⟨h1, h2, h3⟩, h4⟩; exact ⟨h1, h2, h3, h4⟩
  · rintro ⟨h1, h2, h3, h4⟩; exact ⟨⟨h1, h2, h3⟩, h4⟩
theorem goodB_iff {b : Bt} : goodB b = true ↔ (0 ≤ b.base ∧ b.base ≤ 1099511627776) ∧ (1 ≤ b.count ∧ b.count ≤ 8 ∧ b.base ≤ 1099511627776 - b.count) ∧ (0 ≤ b.prod ∧ b.prod ≤ 1099511627776) ∧ (0 ≤ b.seq ∧ b.seq ≤ 1099511627776) ∧ (0 ≤ b.time ∧ b.time ≤ 1099511627776) ∧ (b.recs.length : Int) ≤ b.count ∧ riseB b.recs (b.base - 1) (b.base + b.count) = true := by
  simp only [goodB, Bool.and_eq_true, decide_eq_true_iff, numB_iff]
  constructor
  · rintro ⟨⟨⟨⟨⟨⟨h1, h2⟩, h3⟩, h4⟩, h5⟩, h6⟩, h7⟩; exact ⟨h1, h2, h3, h4, h5, h6, h7⟩
  · rintro ⟨h1, h2, h3, h4, h5, h6, h7⟩; exact ⟨⟨⟨⟨⟨⟨h1, h2⟩, h3⟩, h4⟩, h5⟩, h6⟩, h7⟩
theorem rise_mem {l : List Rc} {last hi : Int} (h : riseB l last hi = true) : ∀ x ∈ l, recB x = true ∧ last < x.off ∧ x.off < hi := by
  induction l generalizing last with
  | nil => intro x hx; cases hx
  | cons y l ih =>
    obtain ⟨h1, h2, h3, h4⟩ := riseB_cons.1 h
    intro x hx
    rcases List.mem_cons.1 hx with rfl | hx
    · exact ⟨h1, h2, h3⟩
    · obtain ⟨a, b, c⟩ := ih h4 x hx
      exact ⟨a, by omega, c⟩
theorem rise_less {l : List Rc} {a b hi : Int} (h : riseB l b hi = true) (hab : a ≤ b) : riseB l a hi = true := by
  cases l with
  | nil => rfl
  | cons x l =>
    obtain ⟨h1, h2, h3, h4⟩ := riseB_cons.1 h
    exact riseB_cons.2 ⟨h1, by omega, h3, h4⟩
/-- Records taken out: what is left rises too. -/
theorem rise_sub {l m : List Rc} (hs : m.Sublist l) : ∀ {last hi : Int}, riseB l last hi = true → riseB m last hi = true := by
  induction hs with
  | slnil => intro _ _ h; exact h
  | cons x _ ih =>
    intro last hi h
    obtain ⟨_, h2, _, h4⟩ := riseB_cons.1 h
    exact rise_less (ih h4) (by omega)
  | cons_cons x _ ih =>
    intro last hi h
    obtain ⟨h1, h2, h3, h4⟩ := riseB_cons.1 h
    exact riseB_cons.2 ⟨h1, h2, h3, ih h4⟩
theorem good_sub {b : Bt} {m : List Rc} (hs : m.Sublist b.recs) (h : goodB b = true) : goodB { b with recs := m } = true := by
  obtain ⟨h1, h2, h3, h4, h5, h6, h7⟩ := goodB_iff.1 h
  have := hs.length_le
  exact goodB_iff.2 ⟨h1, h2, h3, h4, h5, by show (m.length : Int) ≤ b.count; omega, rise_sub hs h7⟩

def goneN (g : Bool) : Int := if g then 1 else 0
def encR (x : Rc) : List UInt8 := 108 :: (wInt x.off ++ wText x.key ++ wText x.val ++ wInt (goneN x.gone) ++ [101])
def encRs (l : List Rc) : List UInt8 := (l.map encR).flatten
def enc (b : Bt) : List UInt8 := 108 :: (wInt b.base ++ wInt b.count ++ wInt b.prod ++ wInt b.seq ++ wInt b.time ++ encRs b.recs ++ [101])
theorem encRs_cons (x : Rc) (l : List Rc) : encRs (x :: l) = encR x ++ encRs l := rfl
theorem encRs_append (l m : List Rc) : encRs (l ++ m) = encRs l ++ encRs m := by simp [encRs]

theorem dec_short (k u : Nat) (h : u < 10 ^ (k + 1)) : (decDigits u).length ≤ k + 1 := by
  rw [decDigits_length]
  induction k generalizing u with
  | zero => rw [nDigits_small (by simpa using h)]; exact Nat.le_refl _
  | succ k ih =>
    by_cases h10 : u < 10
    · rw [nDigits_small h10]; omega
    · rw [nDigits_big h10]
      have := ih (u / 10) (by rw [Nat.pow_succ] at h; omega)
      omega
theorem itoa_short {n : Int} (h0 : 0 ≤ n) (k : Nat) (h : n < 10 ^ (k + 1)) : (itoa n).length ≤ k + 1 := by
  obtain ⟨u, rfl⟩ : ∃ u : Nat, n = u := ⟨n.toNat, by omega⟩
  unfold itoa
  rw [if_neg (by omega)]
  exact dec_short k u (by exact_mod_cast h)
theorem wInt_short {n : Int} (h0 : 0 ≤ n) (k : Nat) (h : n < 10 ^ (k + 1)) : (wInt n).length ≤ k + 3 ∧ 3 ≤ (wInt n).length := by
  have h1 := itoa_short h0 k h
  have h2 : 0 < (itoa n).length := List.length_pos_iff.2 (itoa_ne n)
  simp only [wInt, List.length_cons, List.length_append, List.length_nil]
  omega
theorem wText_short {t : List UInt8} (k : Nat) (h : t.length < 10 ^ (k + 1)) : (wText t).length ≤ k + 2 + t.length := by
  have h1 := itoa_short (n := (t.length : Int)) (by omega) k (by exact_mod_cast h)
  simp only [wText, List.length_append, List.length_cons]
  omega
theorem encR_short {x : Rc} (h : recB x = true) (h0 : 0 ≤ x.off) (h1 : x.off ≤ 1099511627776) : (encR x).length ≤ 130 := by
  obtain ⟨hk, hv, -⟩ := recB_iff.1 h
  have a := (wInt_short h0 12 (by omega)).1
  have b := wText_short (t := x.key) 1 (by omega)
  have c := wText_short (t := x.val) 1 (by omega)
  have d : (wInt (goneN x.gone)).length ≤ 3 := (wInt_short (by unfold goneN; split <;> omega) 0 (by unfold goneN; split <;> omega)).1
  simp only [encR, List.length_cons, List.length_append, List.length_nil]
  omega
theorem encRs_short {l : List Rc} (h : ∀ x ∈ l, recB x = true ∧ 0 ≤ x.off ∧ x.off ≤ 1099511627776) : (encRs l).length ≤ 130 * l.length := by
  induction l with
  | nil => simp [encRs]
  | cons x l ih =>
    obtain ⟨h1, h2, h3⟩ := h x List.mem_cons_self
    have := encR_short h1 h2 h3
    have := ih fun y hy => h y (List.mem_cons_of_mem _ hy)
    rw [encRs_cons, List.length_append, List.length_cons]
    omega
theorem good_recs {b : Bt} (h : goodB b = true) : ∀ x ∈ b.recs, recB x = true ∧ 0 ≤ x.off ∧ x.off ≤ 1099511627776 := by
  obtain ⟨h1, h2, -, -, -, -, h7⟩ := goodB_iff.1 h
  intro x hx
  obtain ⟨a, b', c⟩ := rise_mem h7 x hx
  exact ⟨a, by omega, by omega⟩
/-- How long a batch's bytes are. -/
theorem enc_short {b : Bt} (h : goodB b = true) : (enc b).length ≤ 82 + 130 * b.recs.length ∧ 17 ≤ (enc b).length ∧ b.recs.length ≤ 8 := by
  have hr := encRs_short (good_recs h)
  obtain ⟨h1, h2, h3, h4, h5, h6, -⟩ := goodB_iff.1 h
  have a := wInt_short h1.1 12 (by omega)
  have b' := wInt_short (n := b.count) (by omega) 12 (by omega)
  have c := wInt_short h3.1 12 (by omega)
  have d := wInt_short h4.1 12 (by omega)
  have e := wInt_short h5.1 12 (by omega)
  simp only [enc, List.length_cons, List.length_append, List.length_nil]
  omega
end Go.Proofs.YtdaoeplblkfapaaGreatDoor.Pl

/- THE CONTRACTS OF strings.Cut at one byte and of bead.decimal, at every string. -/
namespace Go.Proofs.YtdaoeplblkfapaaGreatDoor
open Go.RowKit

set_option maxHeartbeats 1000000 in
theorem cutlite1 (s : ByteArray) (c : UInt8) (w : World) (hs : s.size ≤ 9223372036854775806) :
    Calls Tryz.prog 240 #[.string s, .string ⟨#[c]⟩] w fun e w' => e = .returned (.tuple #[.string ⟨(Lib.cut s.data.toList [c]).1.toArray⟩, .string ⟨(Lib.cut s.data.toList [c]).2.1.toArray⟩, .bool (Lib.cut s.data.toList [c]).2.2]) ∧ Below w.heap.size w w' := by
  have hone := Lib.index_one s.data.toList c
  rcases Lib.indexB_cases s ⟨#[c]⟩ with hix | ⟨i, hix, hroom⟩
  · obtain ⟨e1, e2, e3⟩ := Lib.cutB_miss s ⟨#[c]⟩ hix
    have hix' : Lib.indexByte s.data.toList c = -1 := by rw [← hone]; exact hix
    rw [show (⟨(Lib.cut s.data.toList [c]).1.toArray⟩ : ByteArray) = s from e1, show (⟨(Lib.cut s.data.toList [c]).2.1.toArray⟩ : ByteArray) = ByteArray.empty from e2, show (Lib.cut s.data.toList [c]).2.2 = false from e3]
    have H := Lib.hid hix'
    clear hone hix hix' e1 e2 e3
    go_enter Tryz.func240, Tryz.ntmps240
    go_wp2_with (go_at_call 241; refine (Tryz.stringslite_Index_one _ _ _).mono ?_; rintro e w' ⟨rfl, rfl⟩; rw [H.out])
    go_ret3
    exact ⟨rfl, Below.refl _ _⟩
  · obtain ⟨e1, e2, e3⟩ := Lib.cutB_hit s ⟨#[c]⟩ i hix
    have hix' : Lib.indexByte s.data.toList c = i := by rw [← hone]; exact hix
    rw [show (⟨(Lib.cut s.data.toList [c]).1.toArray⟩ : ByteArray) = s.extract 0 i from e1, show (⟨(Lib.cut s.data.toList [c]).2.1.toArray⟩ : ByteArray) = s.extract (i + 1) s.size from e2, show (Lib.cut s.data.toList [c]).2.2 = true from e3]
    have hsz : (⟨#[c]⟩ : ByteArray).size = 1 := rfl
    have H := Lib.hid hix'
    rw [hsz] at hroom
    clear hone hix hix' e1 e2 e3 hsz
    have c1 : (0 : Int) ≤ ↑i := by omega
    have c2 : (↑i : Int) ≤ ↑s.size := by omega
    have c3 : (0 : Int) ≤ ↑i + 1 := by omega
    have c4 : (↑i + 1 : Int) ≤ ↑s.size := by omega
    go_enter Tryz.func240, Tryz.ntmps240
    go_wp2_with (go_at_call 241; refine (Tryz.stringslite_Index_one _ _ _).mono ?_; rintro e w' ⟨rfl, rfl⟩; rw [H.out])
    go_region
    go_wp2
    go_ret3
    exact ⟨rfl, (Below.refl _ _).drew⟩

set_option maxHeartbeats 1000000 in
theorem cut1 (s : ByteArray) (c : UInt8) (w : World) (hs : s.size ≤ 9223372036854775806) :
    Calls Tryz.prog 236 #[.string s, .string ⟨#[c]⟩] w fun e w' => e = .returned (.tuple #[.string ⟨(Lib.cut s.data.toList [c]).1.toArray⟩, .string ⟨(Lib.cut s.data.toList [c]).2.1.toArray⟩, .bool (Lib.cut s.data.toList [c]).2.2]) ∧ Below w.heap.size w w' := by
  go_enter Tryz.func236, Tryz.ntmps236
  go_wp2_with fail
  refine (cutlite1 s c _ hs).mono ?_
  rintro e w' ⟨rfl, hb⟩
  go_wp2
  go_ret3
  exact ⟨rfl, hb⟩

/-- strconv.Itoa. -/
theorem itoa_any (n : Int) (hn : Pl.I64 n) (w : World) (hl : Lb w) :
    Calls Tryz.prog 126 #[.int .i64 n] w fun e w' => e = .returned (.string ⟨(Lib.itoa n).toArray⟩) ∧ Below w.heap.size w w' :=
  (Tryz.strconv_Itoa n hn.1 hn.2 w hl.pow).mono fun _ _ ⟨he, k, os, hw⟩ => ⟨he, hw ▸ below_grow k os⟩

/-- bead.decimal where the digits are a number's. -/
theorem ofList_eq (s : ByteArray) (l : List UInt8) (h : l = s.data.toList) : s = ⟨l.toArray⟩ := by
  obtain ⟨⟨k⟩⟩ := s
  simp at h
  rw [h]

set_option maxHeartbeats 400000 in
theorem decimal_ok (s : ByteArray) (n : Int) (hd : Pl.dec s.data.toList = some n) (w : World) (hl : Lb w) (hs : s.size ≤ 9223372036854775806) :
    Calls Tryz.prog 237 #[.string s] w fun e w' => e = .returned (.tuple #[.int .i64 n, .bool true]) ∧ Below w.heap.size w w' := by
  obtain ⟨e1, hb⟩ := Pl.dec_some hd
  have ha : Lib.atoiAll s.data.toList = .ok n := by rw [e1]; exact Pl.atoi_itoa n hb.1 hb.2
  obtain rfl := ofList_eq s _ e1.symm
  have H := Lib.hid ha
  clear hd e1 ha
  go_enter Tryz.func237, Tryz.ntmps237
  go_wp2_with fail
  refine (Tryz.strconv_Atoi_ok _ hs n H.out _).mono ?_
  rintro e w1 ⟨rfl, hw⟩
  have hb1 : Below w.heap.size w w1 := by
    rcases hw with rfl | ⟨t, rfl⟩
    · exact Below.refl _ _
    · exact Lib.bytesWorld_below _ _ _
  clear hw H
  go_wp2_with fail
  refine (itoa_any n hb _ (hl.below hl.size hb1)).mono ?_
  rintro e w2 ⟨rfl, hb2⟩
  go_wp2
  go_ret2
  exact ⟨by simp, hb1.trans (hb2.mono hb1.size)⟩

/-- .. where they are none's: some number, and false. -/
def NoNum (w : World) (e : Ending) (w' : World) : Prop := ∃ m : Int, e = .returned (.tuple #[.int .i64 m, .bool false]) ∧ Below w.heap.size w w'

/-- strconv.Atoi where it has no number: some number, and an error that is not nil. -/
def BadNum (w : World) (e : Ending) (w' : World) : Prop := ∃ (x : Int) (T N : Nat), e = .returned (.tuple #[.int .i64 x, .iface T (.pointer (some ⟨N, 0, none⟩))]) ∧ Below w.heap.size w w'
theorem atoi_bad (s : ByteArray) (h : ∀ n, Lib.atoiAll s.data.toList ≠ .ok n) (w : World) (hl : Lb w) (hs : s.size ≤ 281474976710656) :
    Calls Tryz.prog 143 #[.string s] w (BadNum w) := by
  rcases ha : Lib.atoiAll s.data.toList with n | _ | _
  · exact absurd ha (h n)
  · obtain ⟨tp, p, hv⟩ := hl.syn
    exact (Any.strconv_Atoi_syntax_var Tryz.laysC172 s hs ha tp p w hv).mono fun _ _ ⟨N, he, _, _, hb⟩ => ⟨_, _, N, he, hb⟩
  · obtain ⟨tp, p, hv⟩ := hl.rng
    exact (Any.strconv_Atoi_range_var Tryz.laysC172 s hs ha tp p w hv).mono fun _ _ ⟨N, he, _, _, hb⟩ => ⟨_, _, N, he, hb⟩

set_option maxHeartbeats 400000 in
theorem decimal_no (s : ByteArray) (hd : Pl.dec s.data.toList = none) (w : World) (hl : Lb w) (hs : s.size ≤ 281474976710656) :
    Calls Tryz.prog 237 #[.string s] w (NoNum w) := by
  by_cases hok : ∃ n, Lib.atoiAll s.data.toList = .ok n
  · obtain ⟨n, ha⟩ := hok
    have hne : Lib.itoa n ≠ s.data.toList := by
      intro e
      unfold Pl.dec at hd
      rw [ha] at hd
      simp [e] at hd
    have hb := Lib.atoiAll_bounds ha
    have H := Lib.hid ha
    have HN := Lib.hid hne
    clear hd ha hne
    go_enter Tryz.func237, Tryz.ntmps237
    go_wp2_with fail
    refine (Tryz.strconv_Atoi_ok _ (by omega) n H.out _).mono ?_
    rintro e w1 ⟨rfl, hw⟩
    have hb1 : Below w.heap.size w w1 := by
      rcases hw with rfl | ⟨t, rfl⟩
      · exact Below.refl _ _
      · exact Lib.bytesWorld_below _ _ _
    clear hw H
    go_wp2_with fail
    refine (itoa_any n hb _ (hl.below hl.size hb1)).mono ?_
    rintro e w2 ⟨rfl, hb2⟩
    go_wp2
    go_ret2
    have h := HN.out
    rw [← Lib.toList_data] at h
    exact ⟨n, by simp [h], hb1.trans (hb2.mono hb1.size)⟩
  · have H := Lib.hid (atoi_bad s (fun n h => hok ⟨n, h⟩) w hl hs)
    clear hd hok
    go_enter Tryz.func237, Tryz.ntmps237
    go_wp2_with fail
    refine H.out.mono ?_
    rintro e w1 ⟨x, T, N, rfl, hb1⟩
    clear H
    go_wp2
    go_ret2
    exact ⟨_, rfl, hb1⟩

theorem app_mk (a b : List UInt8) : (⟨a.toArray⟩ : ByteArray) ++ ⟨b.toArray⟩ = ⟨(a ++ b).toArray⟩ := by
  apply ByteArray.ext
  simp
theorem ext_take (l : List UInt8) (k : Nat) : (⟨l.toArray⟩ : ByteArray).extract 0 k = ⟨(l.take k).toArray⟩ := by
  apply ofList_eq
  rw [Lib.extract_data]
  rfl
theorem ext_drop (l : List UInt8) (k : Nat) : (⟨l.toArray⟩ : ByteArray).extract k l.length = ⟨(l.drop k).toArray⟩ := by
  apply ofList_eq
  rw [Lib.extract_data]
  exact (List.take_of_length_le (by simp)).symm
/-- strings.CutPrefix, strings.Cut, bead.decimal once more, with names for what they answer. -/
theorem cutprev (s : ByteArray) (c : UInt8) (body : List UInt8) (f : Bool) (h1 : Lib.trimPrefix s.data.toList [c] = body) (h2 : Lib.hasPrefix s.data.toList [c] = f) (w : World) :
    Calls Tryz.prog 142 #[.string s, .string ⟨#[c]⟩] w fun e w' => e = .returned (.tuple #[.string ⟨body.toArray⟩, .bool f]) ∧ w = w' := by
  subst h1; subst h2
  exact (Tryz.strings_CutPrefix s ⟨#[c]⟩ w).mono fun _ _ ⟨he, hw⟩ => ⟨he, hw.symm⟩
theorem cut1v (s : ByteArray) (c : UInt8) (x y : List UInt8) (f : Bool) (h : Lib.cut s.data.toList [c] = (x, y, f)) (w : World) (hs : s.size ≤ 9223372036854775806) :
    Calls Tryz.prog 236 #[.string s, .string ⟨#[c]⟩] w fun e w' => e = .returned (.tuple #[.string ⟨x.toArray⟩, .string ⟨y.toArray⟩, .bool f]) ∧ Below w.heap.size w w' := by
  have := cut1 s c w hs
  rw [h] at this
  exact this
/-- Some number, and f. -/
def SomeNum (f : Bool) (w : World) (e : Ending) (w' : World) : Prop := ∃ m : Int, e = .returned (.tuple #[.int .i64 m, .bool f]) ∧ Below w.heap.size w w'
theorem decimalv (s : ByteArray) (f : Bool) (hf : (Pl.dec s.data.toList).isSome = f) (w : World) (hl : Lb w) (hs : s.size ≤ 281474976710656) :
    Calls Tryz.prog 237 #[.string s] w (SomeNum f w) := by
  cases hd : Pl.dec s.data.toList with
  | none => rw [hd] at hf; subst hf; exact (decimal_no s hd w hl hs).mono fun _ _ h => h
  | some n => rw [hd] at hf; subst hf; exact (decimal_ok s n hd w hl (by omega)).mono fun _ _ h => ⟨n, h⟩
end Go.Proofs.YtdaoeplblkfapaaGreatDoor

/- THE CONTRACTS OF (*bead.Reader).take: for each thing that it is asked for: what it takes, or that it goes wrong. -/
namespace Go.Proofs.YtdaoeplblkfapaaGreatDoor
open Go.RowKit

/-- A scope out of which the run jumps forward to one label: what stands behind the label is walked at the jump. -/
theorem wp_scope_fwd {P : Program} {a : Act} {w : World} {Q : Exit → Act → World → Prop} {c rest : Code} (l : Nat) (hf : findLabel c l = some rest)
    (first : c.wp P (Exit.jump l (fun a w => rest.wp P (Exit.noGoto Q) a w) Q) a w) : (Code.scope c).wp P Q a w :=
  wp_scope_jumps l _ (fun _ _ => 0) hf first (fun a w h => wp_mono h (by intro e a w hq; cases e <;> first | exact hq | exact hq.elim))

theorem jump_ret {l : Nat} {J : Act → World → Prop} {Q : Exit → Act → World → Prop} {a : Act} {w : World} : Exit.jump l J Q .ret a w = Q .ret a w := rfl
theorem jump_goto {l : Nat} {J : Act → World → Prop} {Q : Exit → Act → World → Prop} {a : Act} {w : World} (h : J a w) : Exit.jump l J Q (.goto l) a w := ⟨rfl, h⟩

set_option maxHeartbeats 400000 in
set_option maxRecDepth 100000 in
/-- A number stands there. -/
theorem take_int_ok (b : Nat) (s : ByteArray) (n : Int) (r : List UInt8) (hr : Pl.rInt s.data.toList = some (n, r)) (w : World) (hl : Lb w) (h : Rdr b w s false) (hs : s.size ≤ 281474976710656) :
    Calls Tryz.prog 227 #[.pointer (some ⟨b, 0, none⟩), .int .u8 105, .int .i64 0] w fun e w' =>
      e = .returned (.tuple #[.int .i64 n, .string ⟨#[]⟩]) ∧ Rdr b w' ⟨r.toArray⟩ false ∧ Kb b w w' := by
  obtain ⟨body, ds, p1, p2, p3, p4⟩ := Pl.rInt_parts hr
  have hsz : body.length ≤ s.size := by rw [← p1, Lib.size_eq]; unfold Lib.trimPrefix; split <;> simp
  have hsd : ds.length ≤ body.length := by
    have := (Pl.cut_true (s := body) (c := 101) (by rw [p3])).1
    rw [this, p3]; simp
  have C1 := Lib.hid (cutprev s 105 body true p1 p2 w)
  have C2 := Lib.hid (fun w => cut1v ⟨body.toArray⟩ 101 ds r true p3 w (by show body.toArray.size ≤ _; simp; omega))
  have C3 := Lib.hid (fun w hl => decimal_ok ⟨ds.toArray⟩ n p4 w hl (by show ds.toArray.size ≤ _; simp; omega))
  have HS := Lib.hid hs
  clear hr p1 p2 p3 p4 hsz hsd hs
  have c0 := h.rest
  have c1 := h.wrong
  go_enter Tryz.func227, Tryz.ntmps227
  go_wp2_with fail
  refine wp_scope_fwd 0 rfl ?_
  go_wp2_with fail
  refine C1.out.mono ?_
  rintro e w' ⟨rfl, rfl⟩
  go_wp2_with fail
  refine (C2.out _).mono ?_
  rintro e w1 ⟨rfl, hb1⟩
  go_wp2_with fail
  refine (C3.out _ (hl.below hl.size hb1)).mono ?_
  rintro e w2 ⟨rfl, hb2⟩
  have hb3 := hb1.trans (hb2.mono hb1.size)
  have h3 := h.same hb3
  have f0 := h3.free0
  have d0 := h3.rest
  clear hb1 hb2 c0 c1 C1 C2 C3
  go_wp2_with fail
  rw [jump_ret]
  go_ret2
  exact ⟨rfl, h3.set0 _, (Kb.of_below hb3).trans (Kb.setCell _ _)⟩

set_option maxHeartbeats 1000000 in
set_option maxRecDepth 100000 in
/-- No number stands there: it goes wrong. -/
theorem take_int_no (b : Nat) (s : ByteArray) (hr : Pl.rInt s.data.toList = none) (w : World) (hl : Lb w) (h : Rdr b w s false) (hs : s.size ≤ 281474976710656) :
    Calls Tryz.prog 227 #[.pointer (some ⟨b, 0, none⟩), .int .u8 105, .int .i64 0] w fun e w' =>
      e = .returned (.tuple #[.int .i64 0, .string ⟨#[]⟩]) ∧ Rdr b w' s true ∧ Kb b w w' := by
  obtain ⟨body, ds, bh, p, f, p1, p2, p3, p4⟩ := Pl.rInt_none hr
  have hsz : body.length ≤ s.size := by rw [← p1, Lib.size_eq]; unfold Lib.trimPrefix; split <;> simp
  have hsd : ds.length ≤ body.length := by
    by_cases hm : (101 : UInt8) ∈ body
    · obtain ⟨x, y, e, hx⟩ := Pl.split_at 101 body hm
      rw [e, Pl.cut_hit x y 101 hx] at p3
      injection p3 with p3
      rw [← p3, e]; simp
    · rw [Pl.cut_miss body 101 hm] at p3
      injection p3 with p3
      rw [← p3]; omega
  have C1 := Lib.hid (cutprev s 105 body p p1 p2 w)
  have C2 := Lib.hid (fun w => cut1v ⟨body.toArray⟩ 101 ds bh f p3 w (by show body.toArray.size ≤ _; simp; omega))
  obtain ⟨g, hg⟩ : ∃ g, (Pl.dec ds).isSome = g := ⟨_, rfl⟩
  have C3 := Lib.hid (fun w hl => decimalv ⟨ds.toArray⟩ g hg w hl (by show ds.toArray.size ≤ _; simp; omega))
  rw [hg] at p4
  have hcase : p = false ∨ (p = true ∧ f = false) ∨ (p = true ∧ f = true ∧ g = false) := by
    cases p <;> cases f <;> cases g <;> simp_all
  clear hr p1 p2 p3 p4 hsz hsd hs hg
  have c0 := h.rest
  have c1 := h.wrong
  rcases hcase with rfl | ⟨rfl, rfl⟩ | ⟨rfl, rfl, rfl⟩
  all_goals
    go_enter Tryz.func227, Tryz.ntmps227
    go_wp2_with fail
    refine wp_scope_fwd 0 rfl ?_
    go_wp2_with fail
    refine C1.out.mono ?_
    rintro e w' ⟨rfl, rfl⟩
    go_wp2_with fail
    refine (C2.out _).mono ?_
    rintro e w1 ⟨rfl, hb1⟩
    go_wp2_with fail
    refine (C3.out _ (hl.below hl.size hb1)).mono ?_
    rintro e w2 ⟨m, rfl, hb2⟩
    have hb3 := hb1.trans (hb2.mono hb1.size)
    have h3 := h.same hb3
    have f0 := h3.free1
    have d1 := h3.wrong
    clear hb1 hb2 c0 c1 C1 C2 C3
    go_wp2_with fail
    go_step3
    refine And.intro rfl ?_
    go_wp2_with fail
    rw [Exit.noGoto_ret]
    go_ret2
    exact ⟨rfl, h3.set1 _, (Kb.of_below hb3).trans (Kb.setCell _ _)⟩

set_option maxHeartbeats 1000000 in
set_option maxRecDepth 100000 in
/-- A text stands there. -/
theorem take_text_ok (b : Nat) (s : ByteArray) (most : Int) (x r : List UInt8) (hr : Pl.rText most s.data.toList = some (x, r)) (w : World) (hl : Lb w) (h : Rdr b w s false) (hs : s.size ≤ 281474976710656) :
    Calls Tryz.prog 227 #[.pointer (some ⟨b, 0, none⟩), .int .u8 58, .int .i64 most] w fun e w' =>
      e = .returned (.tuple #[.int .i64 0, .string ⟨x.toArray⟩]) ∧ Rdr b w' ⟨r.toArray⟩ false ∧ Kb b w w' := by
  obtain ⟨ds, bh, n, p3, p4, q1, q2, q3, q4, q5⟩ := Pl.rText_parts hr
  have hall := (Pl.cut_true (s := s.data.toList) (c := 58) (by rw [p3])).1
  rw [p3] at hall
  have hlen : s.size = ds.length + bh.length + 1 := by rw [Lib.size_eq, hall]; simp; omega
  have C2 := Lib.hid (fun w => cut1v s 58 ds bh true p3 w (by omega))
  have C3 := Lib.hid (fun w hl => decimal_ok ⟨ds.toArray⟩ n p4 w hl (by show ds.toArray.size ≤ _; simp; omega))
  obtain ⟨k, rfl⟩ : ∃ k : Nat, n = k := ⟨n.toNat, by omega⟩
  have hk : k ≤ bh.length := by omega
  have E := Lib.hid (show x = bh.take k ∧ r = bh.drop k by simpa using And.intro q4 q5)
  have HS := Lib.hid hs
  have HL := Lib.hid hlen
  have hbh : bh.length ≤ 281474976710656 := by omega
  clear hr p3 p4 hs hall hlen q4 q5 q3
  have c0 := h.rest
  have c1 := h.wrong
  go_enter Tryz.func227, Tryz.ntmps227
  go_wp2_with fail
  refine wp_scope_fwd 0 rfl ?_
  go_wp2_with fail
  refine (C2.out _).mono ?_
  rintro e w1 ⟨rfl, hb1⟩
  go_wp2_with fail
  refine (C3.out _ (hl.below hl.size hb1)).mono ?_
  rintro e w2 ⟨rfl, hb2⟩
  have hb3 := hb1.trans (hb2.mono hb1.size)
  have h3 := h.same hb3
  have f0 := h3.free0
  have d0 := h3.rest
  clear hb1 hb2 c0 c1 C2 C3
  go_wp2_with fail
  go_region
  go_wp2_with fail
  rw [jump_ret]
  go_ret2
  obtain ⟨rfl, rfl⟩ := E.out
  rw [ext_drop]
  exact ⟨by rw [← ext_take]; rfl, (h3.set0 _).drewN 1, ((Kb.of_below hb3).trans (Kb.setCell _ _)).drewN 1⟩

set_option maxHeartbeats 1000000 in
set_option maxRecDepth 100000 in
/-- No text stands there, or a longer one: it goes wrong. -/
theorem take_text_no (b : Nat) (s : ByteArray) (most : Int) (hr : Pl.rText most s.data.toList = none) (w : World) (hl : Lb w) (h : Rdr b w s false) (hs : s.size ≤ 281474976710656) :
    Calls Tryz.prog 227 #[.pointer (some ⟨b, 0, none⟩), .int .u8 58, .int .i64 most] w fun e w' =>
      e = .returned (.tuple #[.int .i64 0, .string ⟨#[]⟩]) ∧ Rdr b w' s true ∧ Kb b w w' := by
  obtain ⟨ds, bh, f, p3, hcase⟩ := Pl.rText_none hr
  have hsd : ds.length ≤ s.size ∧ bh.length ≤ s.size := by
    rw [Lib.size_eq]
    by_cases hm : (58 : UInt8) ∈ s.data.toList
    · obtain ⟨x, y, e, hx⟩ := Pl.split_at 58 _ hm
      rw [e, Pl.cut_hit x y 58 hx] at p3
      injection p3 with p3 p4
      injection p4 with p4
      rw [← p3, ← p4, e]; simp; omega
    · rw [Pl.cut_miss _ 58 hm] at p3
      injection p3 with p3 p4
      injection p4 with p4
      rw [← p3, ← p4]; simp
  obtain ⟨hsd, hsb⟩ := hsd
  have hbh : bh.length ≤ 281474976710656 := by omega
  have C2 := Lib.hid (fun w => cut1v s 58 ds bh f p3 w (by omega))
  have HD := Lib.hid (show (⟨ds.toArray⟩ : ByteArray).size ≤ 281474976710656 by show ds.toArray.size ≤ _; simp; omega)
  have c0 := h.rest
  have c1 := h.wrong
  clear hr p3 hs hsd hsb
  rcases hcase with hf | ⟨hf, hd⟩ | ⟨n, hf, hd, hn⟩
  · subst hf
    have C3 := Lib.hid (fun w hl => decimalv ⟨ds.toArray⟩ _ rfl w hl HD.out)
    obtain ⟨g, hg⟩ : ∃ g, (Pl.dec (⟨ds.toArray⟩ : ByteArray).data.toList).isSome = g := ⟨_, rfl⟩
    rw [hg] at C3
    clear hg
    go_enter Tryz.func227, Tryz.ntmps227
    go_wp2_with fail
    refine wp_scope_fwd 0 rfl ?_
    go_wp2_with fail
    refine (C2.out _).mono ?_
    rintro e w1 ⟨rfl, hb1⟩
    go_wp2_with fail
    refine (C3.out _ (hl.below hl.size hb1)).mono ?_
    rintro e w2 ⟨m, rfl, hb2⟩
    have hb3 := hb1.trans (hb2.mono hb1.size)
    have h3 := h.same hb3
    have f0 := h3.free1
    have d1 := h3.wrong
    clear hb1 hb2 c0 c1 C2 C3
    go_wp2_with fail
    go_step3
    refine And.intro rfl ?_
    go_wp2_with fail
    rw [Exit.noGoto_ret]
    go_ret2
    exact ⟨rfl, h3.set1 _, (Kb.of_below hb3).trans (Kb.setCell _ _)⟩
  · subst hf
    have C3 := Lib.hid (fun w hl => decimal_no ⟨ds.toArray⟩ hd w hl HD.out)
    clear hd
    go_enter Tryz.func227, Tryz.ntmps227
    go_wp2_with fail
    refine wp_scope_fwd 0 rfl ?_
    go_wp2_with fail
    refine (C2.out _).mono ?_
    rintro e w1 ⟨rfl, hb1⟩
    go_wp2_with fail
    refine (C3.out _ (hl.below hl.size hb1)).mono ?_
    rintro e w2 ⟨m, rfl, hb2⟩
    have hb3 := hb1.trans (hb2.mono hb1.size)
    have h3 := h.same hb3
    have f0 := h3.free1
    have d1 := h3.wrong
    clear hb1 hb2 c0 c1 C2 C3
    go_wp2_with fail
    go_step3
    refine And.intro rfl ?_
    go_wp2_with fail
    rw [Exit.noGoto_ret]
    go_ret2
    exact ⟨rfl, h3.set1 _, (Kb.of_below hb3).trans (Kb.setCell _ _)⟩
  · subst hf
    have C3 := Lib.hid (fun w hl => decimal_ok ⟨ds.toArray⟩ n hd w hl (by have := HD.out; omega))
    clear hd
    have hn2 : n < 0 ∨ ∃ k : Nat, n = k ∧ (most < k ∨ ((k : Int) ≤ most ∧ bh.length < k)) := by
      rcases hn with h | h | h
      · exact Or.inl h
      · exact Or.inr ⟨n.toNat, by omega, by omega⟩
      · exact Or.inr ⟨n.toNat, by omega, by omega⟩
    clear hn
    rcases hn2 with hn | ⟨k, rfl, hn⟩
    rotate_left
    rcases hn with hn | ⟨hn, hk⟩
    all_goals
      go_enter Tryz.func227, Tryz.ntmps227
      go_wp2_with fail
      refine wp_scope_fwd 0 rfl ?_
      go_wp2_with fail
      refine (C2.out _).mono ?_
      rintro e w1 ⟨rfl, hb1⟩
      go_wp2_with fail
      refine (C3.out _ (hl.below hl.size hb1)).mono ?_
      rintro e w2 ⟨rfl, hb2⟩
      have hb3 := hb1.trans (hb2.mono hb1.size)
      have h3 := h.same hb3
      have f0 := h3.free1
      have d1 := h3.wrong
      clear hb1 hb2 c0 c1 C2 C3
      go_wp2_with fail
      go_step3
      refine And.intro rfl ?_
      go_wp2_with fail
      rw [Exit.noGoto_ret]
      go_ret2
      exact ⟨rfl, h3.set1 _, (Kb.of_below hb3).trans (Kb.setCell _ _)⟩
end Go.Proofs.YtdaoeplblkfapaaGreatDoor
