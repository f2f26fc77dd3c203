import GoSem.Claims
import Derived.Below
import Derived.WalkKit
import Derived.Laws.ResultCell
import Derived.Laws.Rows
import Derived.Laws.AppendOwn
import Derived.OwnWalk
import Derived.OneCell
import Derived.Lib.Hide
import Derived.Deep.QuietTactic
import Derived.BigQuiet
import Derived.Test.YtjccfilbihkfpaaGreatDoorProg
import Derived.Lib.LaidTab
import Derived.Lib.ItoaNum
import Derived.Sort.Grow
import Derived.Deep.Draws
import Derived.Lib.AtoiAllCases
import Derived.Lib.IndexMore
import Derived.Lib.Strings

/- Worlds that are alike but for a block; blocks that are known whole. Nothing here knows the program. -/
namespace Go.Proofs.YtjccfilbihkfpaaGreatDoor
open Go.RowKit

theorem below_drewN {B : Nat} (w : World) (n : Nat) : Below B w (w.drewN n) := ⟨rfl, rfl, rfl, Nat.le_refl _, fun _ _ => rfl⟩
/-- A call that may write block b alone of what there was. -/
structure Kb (b : Nat) (w w' : World) : Prop where
  os : w'.os = w.os
  tape : w'.tape = w.tape
  output : w'.output = w.output
  size : w.heap.size ≤ w'.heap.size
  block : ∀ k, k < w.heap.size → k ≠ b → w'.heap[k]? = w.heap[k]?

theorem Kb.refl (b : Nat) (w : World) : Kb b w w := ⟨rfl, rfl, rfl, Nat.le_refl _, fun _ _ _ => rfl⟩
theorem Kb.trans {b : Nat} {u v w : World} (h : Kb b u v) (k : Kb b v w) : Kb b u w :=
  ⟨k.os.trans h.os, k.tape.trans h.tape, k.output.trans h.output, Nat.le_trans h.size k.size, fun i hi hn => (k.block i (Nat.lt_of_lt_of_le hi h.size) hn).trans (h.block i hi hn)⟩
theorem Kb.of_below {b : Nat} {w w' : World} (h : Below w.heap.size w w') : Kb b w w' := ⟨h.os, h.tape, h.output, h.size, fun k hk _ => h.block k hk⟩
theorem Kb.below {b B : Nat} {w w' : World} (h : Kb b w w') (h1 : B ≤ b) (h2 : b < w.heap.size) : Below B w w' := ⟨h.os, h.tape, h.output, h.size, fun k hk => h.block k (by omega) (by omega)⟩
theorem Kb.setCell {b o : Nat} (w : World) (v : Value) : Kb b w (w.setCell ⟨b, o, none⟩ v) :=
  ⟨rfl, rfl, rfl, by simp [World.setCell], fun k _ hn => Below.heap_setCell _ _ _ _ hn⟩
theorem Kb.drewN {b : Nat} {w w' : World} (h : Kb b w w') (n : Nat) : Kb b w (w'.drewN n) := ⟨h.os, h.tape, h.output, h.size, h.block⟩
/-- A block that is known whole. -/
def Blk (w : World) (b : Nat) (cs : Array Value) (T : TypeId) : Prop := w.heap[b]? = some (.cells cs T (0, 0))
theorem Blk.lt {w : World} {b : Nat} {cs : Array Value} {T : TypeId} (h : Blk w b cs T) : b < w.heap.size := lt_of_block h
theorem Blk.kb {w w' : World} {b c : Nat} {cs : Array Value} {T : TypeId} (h : Blk w b cs T) (hk : Kb c w w') (hn : b ≠ c) : Blk w' b cs T := by
  unfold Blk at h ⊢
  rw [hk.block b (lt_of_block h) hn]
  exact h
theorem Blk.below {w w' : World} {b : Nat} {cs : Array Value} {T : TypeId} (h : Blk w b cs T) (hb : Below w.heap.size w w') : Blk w' b cs T := by
  unfold Blk at h ⊢
  rw [hb.block b (lt_of_block h)]
  exact h
theorem Blk.cell {w : World} {b i : Nat} {cs : Array Value} {T : TypeId} {x : Value} (h : Blk w b cs T) (hx : cs[i]? = some x) : w.cell? ⟨b, i, none⟩ = some x := by
  unfold Blk at h
  unfold World.cell?
  rw [h]
  exact hx
theorem Blk.free {w : World} {b i : Nat} {cs : Array Value} {T : TypeId} (h : Blk w b cs T) : w.frozen? ⟨b, i, none⟩ = false := by
  unfold Blk at h
  simp [World.frozen?, h]
theorem Blk.new (w : World) (cs : Array Value) (T : TypeId) : Blk (w.alloc (.cells cs T)) w.heap.size cs T := heap_alloc_new w _
theorem Blk.set {w : World} {b i : Nat} {cs : Array Value} {T : TypeId} (h : Blk w b cs T) (v : Value) : Blk (w.setCell ⟨b, i, none⟩ v) b (cs.setIfInBounds i v) T := by
  have hlt := h.lt
  unfold Blk at h ⊢
  have h' : w.heap[b] = .cells cs T (0, 0) := by simpa [Array.getElem?_eq_getElem hlt] using h
  show (w.heap.modify b _)[b]? = _
  rw [Array.getElem?_eq_getElem (by simpa using hlt), Array.getElem_modify_self, h']
  rfl
theorem Blk.setOther {w : World} {b c i : Nat} {cs : Array Value} {T : TypeId} (h : Blk w b cs T) (v : Value) (hn : b ≠ c) : Blk (w.setCell ⟨c, i, none⟩ v) b cs T := h.kb (Kb.setCell w v) hn
theorem size_list (a : List UInt8) : (⟨a.toArray⟩ : ByteArray).size = a.length := by show a.toArray.size = _; simp
theorem cells_five (w : World) (x0 x1 x2 x3 x4 : Value) (T : TypeId) : (w.alloc (.cells #[x0, x1, x2, x3, x4] T)).cell? ⟨w.heap.size, 0, none⟩ = some x0 ∧ (w.alloc (.cells #[x0, x1, x2, x3, x4] T)).cell? ⟨w.heap.size, 1, none⟩ = some x1 ∧ (w.alloc (.cells #[x0, x1, x2, x3, x4] T)).cell? ⟨w.heap.size, 2, none⟩ = some x2 ∧ (w.alloc (.cells #[x0, x1, x2, x3, x4] T)).cell? ⟨w.heap.size, 3, none⟩ = some x3 ∧ (w.alloc (.cells #[x0, x1, x2, x3, x4] T)).cell? ⟨w.heap.size, 4, none⟩ = some x4 := by
  have h := heap_alloc_new w (.cells #[x0, x1, x2, x3, x4] T)
  refine ⟨?_, ?_, ?_, ?_, ?_⟩ <;> (unfold World.cell?; rw [h]; rfl)
theorem cells_four (w : World) (x0 x1 x2 x3 : Value) (T : TypeId) : (w.alloc (.cells #[x0, x1, x2, x3] T)).cell? ⟨w.heap.size, 0, none⟩ = some x0 ∧ (w.alloc (.cells #[x0, x1, x2, x3] T)).cell? ⟨w.heap.size, 1, none⟩ = some x1 ∧ (w.alloc (.cells #[x0, x1, x2, x3] T)).cell? ⟨w.heap.size, 2, none⟩ = some x2 ∧ (w.alloc (.cells #[x0, x1, x2, x3] T)).cell? ⟨w.heap.size, 3, none⟩ = some x3 := by
  have h := heap_alloc_new w (.cells #[x0, x1, x2, x3] T)
  refine ⟨?_, ?_, ?_, ?_⟩ <;> (unfold World.cell?; rw [h]; rfl)
theorem cells_six' (w : World) (x0 x1 x2 x3 x4 x5 : Value) (T : TypeId) : ∀ i x, [x0, x1, x2, x3, x4, x5][i]? = some x → (w.alloc (.cells #[x0, x1, x2, x3, x4, x5] T)).cell? ⟨w.heap.size, i, none⟩ = some x := by
  have h := heap_alloc_new w (.cells #[x0, x1, x2, x3, x4, x5] T)
  intro i x hx
  unfold World.cell?
  rw [h]
  show (#[x0, x1, x2, x3, x4, x5] : Array Value)[i]? = some x
  rw [← hx, ← List.getElem?_toArray]
theorem own_kb2 {w w' : World} {base n size c : Nat} {e : TypeId} {v : Value} {xs : List Value} (h : w.ownsRow base e size v n xs) (hk : Kb c w w') (hne : ∀ k, v.ownBlock = some k → k ≠ c) : w'.ownsRow base e size v n xs :=
  h.kept (row := some c) ⟨hk.os, hk.tape, hk.output, hk.size, fun k hl hn => hk.block k hl (fun e => hn (by rw [e]))⟩ (Or.inr fun e => hne c e rfl)
def sliceLen : Option Value → Nat
  | some (.slice _ n _) => n
  | _ => 0
theorem own_below {w w' : World} {base n size : Nat} {e : TypeId} {v : Value} {xs : List Value} (h : w.ownsRow base e size v n xs) (hb : Below w.heap.size w w') : w'.ownsRow base e size v n xs :=
  h.kept (row := none) ⟨hb.os, hb.tape, hb.output, hb.size, fun k hk _ => hb.block k hk⟩ (by cases v.ownBlock <;> simp)
theorem own_kb {w w' : World} {base n size c : Nat} {e : TypeId} {v : Value} {xs : List Value} (h : w.ownsRow base e size v n xs) (hk : Kb c w w') (hc : c < base) : w'.ownsRow base e size v n xs :=
  h.kept (row := some c) ⟨hk.os, hk.tape, hk.output, hk.size, fun k hl hn => hk.block k hl (fun e => hn (by rw [e]))⟩ (Or.inr fun e => by have := (h.lt c e).1; omega)
theorem Blk.six {w : World} {r : Nat} {a0 a1 a2 a3 a4 a5 : Value} {T : TypeId} (h : Blk w r #[a0, a1, a2, a3, a4, a5] T) (v0 v1 v2 v3 v4 v5 : Value) :
    Blk ((((((w.setCell ⟨r, 0, none⟩ v0).setCell ⟨r, 1, none⟩ v1).setCell ⟨r, 2, none⟩ v2).setCell ⟨r, 3, none⟩ v3).setCell ⟨r, 4, none⟩ v4).setCell ⟨r, 5, none⟩ v5) r #[v0, v1, v2, v3, v4, v5] T :=
  (((((h.set (i := 0) v0).set (i := 1) v1).set (i := 2) v2).set (i := 3) v3).set (i := 4) v4).set (i := 5) v5
theorem bcell {W w1 : World} (hb : Below W.heap.size W w1) : (∀ b o, b < W.heap.size → w1.cell? ⟨b, o, none⟩ = W.cell? ⟨b, o, none⟩) ∧ (∀ b o, b < W.heap.size → w1.frozen? ⟨b, o, none⟩ = W.frozen? ⟨b, o, none⟩) :=
  ⟨fun b o h => hb.cell (p := ⟨b, o, none⟩) h, fun b o h => hb.frozen (p := ⟨b, o, none⟩) h⟩
theorem dcell {V w3 : World} {b i : Nat} {v : Value} (hb : Below V.heap.size V.drew w3) (h : V.cell? ⟨b, i, none⟩ = some v) : w3.cell? ⟨b, i, none⟩ = some v := by
  rw [← h]
  exact Below.cell (p := ⟨b, i, none⟩) hb (block_lt_of_cell h)
theorem drew_refl (V : World) : Below V.heap.size V.drew V.drew := Below.refl _ _
theorem of_drew {V w3 : World} (h : Below V.heap.size V.drew w3) : Below V.heap.size V w3 := ((Below.refl _ _).drew).trans h
theorem drew_trans {V wx w' : World} (h : Below V.heap.size V.drew wx) (k : Below wx.heap.size wx w') : Below V.heap.size V.drew w' := h.trans (k.mono h.size)
end Go.Proofs.YtjccfilbihkfpaaGreatDoor

/- WHAT IS CARRIED FROM CALL TO CALL: what the library's variables hold ('Lb'), what a call on the reader in block b leaves alone ('Kb'), what a reader holds ('Rdr'). -/
namespace Go.Proofs.YtjccfilbihkfpaaGreatDoor
open Go.RowKit

/-- What the library's variables hold. -/
structure Lb (w : World) : Prop where
  pow : Lib.TabIs Tryz.prog w "internal/strconv.uint64pow10" .u64 Lib.pow10Tab
  syn : ∃ tp p, w.var? Tryz.prog "strconv.ErrSyntax" = some #[.iface tp p]
  rng : ∃ tp p, w.var? Tryz.prog "strconv.ErrRange" = some #[.iface tp p]
  size : 6 ≤ w.heap.size

theorem gPow : Tryz.prog.globalNamed "internal/strconv.uint64pow10" = some 1 := by kernel_rfl
theorem gSyn : Tryz.prog.globalNamed "strconv.ErrSyntax" = some 2 := by kernel_rfl
theorem gRng : Tryz.prog.globalNamed "strconv.ErrRange" = some 3 := by kernel_rfl

theorem var_of_block {w w' : World} {name : String} {g : Nat} (hg : Tryz.prog.globalNamed name = some g) (h : w'.heap[g]? = w.heap[g]?) : w'.var? Tryz.prog name = w.var? Tryz.prog name := by
  unfold World.var?
  rw [hg]
  simp only [Option.bind_some]
  rw [h]

theorem Lb.of_low {w w' : World} (h : Lb w) (hs : w.heap.size ≤ w'.heap.size) (hb : ∀ k, k < 6 → w'.heap[k]? = w.heap[k]?) : Lb w' := by
  obtain ⟨h1, ⟨t3, p3, h3⟩, ⟨t4, p4, h4⟩, h5⟩ := h
  refine ⟨?_, ⟨t3, p3, ?_⟩, ⟨t4, p4, ?_⟩, by omega⟩
  · unfold Lib.TabIs at h1 ⊢
    rw [var_of_block gPow (hb _ (by decide))]
    exact h1
  · rw [var_of_block gSyn (hb _ (by decide))]
    exact h3
  · rw [var_of_block gRng (hb _ (by decide))]
    exact h4

theorem Lb.below {w w' : World} {B : Nat} (h : Lb w) (hB : 6 ≤ B) (hb : Below B w w') : Lb w' := h.of_low hb.size fun k hk => hb.block k (by omega)

theorem Lb.kb {b : Nat} {w w' : World} (h : Lb w) (hb : 6 ≤ b) (hk : Kb b w w') : Lb w' := h.of_low hk.size fun k hl => hk.block k (by have := h.size; omega) (by omega)

theorem below_grow {w : World} (n : Nat) (os : Array Obj) : Below w.heap.size w (Sort.grow (w.drewN n) os) :=
  ⟨rfl, rfl, rfl, by simp [World.drewN], fun k hk => Sort.heap_grow_old (w.drewN n) os hk⟩

/-- The reader in block b: the bytes from its place on; whether it is wrong. -/
def Rdr (b : Nat) (w : World) (s : ByteArray) (bad : Bool) : Prop := w.heap[b]? = some (.cells #[.string s, .bool bad] 113 (0, 0))

theorem Rdr.lt {b : Nat} {w : World} {s : ByteArray} {bad : Bool} (h : Rdr b w s bad) : b < w.heap.size := lt_of_block h
theorem Rdr.rest {b : Nat} {w : World} {s : ByteArray} {bad : Bool} (h : Rdr b w s bad) : w.cell? ⟨b, 0, none⟩ = some (.string s) := by unfold Rdr at h; simp [World.cell?, h]
theorem Rdr.wrong {b : Nat} {w : World} {s : ByteArray} {bad : Bool} (h : Rdr b w s bad) : w.cell? ⟨b, 1, none⟩ = some (.bool bad) := by unfold Rdr at h; simp [World.cell?, h]
theorem Rdr.free0 {b : Nat} {w : World} {s : ByteArray} {bad : Bool} (h : Rdr b w s bad) : w.frozen? ⟨b, 0, none⟩ = false := by unfold Rdr at h; simp [World.frozen?, h]
theorem Rdr.free1 {b : Nat} {w : World} {s : ByteArray} {bad : Bool} (h : Rdr b w s bad) : w.frozen? ⟨b, 1, none⟩ = false := by unfold Rdr at h; simp [World.frozen?, h]
theorem Rdr.same {b : Nat} {w w' : World} {s : ByteArray} {bad : Bool} (h : Rdr b w s bad) (hb : Below w.heap.size w w') : Rdr b w' s bad := by
  unfold Rdr at h ⊢
  rw [hb.block b (lt_of_block h)]
  exact h
theorem Rdr.other {b c : Nat} {w w' : World} {s : ByteArray} {bad : Bool} (h : Rdr b w s bad) (hk : Kb c w w') (hn : b ≠ c) : Rdr b w' s bad := by
  unfold Rdr at h ⊢
  rw [hk.block b (lt_of_block h) hn]
  exact h
theorem Rdr.set0 {b : Nat} {w : World} {s : ByteArray} {bad : Bool} (h : Rdr b w s bad) (s' : ByteArray) : Rdr b (w.setCell ⟨b, 0, none⟩ (.string s')) s' bad := by
  have hlt := h.lt
  unfold Rdr at h ⊢
  have h' : w.heap[b] = .cells #[.string s, .bool bad] 113 (0, 0) := by simpa [Array.getElem?_eq_getElem hlt] using h
  show (w.heap.modify b _)[b]? = _
  rw [Array.getElem?_eq_getElem (by simpa using hlt), Array.getElem_modify_self, h']
  rfl
theorem Rdr.set1 {b : Nat} {w : World} {s : ByteArray} {bad : Bool} (h : Rdr b w s bad) (bad' : Bool) : Rdr b (w.setCell ⟨b, 1, none⟩ (.bool bad')) s bad' := by
  have hlt := h.lt
  unfold Rdr at h ⊢
  have h' : w.heap[b] = .cells #[.string s, .bool bad] 113 (0, 0) := by simpa [Array.getElem?_eq_getElem hlt] using h
  show (w.heap.modify b _)[b]? = _
  rw [Array.getElem?_eq_getElem (by simpa using hlt), Array.getElem_modify_self, h']
  rfl
theorem Rdr.drewN {b : Nat} {w : World} {s : ByteArray} {bad : Bool} (h : Rdr b w s bad) (n : Nat) : Rdr b (w.drewN n) s bad := h
end Go.Proofs.YtjccfilbihkfpaaGreatDoor

/- PLAIN FACTS, no model in this text: decimal numerals there and back; a text cut at a byte; the forms of numbers and texts as bytes, and what a reader takes of them. -/
namespace Go.Proofs.YtjccfilbihkfpaaGreatDoor
namespace Pl
open Go.Lib

theorem ofNat_toNat (k : Nat) (h : k < 256) : (UInt8.ofNat k).toNat = k := by
  rw [UInt8.toNat_ofNat']; omega

theorem parse_snoc : ∀ (l : List UInt8) (c : UInt8) (acc u : Nat), parseUint10 acc l = .ok u →
    parseUint10 acc (l ++ [c]) = parseUint10 u [c]
  | [], c, acc, u, h => by
    simp only [parseUint10] at h
    injection h with h
    subst h
    rfl
  | x :: l, c, acc, u, h => by
    simp only [List.cons_append, parseUint10] at h ⊢
    split at h
    · rename_i hx
      rw [if_pos hx]
      split at h
      · cases h
      · rename_i h1
        rw [if_neg h1]
        split at h
        · cases h
        · rename_i h2
          rw [if_neg h2]
          have := parse_snoc l c _ u h
          simpa only [parseUint10] using this
    · cases h

theorem parse_dec (u : Nat) (h : u < 18446744073709551616) : parseUint10 0 (decDigits u) = .ok u := by
  induction u using Nat.strongRecOn with
  | _ u ih =>
    by_cases h1 : u < 10
    · rw [decDigits, dif_pos h1]
      have e := ofNat_toNat (48 + u) (by omega)
      simp only [parseUint10, e]
      rw [if_pos (by omega), if_neg (by omega), if_neg (by omega)]
      congr 1
      omega
    · rw [decDigits, dif_neg h1]
      rw [parse_snoc _ _ 0 (u / 10) (ih (u / 10) (by omega) (by omega))]
      have e := ofNat_toNat (48 + u % 10) (by omega)
      simp only [parseUint10, e]
      rw [if_pos (by omega), if_neg (by omega), if_neg (by omega)]
      congr 1
      omega

/-- The digits of a numeral are digits. -/
theorem dec_digit (u : Nat) : ∀ c ∈ decDigits u, 48 ≤ c.toNat ∧ c.toNat ≤ 57 := by
  induction u using Nat.strongRecOn with
  | _ u ih =>
    intro c hc
    by_cases h1 : u < 10
    · rw [decDigits, dif_pos h1] at hc
      have : c = UInt8.ofNat (48 + u) := by simpa using hc
      subst this
      rw [ofNat_toNat _ (by omega)]
      omega
    · rw [decDigits, dif_neg h1] at hc
      rcases List.mem_append.1 hc with hc | hc
      · exact ih (u / 10) (by omega) c hc
      · have : c = UInt8.ofNat (48 + u % 10) := by simpa using hc
        subst this
        rw [ofNat_toNat _ (by omega)]
        omega

theorem dec_ne (u : Nat) : decDigits u ≠ [] := by
  intro h
  have := decDigits_length u
  rw [h] at this
  have := nDigits_pos u
  simp at *
  omega

/-- A numeral's bytes are digits and '-'. -/
theorem itoa_byte (n : Int) : ∀ c ∈ itoa n, c.toNat = 45 ∨ (48 ≤ c.toNat ∧ c.toNat ≤ 57) := by
  intro c hc
  unfold itoa at hc
  split at hc
  · rcases List.mem_cons.1 hc with h | h
    · left; rw [h]; rfl
    · right; exact dec_digit _ c h
  · right; exact dec_digit _ c hc

theorem itoa_ne (n : Int) : itoa n ≠ [] := by
  unfold itoa
  split
  · simp
  · exact dec_ne _

theorem itoa_not_mem (n : Int) (c : UInt8) (h : c.toNat ≠ 45) (h2 : c.toNat < 48 ∨ 57 < c.toNat) : c ∉ itoa n := by
  intro hc
  have := itoa_byte n c hc
  omega

/-- THERE AND BACK. -/
theorem atoi_itoa (n : Int) (h0 : -9223372036854775808 ≤ n) (h1 : n ≤ 9223372036854775807) : atoiAll (itoa n) = .ok n := by
  unfold itoa
  by_cases hn : n < 0
  · rw [if_pos hn, atoiAll_minus]
    have e : parseMag (decDigits n.natAbs) = .ok n.natAbs := by
      unfold parseMag
      rw [if_neg (dec_ne _)]
      exact parse_dec _ (by omega)
    rw [e]
    simp only [signed]
    rw [if_neg (by omega)]
    congr 1
    omega
  · rw [if_neg hn]
    have e : parseMag (decDigits n.toNat) = .ok n.toNat := by
      unfold parseMag
      rw [if_neg (dec_ne _)]
      exact parse_dec _ (by omega)
    cases hd : decDigits n.toNat with
    | nil => exact absurd hd (dec_ne _)
    | cons c r =>
      have hc := dec_digit n.toNat c (by rw [hd]; exact List.mem_cons_self)
      rw [atoiAll_plain c r (by omega) (by omega), ← hd, e]
      simp only [signless]
      rw [if_neg (by omega)]
      congr 1
      omega

/-- What the program's 'decimal' answers: the number, if the digits are as it would be written. -/
def dec (l : List UInt8) : Option Int :=
  match atoiAll l with
  | .ok n => if itoa n = l then some n else none
  | _ => none

theorem dec_itoa (n : Int) (h0 : -9223372036854775808 ≤ n) (h1 : n ≤ 9223372036854775807) : dec (itoa n) = some n := by
  unfold dec
  rw [atoi_itoa n h0 h1]
  simp

theorem dec_some {l : List UInt8} {n : Int} (h : dec l = some n) : l = itoa n ∧ -9223372036854775808 ≤ n ∧ n ≤ 9223372036854775807 := by
  unfold dec at h
  split at h
  · rename_i m hm
    split at h
    · rename_i e
      injection h with h
      subst h
      exact ⟨e.symm, atoiAll_bounds hm⟩
    · cases h
  · cases h

/-! ### A text cut at a byte -/
theorem occ_one (s : List UInt8) (c : UInt8) (i : Nat) : occAt s [c] i = true ↔ s[i]? = some c := by
  unfold occAt
  rw [List.isPrefixOf_iff_prefix]
  constructor
  · rintro ⟨r, hr⟩
    have : (s.drop i)[0]? = some c := by rw [← hr]; rfl
    simpa using this
  · intro h
    have hi : i < s.length := by
      rcases Nat.lt_or_ge i s.length with h' | h'
      · exact h'
      · rw [List.getElem?_eq_none h'] at h; cases h
    rw [List.getElem?_eq_getElem hi] at h
    injection h with h
    refine ⟨s.drop (i + 1), ?_⟩
    rw [List.drop_eq_getElem_cons hi, h]
    rfl

theorem cut_hit (a b : List UInt8) (c : UInt8) (h : c ∉ a) : cut (a ++ c :: b) [c] = (a, b, true) := by
  have e : index (a ++ c :: b) [c] = (a.length : Nat) := by
    refine index_first (by simp) ((occ_one _ _ _).2 (by simp)) fun j hj => ?_
    cases ho : occAt (a ++ c :: b) [c] j with
    | false => rfl
    | true =>
      have := (occ_one _ _ _).1 ho
      rw [List.getElem?_append_left hj] at this
      exact absurd (List.mem_of_getElem? this) h
  unfold cut
  rw [e, if_pos (by omega)]
  simp

theorem cut_miss (s : List UInt8) (c : UInt8) (h : c ∉ s) : cut s [c] = (s, [], false) := by
  have e : index s [c] = -1 := by
    refine index_none fun j _ => ?_
    cases ho : occAt s [c] j with
    | false => rfl
    | true => exact absurd (List.mem_of_getElem? ((occ_one _ _ _).1 ho)) h
  unfold cut
  rw [e, if_neg (by omega)]

theorem split_at (c : UInt8) : ∀ (s : List UInt8), c ∈ s → ∃ a b, s = a ++ c :: b ∧ c ∉ a
  | [], h => by cases h
  | x :: s, h => by
    by_cases hx : x = c
    · exact ⟨[], s, by rw [hx]; rfl, by simp⟩
    · have hs : c ∈ s := by
        rcases List.mem_cons.1 h with h | h
        · exact absurd h.symm hx
        · exact h
      obtain ⟨a, b, e, ha⟩ := split_at c s hs
      refine ⟨x :: a, b, by rw [e]; rfl, ?_⟩
      intro hm
      rcases List.mem_cons.1 hm with h | h
      · exact hx h.symm
      · exact ha h

theorem cut_true {s : List UInt8} {c : UInt8} (h : (cut s [c]).2.2 = true) : s = (cut s [c]).1 ++ c :: (cut s [c]).2.1 ∧ c ∉ (cut s [c]).1 := by
  by_cases hc : c ∈ s
  · obtain ⟨a, b, e, ha⟩ := split_at c s hc
    rw [e, cut_hit a b c ha]
    exact ⟨rfl, ha⟩
  · rw [cut_miss s c hc] at h
    cases h

/-! ### What a reader takes -/
/-- A number's bytes at the beginning: the number, and what stands behind. -/
def rInt (s : List UInt8) : Option (Int × List UInt8) :=
  if hasPrefix s [105] = true ∧ (cut (trimPrefix s [105]) [101]).2.2 = true then
    match dec (cut (trimPrefix s [105]) [101]).1 with
    | some n => some (n, (cut (trimPrefix s [105]) [101]).2.1)
    | none => none
  else none

/-- A text's. -/
def rText (most : Int) (s : List UInt8) : Option (List UInt8 × List UInt8) :=
  if (cut s [58]).2.2 = true then
    match dec (cut s [58]).1 with
    | some n => if 0 ≤ n ∧ n ≤ most ∧ n ≤ (cut s [58]).2.1.length then some ((cut s [58]).2.1.take n.toNat, (cut s [58]).2.1.drop n.toNat) else none
    | none => none
  else none

theorem rInt_parts {s r : List UInt8} {n : Int} (h : rInt s = some (n, r)) : ∃ body ds, trimPrefix s [105] = body ∧ hasPrefix s [105] = true ∧ cut body [101] = (ds, r, true) ∧ dec ds = some n := by
  unfold rInt at h
  split at h
  · rename_i hh
    split at h
    · rename_i m hm
      injection h with h
      injection h with h h'
      subst h
      exact ⟨_, _, rfl, hh.1, by rw [← h', ← hh.2], hm⟩
    · cases h
  · cases h
theorem rInt_none {s : List UInt8} (h : rInt s = none) : ∃ body ds bh p f, trimPrefix s [105] = body ∧ hasPrefix s [105] = p ∧ cut body [101] = (ds, bh, f) ∧ (p && f && (dec ds).isSome) = false := by
  refine ⟨_, (cut (trimPrefix s [105]) [101]).1, (cut (trimPrefix s [105]) [101]).2.1, _, (cut (trimPrefix s [105]) [101]).2.2, rfl, rfl, rfl, ?_⟩
  unfold rInt at h
  split at h
  · rename_i hh
    split at h
    · cases h
    · rename_i hm
      rw [hm]
      simp
  · rename_i hh
    cases h1 : hasPrefix s [105] <;> cases h2 : (cut (trimPrefix s [105]) [101]).2.2 <;> simp_all
theorem rText_parts {s t r : List UInt8} {most : Int} (h : rText most s = some (t, r)) : ∃ ds bh n, cut s [58] = (ds, bh, true) ∧ dec ds = some n ∧ 0 ≤ n ∧ n ≤ most ∧ n ≤ bh.length ∧ t = bh.take n.toNat ∧ r = bh.drop n.toNat := by
  unfold rText at h
  split at h
  · rename_i hh
    split at h
    · rename_i m hm
      split at h
      · rename_i hb
        injection h with h
        injection h with h h'
        exact ⟨_, _, m, by rw [← hh], hm, hb.1, hb.2.1, hb.2.2, h.symm, h'.symm⟩
      · cases h
    · cases h
  · cases h
theorem rText_none {s : List UInt8} {most : Int} (h : rText most s = none) : ∃ ds bh f, cut s [58] = (ds, bh, f) ∧
    (f = false ∨ (f = true ∧ dec ds = none) ∨ ∃ n, f = true ∧ dec ds = some n ∧ (n < 0 ∨ (0 ≤ n ∧ most < n) ∨ (0 ≤ n ∧ n ≤ most ∧ (bh.length : Int) < n))) := by
  refine ⟨(cut s [58]).1, (cut s [58]).2.1, (cut s [58]).2.2, rfl, ?_⟩
  unfold rText at h
  split at h
  · rename_i hh
    split at h
    · rename_i m hm
      split at h
      · cases h
      · rename_i hb
        right; right
        exact ⟨m, hh, hm, by omega⟩
    · rename_i hm
      right; left
      exact ⟨hh, hm⟩
  · rename_i hh
    left
    simpa using hh

/-- A letter. -/
def rByte (c : UInt8) (s : List UInt8) : Option (List UInt8) :=
  match s with
  | x :: r => if x = c then some r else none
  | [] => none

def wInt (n : Int) : List UInt8 := 105 :: (itoa n ++ [101])
def wText (t : List UInt8) : List UInt8 := itoa t.length ++ 58 :: t

def I64 (n : Int) : Prop := -9223372036854775808 ≤ n ∧ n ≤ 9223372036854775807

theorem rInt_w (n : Int) (h : I64 n) (r : List UInt8) : rInt (wInt n ++ r) = some (n, r) := by
  have e1 : wInt n ++ r = 105 :: (itoa n ++ 101 :: r) := by simp [wInt]
  have e2 : trimPrefix (wInt n ++ r) [105] = itoa n ++ 101 :: r := by rw [e1]; simp [trimPrefix, hasPrefix]
  have e3 := cut_hit (itoa n) r 101 (itoa_not_mem n 101 (by decide) (by decide))
  unfold rInt
  rw [e2, e3, e1]
  simp [hasPrefix, dec_itoa n h.1 h.2]

theorem rInt_some {s r : List UInt8} {n : Int} (h : rInt s = some (n, r)) : s = wInt n ++ r ∧ I64 n := by
  unfold rInt at h
  split at h
  · rename_i hh
    obtain ⟨hp, hc⟩ := hh
    obtain ⟨e, -⟩ := cut_true hc
    split at h
    · rename_i m hm
      obtain ⟨e2, hb⟩ := dec_some hm
      injection h with h
      injection h with h h'
      subst h
      refine ⟨?_, hb⟩
      rw [e2, h'] at e
      cases s with
      | nil => simp [hasPrefix] at hp
      | cons x s =>
        have hx : (105 : UInt8) = x := by simpa [hasPrefix] using hp
        subst hx
        have : trimPrefix (105 :: s) [105] = s := by simp [trimPrefix, hasPrefix]
        rw [this] at e
        rw [e]
        simp [wInt]
    · cases h
  · cases h

theorem rText_w (t : List UInt8) (most : Int) (ht : (t.length : Int) ≤ most) (hb : (t.length : Int) ≤ 9223372036854775807) (r : List UInt8) : rText most (wText t ++ r) = some (t, r) := by
  have e1 : wText t ++ r = itoa t.length ++ 58 :: (t ++ r) := by simp [wText]
  have e3 := cut_hit (itoa t.length) (t ++ r) 58 (itoa_not_mem _ 58 (by decide) (by decide))
  unfold rText
  rw [e1, e3]
  simp only [if_true, dec_itoa (t.length : Int) (by omega) hb]
  rw [if_pos ⟨by omega, ht, by simp only [List.length_append]; omega⟩]
  simp

theorem rText_long (t : List UInt8) (most : Int) (ht : most < (t.length : Int)) (hb : (t.length : Int) ≤ 9223372036854775807) (r : List UInt8) : rText most (wText t ++ r) = none := by
  have e1 : wText t ++ r = itoa t.length ++ 58 :: (t ++ r) := by simp [wText]
  have e3 := cut_hit (itoa t.length) (t ++ r) 58 (itoa_not_mem _ 58 (by decide) (by decide))
  unfold rText
  rw [e1, e3]
  simp only [if_true, dec_itoa (t.length : Int) (by omega) hb]
  rw [if_neg (by omega)]

theorem rText_some {s t r : List UInt8} {most : Int} (h : rText most s = some (t, r)) : s = wText t ++ r ∧ (t.length : Int) ≤ most ∧ (t.length : Int) ≤ 9223372036854775807 := by
  unfold rText at h
  split at h
  · rename_i hc
    obtain ⟨e, -⟩ := cut_true hc
    split at h
    · rename_i m hm
      obtain ⟨e2, hb⟩ := dec_some hm
      split at h
      · rename_i hh
        injection h with h
        injection h with h h'
        have hl : (t.length : Int) = m := by rw [← h, List.length_take]; omega
        refine ⟨?_, by omega, by omega⟩
        rw [e2] at e
        rw [e, wText, hl]
        simp only [List.append_assoc, List.cons_append]
        congr 2
        rw [← h, ← h', List.take_append_drop]
      · cases h
    · cases h
  · cases h

theorem rByte_some {c : UInt8} {s r : List UInt8} (h : rByte c s = some r) : s = c :: r := by
  cases s with
  | nil => cases h
  | cons x s =>
    simp only [rByte] at h
    split at h
    · rename_i e; injection h with h; rw [e, h]
    · cases h

/-- What is read of a beginning is read of the whole. -/
theorem rInt_more {s r : List UInt8} {n : Int} (h : rInt s = some (n, r)) (q : List UInt8) : rInt (s ++ q) = some (n, r ++ q) := by
  obtain ⟨e, hb⟩ := rInt_some h
  rw [e, List.append_assoc]
  exact rInt_w n hb _
theorem rText_more {s t r : List UInt8} {most : Int} (h : rText most s = some (t, r)) (q : List UInt8) : rText most (s ++ q) = some (t, r ++ q) := by
  obtain ⟨e, hb, hc⟩ := rText_some h
  rw [e, List.append_assoc]
  exact rText_w t most hb hc _

/-- A number's bytes are no text's, nor the other way round. -/
theorem wText_head (t : List UInt8) : ∃ c r, wText t = c :: r ∧ (c.toNat = 45 ∨ (48 ≤ c.toNat ∧ c.toNat ≤ 57)) := by
  unfold wText
  cases h : itoa t.length with
  | nil => exact absurd h (itoa_ne _)
  | cons c r => exact ⟨c, r ++ 58 :: t, rfl, itoa_byte _ c (by rw [h]; exact List.mem_cons_self)⟩
theorem wText_not_wInt {t q r : List UInt8} {n : Int} (h : wText t ++ q = wInt n ++ r) : False := by
  obtain ⟨c, k, e, hc⟩ := wText_head t
  rw [e, wInt] at h
  simp only [List.cons_append] at h
  injection h with h
  subst h
  simp at hc
theorem wText_ne (t : List UInt8) : wText t ≠ [] := by
  obtain ⟨c, k, e, -⟩ := wText_head t
  rw [e]; simp
theorem wInt_ne (n : Int) : wInt n ≠ [] := by simp [wInt]

theorem rInt_nil : rInt [] = none := by
  cases h : rInt [] with
  | none => rfl
  | some p => obtain ⟨n, r⟩ := p; have := (rInt_some h).1; simp [wInt] at this
theorem rText_nil (most : Int) : rText most [] = none := by
  cases h : rText most [] with
  | none => rfl
  | some p =>
    obtain ⟨t, r⟩ := p
    have := (rText_some h).1
    have h2 := wText_ne t
    simp at this
    exact absurd this.1 h2
end Pl
end Go.Proofs.YtjccfilbihkfpaaGreatDoor
