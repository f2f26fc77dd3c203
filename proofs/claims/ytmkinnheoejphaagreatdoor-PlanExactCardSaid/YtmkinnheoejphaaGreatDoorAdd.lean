/- What a call gathers in a slice of its own, all of it behind z, an element of some cells at a time. -/
import Derived.Test.YtmkinnheoejphaaGreatDoorRd
namespace Go.Proofs.YtmkinnheoejphaaGreatDoor
open Go.RowKit

theorem Sl.empty (w : World) (e size : Nat) : Sl (w.alloc (.cells #[] e)) (.slice (some ⟨w.heap.size, 0, none⟩) 0 0) (some w.heap.size) e size 0 [] :=
  ⟨by simp, .inr ⟨w.heap.size, 0, 0, #[], rfl, rfl, heap_alloc_new w _, Nat.le_refl _, by simp, by simp⟩⟩
theorem Sl.below {w w' : World} {v : Value} {gb : Option Nat} {e size n : Nat} {xs : List Value} (h : Sl w v gb e size n xs) (hb : Below w.heap.size w w') : Sl w' v gb e size n xs := h.same fun k hk => hb.block k (h.lt k hk)
/-- A slice of the call's own: its n elements' cells xs, in a block from z on. -/
def Wz (z : Nat) (w : World) (v : Value) (gb : Option Nat) (e size n : Nat) (xs : List Value) : Prop := Sl w v gb e size n xs ∧ ∀ b, gb = some b → z ≤ b
section
variable {z e size n : Nat} {w w' : World} {v : Value} {gb : Option Nat} {xs : List Value}
theorem Wz.nil (z : Nat) (w : World) (e size : Nat) : Wz z w (.slice none 0 0) none e size 0 [] := ⟨Sl.nil w _ _, fun b e => by cases e⟩
theorem Wz.empty {z : Nat} (w : World) (e size : Nat) (hz : z ≤ w.heap.size) : Wz z (w.alloc (.cells #[] e)) (.slice (some ⟨w.heap.size, 0, none⟩) 0 0) (some w.heap.size) e size 0 [] := ⟨Sl.empty w _ _, fun b e => by cases e; exact hz⟩
theorem Wz.below (h : Wz z w v gb e size n xs) (b : Below w.heap.size w w') : Wz z w' v gb e size n xs := ⟨h.1.below b, h.2⟩
theorem Wz.mono {z' : Nat} (h : Wz z w v gb e size n xs) (hz : z' ≤ z) : Wz z' w v gb e size n xs := ⟨h.1, fun b e => Nat.le_trans hz (h.2 b e)⟩
theorem Wz.rd (h : Wz z w v gb e size n xs) : Rds (fun b => z ≤ b) w v size n xs := Rds.of_sl h.1 h.2
theorem Wz.form (h : Wz z w v gb e size n xs) : ∃ a cap, v = .slice a n cap := h.1.form
theorem Wz.lt (h : Wz z w v gb e size n xs) : ∀ b, gb = some b → z ≤ b ∧ b < w.heap.size := fun b e => ⟨h.2 b e, h.1.lt b e⟩
theorem Wz.kb {b : Nat} (h : Wz z w v gb e size n xs) (k : Kb b w w') (hb : gb ≠ some b) : Wz z w' v gb e size n xs := ⟨h.1.same fun c e => k.block c (h.1.lt c e) (fun e2 => hb (e2 ▸ e)), h.2⟩
/-- Another slice has grown. -/
theorem Wz.grown {r : Option Nat} (h : Wz z w v gb e size n xs) (k : w.grownBy w' r) (hr : ∀ b, gb = some b → r ≠ some b) : Wz z w' v gb e size n xs := ⟨h.1.same fun c e => k.block c (h.1.lt c e) fun e2 => hr c e e2.symm, h.2⟩
end
/-- What lay ahead of z is as it was behind an append to such a slice. -/
theorem Below.appended {z : Nat} {w0 w w' : World} {gb : Option Nat} (h : Below z w0 w) (hg : w.grownBy w' gb) (hgb : ∀ b, gb = some b → z ≤ b) (hz : z ≤ w.heap.size) : Below z w0 w' :=
  ⟨hg.os.trans h.os, hg.tape.trans h.tape, hg.output.trans h.output, Nat.le_trans h.size hg.size, fun k hk => (hg.block k (Nat.lt_of_lt_of_le hk hz) (fun e => by have := hgb k e.symm; omega)).trans (h.block k hk)⟩
/-- What an element type's row says. -/
def Info (P : Program) (e size bytes : Nat) (zero : Value) : Prop := ∃ i, P.info? e = some i ∧ i.zero = some zero ∧ i.size = size ∧ i.bytes = bytes ∧ zero.cells.size = size
theorem Info.of {P : Program} {e size bytes : Nat} {zero : Value} (h : (P.info? e).map (fun i => (i.zero, i.size, i.bytes)) = some (some zero, size, bytes)) (hz : zero.cells.size = size) : Info P e size bytes zero := by
  cases hi : P.info? e with
  | none => rw [hi] at h; cases h
  | some i =>
    rw [hi] at h
    simp only [Option.map_some, Option.some.injEq, Prod.mk.injEq] at h
    exact ⟨i, hi, h.1, h.2.1, h.2.2, hz⟩
section
variable {P : Program} {ops : Array Oper} {rest : List Oper} {o : Oper} {a : Act} {Q : Exit → Act → World → Prop} {w : World} {z : Nat} {v : Value} {gb : Option Nat}
/-- One element more. -/
theorem wp_add {t e size bytes n : Nat} {zero : Value} {xs : List Value} (hi : Info P e size bytes zero) (ht : P.underlying t = some (.slice e)) (hgd : o.guard = none) (s y : Operand)
    (ho : o.op = .call { callee := .builtin .append, args := #[s, y], argTypes := #[t, t] })
    (hs : a.eval s = v) (h : Wz z w v gb e size n xs) (ad : Addr) (c : Nat) (cs : List Value) (hx : a.eval y = .slice (some ad) 1 c) (hcs : cs.length = size)
    (hn : ∀ j u, cs[j]? = some u → w.cell? (ad.add j) = some u) (h1 : ∀ u ∈ cs, u.oneCell' = true) (hl : n ≤ 1048576) (hb : bytes ≤ 65536) (hz : z ≤ w.heap.size)
    (k : ∀ v' gb' w', Wz z w' v' gb' e size (n + 1) (xs ++ cs) → w.grownBy w' gb → (∀ b, gb' = some b → gb = some b ∨ w.heap.size ≤ b) → wpList P ops Q rest (a.put o.dst v') w') : wpList P ops Q (o :: rest) a w := by
  obtain ⟨i, hi, i1, i2, i3, i4⟩ := hi
  refine wpList_append_sl w hgd s y t ho e i zero size bytes ht hi i1 i2 i3 i4 v gb n xs hs h.1 ad 1 c cs hx (by rw [hcs, Nat.one_mul]) hn h1 (by decide) ?_ (by omega) ?_
  · have : (n + 1) * bytes ≤ 1048577 * 65536 := Nat.mul_le_mul (by omega) hb
    omega
  intro g p cap w' gb' k1 k2 k3 k4
  refine k _ gb' w' ⟨k1, fun b e => ?_⟩ k2 fun b e => ?_
  · rcases k4 with k4 | k4
    · exact h.2 b (k4 ▸ e)
    · rw [k3] at e; cases e; omega
  · rcases k4 with k4 | k4
    · exact .inl (k4 ▸ e)
    · rw [k3] at e; cases e; exact .inr k4
end
/-- The cells of a slice just built, for an append. -/
theorem built_cells (w : World) (cs : Array Value) (e : TypeId) : ∀ j u, cs.toList[j]? = some u → (w.alloc (.cells cs e)).cell? ((⟨w.heap.size, 0, none⟩ : Addr).add j) = some u := by
  intro j u hu
  rw [Addr.add_lit, Nat.zero_add]
  exact (Blk.new w cs e).cell (by rw [← Array.getElem?_toList]; exact hu)
end Go.Proofs.YtmkinnheoejphaaGreatDoor
