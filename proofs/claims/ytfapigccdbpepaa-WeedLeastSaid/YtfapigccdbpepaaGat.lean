/- Records, and batches, that a call gathers in a slice of its own, all of it behind z. -/
import Derived.Test.YtfapigccdbpepaaSRep
import Derived.Test.YtfapigccdbpepaaSlSet
import Derived.Test.YtfapigccdbpepaaWPlain
namespace Go.Proofs.Ytfapigccdbpepaa
open Go.RowKit

theorem Sl.empty (w : World) (e size : Nat) : Sl (w.alloc (.cells #[] e)) (.slice (some ⟨w.heap.size, 0, none⟩) 0 0) (some w.heap.size) e size 0 [] :=
  ⟨by simp, .inr ⟨w.heap.size, 0, 0, #[], rfl, rfl, heap_alloc_new w _, Nat.le_refl _, by simp, by simp⟩⟩
theorem infoBt' : (Try.prog.info? 42).map (fun i => (i.zero, i.size, i.bytes)) = some (some (.agg zeroB), 6, 64) := by kernel_rfl
theorem infoBt : ∃ i, Try.prog.info? 42 = some i ∧ i.zero = some (.agg zeroB) ∧ i.size = 6 ∧ i.bytes = 64 := by
  have h := infoBt'
  cases hi : Try.prog.info? 42 with
  | none => rw [hi] at h; cases h
  | some i =>
    rw [hi] at h
    simp only [Option.map_some, Option.some.injEq, Prod.mk.injEq] at h
    exact ⟨i, rfl, h.1, h.2.1, h.2.2⟩
/-- Records in a slice of the call's own. -/
def Wr (z : Nat) (v : Value) (gb : Option Nat) (ls : List Pl.Rc) (W : World) : Prop := Sl W v gb 44 4 ls.length (ls.flatMap cells4) ∧ ∀ b, gb = some b → z ≤ b
/-- Batches in a slice of the call's own. -/
def Wb (z : Nat) (v : Value) (gb : Option Nat) (L : List (Pl.Bt × Value)) (W : World) : Prop :=
  Sl W v gb 42 6 L.length (L.flatMap bc6) ∧ (∀ b, gb = some b → z ≤ b) ∧ All (fun b => z ≤ b ∧ gb ≠ some b) W L
section
variable {z : Nat} {v : Value} {gb : Option Nat} {ls : List Pl.Rc} {L : List (Pl.Bt × Value)} {W W' : World}
theorem Wr.nil (z : Nat) (w : World) : Wr z (.slice none 0 0) none [] w := ⟨Sl.nil w _ _, fun b e => by cases e⟩
theorem Wr.empty (w : World) {z : Nat} (hz : z ≤ w.heap.size) : Wr z (.slice (some ⟨w.heap.size, 0, none⟩) 0 0) (some w.heap.size) [] (w.alloc (.cells #[] 44)) :=
  ⟨Sl.empty w _ _, fun b e => by cases e; exact hz⟩
theorem Wr.below (h : Wr z v gb ls W) (b : Below W.heap.size W W') : Wr z v gb ls W' := ⟨h.1.below b, h.2⟩
theorem Wr.drewN (h : Wr z v gb ls W) (n : Nat) : Wr z v gb ls (W.drewN n) := h.below (below_drewN _ _)
theorem Wr.rc (h : Wr z v gb ls W) : RcIn (fun b => z ≤ b) W v ls := Rds.of_sl h.1 h.2
theorem Wr.form (h : Wr z v gb ls W) : ∃ a cap, v = .slice a ls.length cap := h.1.form
theorem Wr.lt (h : Wr z v gb ls W) : ∀ b, gb = some b → z ≤ b ∧ b < W.heap.size := fun b e => ⟨h.2 b e, h.1.lt b e⟩
/-- What lies elsewhere is written. -/
theorem Wr.kb {b : Nat} (h : Wr z v gb ls W) (k : Kb b W W') (hb : gb ≠ some b) : Wr z v gb ls W' := ⟨h.1.same fun c e => k.block c (h.1.lt c e) (fun e2 => hb (e2 ▸ e)), h.2⟩
theorem Wb.empty (w : World) {z : Nat} (hz : z ≤ w.heap.size) : Wb z (.slice (some ⟨w.heap.size, 0, none⟩) 0 0) (some w.heap.size) [] (w.alloc (.cells #[] 42)) :=
  ⟨Sl.empty w _ _, fun b e => (by cases e; exact hz), fun p hp => by cases hp⟩
theorem Wb.below (h : Wb z v gb L W) (b : Below W.heap.size W W') : Wb z v gb L W' := ⟨h.1.below b, h.2.1, h.2.2.below b⟩
theorem Wb.form (h : Wb z v gb L W) : ∃ a cap, v = .slice a L.length cap := h.1.form
theorem Wb.bt (h : Wb z v gb L W) : BtIn (fun b => z ≤ b) W v L := ⟨Rds.of_sl h.1 h.2.1, fun p hp => Rds.mono (h.2.2 p hp) fun _ k => k.1⟩
theorem Wb.lt (h : Wb z v gb L W) : ∀ b, gb = some b → z ≤ b ∧ b < W.heap.size := fun b e => ⟨h.2.1 b e, h.1.lt b e⟩
end
/-- What lay ahead of z is as it was behind an append to such a slice. -/
theorem Below.appended {z : Nat} {w0 w w' : World} {gb : Option Nat} (h : Below z w0 w) (hg : w.grownBy w' gb) (hgb : ∀ b, gb = some b → z ≤ b) (hz : z ≤ w.heap.size) : Below z w0 w' :=
  ⟨hg.os.trans h.os, hg.tape.trans h.tape, hg.output.trans h.output, Nat.le_trans h.size hg.size, fun k hk => (hg.block k (Nat.lt_of_lt_of_le hk hz) (fun e => by have := hgb k e.symm; omega)).trans (h.block k hk)⟩
theorem cells4_one (x : Pl.Rc) : ∀ u ∈ cells4 x, u.oneCell' = true := by
  intro u hu
  simp only [cells4, List.mem_cons, List.not_mem_nil, or_false] at hu
  rcases hu with rfl | rfl | rfl | rfl <;> rfl
section
variable {ops : Array Oper} {rest : List Oper} {o : Oper} {a : Act} {Q : Exit → Act → World → Prop} {w : World} {z : Nat} {v : Value} {gb : Option Nat}
/-- One record more. -/
theorem wp_add_rec {ls : List Pl.Rc} (hgd : o.guard = none) (s y : Operand) (ho : o.op = .call { callee := .builtin .append, args := #[s, y], argTypes := #[30, 30] })
    (hs : a.eval s = v) (h : Wr z v gb ls w) (ad : Addr) (c : Nat) (x : Pl.Rc) (hx : a.eval y = .slice (some ad) 1 c) (hn : ∀ j u, (cells4 x)[j]? = some u → w.cell? (ad.add j) = some u) (hl : ls.length ≤ 1099511627776) (hz : z ≤ w.heap.size)
    (k : ∀ v' gb' w', Wr z v' gb' (ls ++ [x]) w' → w.grownBy w' gb → wpList Try.prog ops Q rest (a.put o.dst v') w') : wpList Try.prog ops Q (o :: rest) a w := by
  obtain ⟨i, hi, h1, h2, h3⟩ := infoRec
  refine wpList_append_sl w hgd s y 30 ho 44 i (.agg zeroR) 4 48 Try.underlying30 hi h1 h2 h3 rfl v gb ls.length (ls.flatMap cells4) hs h.1 ad 1 c (cells4 x) hx rfl hn (cells4_one x) (by decide) (by omega) (by omega) ?_
  intro g p cap w' gb' k1 k2 k3 k4
  refine k _ gb' w' ⟨by rw [List.length_append, List.flatMap_append]; simpa using k1, fun b e => ?_⟩ k2
  rcases k4 with k4 | k4
  · exact h.2 b (k4 ▸ e)
  · rw [k3] at e; cases e; omega
/-- One batch more. -/
theorem wp_add_bt {L : List (Pl.Bt × Value)} (hgd : o.guard = none) (s y : Operand) (ho : o.op = .call { callee := .builtin .append, args := #[s, y], argTypes := #[22, 22] })
    (hs : a.eval s = v) (h : Wb z v gb L w) (ad : Addr) (c : Nat) (p : Pl.Bt × Value) (hx : a.eval y = .slice (some ad) 1 c) (hn : ∀ j u, (bc6 p)[j]? = some u → w.cell? (ad.add j) = some u) (h1c : p.2.oneCell' = true) (hp : RcIn (fun b => z ≤ b ∧ gb ≠ some b) w p.2 p.1.recs) (hl : L.length ≤ 1099511627776) (hz : z ≤ w.heap.size)
    (k : ∀ v' gb' w', Wb z v' gb' (L ++ [p]) w' → w.grownBy w' gb → wpList Try.prog ops Q rest (a.put o.dst v') w') : wpList Try.prog ops Q (o :: rest) a w := by
  obtain ⟨i, hi, h1, h2, h3⟩ := infoBt
  refine wpList_append_sl w hgd s y 22 ho 42 i (.agg zeroB) 6 64 Try.underlying22 hi h1 h2 h3 rfl v gb L.length (L.flatMap bc6) hs h.1 ad 1 c (bc6 p) hx rfl hn (fun u hu => ?_) (by decide) (by omega) (by omega) ?_
  · simp only [bc6, List.mem_cons, List.not_mem_nil, or_false] at hu
    rcases hu with rfl | rfl | rfl | rfl | rfl | rfl
    · rfl
    · rfl
    · rfl
    · rfl
    · rfl
    · exact h1c
  intro g q cap w' gb' k1 k2 k3 k4
  have hk : ∀ j, z ≤ j ∧ gb ≠ some j → j < w.heap.size → w'.heap[j]? = w.heap[j]? ∧ (z ≤ j ∧ gb' ≠ some j) := fun j hj hl => by
    refine ⟨k2.block j hl fun e => hj.2 e.symm, hj.1, fun e => ?_⟩
    rcases k4 with k4 | k4
    · exact hj.2 (k4 ▸ e)
    · rw [k3] at e; cases e; omega
  refine k _ gb' w' ⟨by rw [List.length_append, List.flatMap_append]; simpa using k1, fun b e => ?_, fun q hq => ?_⟩ k2
  · rcases k4 with k4 | k4
    · exact h.2.1 b (k4 ▸ e)
    · rw [k3] at e; cases e; omega
  · rcases List.mem_append.1 hq with hq | hq
    · exact Rds.keep (h.2.2 q hq) k2.size hk
    · obtain rfl := List.mem_singleton.1 hq
      exact Rds.keep hp k2.size hk
end
/-- What a thinning answers. -/
def ThinOut (w : World) (l : List Pl.Bt) (high now hor : Int) (e : Ending) (w' : World) : Prop :=
  Below w.heap.size w w' ∧ ∃ v' M, e = .returned v' ∧ BtIn (fun b => w.heap.size ≤ b) w' v' M ∧ M.map (·.1) = Wd.thin l high now hor
/-- What a fold answers. -/
def FoldOut (w : World) (l : List Pl.Bt) (upto : Int) (e : Ending) (w' : World) : Prop :=
  Below w.heap.size w w' ∧ ∃ v', e = .returned v' ∧ RcIn (fun b => w.heap.size ≤ b) w' v' (Wd.fold l upto)
end Go.Proofs.Ytfapigccdbpepaa
