import Derived.Test.YtdaoeplblkfapaaGreatDoorM02
import Derived.Laws.StructEq
import Derived.WalkLawsBesides
import Derived.Test.YtdaoeplblkfapaaGreatDoorM00
import Derived.StillTailTactics
import Derived.Deep.QuietTactic
import Derived.BigQuiet
import Derived.IntWalk

/- SLICES THAT ARE READ, and appends of what is read to slices that the call owns. Nothing here knows the program. -/
namespace Go.Proofs.YtdaoeplblkfapaaGreatDoor
open Go.RowKit

/-- A slice of m elements of so many cells that reads as these cells, in a block of which A holds. -/
def Rds (A : Nat → Prop) (w : World) (u : Value) (size m : Nat) (xs : List Value) : Prop :=
  xs.length = m * size ∧ ((u = .slice none 0 0 ∧ m = 0) ∨ ∃ ad cap, u = .slice (some ad) m cap ∧
    (0 < m → ∃ b p, ad = ⟨b, p, none⟩ ∧ A b ∧ b < w.heap.size ∧ ∀ j x, xs[j]? = some x → w.cell? ⟨b, p + j, none⟩ = some x))
section
variable {A A' : Nat → Prop} {w w' : World} {u : Value} {size m : Nat} {xs : List Value}
theorem Rds.form (h : Rds A w u size m xs) : ∃ a cap, u = .slice a m cap := by
  rcases h.2 with ⟨rfl, rfl⟩ | ⟨ad, cap, rfl, -⟩
  · exact ⟨_, _, rfl⟩
  · exact ⟨_, _, rfl⟩
theorem Rds.mono (h : Rds A w u size m xs) (k : ∀ b, A b → A' b) : Rds A' w u size m xs := by
  refine ⟨h.1, ?_⟩
  rcases h.2 with h2 | ⟨ad, cap, rfl, h2⟩
  · exact .inl h2
  · exact .inr ⟨ad, cap, rfl, fun h0 => let ⟨b, p, e, h3, h4⟩ := h2 h0; ⟨b, p, e, k b h3, h4⟩⟩
theorem Rds.keep (h : Rds A w u size m xs) (hs : w.heap.size ≤ w'.heap.size) (k : ∀ b, A b → b < w.heap.size → w'.heap[b]? = w.heap[b]? ∧ A' b) : Rds A' w' u size m xs := by
  refine ⟨h.1, ?_⟩
  rcases h.2 with h2 | ⟨ad, cap, rfl, h2⟩
  · exact .inl h2
  · refine .inr ⟨ad, cap, rfl, fun h0 => ?_⟩
    obtain ⟨b, p, e, h3, h4, h5⟩ := h2 h0
    obtain ⟨k1, k2⟩ := k b h3 h4
    exact ⟨b, p, e, k2, Nat.lt_of_lt_of_le h4 hs, fun j x hj => (World.cell?_of_block k1).trans (h5 j x hj)⟩
theorem Rds.below (h : Rds A w u size m xs) (hb : Below w.heap.size w w') : Rds A w' u size m xs := h.keep hb.size fun b ha hl => ⟨hb.block b hl, ha⟩
theorem Rds.moved {B B' : Nat → Prop} (h : Rds (fun b => ¬ B b) w u size m xs) (k : Moved B B' w w') : Rds (fun b => ¬ B' b) w' u size m xs :=
  h.keep k.size fun b hb hl => ⟨k.block b hl hb, fun h' => by rcases k.new b h' with h1 | h1; exact hb h1; omega⟩
theorem Rds.at (h : Rds A w u size m xs) (h0 : 0 < m) : ∃ b p cap, u = .slice (some ⟨b, p, none⟩) m cap ∧ A b ∧ b < w.heap.size ∧ ∀ j x, xs[j]? = some x → w.cell? ⟨b, p + j, none⟩ = some x := by
  rcases h.2 with ⟨_, h2⟩ | ⟨ad, cap, rfl, h2⟩
  · omega
  · obtain ⟨b, p, rfl, h3⟩ := h2 h0
    exact ⟨b, p, cap, rfl, h3⟩
theorem Rds.nil (A : Nat → Prop) (w : World) (size : Nat) : Rds A w (.slice none 0 0) size 0 [] := ⟨by simp, .inl ⟨rfl, rfl⟩⟩
theorem Rds.empty (A : Nat → Prop) (w : World) (size : Nat) (ad : Addr) (cap : Nat) : Rds A w (.slice (some ad) 0 cap) size 0 [] := ⟨by simp, .inr ⟨ad, cap, rfl, fun h => absurd h (Nat.lt_irrefl _)⟩⟩
theorem Rds.of_sl {gb : Option Nat} {e : Nat} (h : Sl w u gb e size m xs) (k : ∀ b, gb = some b → A b) : Rds A w u size m xs := by
  refine ⟨h.1, ?_⟩
  rcases h.2 with ⟨rfl, -, rfl⟩ | ⟨g, p, cap, cur, rfl, rfl, hg, -⟩
  · exact .inl ⟨rfl, rfl⟩
  · exact .inr ⟨_, cap, rfl, fun _ => ⟨g, p, rfl, k g rfl, h.lt g rfl, fun j x hj => h.cell rfl j x hj⟩⟩
end
/-- A slice that the call has made reads so; it is the call's own. -/
theorem Sl.of_own {w : World} {base e size n : Nat} {v : Value} {xs : List Value} (h : w.ownsRow base e size v n xs) : Sl w v v.ownBlock e size n xs := by
  obtain ⟨h1, h2⟩ := h
  refine ⟨h1, ?_⟩
  rcases h2 with ⟨rfl, rfl⟩ | ⟨g, cap, cur, rfl, _, hg, hn, _, hs, ht⟩
  · exact .inl ⟨rfl, rfl, rfl⟩
  · exact .inr ⟨g, 0, cap, cur, rfl, rfl, hg, hn, by rw [hs]; omega, by simpa using ht⟩
theorem Sl.form {w : World} {v : Value} {gb : Option Nat} {e size n : Nat} {xs : List Value} (h : Sl w v gb e size n xs) : ∃ a cap, v = .slice a n cap := by
  rcases h.2 with ⟨rfl, _, rfl⟩ | ⟨g, p, cap, cur, _, rfl, _⟩
  · exact ⟨_, _, rfl⟩
  · exact ⟨_, _, rfl⟩
theorem Sl.nil (w : World) (e size : Nat) : Sl w (.slice none 0 0) none e size 0 [] := ⟨by simp, .inl ⟨rfl, rfl, rfl⟩⟩
theorem Sl.made (w : World) (e size : Nat) : Sl (w.alloc (.cells #[] e)) (.slice (some ⟨w.heap.size, 0, none⟩) 0 0) (some w.heap.size) e size 0 [] :=
  ⟨by simp, .inr ⟨w.heap.size, 0, 0, #[], rfl, rfl, heap_alloc_new w _, Nat.le_refl _, by simp, by simp⟩⟩
theorem Sl.keep {w w' : World} {v : Value} {gb : Option Nat} {e size n : Nat} {xs : List Value} {B B' : Nat → Prop} (h : Sl w v gb e size n xs) (k : Moved B B' w w') (hn : ∀ b, gb = some b → ¬ B b) : Sl w' v gb e size n xs ∧ ∀ b, gb = some b → ¬ B' b :=
  ⟨h.same fun b hb => k.block b (h.lt b hb) (hn b hb), fun b hb h' => by have := h.lt b hb; rcases k.new b h' with h1 | h1; exact hn b hb h1; omega⟩

section
variable {P : Program} {w : World}
theorem run_append_sl_nil (t ty e : TypeId) (i : TypeInfo) (size : Nat) (ht : P.underlying t = some (.slice e)) (hi : P.info? e = some i)
    (v : Value) (gb : Option Nat) (n : Nat) (xs : List Value) (hown : Sl w v gb e size n xs) :
    (Builtin.append_ #[t, t] ty #[v, .slice none 0 0]).run P w = .ok v w := by
  rcases hown.2 with ⟨rfl, _⟩ | ⟨g, p, cap, cur, _, rfl, _, hnc, _⟩
  · simp [Builtin.append_, run_underlying ht, sizeOf, typeInfo, hi, Builtin.lenOf, Builtin.firstCells]
  · simp [Builtin.append_, run_underlying ht, sizeOf, typeInfo, hi, Builtin.lenOf, Builtin.firstCells, hnc, storeCells]
theorem run_append_sl_zero (t ty e : TypeId) (i : TypeInfo) (size : Nat) (ht : P.underlying t = some (.slice e)) (hi : P.info? e = some i)
    (v : Value) (gb : Option Nat) (n : Nat) (xs : List Value) (hown : Sl w v gb e size n xs) (ad : Addr) (c : Nat) :
    (Builtin.append_ #[t, t] ty #[v, .slice (some ad) 0 c]).run P w = .ok v w := by
  rcases hown.2 with ⟨rfl, _⟩ | ⟨g, p, cap, cur, _, rfl, _, hnc, _⟩
  · simp [Builtin.append_, run_underlying ht, sizeOf, typeInfo, hi, Builtin.lenOf, Builtin.firstCells, loadCells, loadCellsFrom]
  · simp [Builtin.append_, run_underlying ht, sizeOf, typeInfo, hi, Builtin.lenOf, Builtin.firstCells, loadCells, loadCellsFrom, hnc, storeCells]
/-- An append of what is read to a slice that the call owns. -/
theorem run_append_rd {A : Nat → Prop} (t ty e : TypeId) (i : TypeInfo) (z : Value) (size bytes : Nat) (ht : P.underlying t = some (.slice e)) (hi : P.info? e = some i) (hz : i.zero = some z)
    (hsize : i.size = size) (hby : i.bytes = bytes) (hzs : z.cells.size = size)
    (v : Value) (gb : Option Nat) (n : Nat) (xs : List Value) (hown : Sl w v gb e size n xs)
    (u : Value) (m : Nat) (news : List Value) (hsrc : Rds A w u size m news) (h1 : ∀ u ∈ news, u.oneCell' = true)
    (hbytes : (n + m) * bytes ≤ 140737488355328) (hsmall : n + m ≤ 9223372036854775807) :
    ∃ v' w' gb', (Builtin.append_ #[t, t] ty #[v, u]).run P w = .ok v' w' ∧ Sl w' v' gb' e size (n + m) (xs ++ news) ∧ w.grownBy w' gb ∧ (gb' = gb ∨ ∃ g, gb' = some g ∧ w.heap.size ≤ g) ∧ (0 < m → gb' ≠ none) := by
  have hrefl : w.grownBy w gb := ⟨rfl, rfl, rfl, Nat.le_refl _, fun _ _ _ => rfl⟩
  have zero : m = 0 → Sl w v gb e size (n + m) (xs ++ news) := fun h => by
    subst h
    have : news = [] := List.eq_nil_of_length_eq_zero (by simpa using hsrc.1)
    subst this
    simpa using hown
  rcases hsrc.2 with ⟨rfl, hm⟩ | ⟨ad, cap, rfl, hc⟩
  · exact ⟨v, w, gb, run_append_sl_nil t ty e i size ht hi v gb n xs hown, zero hm, hrefl, .inl rfl, fun h => absurd hm (by omega)⟩
  · rcases Nat.eq_zero_or_pos m with hm | hm
    · refine ⟨v, w, gb, ?_, zero hm, hrefl, .inl rfl, fun h => absurd hm (by omega)⟩
      subst hm
      exact run_append_sl_zero t ty e i size ht hi v gb n xs hown ad cap
    · obtain ⟨b, p, rfl, _, _, h5⟩ := hc hm
      obtain ⟨g, p', cap', w', gb', hr, h2, h3, h4, h6⟩ := run_append_sl (P := P) w t ty e i z size bytes ht hi hz hsize hby hzs v gb n xs hown ⟨b, p, none⟩ m cap news hsrc.1 (fun j x hj => by rw [Addr.add_lit]; exact h5 j x hj) h1 hm hbytes hsmall
      exact ⟨_, w', gb', hr, h2, h3, h6.imp id fun h => ⟨g, h4, h⟩, fun _ => by rw [h4]; simp⟩
theorem wpList_append_rd {A : Nat → Prop} {ops : Array Oper} {rest : List Oper} {o : Oper} {a : Act} {Q : Exit → Act → World → Prop} (hgd : o.guard = none) (s x : Operand) (t : TypeId)
    (ho : o.op = .call { callee := .builtin .append, args := #[s, x], argTypes := #[t, t] })
    (e : TypeId) (i : TypeInfo) (z : Value) (size bytes : Nat) (ht : P.underlying t = some (.slice e)) (hi : P.info? e = some i) (hz : i.zero = some z)
    (hsize : i.size = size) (hby : i.bytes = bytes) (hzs : z.cells.size = size)
    (v : Value) (gb : Option Nat) (n : Nat) (xs : List Value) (hs : a.eval s = v) (hown : Sl w v gb e size n xs)
    (u : Value) (m : Nat) (news : List Value) (hx : a.eval x = u) (hsrc : Rds A w u size m news) (h1 : ∀ u ∈ news, u.oneCell' = true)
    (hbytes : (n + m) * bytes ≤ 140737488355328) (hsmall : n + m ≤ 9223372036854775807)
    (h : ∀ v' w' gb', Sl w' v' gb' e size (n + m) (xs ++ news) → w.grownBy w' gb → (gb' = gb ∨ ∃ g, gb' = some g ∧ w.heap.size ≤ g) → wpList P ops Q rest (a.put o.dst v') w') : wpList P ops Q (o :: rest) a w := by
  refine wpList_plain hgd fun K hK => ?_
  obtain ⟨v', w', gb', hr, h2, h3, h4, _⟩ := run_append_rd (P := P) (w := w) t o.type e i z size bytes ht hi hz hsize hby hzs v gb n xs hown u m news hsrc h1 hbytes hsmall
  unfold Oper.wp execOp
  simp only [ho, resolve, invoke, builtin, Sem.run_bind, Sem.run_pure, Result.andThen_ok, List.map_toArray, List.map_cons, List.map_nil, hs, hx, hr]
  exact hK _ _ (h v' w' gb' h2 h3 h4)
theorem step_append_rd {A : Nat → Prop} {ops : Array Oper} {o : Oper} {a : Act} {K : Act → World → Prop} {Q : Exit → Act → World → Prop} {E : Prop} (hgd : o.guard = none) (s x : Operand) (t : TypeId)
    (ho : o.op = .call { callee := .builtin .append, args := #[s, x], argTypes := #[t, t] })
    (e : TypeId) (i : TypeInfo) (z : Value) (size bytes : Nat) (ht : P.underlying t = some (.slice e)) (hi : P.info? e = some i) (hz : i.zero = some z)
    (hsize : i.size = size) (hby : i.bytes = bytes) (hzs : z.cells.size = size)
    (v : Value) (gb : Option Nat) (n : Nat) (xs : List Value) (hs : a.eval s = v) (hown : Sl w v gb e size n xs)
    (u : Value) (m : Nat) (news : List Value) (hx : a.eval x = u) (hsrc : Rds A w u size m news) (h1 : ∀ u ∈ news, u.oneCell' = true)
    (hbytes : (n + m) * bytes ≤ 140737488355328) (hsmall : n + m ≤ 9223372036854775807)
    (h : ∀ v' w' gb', Sl w' v' gb' e size (n + m) (xs ++ news) → w.grownBy w' gb → (gb' = gb ∨ ∃ g, gb' = some g ∧ w.heap.size ≤ g) → K (a.put o.dst v') w') :
    if Region.wanted o (yielded ops a.tmps) = true then Oper.wp P o a w K Q else E := by
  have hw : Region.wanted o (yielded ops a.tmps) = true := by simp [Region.wanted, hgd]
  rw [if_pos hw]
  obtain ⟨v', w', gb', hr, h2, h3, h4, _⟩ := run_append_rd (P := P) (w := w) t o.type e i z size bytes ht hi hz hsize hby hzs v gb n xs hown u m news hsrc h1 hbytes hsmall
  unfold Oper.wp execOp
  simp only [ho, resolve, invoke, builtin, Sem.run_bind, Sem.run_pure, Result.andThen_ok, List.map_toArray, List.map_cons, List.map_nil, hs, hx, hr]
  exact h v' w' gb' h2 h3 h4
end

/-- Elements of so many cells each: where an element's cells stand. -/
theorem flat_at {α : Type} (c : α → List Value) (k : Nat) (hk : ∀ x, (c x).length = k) : ∀ (l : List α) (j : Nat) (x : α), l[j]? = some x → ∀ i, i < k → (l.flatMap c)[j * k + i]? = (c x)[i]?
  | [], j, x, h, _, _ => by simp at h
  | y :: l, 0, x, h, i, hi => by
    simp at h
    subst h
    rw [List.flatMap_cons, Nat.zero_mul, Nat.zero_add, List.getElem?_append_left (by rw [hk]; exact hi)]
  | y :: l, j + 1, x, h, i, hi => by
    simp at h
    rw [List.flatMap_cons, List.getElem?_append_right (by rw [hk, Nat.add_mul]; omega), hk, ← flat_at c k hk l j x h i hi]
    congr 1
    rw [Nat.add_mul]
    omega
theorem flat_length {α : Type} (c : α → List Value) (k : Nat) (hk : ∀ x, (c x).length = k) (l : List α) : (l.flatMap c).length = l.length * k := by
  induction l with
  | nil => simp
  | cons y l ih => rw [List.flatMap_cons, List.length_append, ih, hk, List.length_cons, Nat.add_mul]; omega
theorem flat_one {α : Type} (c : α → List Value) (h : ∀ x, ∀ u ∈ c x, u.oneCell' = true) (l : List α) : ∀ u ∈ l.flatMap c, u.oneCell' = true := by
  intro u hu
  obtain ⟨x, -, hx⟩ := List.mem_flatMap.1 hu
  exact h x u hx
theorem flat_take {α : Type} (c : α → List Value) (k : Nat) (hk : ∀ x, (c x).length = k) : ∀ (l : List α) (n : Nat), (l.flatMap c).take (n * k) = (l.take n).flatMap c
  | [], n => by simp
  | y :: l, 0 => by simp
  | y :: l, n + 1 => by
    rw [List.flatMap_cons, List.take_succ_cons, List.flatMap_cons, ← flat_take c k hk l n, List.take_append, hk, List.take_of_length_le (by rw [hk, Nat.add_mul]; omega)]
    congr 2
    rw [Nat.add_mul]
    omega
theorem flat_drop {α : Type} (c : α → List Value) (k : Nat) (hk : ∀ x, (c x).length = k) : ∀ (l : List α) (n : Nat), (l.flatMap c).drop (n * k) = (l.drop n).flatMap c
  | [], n => by simp
  | y :: l, 0 => by simp
  | y :: l, n + 1 => by
    rw [List.flatMap_cons, List.drop_succ_cons, ← flat_drop c k hk l n, List.drop_append, hk, List.drop_of_length_le (by rw [hk, Nat.add_mul]; omega), List.nil_append]
    congr 1
    rw [Nat.add_mul]
    omega
end Go.Proofs.YtdaoeplblkfapaaGreatDoor

/- When batches are the same; records compared. -/
namespace Go.Proofs.YtdaoeplblkfapaaGreatDoor
open Go.RowKit

def Pl.eqR (x y : Pl.Rc) : Bool := x.off == y.off && x.key == y.key && x.val == y.val && x.gone == y.gone
def Pl.eqRs : List Pl.Rc → List Pl.Rc → Bool
  | [], [] => true
  | x :: l, y :: m => Pl.eqR x y && Pl.eqRs l m
  | _, _ => false
def Pl.sameB (a b : Pl.Bt) : Bool := a.base == b.base && a.count == b.count && a.prod == b.prod && a.seq == b.seq && a.time == b.time && (a.recs.length == b.recs.length) && Pl.eqRs a.recs b.recs
theorem Pl.eqR_iff {x y : Pl.Rc} : Pl.eqR x y = true ↔ x = y := by
  obtain ⟨a, b, c, d⟩ := x
  obtain ⟨a', b', c', d'⟩ := y
  simp only [Pl.eqR, Bool.and_eq_true, beq_iff_eq, Pl.Rc.mk.injEq, and_assoc]
theorem Pl.eqRs_iff : ∀ {l m : List Pl.Rc}, Pl.eqRs l m = true ↔ l = m
  | [], [] => by simp [Pl.eqRs]
  | [], _ :: _ => by simp [Pl.eqRs]
  | _ :: _, [] => by simp [Pl.eqRs]
  | x :: l, y :: m => by simp only [Pl.eqRs, Bool.and_eq_true, Pl.eqR_iff, Pl.eqRs_iff, List.cons.injEq]
theorem Pl.sameB_iff {a b : Pl.Bt} : Pl.sameB a b = true ↔ a = b := by
  obtain ⟨a1, a2, a3, a4, a5, a6⟩ := a
  obtain ⟨b1, b2, b3, b4, b5, b6⟩ := b
  simp only [Pl.sameB, Bool.and_eq_true, beq_iff_eq, Pl.eqRs_iff, Pl.Bt.mk.injEq]
  constructor
  · rintro ⟨⟨⟨⟨⟨⟨h1, h2⟩, h3⟩, h4⟩, h5⟩, -⟩, h6⟩; exact ⟨h1, h2, h3, h4, h5, h6⟩
  · rintro ⟨h1, h2, h3, h4, h5, h6⟩; exact ⟨⟨⟨⟨⟨⟨h1, h2⟩, h3⟩, h4⟩, h5⟩, by rw [h6]⟩, h6⟩

theorem rec_guard : Tryz.prog.eqGuardType Tryz.prog.depth 75 = false := by kernel_rfl
theorem rec_held : Tryz.prog.stoodInHeld 75 = false := by kernel_rfl
theorem rec_under : Tryz.prog.underlying 75 = some (.struct (Tryz.prog.fieldsOf 75)) := by kernel_rfl
set_option maxRecDepth 100000 in
theorem rec_neq (o o' : Int) (K K' V V' : ByteArray) (g g' : Bool) (wx : World) :
    (binOp .neq 75 (.agg #[.int .i64 o, .string K, .string V, .bool g]) (.agg #[.int .i64 o', .string K', .string V', .bool g'])).run Tryz.prog wx = .ok (.bool (!(o == o' && (K.toList == K'.toList && (V.toList == V'.toList && g == g'))))) wx := by
  rw [run_neq_struct, show (10000 : Nat) = 9999 + 1 from rfl, run_equalIn_struct wx 9999 _ _ _ rec_under rec_held]
  go_simp
  by_cases h1 : o = o' <;> by_cases h2 : K.toList = K'.toList <;> by_cases h3 : V.toList = V'.toList <;> by_cases h4 : g = g' <;> simp [h1, h2, h3, h4]
theorem rec_differ {x y : Pl.Rc} (h : (!x.off == y.off) = true ∨ (!x.key == y.key) = true ∨ (!x.val == y.val) = true ∨ (!x.gone == y.gone) = true) : Pl.eqR x y = false := by
  unfold Pl.eqR
  simp only [Bool.not_eq_true'] at h
  rcases h with h | h | h | h <;> simp [h]
theorem rec_agree {x y : Pl.Rc} (h : (!x.off == y.off) = false ∧ (!x.key == y.key) = false ∧ (!x.val == y.val) = false ∧ (!x.gone == y.gone) = false) : Pl.eqR x y = true := by
  unfold Pl.eqR
  simp only [Bool.not_eq_false'] at h
  obtain ⟨h1, h2, h3, h4⟩ := h
  rw [h1, h2, h3, h4]
  rfl
end Go.Proofs.YtdaoeplblkfapaaGreatDoor

/- PLAIN MATHEMATICS: a batch's conditions in the order in which the program asks them. -/
namespace Go.Proofs.YtdaoeplblkfapaaGreatDoor.Pl
open Go.Lib

def placedB : List Rc → Int → Int → Bool
  | [], _, _ => true
  | x :: l, next, hi => decide (next ≤ x.off ∧ x.off < hi) && placedB l (x.off + 1) hi
def anyBad (l : List Rc) : Bool := l.any fun x => !recB x
def headB (b : Bt) : Bool := numB b.base && decide (1 ≤ b.count ∧ b.count ≤ 8) && numB b.prod && numB b.seq && numB b.time
theorem anyBad_cons (x : Rc) (l : List Rc) : anyBad (x :: l) = (!recB x || anyBad l) := rfl
theorem placedB_cons (x : Rc) (l : List Rc) (next hi : Int) : placedB (x :: l) next hi = (decide (next ≤ x.off ∧ x.off < hi) && placedB l (x.off + 1) hi) := rfl
theorem rise_placed : ∀ (l : List Rc) (next hi : Int), riseB l (next - 1) hi = (placedB l next hi && !anyBad l)
  | [], _, _ => rfl
  | x :: l, next, hi => by
    have ih := rise_placed l (x.off + 1) hi
    rw [show x.off + 1 - 1 = x.off by omega] at ih
    rw [placedB_cons, anyBad_cons]
    simp only [riseB]
    rw [ih, show decide (next - 1 < x.off ∧ x.off < hi) = decide (next ≤ x.off ∧ x.off < hi) from decide_eq_decide.2 (by omega)]
    cases recB x <;> cases decide (next ≤ x.off ∧ x.off < hi) <;> cases placedB l (x.off + 1) hi <;> cases anyBad l <;> rfl
theorem placed_len : ∀ (l : List Rc) (next hi : Int), placedB l next hi = true → next ≤ hi → (l.length : Int) ≤ hi - next
  | [], _, _, _, h => by simp; omega
  | x :: l, next, hi, h, _ => by
    rw [placedB_cons, Bool.and_eq_true, decide_eq_true_iff] at h
    have := placed_len l (x.off + 1) hi h.2 (by omega)
    simp only [List.length_cons]
    omega
theorem good_eq (b : Bt) : goodB b = (headB b && decide (b.base + b.count ≤ 1099511627776) && placedB b.recs b.base (b.base + b.count) && !anyBad b.recs) := by
  have hr := rise_placed b.recs b.base (b.base + b.count)
  rw [Bool.eq_iff_iff, goodB_iff, hr]
  simp only [headB, Bool.and_eq_true, decide_eq_true_iff, numB_iff]
  constructor
  · rintro ⟨h1, h2, h3, h4, h5, h6, h7⟩
    exact ⟨⟨⟨⟨⟨⟨⟨h1, h2.1, h2.2.1⟩, h3⟩, h4⟩, h5⟩, by omega⟩, h7.1⟩, h7.2⟩
  · rintro ⟨⟨⟨⟨⟨⟨⟨h1, h2⟩, h3⟩, h4⟩, h5⟩, h6⟩, h7⟩, h8⟩
    have := placed_len _ _ _ h7 (by omega)
    exact ⟨h1, ⟨h2.1, h2.2, by omega⟩, h3, h4, h5, by omega, h7, h8⟩
theorem fits_eq (l : List Rc) : fitsB l = (decide (0 < l.length) && decide (l.length ≤ 8) && !anyBad l) := by
  unfold fitsB anyBad
  rw [show (!l.any fun x => !recB x) = l.all recB by rw [List.any_eq_not_all_not]; simp]
  rw [Bool.decide_and]
  rfl
def loN : List Int := [0, 1, 0, 0, 0]
def hiN : List Int := [1099511627776, 8, 1099511627776, 1099511627776, 1099511627776]
def nums (b : Bt) : List Int := [b.base, b.count, b.prod, b.seq, b.time]
theorem head_iff (b : Bt) : headB b = true ↔ ∀ j z, (nums b)[j]? = some z → loN.getD j 0 ≤ z ∧ z ≤ hiN.getD j 0 := by
  simp only [headB, Bool.and_eq_true, decide_eq_true_iff, numB_iff]
  constructor
  · rintro ⟨⟨⟨⟨h0, h1⟩, h2⟩, h3⟩, h4⟩ j z hj
    match j, hj with
    | 0, hj => obtain rfl := Option.some.inj hj; exact h0
    | 1, hj => obtain rfl := Option.some.inj hj; exact h1
    | 2, hj => obtain rfl := Option.some.inj hj; exact h2
    | 3, hj => obtain rfl := Option.some.inj hj; exact h3
    | 4, hj => obtain rfl := Option.some.inj hj; exact h4
    | j + 5, hj => simp [nums] at hj
  · intro h
    exact ⟨⟨⟨⟨h 0 _ rfl, h 1 _ rfl⟩, h 2 _ rfl⟩, h 3 _ rfl⟩, h 4 _ rfl⟩
def renum : List Rc → Int → List Rc
  | [], _ => []
  | x :: l, o => { x with off := o } :: renum l (o + 1)
theorem renum_at : ∀ (l : List Rc) (o : Int) (j : Nat), (renum l o)[j]? = l[j]?.map fun x => { x with off := o + j }
  | [], _, _ => by simp [renum]
  | x :: l, o, 0 => by simp [renum]
  | x :: l, o, j + 1 => by
    simp only [renum, List.getElem?_cons_succ]
    rw [renum_at l (o + 1) j]
    congr 1
    funext y
    rw [show o + 1 + (j : Int) = o + ((j + 1 : Nat) : Int) by omega]
theorem renum_length (l : List Rc) (o : Int) : (renum l o).length = l.length := by
  induction l generalizing o with
  | nil => rfl
  | cons x l ih => simp only [renum, List.length_cons, ih]
/-- What Pack answers. -/
def packB (l : List Rc) (base prod seq time : Int) : Option Bt :=
  if fitsB l = true ∧ goodB ⟨base, l.length, prod, seq, time, renum l base⟩ = true then some ⟨base, l.length, prod, seq, time, renum l base⟩ else none
end Go.Proofs.YtdaoeplblkfapaaGreatDoor.Pl

/- THE CONTRACTS OF crate.numbers, spoilt, slices.IndexFunc and ContainsFunc at it, placed. -/
namespace Go.Proofs.YtdaoeplblkfapaaGreatDoor
open Go.RowKit

def five (b : Nat) : Array Value := #[.pointer (some ⟨b, 0, none⟩), .pointer (some ⟨b, 1, none⟩), .pointer (some ⟨b, 2, none⟩), .pointer (some ⟨b, 3, none⟩), .pointer (some ⟨b, 4, none⟩)]
set_option maxHeartbeats 400000 in
set_option maxRecDepth 100000 in
theorem dnumbers (b : Nat) (w : World) :
    Calls Tryz.prog 118 #[.pointer (some ⟨b, 0, none⟩)] w fun e w' => e = .returned (.slice (some ⟨w.heap.size, 0, none⟩) 5 5) ∧ Blk w' w.heap.size (five b) 151 ∧ Below w.heap.size w w' := by
  go_enter Tryz.func118, Tryz.ntmps118
  go_wp2
  go_still_tail 15, (by kernel_rfl)
  change wpList _ _ _ _ _ w.drew
  obtain ⟨w2, hw2⟩ : ∃ w2, w.drew = w2 := ⟨_, rfl⟩
  have hs : w2.heap.size = w.heap.size := by rw [← hw2]; rfl
  have hb : Below w.heap.size w w2 := by rw [← hw2]; exact (Below.refl _ _).drew
  rw [hw2]
  clear hw2
  go_wp2
  go_ret
  rw [← hs]
  exact ⟨rfl, Blk.new _ _ _, (hs ▸ hb).alloc (Nat.le_refl _) _⟩

set_option maxHeartbeats 400000 in
theorem dspoilt (x : Pl.Rc) (w : World) :
    Calls Tryz.prog 121 #[.agg #[.int .i64 x.off, .string ⟨x.key.toArray⟩, .string ⟨x.val.toArray⟩, .bool x.gone]] w fun e w' => e = .returned (.bool (!Pl.recB x)) ∧ Below w.heap.size w w' := by
  obtain ⟨o, k, v, g⟩ := x
  obtain ⟨K, hK⟩ : ∃ K : ByteArray, (⟨k.toArray⟩ : ByteArray) = K := ⟨_, rfl⟩
  obtain ⟨V, hV⟩ : ∃ V : ByteArray, (⟨v.toArray⟩ : ByteArray) = V := ⟨_, rfl⟩
  show Calls _ _ #[.agg #[.int .i64 o, .string ⟨k.toArray⟩, .string ⟨v.toArray⟩, .bool g]] w _
  rw [hK, hV]
  have hks : k.length = K.size := by rw [← hK]; show _ = k.toArray.size; simp
  have hvs : v.length = V.size := by rw [← hV]; show _ = v.toArray.size; simp
  have hve : v.isEmpty = V.toList.isEmpty := by rw [ByteArray.toList_eq, ← hV]
  obtain ⟨r, hr⟩ : ∃ r, Pl.recB ⟨o, k, v, g⟩ = r := ⟨_, rfl⟩
  rw [hr]
  have hr2 : r = (decide (K.size ≤ 16 ∧ V.size ≤ 64) && (!g || V.toList.isEmpty)) := by rw [← hr, ← hks, ← hvs, ← hve]; rfl
  rw [hr2]
  clear hr hr2 hks hvs hve hK hV
  by_cases h1 : K.size ≤ 16
  · by_cases h2 : V.size ≤ 64
    · cases g with
      | false =>
        go_enter Tryz.func121, Tryz.ntmps121
        go_wp2
        go_ret
        exact ⟨congrArg (fun b => Ending.returned (.bool b)) (by simp [h1, h2]; exact ⟨by assumption, by assumption⟩), (Below.refl _ _).alloc (Nat.le_refl _) _⟩
      | true =>
        go_enter Tryz.func121, Tryz.ntmps121
        go_wp2
        go_ret
        exact ⟨congrArg (fun b => Ending.returned (.bool b)) (by simp [h1, h2]; omega), (Below.refl _ _).alloc (Nat.le_refl _) _⟩
    · have h3 : decide (V.size ≤ 64) = false := decide_eq_false h2
      go_enter Tryz.func121, Tryz.ntmps121
      go_wp2
      go_ret
      exact ⟨congrArg (fun b => Ending.returned (.bool b)) (by simp), (Below.refl _ _).alloc (Nat.le_refl _) _⟩
  · have h3 : decide (K.size ≤ 16) = false := decide_eq_false h1
    go_enter Tryz.func121, Tryz.ntmps121
    go_wp2
    go_ret
    exact ⟨congrArg (fun b => Ending.returned (.bool b)) (by simp), (Below.refl _ _).alloc (Nat.le_refl _) _⟩

theorem anyBad_take (ls : List Pl.Rc) (k : Nat) (x : Pl.Rc) (h : ls[k]? = some x) : Pl.anyBad (ls.take (k + 1)) = (Pl.anyBad (ls.take k) || !Pl.recB x) := by
  unfold Pl.anyBad
  rw [List.take_add_one, h, List.any_append]
  simp
theorem anyBad_mem (ls : List Pl.Rc) (k : Nat) (x : Pl.Rc) (h : ls[k]? = some x) (hx : Pl.recB x = false) : Pl.anyBad ls = true :=
  List.any_eq_true.2 ⟨x, List.mem_of_getElem? h, by rw [hx]; rfl⟩

set_option maxHeartbeats 400000 in
theorem dindex (v : Value) (ls : List Pl.Rc) (w : World) (h : Recs v ls w) (hl : ls.length ≤ 1099511627776) :
    Calls Tryz.prog 156 #[v, .func (.func 121) #[] #[]] w fun e w' => (∃ i : Int, e = .returned (.int .i64 i) ∧ (decide (0 ≤ i) = Pl.anyBad ls)) ∧ Below w.heap.size w w' := by
  obtain ⟨a, cap, rfl, hc⟩ := h
  obtain ⟨m, hm⟩ : ∃ m, ls.length = m := ⟨_, rfl⟩
  rw [hm] at hl ⊢
  have HM := Lib.hid hm
  have HC := Lib.hid hc
  clear hm hc
  go_enter Tryz.func156, Tryz.ntmps156
  go_wp2_with fail
  go_loopw [8] (fun iv wr => ∃ k : Nat, k ≤ m ∧ iv = .int .i64 k ∧ Pl.anyBad (ls.take k) = false ∧ Below w.heap.size w wr) (fun iv _ => m - (intOf iv).toNat)
  case atStart => exact ⟨0, Nat.zero_le _, rfl, rfl, Below.refl _ _⟩
  case round =>
    obtain ⟨k, hk, rfl, hall, hb⟩ := hrel
    have HA := Lib.hid hall
    have HB := Lib.hid hb
    clear hall hb
    by_cases hlt : k < m
    · obtain ⟨x, hg⟩ : ∃ x, ls[k]? = some x := ⟨_, List.getElem?_eq_getElem (by rw [HM.out]; exact hlt)⟩
      obtain ⟨b, off, rfl, hbl, c0, c1, c2, c3⟩ := HC.out k x hg
      have e : ∀ o, wr.cell? ⟨b, o, none⟩ = w.cell? ⟨b, o, none⟩ := fun o => HB.out.cell (p := ⟨b, o, none⟩) hbl
      rw [← e] at c0 c1 c2 c3
      have HG := Lib.hid hg
      have HRR := Lib.hid (dspoilt x wr)
      clear e hg hbl
      have hbw := HB.out.size
      cases hx : Pl.recB x with
      | true =>
        rw [hx] at HRR
        have HX := Lib.hid hx
        clear hx
        go_wp2_with fail
        refine HRR.out.mono ?_
        rintro e w1 ⟨rfl, b1⟩
        have HB1 := Lib.hid (HB.out.trans (b1.mono hbw))
        clear b1
        go_wp2_with fail
        go_roundw
        case rel => exact ⟨k + 1, by omega, by go_num, by rw [anyBad_take _ _ _ HG.out, HA.out, HX.out]; rfl, HB1.out⟩
        case measure => simp [intOf]; omega
      | false =>
        rw [hx] at HRR
        have HX := Lib.hid hx
        clear hx
        go_wp2_with fail
        refine HRR.out.mono ?_
        rintro e w1 ⟨rfl, b1⟩
        have HB1 := Lib.hid (HB.out.trans (b1.mono hbw))
        clear b1
        go_wp2_with fail
        go_ret
        exact ⟨⟨_, rfl, by rw [anyBad_mem _ _ _ HG.out HX.out]; exact decide_eq_true (by omega)⟩, HB1.out⟩
    · go_wp2_with fail
      go_ret
      have h := HA.out
      rw [List.take_of_length_le (by rw [HM.out]; omega)] at h
      exact ⟨⟨_, rfl, by rw [h]; rfl⟩, HB.out⟩

set_option maxHeartbeats 400000 in
theorem dcontains (v : Value) (ls : List Pl.Rc) (w : World) (h : Recs v ls w) (hl : ls.length ≤ 1099511627776) :
    Calls Tryz.prog 120 #[v, .func (.func 121) #[] #[]] w fun e w' => e = .returned (.bool (Pl.anyBad ls)) ∧ Below w.heap.size w w' := by
  have HC := Lib.hid (dindex v ls w h hl)
  obtain ⟨a, cap, rfl, hc⟩ := h
  clear hc
  go_enter Tryz.func120, Tryz.ntmps120
  go_wp2_with fail
  refine HC.out.mono ?_
  rintro e w1 ⟨⟨i, rfl, hi⟩, b1⟩
  clear HC
  have HI := Lib.hid hi
  clear hi
  go_wp2_with fail
  go_ret
  exact ⟨congrArg (fun b => Ending.returned (.bool b)) HI.out, b1⟩

set_option maxHeartbeats 1000000 in
set_option maxRecDepth 100000 in
theorem dplaced (base count prod seq time : Int) (ls : List Pl.Rc) (v : Value) (w : World) (h : Recs v ls w) (hl : ls.length ≤ 1099511627776) (hb : 0 ≤ base ∧ base ≤ 1099511627776) (hc : 0 ≤ count ∧ count ≤ 8) :
    Calls Tryz.prog 119 #[.agg #[.int .i64 base, .int .i64 count, .int .i64 prod, .int .i64 seq, .int .i64 time, v]] w fun e w' => e = .returned (.bool (Pl.placedB ls base (base + count))) ∧ Below w.heap.size w w' := by
  obtain ⟨a, cap, rfl, hcell⟩ := h
  obtain ⟨m, hm⟩ : ∃ m, ls.length = m := ⟨_, rfl⟩
  obtain ⟨r, hr⟩ : ∃ r, Pl.placedB ls base (base + count) = r := ⟨_, rfl⟩
  rw [hm] at hl ⊢
  rw [hr]
  have HM := Lib.hid hm
  have HC := Lib.hid hcell
  have HR := Lib.hid hr
  obtain ⟨hb0, hb1⟩ := hb
  obtain ⟨hc0, hc1⟩ := hc
  have hw0 : Below w.heap.size w (w.alloc (.cells #[.int .i64 base, .int .i64 count, .int .i64 prod, .int .i64 seq, .int .i64 time, .slice a m cap] 34)) := (Below.refl _ _).alloc (Nat.le_refl _) _
  have HBK := Lib.hid (Blk.new w #[.int .i64 base, .int .i64 count, .int .i64 prod, .int .i64 seq, .int .i64 time, .slice a m cap] 34)
  have HW0 := Lib.hid hw0
  clear hm hcell hr hw0
  go_enter Tryz.func119, Tryz.ntmps119
  go_wp2_with fail
  generalize w.alloc (.cells #[.int .i64 base, .int .i64 count, .int .i64 prod, .int .i64 seq, .int .i64 time, .slice a m cap] 34) = W0 at *
  go_loopw [3, 11] (fun nv iv wr => ∃ (k : Nat) (next : Int), k ≤ m ∧ iv = .int .i64 k ∧ nv = .int .i64 next ∧ 0 ≤ next ∧ Pl.placedB (ls.drop k) next (base + count) = r ∧ Below W0.heap.size W0 wr) (fun _ iv _ => m - (intOf iv).toNat)
  case atStart => exact ⟨0, base, Nat.zero_le _, rfl, rfl, hb0, HR.out, Below.refl _ _⟩
  case round =>
    obtain ⟨k, next, hk, rfl, rfl, hn0, hpl, hb⟩ := hrel
    have HB := Lib.hid hb
    have HP := Lib.hid hpl
    have HBR := Lib.hid (HBK.out.below hb)
    clear hb hpl
    by_cases hlt : k < m
    · obtain ⟨x, hg⟩ : ∃ x, ls[k]? = some x := ⟨_, List.getElem?_eq_getElem (by rw [HM.out]; exact hlt)⟩
      obtain ⟨b, off, rfl, hbl, c0, c1, c2, c3⟩ := HC.out k x hg
      have e : ∀ o, wr.cell? ⟨b, o, none⟩ = w.cell? ⟨b, o, none⟩ := fun o => ((HW0.out.trans (HB.out.mono HW0.out.size)).cell (p := ⟨b, o, none⟩) hbl)
      rw [← e] at c0 c1 c2 c3
      have hdr : ls.drop k = x :: ls.drop (k + 1) := by
        have h1 := List.drop_eq_getElem_cons (l := ls) (i := k) (by rw [HM.out]; exact hlt)
        rw [h1, Option.some.inj ((List.getElem?_eq_getElem (by rw [HM.out]; exact hlt)).symm.trans hg)]
      have HR2 : Hid ((decide (next ≤ x.off ∧ x.off < base + count) && Pl.placedB (ls.drop (k + 1)) (x.off + 1) (base + count)) = r) := by rw [← HP.out, hdr]; rfl
      obtain ⟨y0, -, -, -⟩ := cells_four wr (.int .i64 x.off) (.string ⟨x.key.toArray⟩) (.string ⟨x.val.toArray⟩) (.bool x.gone) 75
      have hw5 : Below wr.heap.size wr (wr.alloc (.cells #[.int .i64 x.off, .string ⟨x.key.toArray⟩, .string ⟨x.val.toArray⟩, .bool x.gone] 75)) := (Below.refl _ _).alloc (Nat.le_refl _) _
      have bk := HBR.out.below hw5
      have d0 := bk.cell (i := 0) rfl
      have d1 := bk.cell (i := 1) rfl
      have HB5 := Lib.hid (HB.out.trans (hw5.mono HB.out.size))
      clear bk hw5 e hg hbl hdr
      have hsum : IntKind.i64.wrap (base + count) = base + count := IntWalk.i64_in _ (by omega)
      by_cases ho : x.off < next
      · have ho2 : decide (x.off < next) = true := decide_eq_true ho
        have HO := Lib.hid ho
        clear ho
        go_wp2_with fail
        go_ret
        exact ⟨congrArg (fun b => Ending.returned (.bool b)) (by rw [← HR2.out, decide_eq_false (show ¬ (next ≤ x.off ∧ x.off < base + count) from fun h => absurd HO.out (by omega))]; rfl), HW0.out.trans (HB5.out.mono HW0.out.size)⟩
      · have ho2 : decide (x.off < next) = false := decide_eq_false ho
        have HO := Lib.hid ho
        clear ho
        by_cases hu : base + count ≤ x.off
        · have hu2 : decide (base + count ≤ x.off) = true := decide_eq_true hu
          have HU := Lib.hid hu
          clear hu
          go_wp2_with fail
          go_ret
          exact ⟨congrArg (fun b => Ending.returned (.bool b)) (by rw [← HR2.out, decide_eq_false (show ¬ (next ≤ x.off ∧ x.off < base + count) from fun h => absurd HU.out (by omega))]; rfl), HW0.out.trans (HB5.out.mono HW0.out.size)⟩
        · have hu2 : decide (base + count ≤ x.off) = false := decide_eq_false hu
          have hlow : x.off < base + count := by omega
          have HU := Lib.hid hu
          clear hu
          have HO' := HO.out
          go_wp2_with fail
          go_roundw
          case rel => exact ⟨k + 1, x.off + 1, by omega, by go_num, by go_num, by omega, by rw [← HR2.out, decide_eq_true (show next ≤ x.off ∧ x.off < base + count from ⟨by omega, hlow⟩)]; rfl, HB5.out⟩
          case measure => simp [intOf]; omega
    · go_wp2_with fail
      go_ret
      have h := HP.out
      rw [List.drop_of_length_le (by rw [HM.out]; omega)] at h
      exact ⟨congrArg (fun b => Ending.returned (.bool b)) (by rw [← h]; rfl), HW0.out.trans (HB.out.mono HW0.out.size)⟩
end Go.Proofs.YtdaoeplblkfapaaGreatDoor

/- THE CONTRACTS OF crate.Fits and crate.Good. -/
namespace Go.Proofs.YtdaoeplblkfapaaGreatDoor
open Go.RowKit

set_option maxHeartbeats 2000000 in
set_option maxRecDepth 100000 in
theorem dgood (base count prod seq time : Int) (ls : List Pl.Rc) (v : Value) (w : World) (lb : Lb w) (h : Recs v ls w) (hl : ls.length ≤ 1099511627776) :
    Calls Tryz.prog 79 #[.agg #[.int .i64 base, .int .i64 count, .int .i64 prod, .int .i64 seq, .int .i64 time, v]] w fun e w' => e = .returned (.bool (Pl.goodB ⟨base, count, prod, seq, time, ls⟩)) ∧ Below w.heap.size w w' := by
  obtain ⟨r, hr⟩ : ∃ r, Pl.goodB ⟨base, count, prod, seq, time, ls⟩ = r := ⟨_, rfl⟩
  rw [hr]
  rw [Pl.good_eq] at hr
  have HR := Lib.hid hr
  have hb0 := Blk.new w #[.int .i64 base, .int .i64 count, .int .i64 prod, .int .i64 seq, .int .i64 time, v] 34
  have hw0 : Below w.heap.size w (w.alloc (.cells #[.int .i64 base, .int .i64 count, .int .i64 prod, .int .i64 seq, .int .i64 time, v] 34)) := (Below.refl _ _).alloc (Nat.le_refl _) _
  have HCON := Lib.hid fun wx (hx : Below w.heap.size w wx) => dcontains v ls wx (h.below hx) hl
  have HPL := Lib.hid fun wx (hx : Below w.heap.size w wx) => dplaced base count prod seq time ls v wx (h.below hx) hl
  have HBK := Lib.hid hb0
  have HW0 := Lib.hid hw0
  have HLB := Lib.hid lb
  clear hr hb0 hw0 h lb
  have hs0 : (w.alloc (.cells #[.int .i64 base, .int .i64 count, .int .i64 prod, .int .i64 seq, .int .i64 time, v] 34)).heap.size = w.heap.size + 1 := by simp
  have HS0 := Lib.hid hs0
  clear hs0
  go_enter Tryz.func79, Tryz.ntmps79
  go_wp2_with fail
  refine (dnumbers _ _).mono ?_
  rintro e w1 ⟨rfl, k1, b1⟩
  generalize hW0 : w.alloc (.cells #[.int .i64 base, .int .i64 count, .int .i64 prod, .int .i64 seq, .int .i64 time, v] 34) = W0 at *
  have HW1 := Lib.hid (HW0.out.trans (b1.mono HW0.out.size))
  have HB1 := Lib.hid (HBK.out.below b1)
  have HK1 := Lib.hid k1
  have HL1 := Lib.hid (HLB.out.below HLB.out.size HW1.out)
  clear k1 b1 hW0 HLB HBK HW0
  obtain ⟨N, hN⟩ : ∃ N, W0.heap.size = N := ⟨_, rfl⟩
  rw [hN] at HK1 ⊢
  clear hN
  go_wp2_with fail
  go_loopw [7] (fun iv wr => ∃ k n : Nat, k ≤ 5 ∧ iv = .int .i64 k ∧ wr = w1.drewN n ∧ ∀ j z, j < k → (Pl.nums ⟨base, count, prod, seq, time, ls⟩)[j]? = some z → Pl.loN.getD j 0 ≤ z ∧ z ≤ Pl.hiN.getD j 0) (fun iv _ => 5 - (intOf iv).toNat)
  case atStart => exact ⟨0, 0, Nat.zero_le _, rfl, rfl, fun j z hj _ => absurd hj (Nat.not_lt_zero _)⟩
  case round =>
    obtain ⟨k, n, hk, rfl, rfl, hok⟩ := hrel
    have HOK := Lib.hid hok
    clear hok
    by_cases hlt : k < 5
    · obtain ⟨z, hz⟩ : ∃ z, (Pl.nums ⟨base, count, prod, seq, time, ls⟩)[k]? = some z := ⟨_, List.getElem?_eq_getElem hlt⟩
      have p0 : w1.cell? ⟨N, k, none⟩ = some (.pointer (some ⟨w.heap.size, k, none⟩)) := by
        refine HK1.out.cell ?_
        match k, hlt with
        | 0, _ => rfl
        | 1, _ => rfl
        | 2, _ => rfl
        | 3, _ => rfl
        | 4, _ => rfl
      have p1 : w1.cell? ⟨w.heap.size, k, none⟩ = some (.int .i64 z) := by
        refine HB1.out.cell ?_
        match k, hlt, hz with
        | 0, _, hz => obtain rfl := Option.some.inj hz; rfl
        | 1, _, hz => obtain rfl := Option.some.inj hz; rfl
        | 2, _, hz => obtain rfl := Option.some.inj hz; rfl
        | 3, _, hz => obtain rfl := Option.some.inj hz; rfl
        | 4, _, hz => obtain rfl := Option.some.inj hz; rfl
      obtain ⟨l, hll⟩ : ∃ l, Pl.loN.getD k 0 = l := ⟨_, rfl⟩
      obtain ⟨h, hhh⟩ : ∃ h, Pl.hiN.getD k 0 = h := ⟨_, rfl⟩
      have p2 : w1.cell? ⟨0, k, none⟩ = some (.int .i64 l) := by rw [← hll]; exact HL1.out.lst.cell gLst k hlt
      have p3 : w1.cell? ⟨1, k, none⟩ = some (.int .i64 h) := by rw [← hhh]; exact HL1.out.grt.cell gGrt k hlt
      have HZ := Lib.hid hz
      have HLL := Lib.hid hll
      have HHH := Lib.hid hhh
      have hki : (k : Int) < 5 := by omega
      clear hz hll hhh
      have bad : ¬ (l ≤ z ∧ z ≤ h) → r = false := by
        intro hn
        rw [← HR.out, show Pl.headB ⟨base, count, prod, seq, time, ls⟩ = false from Bool.eq_false_iff.2 fun hh => hn (by
          have := (Pl.head_iff _).1 hh k z HZ.out
          rw [HLL.out, HHH.out] at this
          exact this)]
        rfl
      have HBAD := Lib.hid bad
      clear bad
      by_cases h1 : z < l
      · have h2 : decide (z < l) = true := decide_eq_true h1
        have H1 := Lib.hid h1
        clear h1
        go_wp2_with fail
        go_quiet (fail)
        go_wp2_with fail
        go_ret
        exact ⟨congrArg (fun b => Ending.returned (.bool b)) (HBAD.out fun hh => absurd H1.out (by omega)).symm, HW1.out.trans ((below_drewN w1 n).trans (below_drewN _ _))⟩
      · have h2 : decide (z < l) = false := decide_eq_false h1
        have H1 := Lib.hid h1
        clear h1
        by_cases h3 : h < z
        · have h4 : decide (h < z) = true := decide_eq_true h3
          have H3 := Lib.hid h3
          clear h3
          go_wp2_with fail
          go_quiet (fail)
          go_wp2_with fail
          go_ret
          exact ⟨congrArg (fun b => Ending.returned (.bool b)) (HBAD.out fun hh => absurd H3.out (by omega)).symm, HW1.out.trans ((below_drewN w1 n).trans (below_drewN _ _))⟩
        · have h4 : decide (h < z) = false := decide_eq_false h3
          have H3 := Lib.hid h3
          clear h3
          go_wp2_with fail
          go_quiet (fail)
          go_wp2_with fail
          go_roundw
          case rel => exact ⟨k + 1, n + nq, by omega, by go_num, rfl, by
            intro j z' hj hz'
            by_cases hjk : j < k
            · exact HOK.out j z' hjk hz'
            · obtain rfl : j = k := by omega
              obtain rfl := Option.some.inj (HZ.out.symm.trans hz')
              have a1 := HLL.out
              have a2 := HHH.out
              have a3 := H1.out
              have a4 := H3.out
              exact ⟨by omega, by omega⟩⟩
          case measure => simp [intOf]; omega
    · obtain rfl : k = 5 := by omega
      have hhead : Pl.headB ⟨base, count, prod, seq, time, ls⟩ = true := (Pl.head_iff _).2 fun j z hz => HOK.out j z (List.getElem?_eq_some_iff.1 hz).1 hz
      have g0 : 0 ≤ base ∧ base ≤ 1099511627776 := (Pl.head_iff _).1 hhead 0 _ rfl
      have g1 : 1 ≤ count ∧ count ≤ 8 := (Pl.head_iff _).1 hhead 1 _ rfl
      have hr := HR.out
      rw [hhead, Bool.true_and] at hr
      have HR2 := Lib.hid hr
      clear hhead hr HOK HR
      obtain ⟨g00, g01⟩ := g0
      obtain ⟨g10, g11⟩ := g1
      have c0 := HB1.out.cell (i := 0) rfl
      have c1 := HB1.out.cell (i := 1) rfl
      have c2 := HB1.out.cell (i := 2) rfl
      have c3 := HB1.out.cell (i := 3) rfl
      have c4 := HB1.out.cell (i := 4) rfl
      have c5 := HB1.out.cell (i := 5) rfl
      by_cases h1 : base + count ≤ 1099511627776
      · have HPL2 := Lib.hid (HPL.out (w1.drewN n) (HW1.out.trans (below_drewN w1 n)) ⟨g00, g01⟩ ⟨by omega, g11⟩)
        cases hp : Pl.placedB ls base (base + count) with
        | false =>
          rw [hp] at HPL2
          have HP := Lib.hid hp
          clear hp
          go_wp2_with fail
          refine HPL2.out.mono ?_
          rintro e w2 ⟨rfl, b2⟩
          go_wp2_with fail
          go_ret
          exact ⟨congrArg (fun b => Ending.returned (.bool b)) (by rw [← HR2.out, HP.out]; simp), HW1.out.trans (((below_drewN w1 n).trans b2).mono HW1.out.size)⟩
        | true =>
          rw [hp] at HPL2
          have HP := Lib.hid hp
          clear hp
          go_wp2_with fail
          refine HPL2.out.mono ?_
          rintro e w2 ⟨rfl, b2⟩
          have hb2 : Below w1.heap.size w1 w2 := (below_drewN w1 n).trans b2
          have HB2 := Lib.hid (HB1.out.below hb2)
          have HW2 := Lib.hid (HW1.out.trans (hb2.mono HW1.out.size))
          clear c0 c1 c2 c3 c4 c5 b2 hb2
          have c5 := HB2.out.cell (i := 5) rfl
          have HCC := Lib.hid (HCON.out w2 HW2.out)
          cases ha : Pl.anyBad ls with
          | false =>
            rw [ha] at HCC
            have HA := Lib.hid ha
            clear ha
            go_wp2_with fail
            refine HCC.out.mono ?_
            rintro e w3 ⟨rfl, b3⟩
            go_wp2_with fail
            go_ret
            exact ⟨congrArg (fun b => Ending.returned (.bool b)) (by rw [← HR2.out, HP.out, HA.out, decide_eq_true (by omega)]; rfl), HW2.out.trans (b3.mono HW2.out.size)⟩
          | true =>
            rw [ha] at HCC
            have HA := Lib.hid ha
            clear ha
            go_wp2_with fail
            refine HCC.out.mono ?_
            rintro e w3 ⟨rfl, b3⟩
            go_wp2_with fail
            go_ret
            exact ⟨congrArg (fun b => Ending.returned (.bool b)) (by rw [← HR2.out, HP.out, HA.out, decide_eq_true (by omega)]; rfl), HW2.out.trans (b3.mono HW2.out.size)⟩
      · go_wp2_with fail
        go_ret
        exact ⟨congrArg (fun b => Ending.returned (.bool b)) (by rw [← HR2.out, decide_eq_false (by omega)]; rfl), HW1.out.trans (below_drewN _ _)⟩
end Go.Proofs.YtdaoeplblkfapaaGreatDoor
