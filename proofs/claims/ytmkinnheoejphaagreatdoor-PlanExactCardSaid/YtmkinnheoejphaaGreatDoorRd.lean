/- SLICES THAT ARE READ, and appends of what is read to slices that the call owns. Nothing here knows the program. -/
import Derived.Test.YtmkinnheoejphaaGreatDoorSl
import Derived.Test.YtmkinnheoejphaaGreatDoorMv
namespace Go.Proofs.YtmkinnheoejphaaGreatDoor
open Go.RowKit

/-- A slice of m elements of so many cells that reads as these cells, in a block of which A holds. -/
def Rds (A : Nat → Prop) (w : World) (u : Value) (size m : Nat) (xs : List Value) : Prop :=
  xs.length = m * size ∧ ((u = .slice none 0 0 ∧ m = 0) ∨ ∃ ad cap, u = .slice (some ad) m cap ∧ m ≤ cap ∧
    (0 < m → ∃ b p, ad = ⟨b, p, none⟩ ∧ A b ∧ b < w.heap.size ∧ ∀ j x, xs[j]? = some x → w.cell? ⟨b, p + j, none⟩ = some x))
section
variable {A A' : Nat → Prop} {w w' : World} {u : Value} {size m : Nat} {xs : List Value}
theorem Rds.form (h : Rds A w u size m xs) : ∃ a cap, u = .slice a m cap := by
  rcases h.2 with ⟨rfl, rfl⟩ | ⟨ad, cap, rfl, -⟩
  · exact ⟨_, _, rfl⟩
  · exact ⟨_, _, rfl⟩
theorem Rds.mono (h : Rds A w u size m xs) (k : ∀ b, A b → A' b) : Rds A' w u size m xs := by
  refine ⟨h.1, ?_⟩
  rcases h.2 with h2 | ⟨ad, cap, rfl, hc, h2⟩
  · exact .inl h2
  · exact .inr ⟨ad, cap, rfl, hc, fun h0 => let ⟨b, p, e, h3, h4⟩ := h2 h0; ⟨b, p, e, k b h3, h4⟩⟩
theorem Rds.keep (h : Rds A w u size m xs) (hs : w.heap.size ≤ w'.heap.size) (k : ∀ b, A b → b < w.heap.size → w'.heap[b]? = w.heap[b]? ∧ A' b) : Rds A' w' u size m xs := by
  refine ⟨h.1, ?_⟩
  rcases h.2 with h2 | ⟨ad, cap, rfl, hc, h2⟩
  · exact .inl h2
  · refine .inr ⟨ad, cap, rfl, hc, fun h0 => ?_⟩
    obtain ⟨b, p, e, h3, h4, h5⟩ := h2 h0
    obtain ⟨k1, k2⟩ := k b h3 h4
    exact ⟨b, p, e, k2, Nat.lt_of_lt_of_le h4 hs, fun j x hj => (World.cell?_of_block k1).trans (h5 j x hj)⟩
theorem Rds.bound (h : Rds A w u size m xs) : Rds (fun b => b < w.heap.size) w u size m xs := by
  refine ⟨h.1, ?_⟩
  rcases h.2 with h2 | ⟨ad, cap, rfl, hc, h2⟩
  · exact .inl h2
  · exact .inr ⟨ad, cap, rfl, hc, fun h0 => let ⟨b, p, e, _, h4, h5⟩ := h2 h0; ⟨b, p, e, h4, h4, h5⟩⟩
theorem Rds.below (h : Rds A w u size m xs) (hb : Below w.heap.size w w') : Rds A w' u size m xs := h.keep hb.size fun b ha hl => ⟨hb.block b hl, ha⟩
theorem Rds.moved {B B' : Nat → Prop} (h : Rds (fun b => ¬ B b) w u size m xs) (k : Moved B B' w w') : Rds (fun b => ¬ B' b) w' u size m xs :=
  h.keep k.size fun b hb hl => ⟨k.block b hl hb, fun h' => by rcases k.new b h' with h1 | h1; exact hb h1; omega⟩
theorem Rds.at (h : Rds A w u size m xs) (h0 : 0 < m) : ∃ b p cap, u = .slice (some ⟨b, p, none⟩) m cap ∧ A b ∧ b < w.heap.size ∧ ∀ j x, xs[j]? = some x → w.cell? ⟨b, p + j, none⟩ = some x := by
  rcases h.2 with ⟨_, h2⟩ | ⟨ad, cap, rfl, -, h2⟩
  · omega
  · obtain ⟨b, p, rfl, h3⟩ := h2 h0
    exact ⟨b, p, cap, rfl, h3⟩
theorem Rds.nil (A : Nat → Prop) (w : World) (size : Nat) : Rds A w (.slice none 0 0) size 0 [] := ⟨by simp, .inl ⟨rfl, rfl⟩⟩
theorem Rds.empty (A : Nat → Prop) (w : World) (size : Nat) (ad : Addr) (cap : Nat) : Rds A w (.slice (some ad) 0 cap) size 0 [] := ⟨by simp, .inr ⟨ad, cap, rfl, Nat.zero_le _, fun h => absurd h (Nat.lt_irrefl _)⟩⟩
theorem Rds.of_sl {gb : Option Nat} {e : Nat} (h : Sl w u gb e size m xs) (k : ∀ b, gb = some b → A b) : Rds A w u size m xs := by
  refine ⟨h.1, ?_⟩
  rcases h.2 with ⟨rfl, -, rfl⟩ | ⟨g, p, cap, cur, rfl, rfl, hg, hnc, -⟩
  · exact .inl ⟨rfl, rfl⟩
  · exact .inr ⟨_, cap, rfl, hnc, fun _ => ⟨g, p, rfl, k g rfl, h.lt g rfl, fun j x hj => h.cell rfl j x hj⟩⟩
end
/-- A slice that the call has made reads so; it is the call's own. -/
theorem Sl.of_own {w : World} {base e size n : Nat} {v : Value} {xs : List Value} (h : w.ownsRow base e size v n xs) : Sl w v v.ownBlock e size n xs := by
  obtain ⟨h1, h2⟩ := h
  refine ⟨h1, ?_⟩
  rcases h2 with ⟨rfl, rfl⟩ | ⟨g, cap, cur, rfl, _, hg, hn, _, hs, ht⟩
  · exact .inl ⟨rfl, rfl, rfl⟩
  · exact .inr ⟨g, 0, cap, cur, rfl, rfl, hg, hn, by rw [hs]; omega, by simpa using ht⟩
theorem Sl.form {w : World} {v : Value} {gb : Option Nat} {e size n : Nat} {xs : List Value} (h : Sl w v gb e size n xs) : ∃ a cap, v = .slice a n cap := by
  rcases h.2 with ⟨rfl, _, rfl⟩ | ⟨g, p, cap, cur, _, rfl, _⟩
  · exact ⟨_, _, rfl⟩
  · exact ⟨_, _, rfl⟩
theorem Sl.nil (w : World) (e size : Nat) : Sl w (.slice none 0 0) none e size 0 [] := ⟨by simp, .inl ⟨rfl, rfl, rfl⟩⟩
theorem Sl.made (w : World) (e size : Nat) : Sl (w.alloc (.cells #[] e)) (.slice (some ⟨w.heap.size, 0, none⟩) 0 0) (some w.heap.size) e size 0 [] :=
  ⟨by simp, .inr ⟨w.heap.size, 0, 0, #[], rfl, rfl, heap_alloc_new w _, Nat.le_refl _, by simp, by simp⟩⟩
theorem Sl.keep {w w' : World} {v : Value} {gb : Option Nat} {e size n : Nat} {xs : List Value} {B B' : Nat → Prop} (h : Sl w v gb e size n xs) (k : Moved B B' w w') (hn : ∀ b, gb = some b → ¬ B b) : Sl w' v gb e size n xs ∧ ∀ b, gb = some b → ¬ B' b :=
  ⟨h.same fun b hb => k.block b (h.lt b hb) (hn b hb), fun b hb h' => by have := h.lt b hb; rcases k.new b h' with h1 | h1; exact hn b hb h1; omega⟩

section
variable {P : Program} {w : World}
theorem run_append_sl_nil (t ty e : TypeId) (i : TypeInfo) (size : Nat) (ht : P.underlying t = some (.slice e)) (hi : P.info? e = some i)
    (v : Value) (gb : Option Nat) (n : Nat) (xs : List Value) (hown : Sl w v gb e size n xs) :
    (Builtin.append_ #[t, t] ty #[v, .slice none 0 0]).run P w = .ok v w := by
  rcases hown.2 with ⟨rfl, _⟩ | ⟨g, p, cap, cur, _, rfl, _, hnc, _⟩
  · simp [Builtin.append_, run_underlying ht, sizeOf, typeInfo, hi, Builtin.lenOf, Builtin.firstCells]
  · simp [Builtin.append_, run_underlying ht, sizeOf, typeInfo, hi, Builtin.lenOf, Builtin.firstCells, hnc, storeCells]
theorem run_append_sl_zero (t ty e : TypeId) (i : TypeInfo) (size : Nat) (ht : P.underlying t = some (.slice e)) (hi : P.info? e = some i)
    (v : Value) (gb : Option Nat) (n : Nat) (xs : List Value) (hown : Sl w v gb e size n xs) (ad : Addr) (c : Nat) :
    (Builtin.append_ #[t, t] ty #[v, .slice (some ad) 0 c]).run P w = .ok v w := by
  rcases hown.2 with ⟨rfl, _⟩ | ⟨g, p, cap, cur, _, rfl, _, hnc, _⟩
  · simp [Builtin.append_, run_underlying ht, sizeOf, typeInfo, hi, Builtin.lenOf, Builtin.firstCells, loadCells, loadCellsFrom]
  · simp [Builtin.append_, run_underlying ht, sizeOf, typeInfo, hi, Builtin.lenOf, Builtin.firstCells, loadCells, loadCellsFrom, hnc, storeCells]
/-- An append of what is read to a slice that the call owns. -/
theorem run_append_rd {A : Nat → Prop} (t ty e : TypeId) (i : TypeInfo) (z : Value) (size bytes : Nat) (ht : P.underlying t = some (.slice e)) (hi : P.info? e = some i) (hz : i.zero = some z)
    (hsize : i.size = size) (hby : i.bytes = bytes) (hzs : z.cells.size = size)
    (v : Value) (gb : Option Nat) (n : Nat) (xs : List Value) (hown : Sl w v gb e size n xs)
    (u : Value) (m : Nat) (news : List Value) (hsrc : Rds A w u size m news) (h1 : ∀ u ∈ news, u.oneCell' = true)
    (hbytes : (n + m) * bytes ≤ 140737488355328) (hsmall : n + m ≤ 9223372036854775807) :
    ∃ v' w' gb', (Builtin.append_ #[t, t] ty #[v, u]).run P w = .ok v' w' ∧ Sl w' v' gb' e size (n + m) (xs ++ news) ∧ w.grownBy w' gb ∧ (gb' = gb ∨ ∃ g, gb' = some g ∧ w.heap.size ≤ g) ∧ (0 < m → gb' ≠ none) := by
  have hrefl : w.grownBy w gb := ⟨rfl, rfl, rfl, Nat.le_refl _, fun _ _ _ => rfl⟩
  have zero : m = 0 → Sl w v gb e size (n + m) (xs ++ news) := fun h => by
    subst h
    have : news = [] := List.eq_nil_of_length_eq_zero (by simpa using hsrc.1)
    subst this
    simpa using hown
  rcases hsrc.2 with ⟨rfl, hm⟩ | ⟨ad, cap, rfl, -, hc⟩
  · exact ⟨v, w, gb, run_append_sl_nil t ty e i size ht hi v gb n xs hown, zero hm, hrefl, .inl rfl, fun h => absurd hm (by omega)⟩
  · rcases Nat.eq_zero_or_pos m with hm | hm
    · refine ⟨v, w, gb, ?_, zero hm, hrefl, .inl rfl, fun h => absurd hm (by omega)⟩
      subst hm
      exact run_append_sl_zero t ty e i size ht hi v gb n xs hown ad cap
    · obtain ⟨b, p, rfl, _, _, h5⟩ := hc hm
      obtain ⟨g, p', cap', w', gb', hr, h2, h3, h4, h6⟩ := run_append_sl (P := P) w t ty e i z size bytes ht hi hz hsize hby hzs v gb n xs hown ⟨b, p, none⟩ m cap news hsrc.1 (fun j x hj => by rw [Addr.add_lit]; exact h5 j x hj) h1 hm hbytes hsmall
      exact ⟨_, w', gb', hr, h2, h3, h6.imp id fun h => ⟨g, h4, h⟩, fun _ => by rw [h4]; simp⟩
theorem wpList_append_rd {A : Nat → Prop} {ops : Array Oper} {rest : List Oper} {o : Oper} {a : Act} {Q : Exit → Act → World → Prop} (hgd : o.guard = none) (s x : Operand) (t : TypeId)
    (ho : o.op = .call { callee := .builtin .append, args := #[s, x], argTypes := #[t, t] })
    (e : TypeId) (i : TypeInfo) (z : Value) (size bytes : Nat) (ht : P.underlying t = some (.slice e)) (hi : P.info? e = some i) (hz : i.zero = some z)
    (hsize : i.size = size) (hby : i.bytes = bytes) (hzs : z.cells.size = size)
    (v : Value) (gb : Option Nat) (n : Nat) (xs : List Value) (hs : a.eval s = v) (hown : Sl w v gb e size n xs)
    (u : Value) (m : Nat) (news : List Value) (hx : a.eval x = u) (hsrc : Rds A w u size m news) (h1 : ∀ u ∈ news, u.oneCell' = true)
    (hbytes : (n + m) * bytes ≤ 140737488355328) (hsmall : n + m ≤ 9223372036854775807)
    (h : ∀ v' w' gb', Sl w' v' gb' e size (n + m) (xs ++ news) → w.grownBy w' gb → (gb' = gb ∨ ∃ g, gb' = some g ∧ w.heap.size ≤ g) → wpList P ops Q rest (a.put o.dst v') w') : wpList P ops Q (o :: rest) a w := by
  refine wpList_plain hgd fun K hK => ?_
  obtain ⟨v', w', gb', hr, h2, h3, h4, _⟩ := run_append_rd (P := P) (w := w) t o.type e i z size bytes ht hi hz hsize hby hzs v gb n xs hown u m news hsrc h1 hbytes hsmall
  unfold Oper.wp execOp
  simp only [ho, resolve, invoke, builtin, Sem.run_bind, Sem.run_pure, Result.andThen_ok, List.map_toArray, List.map_cons, List.map_nil, hs, hx, hr]
  exact hK _ _ (h v' w' gb' h2 h3 h4)
theorem step_append_rd {A : Nat → Prop} {ops : Array Oper} {o : Oper} {a : Act} {K : Act → World → Prop} {Q : Exit → Act → World → Prop} {E : Prop} (hgd : o.guard = none) (s x : Operand) (t : TypeId)
    (ho : o.op = .call { callee := .builtin .append, args := #[s, x], argTypes := #[t, t] })
    (e : TypeId) (i : TypeInfo) (z : Value) (size bytes : Nat) (ht : P.underlying t = some (.slice e)) (hi : P.info? e = some i) (hz : i.zero = some z)
    (hsize : i.size = size) (hby : i.bytes = bytes) (hzs : z.cells.size = size)
    (v : Value) (gb : Option Nat) (n : Nat) (xs : List Value) (hs : a.eval s = v) (hown : Sl w v gb e size n xs)
    (u : Value) (m : Nat) (news : List Value) (hx : a.eval x = u) (hsrc : Rds A w u size m news) (h1 : ∀ u ∈ news, u.oneCell' = true)
    (hbytes : (n + m) * bytes ≤ 140737488355328) (hsmall : n + m ≤ 9223372036854775807)
    (h : ∀ v' w' gb', Sl w' v' gb' e size (n + m) (xs ++ news) → w.grownBy w' gb → (gb' = gb ∨ ∃ g, gb' = some g ∧ w.heap.size ≤ g) → K (a.put o.dst v') w') :
    if Region.wanted o (yielded ops a.tmps) = true then Oper.wp P o a w K Q else E := by
  have hw : Region.wanted o (yielded ops a.tmps) = true := by simp [Region.wanted, hgd]
  rw [if_pos hw]
  obtain ⟨v', w', gb', hr, h2, h3, h4, _⟩ := run_append_rd (P := P) (w := w) t o.type e i z size bytes ht hi hz hsize hby hzs v gb n xs hown u m news hsrc h1 hbytes hsmall
  unfold Oper.wp execOp
  simp only [ho, resolve, invoke, builtin, Sem.run_bind, Sem.run_pure, Result.andThen_ok, List.map_toArray, List.map_cons, List.map_nil, hs, hx, hr]
  exact h v' w' gb' h2 h3 h4
end

/-- Elements of so many cells each: where an element's cells stand. -/
theorem flat_at {α : Type} (c : α → List Value) (k : Nat) (hk : ∀ x, (c x).length = k) : ∀ (l : List α) (j : Nat) (x : α), l[j]? = some x → ∀ i, i < k → (l.flatMap c)[j * k + i]? = (c x)[i]?
  | [], j, x, h, _, _ => by simp at h
  | y :: l, 0, x, h, i, hi => by
    simp at h
    subst h
    rw [List.flatMap_cons, Nat.zero_mul, Nat.zero_add, List.getElem?_append_left (by rw [hk]; exact hi)]
  | y :: l, j + 1, x, h, i, hi => by
    simp at h
    rw [List.flatMap_cons, List.getElem?_append_right (by rw [hk, Nat.add_mul]; omega), hk, ← flat_at c k hk l j x h i hi]
    congr 1
    rw [Nat.add_mul]
    omega
theorem flat_length {α : Type} (c : α → List Value) (k : Nat) (hk : ∀ x, (c x).length = k) (l : List α) : (l.flatMap c).length = l.length * k := by
  induction l with
  | nil => simp
  | cons y l ih => rw [List.flatMap_cons, List.length_append, ih, hk, List.length_cons, Nat.add_mul]; omega
theorem flat_one {α : Type} (c : α → List Value) (h : ∀ x, ∀ u ∈ c x, u.oneCell' = true) (l : List α) : ∀ u ∈ l.flatMap c, u.oneCell' = true := by
  intro u hu
  obtain ⟨x, -, hx⟩ := List.mem_flatMap.1 hu
  exact h x u hx
theorem flat_take {α : Type} (c : α → List Value) (k : Nat) (hk : ∀ x, (c x).length = k) : ∀ (l : List α) (n : Nat), (l.flatMap c).take (n * k) = (l.take n).flatMap c
  | [], n => by simp
  | y :: l, 0 => by simp
  | y :: l, n + 1 => by
    rw [List.flatMap_cons, List.take_succ_cons, List.flatMap_cons, ← flat_take c k hk l n, List.take_append, hk, List.take_of_length_le (by rw [hk, Nat.add_mul]; omega)]
    congr 2
    rw [Nat.add_mul]
    omega
theorem flat_drop {α : Type} (c : α → List Value) (k : Nat) (hk : ∀ x, (c x).length = k) : ∀ (l : List α) (n : Nat), (l.flatMap c).drop (n * k) = (l.drop n).flatMap c
  | [], n => by simp
  | y :: l, 0 => by simp
  | y :: l, n + 1 => by
    rw [List.flatMap_cons, List.drop_succ_cons, ← flat_drop c k hk l n, List.drop_append, hk, List.drop_of_length_le (by rw [hk, Nat.add_mul]; omega), List.nil_append]
    congr 1
    rw [Nat.add_mul]
    omega
end Go.Proofs.YtmkinnheoejphaaGreatDoor
