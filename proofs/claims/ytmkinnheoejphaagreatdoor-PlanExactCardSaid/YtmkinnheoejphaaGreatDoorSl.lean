/- SLICES THAT THE CALL OWNS, FROM ANY PLACE OF THEIR BLOCK ON: how append, a cut at the front, a store leave them. Nothing here knows the program. -/
import Derived.Laws.AppendOwn
import Derived.Below
import Derived.OwnWalk
import Derived.Deep.AppendLies
namespace Go.Proofs.YtmkinnheoejphaaGreatDoor
open Go.RowKit

/-- Every block but a and b is as it was. -/
structure Kb2 (a b : Option Nat) (w w' : World) : Prop where
  os : w'.os = w.os
  tape : w'.tape = w.tape
  output : w'.output = w.output
  size : w.heap.size ≤ w'.heap.size
  block : ∀ k, k < w.heap.size → some k ≠ a → some k ≠ b → w'.heap[k]? = w.heap[k]?
theorem Kb2.refl (a b : Option Nat) (w : World) : Kb2 a b w w := ⟨rfl, rfl, rfl, Nat.le_refl _, fun _ _ _ _ => rfl⟩
theorem Kb2.trans {a b : Option Nat} {u v w : World} (h : Kb2 a b u v) (k : Kb2 a b v w) : Kb2 a b u w :=
  ⟨k.os.trans h.os, k.tape.trans h.tape, k.output.trans h.output, Nat.le_trans h.size k.size, fun i hi h1 h2 => (k.block i (Nat.lt_of_lt_of_le hi h.size) h1 h2).trans (h.block i hi h1 h2)⟩
/-- .. where the second step's second block is the first's or a new one. -/
theorem Kb2.trans' {a b b' : Option Nat} {u v w : World} (h : Kb2 a b u v) (k : Kb2 a b' v w) (hb : b' = b ∨ ∃ i, b' = some i ∧ u.heap.size ≤ i) : Kb2 a b u w :=
  ⟨k.os.trans h.os, k.tape.trans h.tape, k.output.trans h.output, Nat.le_trans h.size k.size, fun i hi h1 h2 => (k.block i (Nat.lt_of_lt_of_le hi h.size) h1 (by
    rcases hb with rfl | ⟨j, rfl, hj⟩
    · exact h2
    · intro e; cases e; omega)).trans (h.block i hi h1 h2)⟩
theorem Kb2.of_grown {a b : Option Nat} {w w' : World} (h : w.grownBy w' b) : Kb2 a b w w' := ⟨h.os, h.tape, h.output, h.size, fun k hk _ h2 => h.block k hk h2⟩
theorem Kb2.setCell {a b : Option Nat} (w : World) (p : Addr) (v : Value) (h : some p.block = a ∨ some p.block = b) : Kb2 a b w (w.setCell p v) :=
  ⟨rfl, rfl, rfl, by simp [World.setCell], fun k _ h1 h2 => Below.heap_setCell _ _ _ _ (by rintro rfl; rcases h with h | h <;> simp_all)⟩
theorem Kb2.alloc {a b : Option Nat} (w : World) (o : Obj) : Kb2 a b w (w.alloc o) := ⟨rfl, rfl, rfl, by simp, fun k hk _ _ => Below.heap_alloc _ _ _ hk⟩
theorem Kb2.drew {a b : Option Nat} (w : World) : Kb2 a b w w.drew := ⟨rfl, rfl, rfl, Nat.le_refl _, fun _ _ _ _ => rfl⟩
/-- What lies below B is as it was, if neither block lies there. -/
theorem Kb2.below {a b : Option Nat} {w w' : World} {B : Nat} (h : Kb2 a b w w') (hB : B ≤ w.heap.size) (ha : ∀ k, a = some k → B ≤ k) (hb : ∀ k, b = some k → B ≤ k) : Below B w w' :=
  ⟨h.os, h.tape, h.output, h.size, fun k hk => h.block k (by omega) (fun e => by have := ha k e.symm; omega) (fun e => by have := hb k e.symm; omega)⟩
theorem Kb2.cell {a b : Option Nat} {w w' : World} (h : Kb2 a b w w') {p : Addr} (hp : p.block < w.heap.size) (h1 : some p.block ≠ a) (h2 : some p.block ≠ b) : w'.cell? p = w.cell? p := World.cell?_of_block (h.block p.block hp h1 h2)

/-- The slice v, its elements' cells xs, in block gb (none: it has none). -/
def Sl (w : World) (v : Value) (gb : Option Nat) (e size : Nat) (n : Nat) (xs : List Value) : Prop :=
  xs.length = n * size ∧ ((v = .slice none 0 0 ∧ gb = none ∧ n = 0) ∨
    ∃ g p cap cur, gb = some g ∧ v = .slice (some ⟨g, p, none⟩) n cap ∧ w.heap[g]? = some (.cells cur e (0, 0)) ∧ n ≤ cap ∧ p + cap * size ≤ cur.size ∧ (cur.toList.drop p).take (n * size) = xs)

section
variable {w : World} {v : Value} {gb : Option Nat} {e size n : Nat} {xs : List Value}
theorem Sl.lt (h : Sl w v gb e size n xs) : ∀ k, gb = some k → k < w.heap.size := by
  rintro k rfl
  rcases h.2 with ⟨_, h, _⟩ | ⟨g, p, cap, cur, h, _, hg, _⟩
  · cases h
  · cases h; exact (Array.getElem?_eq_some_iff.1 hg).1
theorem Sl.same {w' : World} (h : Sl w v gb e size n xs) (hb : ∀ k, gb = some k → w'.heap[k]? = w.heap[k]?) : Sl w' v gb e size n xs := by
  obtain ⟨h1, h2⟩ := h
  refine ⟨h1, ?_⟩
  rcases h2 with h2 | ⟨g, p, cap, cur, rfl, hv, hg, h3⟩
  · exact .inl h2
  · exact .inr ⟨g, p, cap, cur, rfl, hv, by rw [hb g rfl]; exact hg, h3⟩
theorem Sl.cell (h : Sl w v gb e size n xs) {g p cap m : Nat} (hv : v = .slice (some ⟨g, p, none⟩) m cap) (j : Nat) (u : Value) (hj : xs[j]? = some u) : w.cell? ⟨g, p + j, none⟩ = some u := by
  rcases h.2 with ⟨hv', _⟩ | ⟨g', p', cap', cur, _, hv', hg, _, _, ht⟩
  · rw [hv] at hv'; cases hv'
  · rw [hv] at hv'; cases hv'
    rw [cell_of_row w g (p + j) cur e (0, 0) hg]
    rw [← ht, List.getElem?_take] at hj
    split at hj
    · rw [List.getElem?_drop] at hj; simpa using hj
    · cases hj
theorem Sl.frozen (h : Sl w v gb e size n xs) {g p cap m : Nat} (hv : v = .slice (some ⟨g, p, none⟩) m cap) (j : Nat) : w.frozen? ⟨g, j, none⟩ = false := by
  rcases h.2 with ⟨hv', _⟩ | ⟨g', p', cap', cur, _, hv', hg, _, _, ht⟩
  · rw [hv] at hv'; cases hv'
  · rw [hv] at hv'; cases hv'
    simp [World.frozen?, hg]
end

section
variable {P : Program} (w : World)
theorem run_append_room_at (t ty e : TypeId) (i : TypeInfo) (ht : P.underlying t = some (.slice e)) (hi : P.info? e = some i)
    (g p sLen sCap : Nat) (cur : Array Value) (hg : w.heap[g]? = some (.cells cur e (0, 0)))
    (a : Addr) (m c : Nat) (news : List Value) (hl : news.length = m * i.size) (hnews : ∀ j u, news[j]? = some u → w.cell? (a.add j) = some u) (h1 : ∀ u ∈ news, u.oneCell' = true)
    (hroom : sLen + m ≤ sCap) (hfit : p + sLen * i.size + news.length ≤ cur.size) :
    (Builtin.append_ #[t, t] ty #[.slice (some ⟨g, p, none⟩) sLen sCap, .slice (some a) m c]).run P w =
      .ok (.slice (some ⟨g, p, none⟩) (sLen + m) sCap) (w.setRow g (cur.toList.take (p + sLen * i.size) ++ news ++ cur.toList.drop (p + sLen * i.size + news.length)).toArray) := by
  have hf := run_firstCells_some (P := P) w i.size m a m c news hl hnews
  have hst := run_storeCells_at P g (p + sLen * i.size) e news 0 cur w hg (by simpa using hfit) h1
  simp only [Nat.add_zero] at hst
  simp [Builtin.append_, run_underlying ht, sizeOf, typeInfo, hi, Builtin.lenOf, hroom, hf, Addr.add_lit, hst]

theorem run_append_sl (t ty e : TypeId) (i : TypeInfo) (z : Value) (size bytes : Nat) (ht : P.underlying t = some (.slice e)) (hi : P.info? e = some i) (hz : i.zero = some z)
    (hsize : i.size = size) (hby : i.bytes = bytes) (hzs : z.cells.size = size)
    (v : Value) (gb : Option Nat) (n : Nat) (xs : List Value) (hown : Sl w v gb e size n xs)
    (a : Addr) (m c : Nat) (news : List Value) (hl : news.length = m * size) (hnews : ∀ j u, news[j]? = some u → w.cell? (a.add j) = some u) (h1 : ∀ u ∈ news, u.oneCell' = true)
    (h0 : 0 < m) (hbytes : (n + m) * bytes ≤ 140737488355328) (hsmall : n + m ≤ 9223372036854775807) :
    ∃ g p cap w' gb', (Builtin.append_ #[t, t] ty #[v, .slice (some a) m c]).run P w = .ok (.slice (some ⟨g, p, none⟩) (n + m) cap) w' ∧ Sl w' (.slice (some ⟨g, p, none⟩) (n + m) cap) gb' e size (n + m) (xs ++ news) ∧ w.grownBy w' gb ∧ gb' = some g ∧ (gb' = gb ∨ w.heap.size ≤ g) := by
  subst hsize
  subst hby
  have hlen : (xs ++ news).length = (n + m) * i.size := by rw [List.length_append, hown.1, hl, Nat.add_mul]
  have grown : ∀ (old : Nat), old < n + m →
      Sl (w.drew.alloc (.cells (xs.toArray ++ news.toArray ++ Builtin.zeroCells z.cells (grownCap w (n + m) old e - (n + m))) e))
        (.slice (some ⟨w.heap.size, 0, none⟩) (n + m) (grownCap w (n + m) old e)) (some w.heap.size) e i.size (n + m) (xs ++ news) ∧
      w.grownBy (w.drew.alloc (.cells (xs.toArray ++ news.toArray ++ Builtin.zeroCells z.cells (grownCap w (n + m) old e - (n + m))) e)) gb := by
    intro old ho
    have hge := grownCap_ge w (n + m) old e
    refine ⟨⟨hlen, .inr ⟨w.heap.size, 0, _, _, rfl, rfl, heap_alloc_new w.drew _, hge, ?_, ?_⟩⟩, ⟨rfl, rfl, rfl, by simp, fun k hk _ => Below.heap_alloc _ _ _ hk⟩⟩
    · simp only [Array.size_append, List.size_toArray, size_zeroCells, hzs, hown.1, hl, ← Nat.add_mul, Nat.zero_add]
      apply Nat.le_of_eq
      congr 1
      omega
    · simp only [Array.toList_append, List.append_assoc, List.drop_zero]
      rw [← List.append_assoc, ← hlen]
      exact List.take_left
  rcases hown.2 with ⟨rfl, rfl, rfl⟩ | ⟨g, p, cap, cur, rfl, rfl, hg, hnc, hcs, htake⟩
  · have hx : xs = [] := List.eq_nil_of_length_eq_zero (by simpa using hown.1)
    subst hx
    have hr := run_append_nil (P := P) w t ty e i z ht hi hz a m c news hl hnews h0 (by omega) (by have hb := hbytes; simp only [Nat.zero_add] at hb; omega)
    have hgr := grown 0 (by omega)
    simp only [Nat.zero_add, List.nil_append, Array.empty_append] at hgr ⊢
    exact ⟨_, _, _, _, _, hr, hgr.1, hgr.2, rfl, .inr (Nat.le_refl _)⟩
  · by_cases hroom : n + m ≤ cap
    · have hfit : p + n * i.size + news.length ≤ cur.size := by
        have : (n + m) * i.size ≤ cap * i.size := Nat.mul_le_mul_right _ hroom
        rw [Nat.add_mul] at this
        rw [hl]; omega
      have hr := run_append_room_at (P := P) w t ty e i ht hi g p n cap cur hg a m c news hl hnews h1 hroom hfit
      refine ⟨_, _, _, _, _, hr, ⟨hlen, .inr ⟨g, p, cap, _, rfl, rfl, setRow_heap w g cur _ e _ hg, hroom, ?_, ?_⟩⟩, ⟨rfl, rfl, rfl, by simp, fun k _ hk => setRow_other w g k _ (fun e => hk (by simp [e]))⟩, rfl, .inl rfl⟩
      · simp only [List.size_toArray, List.length_append, List.length_take, List.length_drop, Array.length_toList]
        omega
      · show List.take ((n + m) * i.size) (List.drop p (cur.toList.take (p + n * i.size) ++ news ++ cur.toList.drop (p + n * i.size + news.length))) = xs ++ news
        have hp : p ≤ (cur.toList.take (p + n * i.size)).length := by
          rw [List.length_take, Array.length_toList]; omega
        rw [List.append_assoc, List.drop_append_of_le_length hp, List.drop_take, Nat.add_sub_cancel_left, htake, ← List.append_assoc, ← hlen]
        exact List.take_left
    · have holds : ∀ j u, xs[j]? = some u → w.cell? ((⟨g, p, none⟩ : Addr).add j) = some u := fun j u hj => by
        rw [Addr.add_lit]; exact hown.cell rfl j u hj
      have hr := run_append_grow (P := P) w t ty e i z ht hi hz ⟨g, p, none⟩ n cap xs hown.1 holds a m c news hl hnews (by omega) (by omega) (growslice_fits (by omega) hbytes)
      have hgr := grown cap (by omega)
      exact ⟨_, _, _, _, _, hr, hgr.1, hgr.2, rfl, .inr (Nat.le_refl _)⟩

theorem wpList_append_sl {ops : Array Oper} {rest : List Oper} {o : Oper} {a : Act} {Q : Exit → Act → World → Prop} (hgd : o.guard = none) (s x : Operand) (t : TypeId)
    (ho : o.op = .call { callee := .builtin .append, args := #[s, x], argTypes := #[t, t] })
    (e : TypeId) (i : TypeInfo) (z : Value) (size bytes : Nat) (ht : P.underlying t = some (.slice e)) (hi : P.info? e = some i) (hz : i.zero = some z)
    (hsize : i.size = size) (hby : i.bytes = bytes) (hzs : z.cells.size = size)
    (v : Value) (gb : Option Nat) (n : Nat) (xs : List Value) (hs : a.eval s = v) (hown : Sl w v gb e size n xs)
    (ad : Addr) (m c : Nat) (news : List Value) (hx : a.eval x = .slice (some ad) m c) (hl : news.length = m * size) (hnews : ∀ j u, news[j]? = some u → w.cell? (ad.add j) = some u) (h1 : ∀ u ∈ news, u.oneCell' = true)
    (h0 : 0 < m) (hbytes : (n + m) * bytes ≤ 140737488355328) (hsmall : n + m ≤ 9223372036854775807)
    (h : ∀ g p cap w' gb', Sl w' (.slice (some ⟨g, p, none⟩) (n + m) cap) gb' e size (n + m) (xs ++ news) → w.grownBy w' gb → gb' = some g → (gb' = gb ∨ w.heap.size ≤ g) → wpList P ops Q rest (a.put o.dst (.slice (some ⟨g, p, none⟩) (n + m) cap)) w') : wpList P ops Q (o :: rest) a w := by
  refine wpList_plain hgd fun K hK => ?_
  obtain ⟨g, p, cap, w', gb', hr, h2, h3, h4, h5⟩ := run_append_sl (P := P) w t o.type e i z size bytes ht hi hz hsize hby hzs v gb n xs hown ad m c news hl hnews h1 h0 hbytes hsmall
  unfold Oper.wp execOp
  simp only [ho, resolve, invoke, builtin, Sem.run_bind, Sem.run_pure, Result.andThen_ok, List.map_toArray, List.map_cons, List.map_nil, hs, hx, hr]
  exact hK _ _ (h g p cap w' gb' h2 h3 h4 h5)
end
section
variable {P : Program} (w : World)
/-- An append to such a slice, at a step of a region that draws its order. -/
theorem step_append_sl {ops : Array Oper} {o : Oper} {a : Act} {K : Act → World → Prop} {Q : Exit → Act → World → Prop} {E : Prop} (hgd : o.guard = none) (s x : Operand) (t : TypeId)
    (ho : o.op = .call { callee := .builtin .append, args := #[s, x], argTypes := #[t, t] })
    (e : TypeId) (i : TypeInfo) (z : Value) (size bytes : Nat) (ht : P.underlying t = some (.slice e)) (hi : P.info? e = some i) (hz : i.zero = some z)
    (hsize : i.size = size) (hby : i.bytes = bytes) (hzs : z.cells.size = size)
    (v : Value) (gb : Option Nat) (n : Nat) (xs : List Value) (hs : a.eval s = v) (hown : Sl w v gb e size n xs)
    (ad : Addr) (m c : Nat) (news : List Value) (hx : a.eval x = .slice (some ad) m c) (hl : news.length = m * size) (hnews : ∀ j u, news[j]? = some u → w.cell? (ad.add j) = some u) (h1 : ∀ u ∈ news, u.oneCell' = true)
    (h0 : 0 < m) (hbytes : (n + m) * bytes ≤ 140737488355328) (hsmall : n + m ≤ 9223372036854775807)
    (h : ∀ g p cap w' gb', Sl w' (.slice (some ⟨g, p, none⟩) (n + m) cap) gb' e size (n + m) (xs ++ news) → w.grownBy w' gb → gb' = some g → (gb' = gb ∨ w.heap.size ≤ g) → K (a.put o.dst (.slice (some ⟨g, p, none⟩) (n + m) cap)) w') :
    if Region.wanted o (yielded ops a.tmps) = true then Oper.wp P o a w K Q else E := by
  have hw : Region.wanted o (yielded ops a.tmps) = true := by simp [Region.wanted, hgd]
  rw [if_pos hw]
  obtain ⟨g, p, cap, w', gb', hr, h2, h3, h4, h5⟩ := run_append_sl (P := P) w t o.type e i z size bytes ht hi hz hsize hby hzs v gb n xs hown ad m c news hl hnews h1 h0 hbytes hsmall
  unfold Oper.wp execOp
  simp only [ho, resolve, invoke, builtin, Sem.run_bind, Sem.run_pure, Result.andThen_ok, List.map_toArray, List.map_cons, List.map_nil, hs, hx, hr]
  exact h g p cap w' gb' h2 h3 h4 h5
end
end Go.Proofs.YtmkinnheoejphaaGreatDoor
