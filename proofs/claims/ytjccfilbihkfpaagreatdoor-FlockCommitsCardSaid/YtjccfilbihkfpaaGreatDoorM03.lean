import Derived.Laws.AppendOwn
import Derived.Below
import Derived.OwnWalk
import Derived.Deep.AppendLies
import Derived.Test.YtjccfilbihkfpaaGreatDoorM00
import Derived.OneCell
import Derived.Lib.AppendStr

/- SLICES THAT THE CALL OWNS, FROM ANY PLACE OF THEIR BLOCK ON: how append, a cut at the front, a store leave them. Nothing here knows the program. -/
namespace Go.Proofs.YtjccfilbihkfpaaGreatDoor
open Go.RowKit

/-- Every block but a and b is as it was. -/
structure Kb2 (a b : Option Nat) (w w' : World) : Prop where
  os : w'.os = w.os
  tape : w'.tape = w.tape
  output : w'.output = w.output
  size : w.heap.size ≤ w'.heap.size
  block : ∀ k, k < w.heap.size → some k ≠ a → some k ≠ b → w'.heap[k]? = w.heap[k]?
theorem Kb2.refl (a b : Option Nat) (w : World) : Kb2 a b w w := ⟨rfl, rfl, rfl, Nat.le_refl _, fun _ _ _ _ => rfl⟩
theorem Kb2.trans {a b : Option Nat} {u v w : World} (h : Kb2 a b u v) (k : Kb2 a b v w) : Kb2 a b u w :=
  ⟨k.os.trans h.os, k.tape.trans h.tape, k.output.trans h.output, Nat.le_trans h.size k.size, fun i hi h1 h2 => (k.block i (Nat.lt_of_lt_of_le hi h.size) h1 h2).trans (h.block i hi h1 h2)⟩
/-- .. where the second step's second block is the first's or a new one. -/
theorem Kb2.trans' {a b b' : Option Nat} {u v w : World} (h : Kb2 a b u v) (k : Kb2 a b' v w) (hb : b' = b ∨ ∃ i, b' = some i ∧ u.heap.size ≤ i) : Kb2 a b u w :=
  ⟨k.os.trans h.os, k.tape.trans h.tape, k.output.trans h.output, Nat.le_trans h.size k.size, fun i hi h1 h2 => (k.block i (Nat.lt_of_lt_of_le hi h.size) h1 (by
    rcases hb with rfl | ⟨j, rfl, hj⟩
    · exact h2
    · intro e; cases e; omega)).trans (h.block i hi h1 h2)⟩
theorem Kb2.of_grown {a b : Option Nat} {w w' : World} (h : w.grownBy w' b) : Kb2 a b w w' := ⟨h.os, h.tape, h.output, h.size, fun k hk _ h2 => h.block k hk h2⟩
theorem Kb2.setCell {a b : Option Nat} (w : World) (p : Addr) (v : Value) (h : some p.block = a ∨ some p.block = b) : Kb2 a b w (w.setCell p v) :=
  ⟨rfl, rfl, rfl, by simp [World.setCell], fun k _ h1 h2 => Below.heap_setCell _ _ _ _ (by rintro rfl; rcases h with h | h <;> simp_all)⟩
theorem Kb2.alloc {a b : Option Nat} (w : World) (o : Obj) : Kb2 a b w (w.alloc o) := ⟨rfl, rfl, rfl, by simp, fun k hk _ _ => Below.heap_alloc _ _ _ hk⟩
theorem Kb2.drew {a b : Option Nat} (w : World) : Kb2 a b w w.drew := ⟨rfl, rfl, rfl, Nat.le_refl _, fun _ _ _ _ => rfl⟩
/-- What lies below B is as it was, if neither block lies there. -/
theorem Kb2.below {a b : Option Nat} {w w' : World} {B : Nat} (h : Kb2 a b w w') (hB : B ≤ w.heap.size) (ha : ∀ k, a = some k → B ≤ k) (hb : ∀ k, b = some k → B ≤ k) : Below B w w' :=
  ⟨h.os, h.tape, h.output, h.size, fun k hk => h.block k (by omega) (fun e => by have := ha k e.symm; omega) (fun e => by have := hb k e.symm; omega)⟩
theorem Kb2.cell {a b : Option Nat} {w w' : World} (h : Kb2 a b w w') {p : Addr} (hp : p.block < w.heap.size) (h1 : some p.block ≠ a) (h2 : some p.block ≠ b) : w'.cell? p = w.cell? p := World.cell?_of_block (h.block p.block hp h1 h2)

/-- The slice v, its elements' cells xs, in block gb (none: it has none). -/
def Sl (w : World) (v : Value) (gb : Option Nat) (e size : Nat) (n : Nat) (xs : List Value) : Prop :=
  xs.length = n * size ∧ ((v = .slice none 0 0 ∧ gb = none ∧ n = 0) ∨
    ∃ g p cap cur, gb = some g ∧ v = .slice (some ⟨g, p, none⟩) n cap ∧ w.heap[g]? = some (.cells cur e (0, 0)) ∧ n ≤ cap ∧ p + cap * size ≤ cur.size ∧ (cur.toList.drop p).take (n * size) = xs)

section
variable {w : World} {v : Value} {gb : Option Nat} {e size n : Nat} {xs : List Value}
theorem Sl.lt (h : Sl w v gb e size n xs) : ∀ k, gb = some k → k < w.heap.size := by
  rintro k rfl
  rcases h.2 with ⟨_, h, _⟩ | ⟨g, p, cap, cur, h, _, hg, _⟩
  · cases h
  · cases h; exact (Array.getElem?_eq_some_iff.1 hg).1
theorem Sl.same {w' : World} (h : Sl w v gb e size n xs) (hb : ∀ k, gb = some k → w'.heap[k]? = w.heap[k]?) : Sl w' v gb e size n xs := by
  obtain ⟨h1, h2⟩ := h
  refine ⟨h1, ?_⟩
  rcases h2 with h2 | ⟨g, p, cap, cur, rfl, hv, hg, h3⟩
  · exact .inl h2
  · exact .inr ⟨g, p, cap, cur, rfl, hv, by rw [hb g rfl]; exact hg, h3⟩
theorem Sl.cell (h : Sl w v gb e size n xs) {g p cap m : Nat} (hv : v = .slice (some ⟨g, p, none⟩) m cap) (j : Nat) (u : Value) (hj : xs[j]? = some u) : w.cell? ⟨g, p + j, none⟩ = some u := by
  rcases h.2 with ⟨hv', _⟩ | ⟨g', p', cap', cur, _, hv', hg, _, _, ht⟩
  · rw [hv] at hv'; cases hv'
  · rw [hv] at hv'; cases hv'
    rw [cell_of_row w g (p + j) cur e (0, 0) hg]
    rw [← ht, List.getElem?_take] at hj
    split at hj
    · rw [List.getElem?_drop] at hj; simpa using hj
    · cases hj
theorem Sl.frozen (h : Sl w v gb e size n xs) {g p cap m : Nat} (hv : v = .slice (some ⟨g, p, none⟩) m cap) (j : Nat) : w.frozen? ⟨g, j, none⟩ = false := by
  rcases h.2 with ⟨hv', _⟩ | ⟨g', p', cap', cur, _, hv', hg, _, _, ht⟩
  · rw [hv] at hv'; cases hv'
  · rw [hv] at hv'; cases hv'
    simp [World.frozen?, hg]
end

section
variable {P : Program} (w : World)
theorem run_append_room_at (t ty e : TypeId) (i : TypeInfo) (ht : P.underlying t = some (.slice e)) (hi : P.info? e = some i)
    (g p sLen sCap : Nat) (cur : Array Value) (hg : w.heap[g]? = some (.cells cur e (0, 0)))
    (a : Addr) (m c : Nat) (news : List Value) (hl : news.length = m * i.size) (hnews : ∀ j u, news[j]? = some u → w.cell? (a.add j) = some u) (h1 : ∀ u ∈ news, u.oneCell' = true)
    (hroom : sLen + m ≤ sCap) (hfit : p + sLen * i.size + news.length ≤ cur.size) :
    (Builtin.append_ #[t, t] ty #[.slice (some ⟨g, p, none⟩) sLen sCap, .slice (some a) m c]).run P w =
      .ok (.slice (some ⟨g, p, none⟩) (sLen + m) sCap) (w.setRow g (cur.toList.take (p + sLen * i.size) ++ news ++ cur.toList.drop (p + sLen * i.size + news.length)).toArray) := by
  have hf := run_firstCells_some (P := P) w i.size m a m c news hl hnews
  have hst := run_storeCells_at P g (p + sLen * i.size) e news 0 cur w hg (by simpa using hfit) h1
  simp only [Nat.add_zero] at hst
  simp [Builtin.append_, run_underlying ht, sizeOf, typeInfo, hi, Builtin.lenOf, hroom, hf, Addr.add_lit, hst]

theorem run_append_sl (t ty e : TypeId) (i : TypeInfo) (z : Value) (size bytes : Nat) (ht : P.underlying t = some (.slice e)) (hi : P.info? e = some i) (hz : i.zero = some z)
    (hsize : i.size = size) (hby : i.bytes = bytes) (hzs : z.cells.size = size)
    (v : Value) (gb : Option Nat) (n : Nat) (xs : List Value) (hown : Sl w v gb e size n xs)
    (a : Addr) (m c : Nat) (news : List Value) (hl : news.length = m * size) (hnews : ∀ j u, news[j]? = some u → w.cell? (a.add j) = some u) (h1 : ∀ u ∈ news, u.oneCell' = true)
    (h0 : 0 < m) (hbytes : (n + m) * bytes ≤ 140737488355328) (hsmall : n + m ≤ 9223372036854775807) :
    ∃ g p cap w' gb', (Builtin.append_ #[t, t] ty #[v, .slice (some a) m c]).run P w = .ok (.slice (some ⟨g, p, none⟩) (n + m) cap) w' ∧ Sl w' (.slice (some ⟨g, p, none⟩) (n + m) cap) gb' e size (n + m) (xs ++ news) ∧ w.grownBy w' gb ∧ gb' = some g ∧ (gb' = gb ∨ w.heap.size ≤ g) := by
  subst hsize
  subst hby
  have hlen : (xs ++ news).length = (n + m) * i.size := by rw [List.length_append, hown.1, hl, Nat.add_mul]
  have grown : ∀ (old : Nat), old < n + m →
      Sl (w.drew.alloc (.cells (xs.toArray ++ news.toArray ++ Builtin.zeroCells z.cells (grownCap w (n + m) old e - (n + m))) e))
        (.slice (some ⟨w.heap.size, 0, none⟩) (n + m) (grownCap w (n + m) old e)) (some w.heap.size) e i.size (n + m) (xs ++ news) ∧
      w.grownBy (w.drew.alloc (.cells (xs.toArray ++ news.toArray ++ Builtin.zeroCells z.cells (grownCap w (n + m) old e - (n + m))) e)) gb := by
    intro old ho
    have hge := grownCap_ge w (n + m) old e
    refine ⟨⟨hlen, .inr ⟨w.heap.size, 0, _, _, rfl, rfl, heap_alloc_new w.drew _, hge, ?_, ?_⟩⟩, ⟨rfl, rfl, rfl, by simp, fun k hk _ => Below.heap_alloc _ _ _ hk⟩⟩
    · simp only [Array.size_append, List.size_toArray, size_zeroCells, hzs, hown.1, hl, ← Nat.add_mul, Nat.zero_add]
      apply Nat.le_of_eq
      congr 1
      omega
    · simp only [Array.toList_append, List.append_assoc, List.drop_zero]
      rw [← List.append_assoc, ← hlen]
      exact List.take_left
  rcases hown.2 with ⟨rfl, rfl, rfl⟩ | ⟨g, p, cap, cur, rfl, rfl, hg, hnc, hcs, htake⟩
  · have hx : xs = [] := List.eq_nil_of_length_eq_zero (by simpa using hown.1)
    subst hx
    have hr := run_append_nil (P := P) w t ty e i z ht hi hz a m c news hl hnews h0 (by omega) (by have hb := hbytes; simp only [Nat.zero_add] at hb; omega)
    have hgr := grown 0 (by omega)
    simp only [Nat.zero_add, List.nil_append, Array.empty_append] at hgr ⊢
    exact ⟨_, _, _, _, _, hr, hgr.1, hgr.2, rfl, .inr (Nat.le_refl _)⟩
  · by_cases hroom : n + m ≤ cap
    · have hfit : p + n * i.size + news.length ≤ cur.size := by
        have : (n + m) * i.size ≤ cap * i.size := Nat.mul_le_mul_right _ hroom
        rw [Nat.add_mul] at this
        rw [hl]; omega
      have hr := run_append_room_at (P := P) w t ty e i ht hi g p n cap cur hg a m c news hl hnews h1 hroom hfit
      refine ⟨_, _, _, _, _, hr, ⟨hlen, .inr ⟨g, p, cap, _, rfl, rfl, setRow_heap w g cur _ e _ hg, hroom, ?_, ?_⟩⟩, ⟨rfl, rfl, rfl, by simp, fun k _ hk => setRow_other w g k _ (fun e => hk (by simp [e]))⟩, rfl, .inl rfl⟩
      · simp only [List.size_toArray, List.length_append, List.length_take, List.length_drop, Array.length_toList]
        omega
      · show List.take ((n + m) * i.size) (List.drop p (cur.toList.take (p + n * i.size) ++ news ++ cur.toList.drop (p + n * i.size + news.length))) = xs ++ news
        have hp : p ≤ (cur.toList.take (p + n * i.size)).length := by
          rw [List.length_take, Array.length_toList]; omega
        rw [List.append_assoc, List.drop_append_of_le_length hp, List.drop_take, Nat.add_sub_cancel_left, htake, ← List.append_assoc, ← hlen]
        exact List.take_left
    · have holds : ∀ j u, xs[j]? = some u → w.cell? ((⟨g, p, none⟩ : Addr).add j) = some u := fun j u hj => by
        rw [Addr.add_lit]; exact hown.cell rfl j u hj
      have hr := run_append_grow (P := P) w t ty e i z ht hi hz ⟨g, p, none⟩ n cap xs hown.1 holds a m c news hl hnews (by omega) (by omega) (growslice_fits (by omega) hbytes)
      have hgr := grown cap (by omega)
      exact ⟨_, _, _, _, _, hr, hgr.1, hgr.2, rfl, .inr (Nat.le_refl _)⟩

theorem wpList_append_sl {ops : Array Oper} {rest : List Oper} {o : Oper} {a : Act} {Q : Exit → Act → World → Prop} (hgd : o.guard = none) (s x : Operand) (t : TypeId)
    (ho : o.op = .call { callee := .builtin .append, args := #[s, x], argTypes := #[t, t] })
    (e : TypeId) (i : TypeInfo) (z : Value) (size bytes : Nat) (ht : P.underlying t = some (.slice e)) (hi : P.info? e = some i) (hz : i.zero = some z)
    (hsize : i.size = size) (hby : i.bytes = bytes) (hzs : z.cells.size = size)
    (v : Value) (gb : Option Nat) (n : Nat) (xs : List Value) (hs : a.eval s = v) (hown : Sl w v gb e size n xs)
    (ad : Addr) (m c : Nat) (news : List Value) (hx : a.eval x = .slice (some ad) m c) (hl : news.length = m * size) (hnews : ∀ j u, news[j]? = some u → w.cell? (ad.add j) = some u) (h1 : ∀ u ∈ news, u.oneCell' = true)
    (h0 : 0 < m) (hbytes : (n + m) * bytes ≤ 140737488355328) (hsmall : n + m ≤ 9223372036854775807)
    (h : ∀ g p cap w' gb', Sl w' (.slice (some ⟨g, p, none⟩) (n + m) cap) gb' e size (n + m) (xs ++ news) → w.grownBy w' gb → gb' = some g → (gb' = gb ∨ w.heap.size ≤ g) → wpList P ops Q rest (a.put o.dst (.slice (some ⟨g, p, none⟩) (n + m) cap)) w') : wpList P ops Q (o :: rest) a w := by
  refine wpList_plain hgd fun K hK => ?_
  obtain ⟨g, p, cap, w', gb', hr, h2, h3, h4, h5⟩ := run_append_sl (P := P) w t o.type e i z size bytes ht hi hz hsize hby hzs v gb n xs hown ad m c news hl hnews h1 h0 hbytes hsmall
  unfold Oper.wp execOp
  simp only [ho, resolve, invoke, builtin, Sem.run_bind, Sem.run_pure, Result.andThen_ok, List.map_toArray, List.map_cons, List.map_nil, hs, hx, hr]
  exact hK _ _ (h g p cap w' gb' h2 h3 h4 h5)
end
section
variable {P : Program} (w : World)
/-- An append to such a slice, at a step of a region that draws its order. -/
theorem step_append_sl {ops : Array Oper} {o : Oper} {a : Act} {K : Act → World → Prop} {Q : Exit → Act → World → Prop} {E : Prop} (hgd : o.guard = none) (s x : Operand) (t : TypeId)
    (ho : o.op = .call { callee := .builtin .append, args := #[s, x], argTypes := #[t, t] })
    (e : TypeId) (i : TypeInfo) (z : Value) (size bytes : Nat) (ht : P.underlying t = some (.slice e)) (hi : P.info? e = some i) (hz : i.zero = some z)
    (hsize : i.size = size) (hby : i.bytes = bytes) (hzs : z.cells.size = size)
    (v : Value) (gb : Option Nat) (n : Nat) (xs : List Value) (hs : a.eval s = v) (hown : Sl w v gb e size n xs)
    (ad : Addr) (m c : Nat) (news : List Value) (hx : a.eval x = .slice (some ad) m c) (hl : news.length = m * size) (hnews : ∀ j u, news[j]? = some u → w.cell? (ad.add j) = some u) (h1 : ∀ u ∈ news, u.oneCell' = true)
    (h0 : 0 < m) (hbytes : (n + m) * bytes ≤ 140737488355328) (hsmall : n + m ≤ 9223372036854775807)
    (h : ∀ g p cap w' gb', Sl w' (.slice (some ⟨g, p, none⟩) (n + m) cap) gb' e size (n + m) (xs ++ news) → w.grownBy w' gb → gb' = some g → (gb' = gb ∨ w.heap.size ≤ g) → K (a.put o.dst (.slice (some ⟨g, p, none⟩) (n + m) cap)) w') :
    if Region.wanted o (yielded ops a.tmps) = true then Oper.wp P o a w K Q else E := by
  have hw : Region.wanted o (yielded ops a.tmps) = true := by simp [Region.wanted, hgd]
  rw [if_pos hw]
  obtain ⟨g, p, cap, w', gb', hr, h2, h3, h4, h5⟩ := run_append_sl (P := P) w t o.type e i z size bytes ht hi hz hsize hby hzs v gb n xs hown ad m c news hl hnews h1 h0 hbytes hsmall
  unfold Oper.wp execOp
  simp only [ho, resolve, invoke, builtin, Sem.run_bind, Sem.run_pure, Result.andThen_ok, List.map_toArray, List.map_cons, List.map_nil, hs, hx, hr]
  exact h g p cap w' gb' h2 h3 h4 h5
end
end Go.Proofs.YtjccfilbihkfpaaGreatDoor

/- What a call leaves as it was (Moved), and blocks that are known whole. -/
namespace Go.Proofs.YtjccfilbihkfpaaGreatDoor
open Go.RowKit

/-- But for the blocks of B the world is as it was; the blocks of B' are of B, or new. -/
structure Moved (B B' : Nat → Prop) (w w' : World) : Prop where
  os : w'.os = w.os
  tape : w'.tape = w.tape
  output : w'.output = w.output
  size : w.heap.size ≤ w'.heap.size
  block : ∀ k, k < w.heap.size → ¬ B k → w'.heap[k]? = w.heap[k]?
  new : ∀ k, B' k → B k ∨ w.heap.size ≤ k
theorem Moved.refl (B : Nat → Prop) (w : World) : Moved B B w w := ⟨rfl, rfl, rfl, Nat.le_refl _, fun _ _ _ => rfl, fun _ h => .inl h⟩
theorem Moved.trans {A B C : Nat → Prop} {u v w : World} (h : Moved A B u v) (k : Moved B C v w) : Moved A C u w :=
  ⟨k.os.trans h.os, k.tape.trans h.tape, k.output.trans h.output, Nat.le_trans h.size k.size,
    fun i hi hn => (k.block i (Nat.lt_of_lt_of_le hi h.size) (fun hb => by rcases h.new i hb with h1 | h1; exact hn h1; omega)).trans (h.block i hi hn),
    fun i hi => by rcases k.new i hi with h1 | h1; exact h.new i h1; exact .inr (Nat.le_trans h.size h1)⟩
theorem Moved.of_below {B : Nat → Prop} {w w' : World} (h : Below w.heap.size w w') : Moved B B w w' := ⟨h.os, h.tape, h.output, h.size, fun k hk _ => h.block k hk, fun _ h => .inl h⟩
theorem Moved.of_grown {B : Nat → Prop} {w w' : World} {r : Option Nat} (h : w.grownBy w' r) (hr : ∀ k, r = some k → B k) : Moved B B w w' := ⟨h.os, h.tape, h.output, h.size, fun k hk hn => h.block k hk (fun e => hn (hr k e.symm)), fun _ h => .inl h⟩
theorem Moved.setCell {B : Nat → Prop} (w : World) (a : Addr) (v : Value) (h : B a.block) : Moved B B w (w.setCell a v) :=
  ⟨rfl, rfl, rfl, by simp [World.setCell], fun k _ hn => Below.heap_setCell _ _ _ _ (by rintro rfl; exact hn h), fun _ h => .inl h⟩
theorem Moved.alloc {B : Nat → Prop} (w : World) (o : Obj) : Moved B B w (w.alloc o) := .of_below ((Below.refl _ _).alloc (Nat.le_refl _) o)
theorem Moved.mono {A A' B B' : Nat → Prop} {w w' : World} (h : Moved A B w w') (h1 : ∀ k, A k → A' k) (h2 : ∀ k, B' k → A' k ∨ w.heap.size ≤ k) : Moved A' B' w w' :=
  ⟨h.os, h.tape, h.output, h.size, fun k hk hn => h.block k hk (fun hb => hn (h1 k hb)), h2⟩
theorem Moved.below {B B' : Nat → Prop} {w0 w w' : World} (h : Moved B B' w w') (h0 : Below w0.heap.size w0 w) (hB : ∀ k, B k → w0.heap.size ≤ k) : Below w0.heap.size w0 w' ∧ ∀ k, B' k → w0.heap.size ≤ k :=
  ⟨h0.trans ⟨h.os, h.tape, h.output, h.size, fun k hk => h.block k (Nat.lt_of_lt_of_le hk h0.size) (fun hb => by have := hB k hb; omega)⟩, fun k hk => by
    have := h0.size
    rcases h.new k hk with h1 | h1
    · exact hB k h1
    · omega⟩

section
variable {w w' : World} {b i : Nat} {cs : Array Value} {T : TypeId}
theorem Blk.same (h : Blk w b cs T) (e : w'.heap[b]? = w.heap[b]?) : Blk w' b cs T := e.trans h
theorem Blk.moved {B B' : Nat → Prop} (h : Blk w b cs T) (hk : Moved B B' w w') (hn : ¬ B b) : Blk w' b cs T ∧ ¬ B' b :=
  ⟨h.same (hk.block b h.lt hn), fun hb => by have := h.lt; rcases hk.new b hb with h1 | h1; exact hn h1; omega⟩
theorem Blk.alloc (h : Blk w b cs T) (o : Obj) : Blk (w.alloc o) b cs T := h.same (Below.heap_alloc _ _ _ h.lt)
theorem Blk.grown {r : Option Nat} (h : Blk w b cs T) (hg : w.grownBy w' r) (hn : some b ≠ r) : Blk w' b cs T := h.same (hg.block _ h.lt hn)
theorem Blk.setAway (h : Blk w b cs T) (a : Addr) (v : Value) (hn : b ≠ a.block) : Blk (w.setCell a v) b cs T := h.same (Below.heap_setCell _ _ _ _ hn)
end
theorem Moved.iff {w w' : World} {A A' C C' : Nat → Prop} (h : Moved A C w w') (h1 : ∀ b, A' b ↔ A b) (h2 : ∀ b, C' b ↔ C b) : Moved A' C' w w' :=
  ⟨h.os, h.tape, h.output, h.size, fun k hk hn => h.block k hk (fun ha => hn ((h1 k).2 ha)), fun k hk => (h.new k ((h2 k).1 hk)).imp (h1 k).2 id⟩
end Go.Proofs.YtjccfilbihkfpaaGreatDoor

/- SLICES THAT ARE READ, and appends of what is read to slices that the call owns. Nothing here knows the program. -/
namespace Go.Proofs.YtjccfilbihkfpaaGreatDoor
open Go.RowKit

/-- A slice of m elements of so many cells that reads as these cells, in a block of which A holds. -/
def Rds (A : Nat → Prop) (w : World) (u : Value) (size m : Nat) (xs : List Value) : Prop :=
  xs.length = m * size ∧ ((u = .slice none 0 0 ∧ m = 0) ∨ ∃ ad cap, u = .slice (some ad) m cap ∧ m ≤ cap ∧
    (0 < m → ∃ b p, ad = ⟨b, p, none⟩ ∧ A b ∧ b < w.heap.size ∧ ∀ j x, xs[j]? = some x → w.cell? ⟨b, p + j, none⟩ = some x))
section
variable {A A' : Nat → Prop} {w w' : World} {u : Value} {size m : Nat} {xs : List Value}
theorem Rds.form (h : Rds A w u size m xs) : ∃ a cap, u = .slice a m cap := by
  rcases h.2 with ⟨rfl, rfl⟩ | ⟨ad, cap, rfl, -⟩
  · exact ⟨_, _, rfl⟩
  · exact ⟨_, _, rfl⟩
theorem Rds.mono (h : Rds A w u size m xs) (k : ∀ b, A b → A' b) : Rds A' w u size m xs := by
  refine ⟨h.1, ?_⟩
  rcases h.2 with h2 | ⟨ad, cap, rfl, hc, h2⟩
  · exact .inl h2
  · exact .inr ⟨ad, cap, rfl, hc, fun h0 => let ⟨b, p, e, h3, h4⟩ := h2 h0; ⟨b, p, e, k b h3, h4⟩⟩
theorem Rds.keep (h : Rds A w u size m xs) (hs : w.heap.size ≤ w'.heap.size) (k : ∀ b, A b → b < w.heap.size → w'.heap[b]? = w.heap[b]? ∧ A' b) : Rds A' w' u size m xs := by
  refine ⟨h.1, ?_⟩
  rcases h.2 with h2 | ⟨ad, cap, rfl, hc, h2⟩
  · exact .inl h2
  · refine .inr ⟨ad, cap, rfl, hc, fun h0 => ?_⟩
    obtain ⟨b, p, e, h3, h4, h5⟩ := h2 h0
    obtain ⟨k1, k2⟩ := k b h3 h4
    exact ⟨b, p, e, k2, Nat.lt_of_lt_of_le h4 hs, fun j x hj => (World.cell?_of_block k1).trans (h5 j x hj)⟩
theorem Rds.bound (h : Rds A w u size m xs) : Rds (fun b => b < w.heap.size) w u size m xs := by
  refine ⟨h.1, ?_⟩
  rcases h.2 with h2 | ⟨ad, cap, rfl, hc, h2⟩
  · exact .inl h2
  · exact .inr ⟨ad, cap, rfl, hc, fun h0 => let ⟨b, p, e, _, h4, h5⟩ := h2 h0; ⟨b, p, e, h4, h4, h5⟩⟩
theorem Rds.below (h : Rds A w u size m xs) (hb : Below w.heap.size w w') : Rds A w' u size m xs := h.keep hb.size fun b ha hl => ⟨hb.block b hl, ha⟩
theorem Rds.moved {B B' : Nat → Prop} (h : Rds (fun b => ¬ B b) w u size m xs) (k : Moved B B' w w') : Rds (fun b => ¬ B' b) w' u size m xs :=
  h.keep k.size fun b hb hl => ⟨k.block b hl hb, fun h' => by rcases k.new b h' with h1 | h1; exact hb h1; omega⟩
theorem Rds.at (h : Rds A w u size m xs) (h0 : 0 < m) : ∃ b p cap, u = .slice (some ⟨b, p, none⟩) m cap ∧ A b ∧ b < w.heap.size ∧ ∀ j x, xs[j]? = some x → w.cell? ⟨b, p + j, none⟩ = some x := by
  rcases h.2 with ⟨_, h2⟩ | ⟨ad, cap, rfl, -, h2⟩
  · omega
  · obtain ⟨b, p, rfl, h3⟩ := h2 h0
    exact ⟨b, p, cap, rfl, h3⟩
theorem Rds.nil (A : Nat → Prop) (w : World) (size : Nat) : Rds A w (.slice none 0 0) size 0 [] := ⟨by simp, .inl ⟨rfl, rfl⟩⟩
theorem Rds.empty (A : Nat → Prop) (w : World) (size : Nat) (ad : Addr) (cap : Nat) : Rds A w (.slice (some ad) 0 cap) size 0 [] := ⟨by simp, .inr ⟨ad, cap, rfl, Nat.zero_le _, fun h => absurd h (Nat.lt_irrefl _)⟩⟩
theorem Rds.of_sl {gb : Option Nat} {e : Nat} (h : Sl w u gb e size m xs) (k : ∀ b, gb = some b → A b) : Rds A w u size m xs := by
  refine ⟨h.1, ?_⟩
  rcases h.2 with ⟨rfl, -, rfl⟩ | ⟨g, p, cap, cur, rfl, rfl, hg, hnc, -⟩
  · exact .inl ⟨rfl, rfl⟩
  · exact .inr ⟨_, cap, rfl, hnc, fun _ => ⟨g, p, rfl, k g rfl, h.lt g rfl, fun j x hj => h.cell rfl j x hj⟩⟩
end
/-- A slice that the call has made reads so; it is the call's own. -/
theorem Sl.of_own {w : World} {base e size n : Nat} {v : Value} {xs : List Value} (h : w.ownsRow base e size v n xs) : Sl w v v.ownBlock e size n xs := by
  obtain ⟨h1, h2⟩ := h
  refine ⟨h1, ?_⟩
  rcases h2 with ⟨rfl, rfl⟩ | ⟨g, cap, cur, rfl, _, hg, hn, _, hs, ht⟩
  · exact .inl ⟨rfl, rfl, rfl⟩
  · exact .inr ⟨g, 0, cap, cur, rfl, rfl, hg, hn, by rw [hs]; omega, by simpa using ht⟩
theorem Sl.form {w : World} {v : Value} {gb : Option Nat} {e size n : Nat} {xs : List Value} (h : Sl w v gb e size n xs) : ∃ a cap, v = .slice a n cap := by
  rcases h.2 with ⟨rfl, _, rfl⟩ | ⟨g, p, cap, cur, _, rfl, _⟩
  · exact ⟨_, _, rfl⟩
  · exact ⟨_, _, rfl⟩
theorem Sl.nil (w : World) (e size : Nat) : Sl w (.slice none 0 0) none e size 0 [] := ⟨by simp, .inl ⟨rfl, rfl, rfl⟩⟩
theorem Sl.made (w : World) (e size : Nat) : Sl (w.alloc (.cells #[] e)) (.slice (some ⟨w.heap.size, 0, none⟩) 0 0) (some w.heap.size) e size 0 [] :=
  ⟨by simp, .inr ⟨w.heap.size, 0, 0, #[], rfl, rfl, heap_alloc_new w _, Nat.le_refl _, by simp, by simp⟩⟩
theorem Sl.keep {w w' : World} {v : Value} {gb : Option Nat} {e size n : Nat} {xs : List Value} {B B' : Nat → Prop} (h : Sl w v gb e size n xs) (k : Moved B B' w w') (hn : ∀ b, gb = some b → ¬ B b) : Sl w' v gb e size n xs ∧ ∀ b, gb = some b → ¬ B' b :=
  ⟨h.same fun b hb => k.block b (h.lt b hb) (hn b hb), fun b hb h' => by have := h.lt b hb; rcases k.new b h' with h1 | h1; exact hn b hb h1; omega⟩

section
variable {P : Program} {w : World}
theorem run_append_sl_nil (t ty e : TypeId) (i : TypeInfo) (size : Nat) (ht : P.underlying t = some (.slice e)) (hi : P.info? e = some i)
    (v : Value) (gb : Option Nat) (n : Nat) (xs : List Value) (hown : Sl w v gb e size n xs) :
    (Builtin.append_ #[t, t] ty #[v, .slice none 0 0]).run P w = .ok v w := by
  rcases hown.2 with ⟨rfl, _⟩ | ⟨g, p, cap, cur, _, rfl, _, hnc, _⟩
  · simp [Builtin.append_, run_underlying ht, sizeOf, typeInfo, hi, Builtin.lenOf, Builtin.firstCells]
  · simp [Builtin.append_, run_underlying ht, sizeOf, typeInfo, hi, Builtin.lenOf, Builtin.firstCells, hnc, storeCells]
theorem run_append_sl_zero (t ty e : TypeId) (i : TypeInfo) (size : Nat) (ht : P.underlying t = some (.slice e)) (hi : P.info? e = some i)
    (v : Value) (gb : Option Nat) (n : Nat) (xs : List Value) (hown : Sl w v gb e size n xs) (ad : Addr) (c : Nat) :
    (Builtin.append_ #[t, t] ty #[v, .slice (some ad) 0 c]).run P w = .ok v w := by
  rcases hown.2 with ⟨rfl, _⟩ | ⟨g, p, cap, cur, _, rfl, _, hnc, _⟩
  · simp [Builtin.append_, run_underlying ht, sizeOf, typeInfo, hi, Builtin.lenOf, Builtin.firstCells, loadCells, loadCellsFrom]
  · simp [Builtin.append_, run_underlying ht, sizeOf, typeInfo, hi, Builtin.lenOf, Builtin.firstCells, loadCells, loadCellsFrom, hnc, storeCells]
/-- An append of what is read to a slice that the call owns. -/
theorem run_append_rd {A : Nat → Prop} (t ty e : TypeId) (i : TypeInfo) (z : Value) (size bytes : Nat) (ht : P.underlying t = some (.slice e)) (hi : P.info? e = some i) (hz : i.zero = some z)
    (hsize : i.size = size) (hby : i.bytes = bytes) (hzs : z.cells.size = size)
    (v : Value) (gb : Option Nat) (n : Nat) (xs : List Value) (hown : Sl w v gb e size n xs)
    (u : Value) (m : Nat) (news : List Value) (hsrc : Rds A w u size m news) (h1 : ∀ u ∈ news, u.oneCell' = true)
    (hbytes : (n + m) * bytes ≤ 140737488355328) (hsmall : n + m ≤ 9223372036854775807) :
    ∃ v' w' gb', (Builtin.append_ #[t, t] ty #[v, u]).run P w = .ok v' w' ∧ Sl w' v' gb' e size (n + m) (xs ++ news) ∧ w.grownBy w' gb ∧ (gb' = gb ∨ ∃ g, gb' = some g ∧ w.heap.size ≤ g) ∧ (0 < m → gb' ≠ none) := by
  have hrefl : w.grownBy w gb := ⟨rfl, rfl, rfl, Nat.le_refl _, fun _ _ _ => rfl⟩
  have zero : m = 0 → Sl w v gb e size (n + m) (xs ++ news) := fun h => by
    subst h
    have : news = [] := List.eq_nil_of_length_eq_zero (by simpa using hsrc.1)
    subst this
    simpa using hown
  rcases hsrc.2 with ⟨rfl, hm⟩ | ⟨ad, cap, rfl, -, hc⟩
  · exact ⟨v, w, gb, run_append_sl_nil t ty e i size ht hi v gb n xs hown, zero hm, hrefl, .inl rfl, fun h => absurd hm (by omega)⟩
  · rcases Nat.eq_zero_or_pos m with hm | hm
    · refine ⟨v, w, gb, ?_, zero hm, hrefl, .inl rfl, fun h => absurd hm (by omega)⟩
      subst hm
      exact run_append_sl_zero t ty e i size ht hi v gb n xs hown ad cap
    · obtain ⟨b, p, rfl, _, _, h5⟩ := hc hm
      obtain ⟨g, p', cap', w', gb', hr, h2, h3, h4, h6⟩ := run_append_sl (P := P) w t ty e i z size bytes ht hi hz hsize hby hzs v gb n xs hown ⟨b, p, none⟩ m cap news hsrc.1 (fun j x hj => by rw [Addr.add_lit]; exact h5 j x hj) h1 hm hbytes hsmall
      exact ⟨_, w', gb', hr, h2, h3, h6.imp id fun h => ⟨g, h4, h⟩, fun _ => by rw [h4]; simp⟩
theorem wpList_append_rd {A : Nat → Prop} {ops : Array Oper} {rest : List Oper} {o : Oper} {a : Act} {Q : Exit → Act → World → Prop} (hgd : o.guard = none) (s x : Operand) (t : TypeId)
    (ho : o.op = .call { callee := .builtin .append, args := #[s, x], argTypes := #[t, t] })
    (e : TypeId) (i : TypeInfo) (z : Value) (size bytes : Nat) (ht : P.underlying t = some (.slice e)) (hi : P.info? e = some i) (hz : i.zero = some z)
    (hsize : i.size = size) (hby : i.bytes = bytes) (hzs : z.cells.size = size)
    (v : Value) (gb : Option Nat) (n : Nat) (xs : List Value) (hs : a.eval s = v) (hown : Sl w v gb e size n xs)
    (u : Value) (m : Nat) (news : List Value) (hx : a.eval x = u) (hsrc : Rds A w u size m news) (h1 : ∀ u ∈ news, u.oneCell' = true)
    (hbytes : (n + m) * bytes ≤ 140737488355328) (hsmall : n + m ≤ 9223372036854775807)
    (h : ∀ v' w' gb', Sl w' v' gb' e size (n + m) (xs ++ news) → w.grownBy w' gb → (gb' = gb ∨ ∃ g, gb' = some g ∧ w.heap.size ≤ g) → wpList P ops Q rest (a.put o.dst v') w') : wpList P ops Q (o :: rest) a w := by
  refine wpList_plain hgd fun K hK => ?_
  obtain ⟨v', w', gb', hr, h2, h3, h4, _⟩ := run_append_rd (P := P) (w := w) t o.type e i z size bytes ht hi hz hsize hby hzs v gb n xs hown u m news hsrc h1 hbytes hsmall
  unfold Oper.wp execOp
  simp only [ho, resolve, invoke, builtin, Sem.run_bind, Sem.run_pure, Result.andThen_ok, List.map_toArray, List.map_cons, List.map_nil, hs, hx, hr]
  exact hK _ _ (h v' w' gb' h2 h3 h4)
theorem step_append_rd {A : Nat → Prop} {ops : Array Oper} {o : Oper} {a : Act} {K : Act → World → Prop} {Q : Exit → Act → World → Prop} {E : Prop} (hgd : o.guard = none) (s x : Operand) (t : TypeId)
    (ho : o.op = .call { callee := .builtin .append, args := #[s, x], argTypes := #[t, t] })
    (e : TypeId) (i : TypeInfo) (z : Value) (size bytes : Nat) (ht : P.underlying t = some (.slice e)) (hi : P.info? e = some i) (hz : i.zero = some z)
    (hsize : i.size = size) (hby : i.bytes = bytes) (hzs : z.cells.size = size)
    (v : Value) (gb : Option Nat) (n : Nat) (xs : List Value) (hs : a.eval s = v) (hown : Sl w v gb e size n xs)
    (u : Value) (m : Nat) (news : List Value) (hx : a.eval x = u) (hsrc : Rds A w u size m news) (h1 : ∀ u ∈ news, u.oneCell' = true)
    (hbytes : (n + m) * bytes ≤ 140737488355328) (hsmall : n + m ≤ 9223372036854775807)
    (h : ∀ v' w' gb', Sl w' v' gb' e size (n + m) (xs ++ news) → w.grownBy w' gb → (gb' = gb ∨ ∃ g, gb' = some g ∧ w.heap.size ≤ g) → K (a.put o.dst v') w') :
    if Region.wanted o (yielded ops a.tmps) = true then Oper.wp P o a w K Q else E := by
  have hw : Region.wanted o (yielded ops a.tmps) = true := by simp [Region.wanted, hgd]
  rw [if_pos hw]
  obtain ⟨v', w', gb', hr, h2, h3, h4, _⟩ := run_append_rd (P := P) (w := w) t o.type e i z size bytes ht hi hz hsize hby hzs v gb n xs hown u m news hsrc h1 hbytes hsmall
  unfold Oper.wp execOp
  simp only [ho, resolve, invoke, builtin, Sem.run_bind, Sem.run_pure, Result.andThen_ok, List.map_toArray, List.map_cons, List.map_nil, hs, hx, hr]
  exact h v' w' gb' h2 h3 h4
end

/-- Elements of so many cells each: where an element's cells stand. -/
theorem flat_at {α : Type} (c : α → List Value) (k : Nat) (hk : ∀ x, (c x).length = k) : ∀ (l : List α) (j : Nat) (x : α), l[j]? = some x → ∀ i, i < k → (l.flatMap c)[j * k + i]? = (c x)[i]?
  | [], j, x, h, _, _ => by simp at h
  | y :: l, 0, x, h, i, hi => by
    simp at h
    subst h
    rw [List.flatMap_cons, Nat.zero_mul, Nat.zero_add, List.getElem?_append_left (by rw [hk]; exact hi)]
  | y :: l, j + 1, x, h, i, hi => by
    simp at h
    rw [List.flatMap_cons, List.getElem?_append_right (by rw [hk, Nat.add_mul]; omega), hk, ← flat_at c k hk l j x h i hi]
    congr 1
    rw [Nat.add_mul]
    omega
theorem flat_length {α : Type} (c : α → List Value) (k : Nat) (hk : ∀ x, (c x).length = k) (l : List α) : (l.flatMap c).length = l.length * k := by
  induction l with
  | nil => simp
  | cons y l ih => rw [List.flatMap_cons, List.length_append, ih, hk, List.length_cons, Nat.add_mul]; omega
theorem flat_one {α : Type} (c : α → List Value) (h : ∀ x, ∀ u ∈ c x, u.oneCell' = true) (l : List α) : ∀ u ∈ l.flatMap c, u.oneCell' = true := by
  intro u hu
  obtain ⟨x, -, hx⟩ := List.mem_flatMap.1 hu
  exact h x u hx
theorem flat_take {α : Type} (c : α → List Value) (k : Nat) (hk : ∀ x, (c x).length = k) : ∀ (l : List α) (n : Nat), (l.flatMap c).take (n * k) = (l.take n).flatMap c
  | [], n => by simp
  | y :: l, 0 => by simp
  | y :: l, n + 1 => by
    rw [List.flatMap_cons, List.take_succ_cons, List.flatMap_cons, ← flat_take c k hk l n, List.take_append, hk, List.take_of_length_le (by rw [hk, Nat.add_mul]; omega)]
    congr 2
    rw [Nat.add_mul]
    omega
theorem flat_drop {α : Type} (c : α → List Value) (k : Nat) (hk : ∀ x, (c x).length = k) : ∀ (l : List α) (n : Nat), (l.flatMap c).drop (n * k) = (l.drop n).flatMap c
  | [], n => by simp
  | y :: l, 0 => by simp
  | y :: l, n + 1 => by
    rw [List.flatMap_cons, List.drop_succ_cons, ← flat_drop c k hk l n, List.drop_append, hk, List.drop_of_length_le (by rw [hk, Nat.add_mul]; omega), List.nil_append]
    congr 1
    rw [Nat.add_mul]
    omega
end Go.Proofs.YtjccfilbihkfpaaGreatDoor

/- What a call gathers in a slice of its own, all of it behind z, an element of some cells at a time. -/
namespace Go.Proofs.YtjccfilbihkfpaaGreatDoor
open Go.RowKit

theorem Sl.empty (w : World) (e size : Nat) : Sl (w.alloc (.cells #[] e)) (.slice (some ⟨w.heap.size, 0, none⟩) 0 0) (some w.heap.size) e size 0 [] :=
  ⟨by simp, .inr ⟨w.heap.size, 0, 0, #[], rfl, rfl, heap_alloc_new w _, Nat.le_refl _, by simp, by simp⟩⟩
theorem Sl.below {w w' : World} {v : Value} {gb : Option Nat} {e size n : Nat} {xs : List Value} (h : Sl w v gb e size n xs) (hb : Below w.heap.size w w') : Sl w' v gb e size n xs := h.same fun k hk => hb.block k (h.lt k hk)
/-- A slice of the call's own: its n elements' cells xs, in a block from z on. -/
def Wz (z : Nat) (w : World) (v : Value) (gb : Option Nat) (e size n : Nat) (xs : List Value) : Prop := Sl w v gb e size n xs ∧ ∀ b, gb = some b → z ≤ b
section
variable {z e size n : Nat} {w w' : World} {v : Value} {gb : Option Nat} {xs : List Value}
theorem Wz.nil (z : Nat) (w : World) (e size : Nat) : Wz z w (.slice none 0 0) none e size 0 [] := ⟨Sl.nil w _ _, fun b e => by cases e⟩
theorem Wz.empty {z : Nat} (w : World) (e size : Nat) (hz : z ≤ w.heap.size) : Wz z (w.alloc (.cells #[] e)) (.slice (some ⟨w.heap.size, 0, none⟩) 0 0) (some w.heap.size) e size 0 [] := ⟨Sl.empty w _ _, fun b e => by cases e; exact hz⟩
theorem Wz.below (h : Wz z w v gb e size n xs) (b : Below w.heap.size w w') : Wz z w' v gb e size n xs := ⟨h.1.below b, h.2⟩
theorem Wz.mono {z' : Nat} (h : Wz z w v gb e size n xs) (hz : z' ≤ z) : Wz z' w v gb e size n xs := ⟨h.1, fun b e => Nat.le_trans hz (h.2 b e)⟩
theorem Wz.rd (h : Wz z w v gb e size n xs) : Rds (fun b => z ≤ b) w v size n xs := Rds.of_sl h.1 h.2
theorem Wz.form (h : Wz z w v gb e size n xs) : ∃ a cap, v = .slice a n cap := h.1.form
theorem Wz.lt (h : Wz z w v gb e size n xs) : ∀ b, gb = some b → z ≤ b ∧ b < w.heap.size := fun b e => ⟨h.2 b e, h.1.lt b e⟩
theorem Wz.kb {b : Nat} (h : Wz z w v gb e size n xs) (k : Kb b w w') (hb : gb ≠ some b) : Wz z w' v gb e size n xs := ⟨h.1.same fun c e => k.block c (h.1.lt c e) (fun e2 => hb (e2 ▸ e)), h.2⟩
/-- Another slice has grown. -/
theorem Wz.grown {r : Option Nat} (h : Wz z w v gb e size n xs) (k : w.grownBy w' r) (hr : ∀ b, gb = some b → r ≠ some b) : Wz z w' v gb e size n xs := ⟨h.1.same fun c e => k.block c (h.1.lt c e) fun e2 => hr c e e2.symm, h.2⟩
end
/-- What lay ahead of z is as it was behind an append to such a slice. -/
theorem Below.appended {z : Nat} {w0 w w' : World} {gb : Option Nat} (h : Below z w0 w) (hg : w.grownBy w' gb) (hgb : ∀ b, gb = some b → z ≤ b) (hz : z ≤ w.heap.size) : Below z w0 w' :=
  ⟨hg.os.trans h.os, hg.tape.trans h.tape, hg.output.trans h.output, Nat.le_trans h.size hg.size, fun k hk => (hg.block k (Nat.lt_of_lt_of_le hk hz) (fun e => by have := hgb k e.symm; omega)).trans (h.block k hk)⟩
/-- What an element type's row says. -/
def Info (P : Program) (e size bytes : Nat) (zero : Value) : Prop := ∃ i, P.info? e = some i ∧ i.zero = some zero ∧ i.size = size ∧ i.bytes = bytes ∧ zero.cells.size = size
theorem Info.of {P : Program} {e size bytes : Nat} {zero : Value} (h : (P.info? e).map (fun i => (i.zero, i.size, i.bytes)) = some (some zero, size, bytes)) (hz : zero.cells.size = size) : Info P e size bytes zero := by
  cases hi : P.info? e with
  | none => rw [hi] at h; cases h
  | some i =>
    rw [hi] at h
    simp only [Option.map_some, Option.some.injEq, Prod.mk.injEq] at h
    exact ⟨i, hi, h.1, h.2.1, h.2.2, hz⟩
section
variable {P : Program} {ops : Array Oper} {rest : List Oper} {o : Oper} {a : Act} {Q : Exit → Act → World → Prop} {w : World} {z : Nat} {v : Value} {gb : Option Nat}
/-- One element more. -/
theorem wp_add {t e size bytes n : Nat} {zero : Value} {xs : List Value} (hi : Info P e size bytes zero) (ht : P.underlying t = some (.slice e)) (hgd : o.guard = none) (s y : Operand)
    (ho : o.op = .call { callee := .builtin .append, args := #[s, y], argTypes := #[t, t] })
    (hs : a.eval s = v) (h : Wz z w v gb e size n xs) (ad : Addr) (c : Nat) (cs : List Value) (hx : a.eval y = .slice (some ad) 1 c) (hcs : cs.length = size)
    (hn : ∀ j u, cs[j]? = some u → w.cell? (ad.add j) = some u) (h1 : ∀ u ∈ cs, u.oneCell' = true) (hl : n ≤ 1048576) (hb : bytes ≤ 65536) (hz : z ≤ w.heap.size)
    (k : ∀ v' gb' w', Wz z w' v' gb' e size (n + 1) (xs ++ cs) → w.grownBy w' gb → (∀ b, gb' = some b → gb = some b ∨ w.heap.size ≤ b) → wpList P ops Q rest (a.put o.dst v') w') : wpList P ops Q (o :: rest) a w := by
  obtain ⟨i, hi, i1, i2, i3, i4⟩ := hi
  refine wpList_append_sl w hgd s y t ho e i zero size bytes ht hi i1 i2 i3 i4 v gb n xs hs h.1 ad 1 c cs hx (by rw [hcs, Nat.one_mul]) hn h1 (by decide) ?_ (by omega) ?_
  · have : (n + 1) * bytes ≤ 1048577 * 65536 := Nat.mul_le_mul (by omega) hb
    omega
  intro g p cap w' gb' k1 k2 k3 k4
  refine k _ gb' w' ⟨k1, fun b e => ?_⟩ k2 fun b e => ?_
  · rcases k4 with k4 | k4
    · exact h.2 b (k4 ▸ e)
    · rw [k3] at e; cases e; omega
  · rcases k4 with k4 | k4
    · exact .inl (k4 ▸ e)
    · rw [k3] at e; cases e; exact .inr k4
end
/-- The cells of a slice just built, for an append. -/
theorem built_cells (w : World) (cs : Array Value) (e : TypeId) : ∀ j u, cs.toList[j]? = some u → (w.alloc (.cells cs e)).cell? ((⟨w.heap.size, 0, none⟩ : Addr).add j) = some u := by
  intro j u hu
  rw [Addr.add_lit, Nat.zero_add]
  exact (Blk.new w cs e).cell (by rw [← Array.getElem?_toList]; exact hu)
end Go.Proofs.YtjccfilbihkfpaaGreatDoor
