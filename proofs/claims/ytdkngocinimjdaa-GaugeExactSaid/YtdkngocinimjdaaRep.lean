/- A row of sizes as it lies in memory, and what it stands for: a list of pairs of numbers. -/
import Derived.Test.YtdkngocinimjdaaWalk1
import Derived.Test.YtdkngocinimjdaaRow
import Derived.OneCell
import Derived.Maps.AppendAt
import Derived.Laws.ComplexArith
namespace Go.Proofs.Ytdkngocinimjdaa
open Go.RowKit

/-- A block that is known whole. -/
def Blk (w : World) (b : Nat) (cs : Array Value) (T : TypeId) : Prop := w.heap[b]? = some (.cells cs T (0, 0))
theorem Blk.lt {w : World} {b : Nat} {cs : Array Value} {T : TypeId} (h : Blk w b cs T) : b < w.heap.size := lt_of_block h
theorem Blk.below {w w' : World} {b : Nat} {cs : Array Value} {T : TypeId} (h : Blk w b cs T) (hb : Below w.heap.size w w') : Blk w' b cs T := by
  unfold Blk at h ⊢
  rw [hb.block b (lt_of_block h)]
  exact h
theorem Blk.kb {a c : Option Nat} {w w' : World} {b : Nat} {cs : Array Value} {T : TypeId} (h : Blk w b cs T) (hk : Kb2 a c w w') (h1 : some b ≠ a) (h2 : some b ≠ c) : Blk w' b cs T := by
  unfold Blk at h ⊢
  rw [hk.block b (lt_of_block h) h1 h2]
  exact h
theorem Blk.cell {w : World} {b i : Nat} {cs : Array Value} {T : TypeId} {x : Value} (h : Blk w b cs T) (hx : cs[i]? = some x) : w.cell? ⟨b, i, none⟩ = some x := by
  unfold Blk at h
  unfold World.cell?
  rw [h]
  exact hx
theorem Blk.free {w : World} {b i : Nat} {cs : Array Value} {T : TypeId} (h : Blk w b cs T) : w.frozen? ⟨b, i, none⟩ = false := by
  unfold Blk at h
  simp [World.frozen?, h]
theorem Blk.new (w : World) (cs : Array Value) (T : TypeId) : Blk (w.alloc (.cells cs T)) w.heap.size cs T := heap_alloc_new w _
theorem Blk.set {w : World} {b i : Nat} {cs : Array Value} {T : TypeId} (h : Blk w b cs T) (v : Value) : Blk (w.setCell ⟨b, i, none⟩ v) b (cs.setIfInBounds i v) T := by
  have hlt := h.lt
  unfold Blk at h ⊢
  have h' : w.heap[b] = .cells cs T (0, 0) := by simpa [Array.getElem?_eq_getElem hlt] using h
  show (w.heap.modify b _)[b]? = _
  rw [Array.getElem?_eq_getElem (by simpa using hlt), Array.getElem_modify_self, h']
  rfl

theorem infoC' : (Try.prog.info? 33).map (fun i => (i.zero, i.size, i.bytes)) = some (some (.complex .f64 0 0), 1, 16) := by kernel_rfl
theorem infoC : ∃ i, Try.prog.info? 33 = some i ∧ i.zero = some (.complex .f64 0 0) ∧ i.size = 1 ∧ i.bytes = 16 := by
  obtain ⟨i, h⟩ := info_parts infoC'
  exact ⟨i, h⟩

theorem run_store_complex (P : Program) (w : World) (a : Addr) (m : Mode) (k : FloatKind) (x y : Nat) : (store a (.complex k x y) m).run P w = stored P w a (.complex k x y) m := run_store P w a _ m rfl

abbrev P2 := Int × Int
/-- A value that stands for a pair. -/
def CV (v : Value) (p : P2) : Prop := ∃ a b, v = .complex .f64 a b ∧ Fl.Is a p.1 ∧ Fl.Is b p.2
/-- A pair that is a size. -/
def Ok (p : P2) : Prop := 0 ≤ p.1 ∧ p.1 ≤ 1099511627776 ∧ 0 ≤ p.2 ∧ p.2 ≤ 1099511627776
def add2 (p q : P2) : P2 := (p.1 + q.1, p.2 + q.2)
def sub2 (p q : P2) : P2 := (p.1 - q.1, p.2 - q.2)
/-- All of them together. -/
def tot : List P2 → P2
  | [] => (0, 0)
  | p :: l => add2 p (tot l)
theorem tot_append (l m : List P2) : tot (l ++ m) = add2 (tot l) (tot m) := by
  induction l with
  | nil => simp [tot, add2]
  | cons p l ih => simp only [List.cons_append, tot, ih, add2]; simp only [Prod.mk.injEq]; omega
theorem tot_one (p : P2) : tot [p] = p := by simp [tot, add2]
theorem tot_snoc (l : List P2) (p : P2) : tot (l ++ [p]) = add2 (tot l) p := by rw [tot_append, tot_one]
theorem tot_bound (l : List P2) (h : ∀ p ∈ l, Ok p) : 0 ≤ (tot l).1 ∧ (tot l).1 ≤ 1099511627776 * l.length ∧ 0 ≤ (tot l).2 ∧ (tot l).2 ≤ 1099511627776 * l.length := by
  induction l with
  | nil => simp [tot]
  | cons p l ih =>
    obtain ⟨a1, a2, a3, a4⟩ := h p (by simp)
    obtain ⟨b1, b2, b3, b4⟩ := ih (fun q hq => h q (by simp [hq]))
    simp only [tot, add2, List.length_cons]
    omega

/-- The row in block g, its sizes' block gb: the pairs L. -/
structure Rw (w : World) (g : Nat) (gb : Option Nat) (L : List P2) : Prop where
  ok : ∀ p ∈ L, Ok p
  few : L.length ≤ 4096
  ne : some g ≠ gb
  lies : ∃ (v : Value) (a b : Nat) (xs : List Value), Blk w g #[v, .complex .f64 a b] 64 ∧ Sl w v gb 33 1 L.length xs ∧ Fl.Is a (tot L).1 ∧ Fl.Is b (tot L).2 ∧ ∀ (j : Nat) (p : P2), L[j]? = some p → ∃ x, xs[j]? = some x ∧ CV x p
theorem Rw.lt {w : World} {g : Nat} {gb : Option Nat} {L : List P2} (h : Rw w g gb L) : g < w.heap.size := let ⟨_, _, _, _, hb, _⟩ := h.lies; hb.lt
theorem Rw.ltb {w : World} {g : Nat} {gb : Option Nat} {L : List P2} (h : Rw w g gb L) : ∀ k, gb = some k → k < w.heap.size := let ⟨_, _, _, _, _, hs, _⟩ := h.lies; hs.lt
theorem Rw.same {w w' : World} {g : Nat} {gb : Option Nat} {L : List P2} (h : Rw w g gb L) (hg : w'.heap[g]? = w.heap[g]?) (hb : ∀ k, gb = some k → w'.heap[k]? = w.heap[k]?) : Rw w' g gb L := by
  obtain ⟨v, a, b, xs, h1, h2, h3⟩ := h.lies
  exact ⟨h.ok, h.few, h.ne, v, a, b, xs, by unfold Blk at h1 ⊢; rw [hg]; exact h1, h2.same hb, h3⟩
theorem Rw.below {w w' : World} {g : Nat} {gb : Option Nat} {L : List P2} (h : Rw w g gb L) (hb : Below w.heap.size w w') : Rw w' g gb L :=
  h.same (hb.block g h.lt) (fun k hk => hb.block k (h.ltb k hk))
theorem Rw.kb {a c : Option Nat} {w w' : World} {g : Nat} {gb : Option Nat} {L : List P2} (h : Rw w g gb L) (hk : Kb2 a c w w') (h1 : some g ≠ a) (h2 : some g ≠ c) (h3 : ∀ k, gb = some k → some k ≠ a ∧ some k ≠ c) : Rw w' g gb L :=
  h.same (hk.block g h.lt h1 h2) (fun k e => hk.block k (h.ltb k e) (h3 k e).1 (h3 k e).2)

/-- The slice's make: its length, its address if there is one. -/
theorem Sl.make {w : World} {v : Value} {gb : Option Nat} {e size n : Nat} {xs : List Value} (h : Sl w v gb e size n xs) : ∃ ao cap, v = .slice ao n cap ∧ n ≤ cap ∧ (0 < n → ∃ g p, ao = some ⟨g, p, none⟩ ∧ gb = some g) := by
  rcases h.2 with ⟨rfl, rfl, rfl⟩ | ⟨g, p, cap, cur, rfl, rfl, _, hn, _⟩
  · exact ⟨none, 0, rfl, Nat.le_refl _, fun h => by omega⟩
  · exact ⟨_, cap, rfl, hn, fun _ => ⟨g, p, rfl, rfl⟩⟩
theorem Sl.setCell {w : World} {v : Value} {gb : Option Nat} {e size n : Nat} {xs : List Value} (h : Sl w v gb e size n xs) (a : Addr) (u : Value) (hne : some a.block ≠ gb) : Sl (w.setCell a u) v gb e size n xs :=
  h.same (fun k hk => Below.heap_setCell _ _ _ _ (by rintro rfl; exact hne hk.symm))
theorem Sl.alloc {w : World} {v : Value} {gb : Option Nat} {e size n : Nat} {xs : List Value} (h : Sl w v gb e size n xs) (o : Obj) : Sl (w.alloc o) v gb e size n xs :=
  h.same (fun k hk => Below.heap_alloc _ _ _ (h.lt k hk))
theorem Blk.alloc {w : World} {b : Nat} {cs : Array Value} {T : TypeId} (h : Blk w b cs T) (o : Obj) : Blk (w.alloc o) b cs T := by
  have hl := h.lt
  unfold Blk at h ⊢
  rw [Below.heap_alloc _ _ _ hl]
  exact h
theorem Blk.grown {w w' : World} {b : Nat} {r : Option Nat} {cs : Array Value} {T : TypeId} (h : Blk w b cs T) (hg : w.grownBy w' r) (hn : some b ≠ r) : Blk w' b cs T := by
  have hl := h.lt
  unfold Blk at h ⊢
  rw [hg.block _ hl hn]
  exact h
/-- One pair more at the end. -/
theorem all_snoc {L : List P2} {xs : List Value} {p : P2} {x : Value} (hl : xs.length = L.length) (h : ∀ (j : Nat) (p : P2), L[j]? = some p → ∃ x, xs[j]? = some x ∧ CV x p) (hx : CV x p) : ∀ (j : Nat) (q : P2), (L ++ [p])[j]? = some q → ∃ y, (xs ++ [x])[j]? = some y ∧ CV y q := by
  intro j q hj
  by_cases hlt : j < L.length
  · rw [List.getElem?_append_left hlt] at hj
    rw [List.getElem?_append_left (by omega)]
    exact h j q hj
  · rw [List.getElem?_append_right (by omega)] at hj
    rw [List.getElem?_append_right (by omega), hl]
    match hjj : j - L.length, hj with
    | 0, hj => simp at hj; subst hj; exact ⟨x, rfl, hx⟩
    | k + 1, hj => simp at hj
end Go.Proofs.Ytdkngocinimjdaa
