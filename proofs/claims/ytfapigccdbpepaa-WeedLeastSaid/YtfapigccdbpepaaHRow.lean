/- A row of sizes as it lies in memory (gauge's), and what it stands for. -/
import Derived.Test.YtfapigccdbpepaaHFloat
import Derived.Test.YtfapigccdbpepaaGTot
import Derived.Test.YtfapigccdbpepaaDClone
import Derived.Maps.AppendAt
import Derived.Laws.ComplexArith
namespace Go.Proofs.Ytfapigccdbpepaa
open Go.RowKit

theorem infoC' : (Try.prog.info? 84).map (fun i => (i.zero, i.size, i.bytes)) = some (some (.complex .f64 0 0), 1, 16) := by kernel_rfl
theorem infoC : ∃ i, Try.prog.info? 84 = some i ∧ i.zero = some (.complex .f64 0 0) ∧ i.size = 1 ∧ i.bytes = 16 := by
  obtain ⟨i, h⟩ := info_parts infoC'
  exact ⟨i, h⟩
theorem run_store_complex (P : Program) (w : World) (a : Addr) (m : Mode) (k : FloatKind) (x y : Nat) : (store a (.complex k x y) m).run P w = stored P w a (.complex k x y) m := run_store P w a _ m rfl
/-- A value that stands for a pair. -/
def CV (v : Value) (p : P2) : Prop := ∃ a b, v = .complex .f64 a b ∧ Fl.Is a p.1 ∧ Fl.Is b p.2
/-- The row in block g, its sizes' block gb: the pairs L. -/
structure Rw (w : World) (g : Nat) (gb : Option Nat) (L : List P2) : Prop where
  ok : ∀ p ∈ L, Ok p
  few : L.length ≤ 4096
  ne : some g ≠ gb
  lies : ∃ (v : Value) (a b : Nat) (xs : List Value), Blk w g #[v, .complex .f64 a b] 88 ∧ Sl w v gb 84 1 L.length xs ∧ Fl.Is a (tot L).1 ∧ Fl.Is b (tot L).2 ∧ ∀ (j : Nat) (p : P2), L[j]? = some p → ∃ x, xs[j]? = some x ∧ CV x p
theorem Rw.lt {w : World} {g : Nat} {gb : Option Nat} {L : List P2} (h : Rw w g gb L) : g < w.heap.size := let ⟨_, _, _, _, hb, _⟩ := h.lies; hb.lt
theorem Rw.ltb {w : World} {g : Nat} {gb : Option Nat} {L : List P2} (h : Rw w g gb L) : ∀ k, gb = some k → k < w.heap.size := let ⟨_, _, _, _, _, hs, _⟩ := h.lies; hs.lt
theorem Rw.same {w w' : World} {g : Nat} {gb : Option Nat} {L : List P2} (h : Rw w g gb L) (hg : w'.heap[g]? = w.heap[g]?) (hb : ∀ k, gb = some k → w'.heap[k]? = w.heap[k]?) : Rw w' g gb L := by
  obtain ⟨v, a, b, xs, h1, h2, h3⟩ := h.lies
  exact ⟨h.ok, h.few, h.ne, v, a, b, xs, by unfold Blk at h1 ⊢; rw [hg]; exact h1, h2.same hb, h3⟩
theorem Rw.below {w w' : World} {g : Nat} {gb : Option Nat} {L : List P2} (h : Rw w g gb L) (hb : Below w.heap.size w w') : Rw w' g gb L :=
  h.same (hb.block g h.lt) (fun k hk => hb.block k (h.ltb k hk))
theorem Rw.kb {a c : Option Nat} {w w' : World} {g : Nat} {gb : Option Nat} {L : List P2} (h : Rw w g gb L) (hk : Kb2 a c w w') (h1 : some g ≠ a) (h2 : some g ≠ c) (h3 : ∀ k, gb = some k → some k ≠ a ∧ some k ≠ c) : Rw w' g gb L :=
  h.same (hk.block g h.lt h1 h2) (fun k e => hk.block k (h.ltb k e) (h3 k e).1 (h3 k e).2)
/-- One pair more at the end. -/
theorem all_snoc {L : List P2} {xs : List Value} {p : P2} {x : Value} (hl : xs.length = L.length) (h : ∀ (j : Nat) (p : P2), L[j]? = some p → ∃ x, xs[j]? = some x ∧ CV x p) (hx : CV x p) : ∀ (j : Nat) (q : P2), (L ++ [p])[j]? = some q → ∃ y, (xs ++ [x])[j]? = some y ∧ CV y q := by
  intro j q hj
  by_cases hlt : j < L.length
  · rw [List.getElem?_append_left hlt] at hj
    rw [List.getElem?_append_left (by omega)]
    exact h j q hj
  · rw [List.getElem?_append_right (by omega)] at hj
    rw [List.getElem?_append_right (by omega), hl]
    match hjj : j - L.length, hj with
    | 0, hj => simp at hj; subst hj; exact ⟨x, rfl, hx⟩
    | k + 1, hj => simp at hj
end Go.Proofs.Ytfapigccdbpepaa
