/- An argument that is a slice of askings, opened, with a bound on the askings' numbers. -/
import Derived.Test.YtjjlkijconlbaaaDoorOpen
import Derived.Test.YtjjlkijconlbaaaDoorReadsWalk
namespace Go.Proofs.YtjjlkijconlbaaaDoor
open Go.ChangeShapes Go.WideShapes Go.ChangeAt Go.RowKit

set_option maxRecDepth 100000 in
theorem open_asks_most {H : Type} {enc : TypeId × Value → H} {W : World} {fuel : Nat} {a0 : Option Addr} {len cap : Nat} {x : DataW H × List MemPlace} (h : DataW.trod enc Tryd.prog W 0 (fun _ => true) true fuel 27 [.slice a0 len cap] = some x) :
    len ≤ maxLen ∧ ∃ ks ns, Asks a0 len ks ns W ∧ ∀ i, i < len → ns i ≤ 9223372036854775807 := by
  rcases Deep.open_slice Tryd.underlying27 h with ⟨hcs, -⟩ | ⟨a, len', cap', m, n, D, Pl, hcs, -, hl, hm, hmm, hx, hi⟩
  · simp at hcs
    obtain ⟨rfl, rfl, rfl⟩ := hcs
    exact ⟨Nat.zero_le _, fun _ => 0, fun _ => 0, Or.inl rfl, fun _ _ => by omega⟩
  · simp at hcs
    obtain ⟨rfl, rfl, rfl⟩ := hcs
    rw [cellsAsk] at hi hx
    have cellOf : ∀ i, i < len → ∃ k n : Int, W.cell? (a.add (i * 2)) = some (.int .i64 k) ∧ W.cell? (a.add (i * 2 + 1)) = some (.int .i64 n) ∧ n ≤ 9223372036854775807 := by
      intro i hil
      have him : i < m := by simp at hmm; omega
      obtain ⟨cs', hc, ht'⟩ := hi i him
      obtain ⟨ys, n', -, -, hlen, hyl, hf⟩ := DataW.trod_struct Tryd.underlying34 ht'
      obtain ⟨-, hcl, hat⟩ := World.cells?_some hc
      match cs', hcl with
      | [x0, x1], _ =>
        have f0 := hf 0 _ rfl
        have f1 := hf 1 _ rfl
        have l0 : ys[0]? = some (ys[0]'(by rw [hyl]; decide)) := List.getElem?_eq_getElem _
        have l1 : ys[1]? = some (ys[1]'(by rw [hyl]; decide)) := List.getElem?_eq_getElem _
        have g0 : DataW.trod enc Tryd.prog W 0 (fun _ => true) true n' 3 [x0] = ys[0]? := f0
        have g1 : DataW.trod enc Tryd.prog W 0 (fun _ => true) true n' 3 [x1] = ys[1]? := f1
        obtain ⟨k, hk, -, -⟩ := DataW.trod_int Tryd.underlying3 (g0.trans l0)
        obtain ⟨q, hq, -, hwf⟩ := DataW.trod_int Tryd.underlying3 (g1.trans l1)
        have e0 := hat 0 (by omega)
        have e1 := hat 1 (by omega)
        simp at hk hq
        refine ⟨k, q, ?_, ?_, ?_⟩
        · rw [Deep.add_add] at e0
          rw [hk] at e0
          exact e0
        · rw [Deep.add_add] at e1
          rw [hq] at e1
          exact e1
        · have m1 : IntKind.i64.min = -9223372036854775808 := rfl
          have m2 : IntKind.i64.max = 9223372036854775807 := rfl
          simp only [Lit.wf, Bool.and_eq_true, decide_eq_true_eq, m1, m2] at hwf
          exact hwf.2
    rcases Nat.eq_zero_or_pos len with h0 | h0
    · exact ⟨by omega, fun _ => 0, fun _ => 0, Or.inl h0, fun _ _ => by omega⟩
    · obtain ⟨b, off, spot⟩ := a
      have hspot : spot = none := by
        obtain ⟨k, n, h1, -, -⟩ := cellOf 0 h0
        have := World.cell?_spot h1
        simpa [Addr.add] using this
      subst hspot
      have add_plain : ∀ j, (⟨b, off, none⟩ : Addr).add j = ⟨b, off + j, none⟩ := fun j => by
        unfold Addr.add
        by_cases hj : j = 0 <;> simp [hj]
      have cellAt : ∀ i, i < len → ∃ k n : Int, W.cell? ⟨b, off + i * 2, none⟩ = some (.int .i64 k) ∧ W.cell? ⟨b, off + i * 2 + 1, none⟩ = some (.int .i64 n) ∧ n ≤ 9223372036854775807 := by
        intro i hil
        obtain ⟨k, n, h1, h2, h3⟩ := cellOf i hil
        rw [add_plain] at h1 h2
        exact ⟨k, n, h1, h2, h3⟩
      refine ⟨by omega, fun i => if hh : i < len then Classical.choose (cellAt i hh) else 0, fun i => if hh : i < len then Classical.choose (Classical.choose_spec (cellAt i hh)) else 0, Or.inr ⟨b, off, rfl, ?_, ?_⟩, ?_⟩
      · obtain ⟨k, n, h1, -, -⟩ := cellAt 0 h0
        exact block_lt_of_cell h1
      · intro i hil
        have hs := Classical.choose_spec (Classical.choose_spec (cellAt i hil))
        simp only [dif_pos hil]
        exact ⟨hs.1, hs.2.1⟩
      · intro i hil
        have hs := Classical.choose_spec (Classical.choose_spec (cellAt i hil))
        simp only [dif_pos hil]
        exact hs.2.2
end Go.Proofs.YtjjlkijconlbaaaDoor
