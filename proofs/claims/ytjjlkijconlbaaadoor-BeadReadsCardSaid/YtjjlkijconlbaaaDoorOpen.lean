/- An argument that is a slice of askings, opened. -/
import Derived.Test.YtjjlkijconlbaaaDoorLift
import Derived.Test.YtjjlkijconlbaaaDoorStaysWalk
import Derived.Test.YtjjlkijconlbaaaDoorNums
import Derived.Deep.Slices
import Derived.Carry
import Derived.ChangeArms
namespace Go.Proofs.YtjjlkijconlbaaaDoor
open Go.ChangeShapes Go.WideShapes Go.ChangeAt Go.RowKit

theorem laidOut : laidOutB Tryd.prog = true := by kernel_rfl
theorem cellsAsk : Tryd.prog.cellsOf 34 = 2 := by kernel_rfl
theorem cellsInt : Tryd.prog.cellsOf 3 = 1 := by kernel_rfl
theorem spotless {w : World} {a : Addr} {v : Value} (h : w.cell? a = some v) : a.spot = none := World.cell?_spot h

set_option maxRecDepth 100000 in
theorem open_asks {H : Type} {enc : TypeId × Value → H} {W : World} {fuel : Nat} {a0 : Option Addr} {len cap : Nat} {x : DataW H × List MemPlace} (h : DataW.trod enc Tryd.prog W 0 (fun _ => true) true fuel 27 [.slice a0 len cap] = some x) :
    len ≤ maxLen ∧ ∃ ks ns, Asks a0 len ks ns W := by
  rcases Deep.open_slice Tryd.underlying27 h with ⟨hcs, -⟩ | ⟨a, len', cap', m, n, D, Pl, hcs, -, hl, hm, hmm, hx, hi⟩
  · simp at hcs
    obtain ⟨rfl, rfl, rfl⟩ := hcs
    exact ⟨Nat.zero_le _, fun _ => 0, fun _ => 0, Or.inl rfl⟩
  · simp at hcs
    obtain ⟨rfl, rfl, rfl⟩ := hcs
    rw [cellsAsk] at hi hx
    have cellOf : ∀ i, i < len → ∃ k n : Int, W.cell? (a.add (i * 2)) = some (.int .i64 k) ∧ W.cell? (a.add (i * 2 + 1)) = some (.int .i64 n) := by
      intro i hil
      have him : i < m := by simp at hmm; omega
      obtain ⟨cs', hc, ht'⟩ := hi i him
      obtain ⟨ys, n', -, -, hlen, hyl, hf⟩ := DataW.trod_struct Tryd.underlying34 ht'
      obtain ⟨-, hcl, hat⟩ := World.cells?_some hc
      match cs', hcl with
      | [x0, x1], _ =>
        have f0 := hf 0 _ rfl
        have f1 := hf 1 _ rfl
        have l0 : ys[0]? = some (ys[0]'(by rw [hyl]; decide)) := List.getElem?_eq_getElem _
        have l1 : ys[1]? = some (ys[1]'(by rw [hyl]; decide)) := List.getElem?_eq_getElem _
        have g0 : DataW.trod enc Tryd.prog W 0 (fun _ => true) true n' 3 [x0] = ys[0]? := f0
        have g1 : DataW.trod enc Tryd.prog W 0 (fun _ => true) true n' 3 [x1] = ys[1]? := f1
        obtain ⟨k, hk, -, -⟩ := DataW.trod_int Tryd.underlying3 (g0.trans l0)
        obtain ⟨q, hq, -, -⟩ := DataW.trod_int Tryd.underlying3 (g1.trans l1)
        have e0 := hat 0 (by omega)
        have e1 := hat 1 (by omega)
        simp at hk hq
        refine ⟨k, q, ?_, ?_⟩
        · rw [Deep.add_add] at e0
          rw [hk] at e0
          exact e0
        · rw [Deep.add_add] at e1
          rw [hq] at e1
          exact e1
    rcases Nat.eq_zero_or_pos len with h0 | h0
    · exact ⟨by omega, fun _ => 0, fun _ => 0, Or.inl h0⟩
    · obtain ⟨b, off, spot⟩ := a
      have hspot : spot = none := by
        obtain ⟨k, n, h1, -⟩ := cellOf 0 h0
        have := World.cell?_spot h1
        simpa [Addr.add] using this
      subst hspot
      have add_plain : ∀ j, (⟨b, off, none⟩ : Addr).add j = ⟨b, off + j, none⟩ := fun j => by
        unfold Addr.add
        by_cases hj : j = 0 <;> simp [hj]
      have cellAt : ∀ i, i < len → ∃ k n : Int, W.cell? ⟨b, off + i * 2, none⟩ = some (.int .i64 k) ∧ W.cell? ⟨b, off + i * 2 + 1, none⟩ = some (.int .i64 n) := by
        intro i hil
        obtain ⟨k, n, h1, h2⟩ := cellOf i hil
        rw [add_plain] at h1 h2
        exact ⟨k, n, h1, h2⟩
      refine ⟨by omega, fun i => if hh : i < len then Classical.choose (cellAt i hh) else 0, fun i => if hh : i < len then Classical.choose (Classical.choose_spec (cellAt i hh)) else 0, Or.inr ⟨b, off, rfl, ?_, ?_⟩⟩
      · obtain ⟨k, n, h1, -⟩ := cellAt 0 h0
        exact block_lt_of_cell h1
      · intro i hil
        have hs := Classical.choose_spec (Classical.choose_spec (cellAt i hil))
        simp only [dif_pos hil]
        exact hs

/-- An argument that is a slice of numbers, opened. -/
theorem open_nums {H : Type} {enc : TypeId × Value → H} {W : World} {fuel : Nat} {a0 : Option Addr} {len cap : Nat} {x : DataW H × List MemPlace} (h : DataW.trod enc Tryd.prog W 0 (fun _ => true) true fuel 39 [.slice a0 len cap] = some x) :
    ∃ zs : List Int, zs.length = len ∧ len ≤ maxLen ∧ (∀ z ∈ zs, Pl.I64 z) ∧ Nums a0 zs W := by
  rcases open_ints Tryd.underlying39 Tryd.underlying3 cellsInt h with ⟨hcs, -⟩ | ⟨a, len', cap', zs, hcs, -, hl, hm, hz, -, hcell, hwz⟩
  · simp at hcs
    obtain ⟨rfl, rfl, rfl⟩ := hcs
    exact ⟨[], rfl, Nat.zero_le _, by simp, Or.inl rfl⟩
  · simp at hcs
    obtain ⟨rfl, rfl, rfl⟩ := hcs
    have hzl : zs.length = cap := by simpa using hz
    have hi : ∀ z ∈ zs.take len, Pl.I64 z := by
      intro z hzm
      have h1 := hwz z (List.mem_of_mem_take hzm)
      have e1 : IntKind.i64.min = -9223372036854775808 := rfl
      have e2 : IntKind.i64.max = 9223372036854775807 := rfl
      simp only [Lit.wf, Bool.and_eq_true, decide_eq_true_eq, e1, e2] at h1
      exact h1
    have htl : (zs.take len).length = len := by rw [List.length_take]; omega
    refine ⟨zs.take len, htl, by omega, hi, ?_⟩
    rcases Nat.eq_zero_or_pos len with h0 | h0
    · left
      rw [h0]; rfl
    · obtain ⟨b, off, spot⟩ := a
      have hspot : spot = none := by
        have := World.cell?_spot (hcell 0 (by omega))
        simpa [Addr.add] using this
      subst hspot
      have add_plain : ∀ j, (⟨b, off, none⟩ : Addr).add j = ⟨b, off + j, none⟩ := fun j => by
        unfold Addr.add
        by_cases hj : j = 0 <;> simp [hj]
      refine Or.inr ⟨b, off, rfl, ?_, fun i hil => ?_⟩
      · have := block_lt_of_cell (hcell 0 (by omega))
        rw [add_plain] at this
        exact this
      · have := hcell i (by omega)
        rw [add_plain] at this
        rw [this, show (zs.take len).getD i 0 = zs.getD i 0 by simp [show i < len by omega]]
end Go.Proofs.YtjjlkijconlbaaaDoor
