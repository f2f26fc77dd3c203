/- Arguments opened: a slice of pairs; a pair. -/
import Derived.Test.YtloallndnmofnaaDoorLift
import Derived.Test.YtloallndnmofnaaDoorOnce0
import Derived.Deep.Slices
import Derived.Carry
import Derived.ChangeArms
namespace Go.Proofs.YtloallndnmofnaaDoor
open Go.ChangeShapes Go.WideShapes Go.ChangeAt Go.RowKit

theorem cellsTwo : Tryd.prog.cellsOf 44 = 2 := by kernel_rfl

theorem add_plain (b off j : Nat) : (⟨b, off, none⟩ : Addr).add j = ⟨b, off + j, none⟩ := by
  unfold Addr.add
  by_cases hj : j = 0 <;> simp [hj]

set_option maxRecDepth 100000 in
theorem two_of {H : Type} {enc : TypeId × Value → H} {W : World} {n : Nat} {cs : List Value} {y : DataW H × List MemPlace} (hlen : cs.length = 2) (h : DataW.trod enc Tryd.prog W 0 (fun _ => true) true n 44 cs = some y) :
    ∃ z : P2, cs = [.int .i64 z.1, .int .i64 z.2] := by
  match cs, hlen with
  | [c0, c1], _ =>
    obtain ⟨zs, m, -, -, -, hzl, hat⟩ := DataW.trod_array Tryd.underlying44 h
    have at' : ∀ i (hi : i < 2), DataW.trod enc Tryd.prog W 0 (fun _ => true) true m 3 (([c0, c1].drop i).take 1) = some (zs[i]'(by omega)) := fun i hi => by
      have := hat i hi
      rw [cellsInt, Nat.mul_one] at this
      rw [this, List.getElem?_eq_getElem]
    obtain ⟨y0, h0, -, -⟩ := DataW.trod_int Tryd.underlying3 (at' 0 (by omega))
    obtain ⟨y1, h1, -, -⟩ := DataW.trod_int Tryd.underlying3 (at' 1 (by omega))
    simp at h0 h1
    exact ⟨(y0, y1), by rw [h0, h1]⟩

set_option maxRecDepth 100000 in
theorem open_pairs {H : Type} {enc : TypeId × Value → H} {W : World} {fuel : Nat} {a0 : Option Addr} {len cap : Nat} {x : DataW H × List MemPlace} (h : DataW.trod enc Tryd.prog W 0 (fun _ => true) true fuel 24 [.slice a0 len cap] = some x) :
    ∃ zs : List P2, Pairs W W.heap.size (.slice a0 len cap) zs := by
  rcases Deep.open_slice Tryd.underlying24 h with ⟨hcs, -⟩ | ⟨a, len', cap', m, n, D, PLS, hcs, -, hl, hm, hmm, hx, hi⟩
  · simp at hcs
    obtain ⟨rfl, rfl, rfl⟩ := hcs
    exact ⟨[], none, 0, rfl, fun j x hj => by simp at hj⟩
  · simp at hcs
    obtain ⟨rfl, rfl, rfl⟩ := hcs
    rw [cellsTwo] at hi hx
    have twoOf : ∀ i, i < len → ∃ z : P2, W.cell? (a.add (i * 2)) = some (.int .i64 z.1) ∧ W.cell? (a.add (i * 2 + 1)) = some (.int .i64 z.2) := by
      intro i hil
      have him : i < m := by simp at hmm; omega
      obtain ⟨cs', hc, ht'⟩ := hi i him
      obtain ⟨-, hcl, hat⟩ := World.cells?_some hc
      obtain ⟨z, rfl⟩ := two_of hcl ht'
      have h0 := hat 0 (by decide)
      have h1 := hat 1 (by decide)
      rw [Deep.add_add] at h0 h1
      exact ⟨z, by simpa using h0, by simpa using h1⟩
    have pick : ∀ i, ∃ z : P2, i < len → W.cell? (a.add (i * 2)) = some (.int .i64 z.1) ∧ W.cell? (a.add (i * 2 + 1)) = some (.int .i64 z.2) := fun i => by
      by_cases hil : i < len
      · obtain ⟨r, hr⟩ := twoOf i hil
        exact ⟨r, fun _ => hr⟩
      · exact ⟨(0, 0), fun h => absurd h hil⟩
    obtain ⟨F, hF⟩ := Classical.axiomOfChoice pick
    have hlen : ((List.range len).map F).length = len := by simp
    refine ⟨(List.range len).map F, some a, cap, by rw [hlen], ?_⟩
    intro j y hj
    have hjl : j < len := by have := (List.getElem?_eq_some_iff.1 hj).1; rw [hlen] at this; exact this
    have hy : F j = y := by
      rw [List.getElem?_map, List.getElem?_range hjl] at hj
      exact Option.some.inj hj
    subst hy
    obtain ⟨b, off, spot⟩ := a
    have hspot : spot = none := by
      have h0 := (hF 0 (Nat.lt_of_le_of_lt (Nat.zero_le _) hjl)).1
      have := World.cell?_spot h0
      simpa [Addr.add] using this
    subst hspot
    obtain ⟨c0, c1⟩ := hF j hjl
    rw [add_plain] at c0 c1
    exact ⟨b, off, rfl, block_lt_of_cell c0, c0, c1⟩

end Go.Proofs.YtloallndnmofnaaDoor
