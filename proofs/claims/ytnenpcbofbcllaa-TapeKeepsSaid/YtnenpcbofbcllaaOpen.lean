/- Arguments opened: a slice of parts, a slice of whole numbers. -/
import Derived.Test.YtnenpcbofbcllaaLift
import Derived.Test.YtnenpcbofbcllaaPrts
import Derived.Deep.Slices
import Derived.Deep.Fields
import Derived.Carry
import Derived.ChangeArms
namespace Go.Proofs.Ytnenpcbofbcllaa
open Go.ChangeShapes Go.WideShapes Go.ChangeAt Go.RowKit

theorem cellsInt : Try.prog.cellsOf 3 = 1 := by kernel_rfl
theorem cellsPart : Try.prog.cellsOf 31 = 3 := by kernel_rfl
theorem add_plain (b off j : Nat) : (⟨b, off, none⟩ : Addr).add j = ⟨b, off + j, none⟩ := by
  unfold Addr.add
  by_cases hj : j = 0 <;> simp [hj]

set_option maxRecDepth 100000 in
theorem part_of {H : Type} {enc : TypeId × Value → H} {W : World} {n : Nat} {cs : List Value} {y : DataW H × List MemPlace} (hlen : cs.length = 3) (h : DataW.trod enc Try.prog W 0 (fun _ => true) true n 31 cs = some y) :
    ∃ x : Pt, cs = [.int .i64 x.n, .string ⟨x.S.toArray⟩, .bool x.sync] := by
  obtain ⟨ys, n', -, -, -, hyl, hf⟩ := DataW.trod_struct Try.underlying31 h
  match cs, hlen with
  | [x0, x1, x2], _ =>
    have f0 := hf 0 _ rfl
    have f1 := hf 1 _ rfl
    have f2 := hf 2 _ rfl
    have l0 : ys[0]? = some (ys[0]'(by rw [hyl]; decide)) := List.getElem?_eq_getElem _
    have l1 : ys[1]? = some (ys[1]'(by rw [hyl]; decide)) := List.getElem?_eq_getElem _
    have l2 : ys[2]? = some (ys[2]'(by rw [hyl]; decide)) := List.getElem?_eq_getElem _
    have g0 : DataW.trod enc Try.prog W 0 (fun _ => true) true n' 3 [x0] = ys[0]? := f0
    have g1 : DataW.trod enc Try.prog W 0 (fun _ => true) true n' 9 [x1] = ys[1]? := f1
    have g2 : DataW.trod enc Try.prog W 0 (fun _ => true) true n' 4 [x2] = ys[2]? := f2
    obtain ⟨a, e0, -, -⟩ := DataW.trod_int Try.underlying3 (g0.trans l0)
    obtain ⟨b, e1, -, -⟩ := DataW.trod_string Try.underlying9 (g1.trans l1)
    obtain ⟨c, e2, -⟩ := DataW.trod_bool Try.underlying4 (g2.trans l2)
    simp at e0 e1 e2
    exact ⟨⟨a, b.data.toList, c⟩, by rw [e0, e1, e2]⟩

set_option maxRecDepth 100000 in
theorem open_parts {H : Type} {enc : TypeId × Value → H} {W : World} {fuel : Nat} {a0 : Option Addr} {len cap : Nat} {x : DataW H × List MemPlace} (h : DataW.trod enc Try.prog W 0 (fun _ => true) true fuel 22 [.slice a0 len cap] = some x) :
    ∃ ps : List Pt, ps.length = len ∧ Prts W W.heap.size (.slice a0 len cap) ps := by
  rcases Deep.open_slice Try.underlying22 h with ⟨hcs, -⟩ | ⟨a, len', cap', m, n, D, PLS, hcs, -, hl, hm, hmm, hx, hi⟩
  · simp at hcs
    obtain ⟨rfl, rfl, rfl⟩ := hcs
    exact ⟨[], rfl, none, 0, rfl, fun j x hj => by simp at hj⟩
  · simp at hcs
    obtain ⟨rfl, rfl, rfl⟩ := hcs
    rw [cellsPart] at hi hx
    have partOf : ∀ i, i < len → ∃ z : Pt, W.cell? (a.add (i * 3)) = some (.int .i64 z.n) ∧ W.cell? (a.add (i * 3 + 1)) = some (.string ⟨z.S.toArray⟩) ∧ W.cell? (a.add (i * 3 + 2)) = some (.bool z.sync) := by
      intro i hil
      have him : i < m := by simp at hmm; omega
      obtain ⟨cs', hc, ht'⟩ := hi i him
      obtain ⟨-, hcl, hat⟩ := World.cells?_some hc
      obtain ⟨z, rfl⟩ := part_of hcl ht'
      have h0 := hat 0 (by decide)
      have h1 := hat 1 (by decide)
      have h2 := hat 2 (by decide)
      rw [Deep.add_add] at h0 h1 h2
      exact ⟨z, by simpa using h0, by simpa using h1, by simpa using h2⟩
    have pick : ∀ i, ∃ z : Pt, i < len → W.cell? (a.add (i * 3)) = some (.int .i64 z.n) ∧ W.cell? (a.add (i * 3 + 1)) = some (.string ⟨z.S.toArray⟩) ∧ W.cell? (a.add (i * 3 + 2)) = some (.bool z.sync) := fun i => by
      by_cases hil : i < len
      · obtain ⟨r, hr⟩ := partOf i hil
        exact ⟨r, fun _ => hr⟩
      · exact ⟨⟨0, [], false⟩, fun h => absurd h hil⟩
    obtain ⟨F, hF⟩ := Classical.axiomOfChoice pick
    have hlen : ((List.range len).map F).length = len := by simp
    refine ⟨(List.range len).map F, hlen, some a, cap, by rw [hlen], ?_⟩
    intro j y hj
    have hjl : j < len := by have := (List.getElem?_eq_some_iff.1 hj).1; rw [hlen] at this; exact this
    have hy : F j = y := by
      rw [List.getElem?_map, List.getElem?_range hjl] at hj
      exact Option.some.inj hj
    subst hy
    obtain ⟨b, off, spot⟩ := a
    have hspot : spot = none := by
      have h0 := (hF 0 (Nat.lt_of_le_of_lt (Nat.zero_le _) hjl)).1
      have := World.cell?_spot h0
      simpa [Addr.add] using this
    subst hspot
    obtain ⟨c0, c1, c2⟩ := hF j hjl
    rw [add_plain] at c0 c1 c2
    exact ⟨b, off, rfl, World.block_lt_of_cell? _ _ c0, c0, c1, c2⟩

/-- Whole numbers that came in. -/
theorem open_nums {H : Type} {enc : TypeId × Value → H} {W : World} {fuel : Nat} {a0 : Option Addr} {len cap : Nat} {x : DataW H × List MemPlace} (h : DataW.trod enc Try.prog W 0 (fun _ => true) true fuel 23 [.slice a0 len cap] = some x) :
    ∃ zs : List Int, Nums W (.slice a0 len cap) zs ∧ (0 < zs.length → ∀ a c d, (Value.slice a0 len cap) = .slice (some a) c d → a.block < W.heap.size) := by
  rcases open_ints Try.underlying23 Try.underlying3 cellsInt h with ⟨hcs, -⟩ | ⟨a, len', cap', zs, hcs, -, hl, hm, hz, -, hcell, hwz⟩
  · simp at hcs
    obtain ⟨rfl, rfl, rfl⟩ := hcs
    exact ⟨[], ⟨none, 0, rfl, fun j z hj => by simp at hj⟩, fun h => absurd h (by simp)⟩
  · simp at hcs
    obtain ⟨rfl, rfl, rfl⟩ := hcs
    have hzl : zs.length = cap := by simpa using hz
    have htl : (zs.take len).length = len := by rw [List.length_take]; omega
    have plain : 0 < len → a = ⟨a.block, a.off, none⟩ := fun h0 => by
      obtain ⟨b, off, spot⟩ := a
      have := World.cell?_spot (hcell 0 (by omega))
      simp only [Addr.mk.injEq, true_and]
      simpa [Addr.add] using this
    refine ⟨zs.take len, ⟨some a, cap, by rw [htl], fun j z hj => ?_⟩, fun h0 a' c d he => ?_⟩
    · have hjl : j < len := by have := (List.getElem?_eq_some_iff.1 hj).1; omega
      refine ⟨a.block, a.off, by rw [← plain (by omega)], ?_⟩
      have := hcell j (by omega)
      rw [plain (by omega), add_plain] at this
      rw [List.getElem?_take_of_lt hjl] at hj
      rw [this, List.getD_eq_getElem?_getD, hj]
      rfl
    · injection he with he
      injection he with he
      subst he
      have := World.block_lt_of_cell? _ _ (hcell 0 (by omega))
      rw [plain (by omega), add_plain] at this
      exact this
end Go.Proofs.Ytnenpcbofbcllaa
