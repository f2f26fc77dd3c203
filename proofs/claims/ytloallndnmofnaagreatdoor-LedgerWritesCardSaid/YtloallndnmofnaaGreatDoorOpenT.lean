/- Arguments opened: a slice of producers, a slice of batches. -/
import Derived.Test.YtloallndnmofnaaGreatDoorTab
import Derived.Test.YtloallndnmofnaaGreatDoorCRecs
import Derived.Test.YtloallndnmofnaaGreatDoorOwn
import Derived.Deep.Slices
import Derived.Carry
import Derived.ChangeArms
namespace Go.Proofs.YtloallndnmofnaaGreatDoor
open Go.ChangeShapes Go.WideShapes Go.ChangeAt Go.RowKit

theorem add_plain (b off j : Nat) : (⟨b, off, none⟩ : Addr).add j = ⟨b, off + j, none⟩ := by
  unfold Addr.add
  by_cases hj : j = 0 <;> simp [hj]

theorem cellsSlot : Tryz.prog.cellsOf 40 = 3 := by kernel_rfl
theorem cellsSeen : Tryz.prog.cellsOf 46 = 2 := by kernel_rfl
set_option maxRecDepth 100000 in
theorem slot_of {H : Type} {enc : TypeId × Value → H} {W : World} {n : Nat} {cs : List Value} {y : DataW H × List MemPlace} (hlen : cs.length = 3) (h : DataW.trod enc Tryz.prog W 0 (fun _ => true) true n 40 cs = some y) :
    ∃ x : Ld.Sl, cs = three x := by
  obtain ⟨ys, n', -, -, -, hyl, hf⟩ := DataW.trod_struct Tryz.underlying40 h
  match cs, hlen with
  | [x0, x1, x2], _ =>
    have f0 := hf 0 _ rfl
    have f1 := hf 1 _ rfl
    have f2 := hf 2 _ rfl
    have l0 : ys[0]? = some (ys[0]'(by rw [hyl]; decide)) := List.getElem?_eq_getElem _
    have l1 : ys[1]? = some (ys[1]'(by rw [hyl]; decide)) := List.getElem?_eq_getElem _
    have l2 : ys[2]? = some (ys[2]'(by rw [hyl]; decide)) := List.getElem?_eq_getElem _
    have g0 : DataW.trod enc Tryz.prog W 0 (fun _ => true) true n' 3 [x0] = ys[0]? := f0
    have g1 : DataW.trod enc Tryz.prog W 0 (fun _ => true) true n' 3 [x1] = ys[1]? := f1
    have g2 : DataW.trod enc Tryz.prog W 0 (fun _ => true) true n' 3 [x2] = ys[2]? := f2
    obtain ⟨a, e0, -, -⟩ := DataW.trod_int Tryz.underlying3 (g0.trans l0)
    obtain ⟨b, e1, -, -⟩ := DataW.trod_int Tryz.underlying3 (g1.trans l1)
    obtain ⟨c, e2, -, -⟩ := DataW.trod_int Tryz.underlying3 (g2.trans l2)
    simp at e0 e1 e2
    exact ⟨⟨a, b, c⟩, by rw [e0, e1, e2]; rfl⟩

set_option maxRecDepth 100000 in
theorem open_slots {H : Type} {enc : TypeId × Value → H} {W : World} {fuel : Nat} {v : Value} {x : DataW H × List MemPlace} (h : DataW.trod enc Tryz.prog W 0 (fun _ => true) true fuel 44 [v] = some x) :
    ∃ L : List Ld.Sl, SlotsAt (fun b => b < W.heap.size) v L W := by
  rcases Deep.open_slice Tryz.underlying44 h with ⟨hcs, -⟩ | ⟨a, len, cap, m, n, D, PLS, hcs, -, hl, hm, hmm, hx, hi⟩
  · simp at hcs
    subst hcs
    exact ⟨[], none, 0, rfl, fun j x hj => by simp at hj⟩
  · simp at hcs
    subst hcs
    rw [cellsSlot] at hi hx
    have slotOf : ∀ i, i < len → ∃ r : Ld.Sl, (∀ k v, k < 3 → (three r)[k]? = some v → W.cell? (a.add (i * 3 + k)) = some v) := by
      intro i hil
      have him : i < m := by simp at hmm; omega
      obtain ⟨cs', hc, ht'⟩ := hi i him
      obtain ⟨-, hcl, hat⟩ := World.cells?_some hc
      obtain ⟨r, rfl⟩ := slot_of hcl ht'
      refine ⟨r, fun k v hk4 hkv => ?_⟩
      have := hat k hk4
      rw [Deep.add_add] at this
      rw [this]
      exact hkv
    have pick : ∀ i, ∃ r : Ld.Sl, i < len → (∀ k v, k < 3 → (three r)[k]? = some v → W.cell? (a.add (i * 3 + k)) = some v) := fun i => by
      by_cases hil : i < len
      · obtain ⟨r, hr⟩ := slotOf i hil
        exact ⟨r, fun _ => hr⟩
      · exact ⟨⟨0, 0, 0⟩, fun h => absurd h hil⟩
    obtain ⟨F, hF⟩ := Classical.axiomOfChoice pick
    have hlen : ((List.range len).map F).length = len := by simp
    refine ⟨(List.range len).map F, some a, cap, by rw [hlen], ?_⟩
    intro j y hj
    have hjl : j < len := by have := (List.getElem?_eq_some_iff.1 hj).1; rw [hlen] at this; exact this
    have hy : F j = y := by
      rw [List.getElem?_map, List.getElem?_range hjl] at hj
      exact Option.some.inj hj
    subst hy
    have hc := hF j hjl
    obtain ⟨b, off, spot⟩ := a
    have hspot : spot = none := by
      have h0 := hF 0 (Nat.lt_of_le_of_lt (Nat.zero_le _) hjl) 0 _ (by decide) rfl
      have := World.cell?_spot h0
      simpa [Addr.add] using this
    subst hspot
    have c0 := hc 0 _ (by decide) rfl
    have c1 := hc 1 _ (by decide) rfl
    have c2 := hc 2 _ (by decide) rfl
    rw [add_plain] at c0 c1 c2
    exact ⟨b, off, rfl, block_lt_of_cell c0, c0, c1, c2⟩

set_option maxRecDepth 100000 in
theorem seen_of {H : Type} {enc : TypeId × Value → H} {W : World} {n : Nat} {cs : List Value} {y : DataW H × List MemPlace} (hlen : cs.length = 2) (h : DataW.trod enc Tryz.prog W 0 (fun _ => true) true n 46 cs = some y) :
    ∃ (x : Int × List Ld.Sl) (sv : Value), cs = [.int .i64 x.1, sv] ∧ SlotsAt (fun b => b < W.heap.size) sv x.2 W := by
  obtain ⟨ys, n', -, -, -, hyl, hf⟩ := DataW.trod_struct Tryz.underlying46 h
  match cs, hlen with
  | [x0, x1], _ =>
    have f0 := hf 0 _ rfl
    have f1 := hf 1 _ rfl
    have l0 : ys[0]? = some (ys[0]'(by rw [hyl]; decide)) := List.getElem?_eq_getElem _
    have l1 : ys[1]? = some (ys[1]'(by rw [hyl]; decide)) := List.getElem?_eq_getElem _
    have g0 : DataW.trod enc Tryz.prog W 0 (fun _ => true) true n' 3 [x0] = ys[0]? := f0
    have g1 : DataW.trod enc Tryz.prog W 0 (fun _ => true) true n' 44 [x1] = ys[1]? := f1
    obtain ⟨a, e0, -, -⟩ := DataW.trod_int Tryz.underlying3 (g0.trans l0)
    obtain ⟨L, hL⟩ := open_slots (g1.trans l1)
    simp at e0
    exact ⟨(a, L), x1, by rw [e0], hL⟩

set_option maxRecDepth 100000 in
theorem open_tab {H : Type} {enc : TypeId × Value → H} {W : World} {fuel : Nat} {a0 : Option Addr} {len cap : Nat} {x : DataW H × List MemPlace} (h : DataW.trod enc Tryz.prog W 0 (fun _ => true) true fuel 22 [.slice a0 len cap] = some x) :
    ∃ T : Ld.Tb, TabAt (fun b => b < W.heap.size) (.slice a0 len cap) T W := by
  rcases Deep.open_slice Tryz.underlying22 h with ⟨hcs, -⟩ | ⟨a, len', cap', m, n, D, PLS, hcs, -, hl, hm, hmm, hx, hi⟩
  · simp at hcs
    obtain ⟨rfl, rfl, rfl⟩ := hcs
    exact ⟨[], none, 0, rfl, fun j x hj => by simp at hj⟩
  · simp at hcs
    obtain ⟨rfl, rfl, rfl⟩ := hcs
    rw [cellsSeen] at hi hx
    have seenOf : ∀ i, i < len → ∃ r : (Int × List Ld.Sl) × Value, W.cell? (a.add (i * 2)) = some (.int .i64 r.1.1) ∧ W.cell? (a.add (i * 2 + 1)) = some r.2 ∧ SlotsAt (fun b => b < W.heap.size) r.2 r.1.2 W := by
      intro i hil
      have him : i < m := by simp at hmm; omega
      obtain ⟨cs', hc, ht'⟩ := hi i him
      obtain ⟨-, hcl, hat⟩ := World.cells?_some hc
      obtain ⟨r, sv, rfl, hs⟩ := seen_of hcl ht'
      have h0 := hat 0 (by decide)
      have h1 := hat 1 (by decide)
      rw [Deep.add_add] at h0 h1
      exact ⟨(r, sv), by simpa using h0, by simpa using h1, hs⟩
    have pick : ∀ i, ∃ r : (Int × List Ld.Sl) × Value, i < len → W.cell? (a.add (i * 2)) = some (.int .i64 r.1.1) ∧ W.cell? (a.add (i * 2 + 1)) = some r.2 ∧ SlotsAt (fun b => b < W.heap.size) r.2 r.1.2 W := fun i => by
      by_cases hil : i < len
      · obtain ⟨r, hr⟩ := seenOf i hil
        exact ⟨r, fun _ => hr⟩
      · exact ⟨((0, []), undef), fun h => absurd h hil⟩
    obtain ⟨F, hF⟩ := Classical.axiomOfChoice pick
    have hlen : ((List.range len).map fun i => (F i).1).length = len := by simp
    refine ⟨(List.range len).map fun i => (F i).1, some a, cap, by rw [hlen], ?_⟩
    intro j y hj
    have hjl : j < len := by have := (List.getElem?_eq_some_iff.1 hj).1; rw [hlen] at this; exact this
    have hy : (F j).1 = y := by
      rw [List.getElem?_map, List.getElem?_range hjl] at hj
      exact Option.some.inj hj
    subst hy
    obtain ⟨c0, c1, hs⟩ := hF j hjl
    obtain ⟨b, off, spot⟩ := a
    have hspot : spot = none := by
      have h0 := (hF 0 (Nat.lt_of_le_of_lt (Nat.zero_le _) hjl)).1
      have := World.cell?_spot h0
      simpa [Addr.add] using this
    subst hspot
    rw [add_plain] at c0 c1
    exact ⟨b, off, _, rfl, block_lt_of_cell c0, c0, c1, hs⟩
end Go.Proofs.YtloallndnmofnaaGreatDoor
