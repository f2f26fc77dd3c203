/- Arguments opened: a slice of producers, a slice of batches. -/
import Derived.Test.YtloallndnmofnaaDoorOpen
import Derived.Test.YtloallndnmofnaaDoorCRecs
namespace Go.Proofs.YtloallndnmofnaaDoor
open Go.ChangeShapes Go.WideShapes Go.ChangeAt Go.RowKit

theorem cellsSlot : Tryd.prog.cellsOf 41 = 3 := by kernel_rfl
theorem cellsSeen : Tryd.prog.cellsOf 63 = 2 := by kernel_rfl
set_option maxRecDepth 100000 in
theorem slot_of {H : Type} {enc : TypeId × Value → H} {W : World} {n : Nat} {cs : List Value} {y : DataW H × List MemPlace} (hlen : cs.length = 3) (h : DataW.trod enc Tryd.prog W 0 (fun _ => true) true n 41 cs = some y) :
    ∃ x : Ld.Sl, cs = three x := by
  obtain ⟨ys, n', -, -, -, hyl, hf⟩ := DataW.trod_struct Tryd.underlying41 h
  match cs, hlen with
  | [x0, x1, x2], _ =>
    have f0 := hf 0 _ rfl
    have f1 := hf 1 _ rfl
    have f2 := hf 2 _ rfl
    have l0 : ys[0]? = some (ys[0]'(by rw [hyl]; decide)) := List.getElem?_eq_getElem _
    have l1 : ys[1]? = some (ys[1]'(by rw [hyl]; decide)) := List.getElem?_eq_getElem _
    have l2 : ys[2]? = some (ys[2]'(by rw [hyl]; decide)) := List.getElem?_eq_getElem _
    have g0 : DataW.trod enc Tryd.prog W 0 (fun _ => true) true n' 3 [x0] = ys[0]? := f0
    have g1 : DataW.trod enc Tryd.prog W 0 (fun _ => true) true n' 3 [x1] = ys[1]? := f1
    have g2 : DataW.trod enc Tryd.prog W 0 (fun _ => true) true n' 3 [x2] = ys[2]? := f2
    obtain ⟨a, e0, -, -⟩ := DataW.trod_int Tryd.underlying3 (g0.trans l0)
    obtain ⟨b, e1, -, -⟩ := DataW.trod_int Tryd.underlying3 (g1.trans l1)
    obtain ⟨c, e2, -, -⟩ := DataW.trod_int Tryd.underlying3 (g2.trans l2)
    simp at e0 e1 e2
    exact ⟨⟨a, b, c⟩, by rw [e0, e1, e2]; rfl⟩

set_option maxRecDepth 100000 in
theorem open_slots {H : Type} {enc : TypeId × Value → H} {W : World} {fuel : Nat} {v : Value} {x : DataW H × List MemPlace} (h : DataW.trod enc Tryd.prog W 0 (fun _ => true) true fuel 61 [v] = some x) :
    ∃ L : List Ld.Sl, SlotsAt (fun b => b < W.heap.size) v L W := by
  rcases Deep.open_slice Tryd.underlying61 h with ⟨hcs, -⟩ | ⟨a, len, cap, m, n, D, PLS, hcs, -, hl, hm, hmm, hx, hi⟩
  · simp at hcs
    subst hcs
    exact ⟨[], none, 0, rfl, fun j x hj => by simp at hj⟩
  · simp at hcs
    subst hcs
    rw [cellsSlot] at hi hx
    have slotOf : ∀ i, i < len → ∃ r : Ld.Sl, (∀ k v, k < 3 → (three r)[k]? = some v → W.cell? (a.add (i * 3 + k)) = some v) := by
      intro i hil
      have him : i < m := by simp at hmm; omega
      obtain ⟨cs', hc, ht'⟩ := hi i him
      obtain ⟨-, hcl, hat⟩ := World.cells?_some hc
      obtain ⟨r, rfl⟩ := slot_of hcl ht'
      refine ⟨r, fun k v hk4 hkv => ?_⟩
      have := hat k hk4
      rw [Deep.add_add] at this
      rw [this]
      exact hkv
    have pick : ∀ i, ∃ r : Ld.Sl, i < len → (∀ k v, k < 3 → (three r)[k]? = some v → W.cell? (a.add (i * 3 + k)) = some v) := fun i => by
      by_cases hil : i < len
      · obtain ⟨r, hr⟩ := slotOf i hil
        exact ⟨r, fun _ => hr⟩
      · exact ⟨⟨0, 0, 0⟩, fun h => absurd h hil⟩
    obtain ⟨F, hF⟩ := Classical.axiomOfChoice pick
    have hlen : ((List.range len).map F).length = len := by simp
    refine ⟨(List.range len).map F, some a, cap, by rw [hlen], ?_⟩
    intro j y hj
    have hjl : j < len := by have := (List.getElem?_eq_some_iff.1 hj).1; rw [hlen] at this; exact this
    have hy : F j = y := by
      rw [List.getElem?_map, List.getElem?_range hjl] at hj
      exact Option.some.inj hj
    subst hy
    have hc := hF j hjl
    obtain ⟨b, off, spot⟩ := a
    have hspot : spot = none := by
      have h0 := hF 0 (Nat.lt_of_le_of_lt (Nat.zero_le _) hjl) 0 _ (by decide) rfl
      have := World.cell?_spot h0
      simpa [Addr.add] using this
    subst hspot
    have c0 := hc 0 _ (by decide) rfl
    have c1 := hc 1 _ (by decide) rfl
    have c2 := hc 2 _ (by decide) rfl
    rw [add_plain] at c0 c1 c2
    exact ⟨b, off, rfl, block_lt_of_cell c0, c0, c1, c2⟩

set_option maxRecDepth 100000 in
theorem seen_of {H : Type} {enc : TypeId × Value → H} {W : World} {n : Nat} {cs : List Value} {y : DataW H × List MemPlace} (hlen : cs.length = 2) (h : DataW.trod enc Tryd.prog W 0 (fun _ => true) true n 63 cs = some y) :
    ∃ (x : Int × List Ld.Sl) (sv : Value), cs = [.int .i64 x.1, sv] ∧ SlotsAt (fun b => b < W.heap.size) sv x.2 W := by
  obtain ⟨ys, n', -, -, -, hyl, hf⟩ := DataW.trod_struct Tryd.underlying63 h
  match cs, hlen with
  | [x0, x1], _ =>
    have f0 := hf 0 _ rfl
    have f1 := hf 1 _ rfl
    have l0 : ys[0]? = some (ys[0]'(by rw [hyl]; decide)) := List.getElem?_eq_getElem _
    have l1 : ys[1]? = some (ys[1]'(by rw [hyl]; decide)) := List.getElem?_eq_getElem _
    have g0 : DataW.trod enc Tryd.prog W 0 (fun _ => true) true n' 3 [x0] = ys[0]? := f0
    have g1 : DataW.trod enc Tryd.prog W 0 (fun _ => true) true n' 61 [x1] = ys[1]? := f1
    obtain ⟨a, e0, -, -⟩ := DataW.trod_int Tryd.underlying3 (g0.trans l0)
    obtain ⟨L, hL⟩ := open_slots (g1.trans l1)
    simp at e0
    exact ⟨(a, L), x1, by rw [e0], hL⟩

set_option maxRecDepth 100000 in
theorem open_tab {H : Type} {enc : TypeId × Value → H} {W : World} {fuel : Nat} {a0 : Option Addr} {len cap : Nat} {x : DataW H × List MemPlace} (h : DataW.trod enc Tryd.prog W 0 (fun _ => true) true fuel 22 [.slice a0 len cap] = some x) :
    ∃ T : Ld.Tb, TabAt (fun b => b < W.heap.size) (.slice a0 len cap) T W := by
  rcases Deep.open_slice Tryd.underlying22 h with ⟨hcs, -⟩ | ⟨a, len', cap', m, n, D, PLS, hcs, -, hl, hm, hmm, hx, hi⟩
  · simp at hcs
    obtain ⟨rfl, rfl, rfl⟩ := hcs
    exact ⟨[], none, 0, rfl, fun j x hj => by simp at hj⟩
  · simp at hcs
    obtain ⟨rfl, rfl, rfl⟩ := hcs
    rw [cellsSeen] at hi hx
    have seenOf : ∀ i, i < len → ∃ r : (Int × List Ld.Sl) × Value, W.cell? (a.add (i * 2)) = some (.int .i64 r.1.1) ∧ W.cell? (a.add (i * 2 + 1)) = some r.2 ∧ SlotsAt (fun b => b < W.heap.size) r.2 r.1.2 W := by
      intro i hil
      have him : i < m := by simp at hmm; omega
      obtain ⟨cs', hc, ht'⟩ := hi i him
      obtain ⟨-, hcl, hat⟩ := World.cells?_some hc
      obtain ⟨r, sv, rfl, hs⟩ := seen_of hcl ht'
      have h0 := hat 0 (by decide)
      have h1 := hat 1 (by decide)
      rw [Deep.add_add] at h0 h1
      exact ⟨(r, sv), by simpa using h0, by simpa using h1, hs⟩
    have pick : ∀ i, ∃ r : (Int × List Ld.Sl) × Value, i < len → W.cell? (a.add (i * 2)) = some (.int .i64 r.1.1) ∧ W.cell? (a.add (i * 2 + 1)) = some r.2 ∧ SlotsAt (fun b => b < W.heap.size) r.2 r.1.2 W := fun i => by
      by_cases hil : i < len
      · obtain ⟨r, hr⟩ := seenOf i hil
        exact ⟨r, fun _ => hr⟩
      · exact ⟨((0, []), undef), fun h => absurd h hil⟩
    obtain ⟨F, hF⟩ := Classical.axiomOfChoice pick
    have hlen : ((List.range len).map fun i => (F i).1).length = len := by simp
    refine ⟨(List.range len).map fun i => (F i).1, some a, cap, by rw [hlen], ?_⟩
    intro j y hj
    have hjl : j < len := by have := (List.getElem?_eq_some_iff.1 hj).1; rw [hlen] at this; exact this
    have hy : (F j).1 = y := by
      rw [List.getElem?_map, List.getElem?_range hjl] at hj
      exact Option.some.inj hj
    subst hy
    obtain ⟨c0, c1, hs⟩ := hF j hjl
    obtain ⟨b, off, spot⟩ := a
    have hspot : spot = none := by
      have h0 := (hF 0 (Nat.lt_of_le_of_lt (Nat.zero_le _) hjl)).1
      have := World.cell?_spot h0
      simpa [Addr.add] using this
    subst hspot
    rw [add_plain] at c0 c1
    exact ⟨b, off, _, rfl, block_lt_of_cell c0, c0, c1, hs⟩

theorem cellsRec : Tryd.prog.cellsOf 36 = 4 := by kernel_rfl
theorem cellsBatch : Tryd.prog.cellsOf 34 = 6 := by kernel_rfl
set_option maxRecDepth 100000 in
theorem rec_of {H : Type} {enc : TypeId × Value → H} {W : World} {n : Nat} {cs : List Value} {y : DataW H × List MemPlace} (hlen : cs.length = 4) (h : DataW.trod enc Tryd.prog W 0 (fun _ => true) true n 36 cs = some y) :
    ∃ x : Pl.Rc, cs = cells4 x ∧ x.key.length ≤ maxLen ∧ x.val.length ≤ maxLen := by
  obtain ⟨ys, n', -, -, -, hyl, hf⟩ := DataW.trod_struct Tryd.underlying36 h
  match cs, hlen with
  | [x0, x1, x2, x3], _ =>
    have f0 := hf 0 _ rfl
    have f1 := hf 1 _ rfl
    have f2 := hf 2 _ rfl
    have f3 := hf 3 _ rfl
    have l0 : ys[0]? = some (ys[0]'(by rw [hyl]; decide)) := List.getElem?_eq_getElem _
    have l1 : ys[1]? = some (ys[1]'(by rw [hyl]; decide)) := List.getElem?_eq_getElem _
    have l2 : ys[2]? = some (ys[2]'(by rw [hyl]; decide)) := List.getElem?_eq_getElem _
    have l3 : ys[3]? = some (ys[3]'(by rw [hyl]; decide)) := List.getElem?_eq_getElem _
    have g0 : DataW.trod enc Tryd.prog W 0 (fun _ => true) true n' 3 [x0] = ys[0]? := f0
    have g1 : DataW.trod enc Tryd.prog W 0 (fun _ => true) true n' 9 [x1] = ys[1]? := f1
    have g2 : DataW.trod enc Tryd.prog W 0 (fun _ => true) true n' 9 [x2] = ys[2]? := f2
    have g3 : DataW.trod enc Tryd.prog W 0 (fun _ => true) true n' 4 [x3] = ys[3]? := f3
    obtain ⟨o, e0, -, -⟩ := DataW.trod_int Tryd.underlying3 (g0.trans l0)
    obtain ⟨K, e1, -, hK⟩ := DataW.trod_string Tryd.underlying9 (g1.trans l1)
    obtain ⟨V, e2, -, hV⟩ := DataW.trod_string Tryd.underlying9 (g2.trans l2)
    obtain ⟨g, e3, -⟩ := DataW.trod_bool Tryd.underlying4 (g3.trans l3)
    simp at e0 e1 e2 e3
    have hkk : (⟨K.data.toList.toArray⟩ : ByteArray) = K := by simp
    have hvv : (⟨V.data.toList.toArray⟩ : ByteArray) = V := by simp
    refine ⟨⟨o, K.data.toList, V.data.toList, g⟩, ?_, ?_, ?_⟩
    · unfold cells4
      rw [e0, e1, e2, e3, hkk, hvv]
    · rw [← Lib.size_eq]; exact hK
    · rw [← Lib.size_eq]; exact hV

set_option maxRecDepth 100000 in
theorem open_recs {H : Type} {enc : TypeId × Value → H} {W : World} {fuel : Nat} {a0 : Option Addr} {len cap : Nat} {x : DataW H × List MemPlace} (h : DataW.trod enc Tryd.prog W 0 (fun _ => true) true fuel 32 [.slice a0 len cap] = some x) :
    ∃ ls : List Pl.Rc, ls.length = len ∧ len ≤ maxLen ∧ (∀ x ∈ ls, x.key.length ≤ maxLen ∧ x.val.length ≤ maxLen) ∧ Recs (.slice a0 len cap) ls W := by
  rcases Deep.open_slice Tryd.underlying32 h with ⟨hcs, -⟩ | ⟨a, len', cap', m, n, D, PLS, hcs, -, hl, hm, hmm, hx, hi⟩
  · simp at hcs
    obtain ⟨rfl, rfl, rfl⟩ := hcs
    exact ⟨[], rfl, Nat.zero_le _, by simp, none, 0, rfl, fun j x hj => by simp at hj⟩
  · simp at hcs
    obtain ⟨rfl, rfl, rfl⟩ := hcs
    rw [cellsRec] at hi hx
    have recOf : ∀ i, i < len → ∃ r : Pl.Rc, (∀ k v, k < 4 → (cells4 r)[k]? = some v → W.cell? (a.add (i * 4 + k)) = some v) ∧ r.key.length ≤ maxLen ∧ r.val.length ≤ maxLen := by
      intro i hil
      have him : i < m := by simp at hmm; omega
      obtain ⟨cs', hc, ht'⟩ := hi i him
      obtain ⟨-, hcl, hat⟩ := World.cells?_some hc
      obtain ⟨r, rfl, hk, hv⟩ := rec_of hcl ht'
      refine ⟨r, fun k v hk4 hkv => ?_, hk, hv⟩
      have := hat k hk4
      rw [Deep.add_add] at this
      rw [this]
      exact hkv
    have pick : ∀ i, ∃ r : Pl.Rc, i < len → (∀ k v, k < 4 → (cells4 r)[k]? = some v → W.cell? (a.add (i * 4 + k)) = some v) ∧ r.key.length ≤ maxLen ∧ r.val.length ≤ maxLen := fun i => by
      by_cases hil : i < len
      · obtain ⟨r, hr⟩ := recOf i hil
        exact ⟨r, fun _ => hr⟩
      · exact ⟨⟨0, [], [], false⟩, fun h => absurd h hil⟩
    obtain ⟨F, hF⟩ := Classical.axiomOfChoice pick
    have hlen : ((List.range len).map F).length = len := by simp
    refine ⟨(List.range len).map F, hlen, by omega, ?_, some a, cap, by rw [hlen], ?_⟩
    · intro y hy
      obtain ⟨i, hi', rfl⟩ := List.mem_map.1 hy
      exact (hF i (List.mem_range.1 hi')).2
    · intro j y hj
      have hjl : j < len := by have := (List.getElem?_eq_some_iff.1 hj).1; rw [hlen] at this; exact this
      have hy : F j = y := by
        rw [List.getElem?_map, List.getElem?_range hjl] at hj
        exact Option.some.inj hj
      subst hy
      have hc := (hF j hjl).1
      obtain ⟨b, off, spot⟩ := a
      have hspot : spot = none := by
        have h0 := (hF 0 (Nat.lt_of_le_of_lt (Nat.zero_le _) hjl)).1 0 _ (by decide) rfl
        have := World.cell?_spot h0
        simpa [Addr.add] using this
      subst hspot
      have c0 := hc 0 _ (by decide) rfl
      have c1 := hc 1 _ (by decide) rfl
      have c2 := hc 2 _ (by decide) rfl
      have c3 := hc 3 _ (by decide) rfl
      rw [add_plain] at c0 c1 c2 c3
      exact ⟨b, off, rfl, block_lt_of_cell c0, c0, c1, c2, c3⟩

/-- A slice of batches, below block B. -/
structure Bts (w : World) (B : Nat) (v : Value) (bs : List Pl.Bt) : Prop where
  lies : ∃ a cap, v = .slice a bs.length cap ∧ ∀ (j : Nat) (x : Pl.Bt), bs[j]? = some x → ∃ b off rv, a = some ⟨b, off, none⟩ ∧ b < B ∧ (w.cell? ⟨b, off + j * 6, none⟩ = some (.int .i64 x.base) ∧ w.cell? ⟨b, off + j * 6 + 1, none⟩ = some (.int .i64 x.count) ∧ w.cell? ⟨b, off + j * 6 + 2, none⟩ = some (.int .i64 x.prod) ∧ w.cell? ⟨b, off + j * 6 + 3, none⟩ = some (.int .i64 x.seq) ∧ w.cell? ⟨b, off + j * 6 + 4, none⟩ = some (.int .i64 x.time) ∧ w.cell? ⟨b, off + j * 6 + 5, none⟩ = some rv) ∧ Recs rv x.recs w ∧ Pl.I64 x.base ∧ Pl.I64 x.count
theorem Bts.below {w w' : World} {v : Value} {bs : List Pl.Bt} (h : Bts w w.heap.size v bs) (hb : RowKit.Below w.heap.size w w') {B : Nat} (hB : w.heap.size ≤ B) : Bts w' B v bs := by
  obtain ⟨a, cap, hv, hc⟩ := h.lies
  refine ⟨a, cap, hv, fun j x hj => ?_⟩
  obtain ⟨b, off, rv, ha, hlt, ⟨h0, h1, h2, h3, h4, h5⟩, hr, hi⟩ := hc j x hj
  have e : ∀ o, w'.cell? ⟨b, o, none⟩ = w.cell? ⟨b, o, none⟩ := fun o => hb.cell (p := ⟨b, o, none⟩) hlt
  exact ⟨b, off, rv, ha, by omega, ⟨(e _).trans h0, (e _).trans h1, (e _).trans h2, (e _).trans h3, (e _).trans h4, (e _).trans h5⟩, hr.below hb, hi⟩
def cells6 (x : Pl.Bt) (rv : Value) : List Value := [.int .i64 x.base, .int .i64 x.count, .int .i64 x.prod, .int .i64 x.seq, .int .i64 x.time, rv]
set_option maxRecDepth 100000 in
theorem bt_of {H : Type} {enc : TypeId × Value → H} {W : World} {n : Nat} {cs : List Value} {y : DataW H × List MemPlace} (hlen : cs.length = 6) (h : DataW.trod enc Tryd.prog W 0 (fun _ => true) true n 34 cs = some y) :
    ∃ (b : Pl.Bt) (rv : Value), cs = cells6 b rv ∧ Recs rv b.recs W ∧ Pl.I64 b.base ∧ Pl.I64 b.count := by
  obtain ⟨ys, n', -, -, -, hyl, hf⟩ := DataW.trod_struct Tryd.underlying34 h
  match cs, hlen with
  | [c0, c1, c2, c3, c4, c5], _ =>
    have f0 := hf 0 _ rfl
    have f1 := hf 1 _ rfl
    have f2 := hf 2 _ rfl
    have f3 := hf 3 _ rfl
    have f4 := hf 4 _ rfl
    have f5 := hf 5 _ rfl
    have l0 : ys[0]? = some (ys[0]'(by rw [hyl]; decide)) := List.getElem?_eq_getElem _
    have l1 : ys[1]? = some (ys[1]'(by rw [hyl]; decide)) := List.getElem?_eq_getElem _
    have l2 : ys[2]? = some (ys[2]'(by rw [hyl]; decide)) := List.getElem?_eq_getElem _
    have l3 : ys[3]? = some (ys[3]'(by rw [hyl]; decide)) := List.getElem?_eq_getElem _
    have l4 : ys[4]? = some (ys[4]'(by rw [hyl]; decide)) := List.getElem?_eq_getElem _
    have l5 : ys[5]? = some (ys[5]'(by rw [hyl]; decide)) := List.getElem?_eq_getElem _
    have g0 : DataW.trod enc Tryd.prog W 0 (fun _ => true) true n' 3 [c0] = ys[0]? := f0
    have g1 : DataW.trod enc Tryd.prog W 0 (fun _ => true) true n' 3 [c1] = ys[1]? := f1
    have g2 : DataW.trod enc Tryd.prog W 0 (fun _ => true) true n' 3 [c2] = ys[2]? := f2
    have g3 : DataW.trod enc Tryd.prog W 0 (fun _ => true) true n' 3 [c3] = ys[3]? := f3
    have g4 : DataW.trod enc Tryd.prog W 0 (fun _ => true) true n' 3 [c4] = ys[4]? := f4
    have g5 : DataW.trod enc Tryd.prog W 0 (fun _ => true) true n' 32 [c5] = ys[5]? := f5
    have m1 : IntKind.i64.min = -9223372036854775808 := rfl
    have m2 : IntKind.i64.max = 9223372036854775807 := rfl
    obtain ⟨z0, e0, -, w0⟩ := DataW.trod_int Tryd.underlying3 (g0.trans l0)
    obtain ⟨z1, e1, -, w1⟩ := DataW.trod_int Tryd.underlying3 (g1.trans l1)
    obtain ⟨z2, e2, -, -⟩ := DataW.trod_int Tryd.underlying3 (g2.trans l2)
    obtain ⟨z3, e3, -, -⟩ := DataW.trod_int Tryd.underlying3 (g3.trans l3)
    obtain ⟨z4, e4, -, -⟩ := DataW.trod_int Tryd.underlying3 (g4.trans l4)
    simp at e0 e1 e2 e3 e4
    obtain ⟨a, len, cap, hcs⟩ : ∃ a l c, c5 = .slice a l c := by
      rcases Deep.open_slice Tryd.underlying32 (g5.trans l5) with ⟨hcs, _⟩ | ⟨a', len', cap', m, n, D, PLS, hcs, _⟩
      · simp at hcs; exact ⟨_, _, _, hcs⟩
      · simp at hcs; exact ⟨_, _, _, hcs⟩
    subst e0 e1 e2 e3 e4 hcs
    obtain ⟨ls, hll, hlm, hks, hr⟩ := open_recs (g5.trans l5)
    simp only [Lit.wf, Bool.and_eq_true, decide_eq_true_eq, m1, m2] at w0 w1
    exact ⟨⟨z0, z1, z2, z3, z4, ls⟩, _, rfl, hr, w0, w1⟩

set_option maxRecDepth 100000 in
theorem open_bts {H : Type} {enc : TypeId × Value → H} {W : World} {fuel : Nat} {a0 : Option Addr} {len cap : Nat} {x : DataW H × List MemPlace} (h : DataW.trod enc Tryd.prog W 0 (fun _ => true) true fuel 23 [.slice a0 len cap] = some x) :
    ∃ bs : List Pl.Bt, Bts W W.heap.size (.slice a0 len cap) bs := by
  rcases Deep.open_slice Tryd.underlying23 h with ⟨hcs, -⟩ | ⟨a, len', cap', m, n, D, PLS, hcs, -, hl, hm, hmm, hx, hi⟩
  · simp at hcs
    obtain ⟨rfl, rfl, rfl⟩ := hcs
    exact ⟨[], none, 0, rfl, fun j x hj => by simp at hj⟩
  · simp at hcs
    obtain ⟨rfl, rfl, rfl⟩ := hcs
    rw [cellsBatch] at hi hx
    have btOf : ∀ i, i < len → ∃ r : Pl.Bt × Value, (∀ k v, k < 6 → (cells6 r.1 r.2)[k]? = some v → W.cell? (a.add (i * 6 + k)) = some v) ∧ Recs r.2 r.1.recs W ∧ Pl.I64 r.1.base ∧ Pl.I64 r.1.count := by
      intro i hil
      have him : i < m := by simp at hmm; omega
      obtain ⟨cs', hc, ht'⟩ := hi i him
      obtain ⟨-, hcl, hat⟩ := World.cells?_some hc
      obtain ⟨r, sv, rfl, hs⟩ := bt_of hcl ht'
      refine ⟨(r, sv), fun k v hk4 hkv => ?_, hs⟩
      have := hat k hk4
      rw [Deep.add_add] at this
      rw [this]
      exact hkv
    have pick : ∀ i, ∃ r : Pl.Bt × Value, i < len → (∀ k v, k < 6 → (cells6 r.1 r.2)[k]? = some v → W.cell? (a.add (i * 6 + k)) = some v) ∧ Recs r.2 r.1.recs W ∧ Pl.I64 r.1.base ∧ Pl.I64 r.1.count := fun i => by
      by_cases hil : i < len
      · obtain ⟨r, hr⟩ := btOf i hil
        exact ⟨r, fun _ => hr⟩
      · exact ⟨(⟨0, 0, 0, 0, 0, []⟩, undef), fun h => absurd h hil⟩
    obtain ⟨F, hF⟩ := Classical.axiomOfChoice pick
    have hlen : ((List.range len).map fun i => (F i).1).length = len := by simp
    refine ⟨(List.range len).map fun i => (F i).1, some a, cap, by rw [hlen], ?_⟩
    intro j y hj
    have hjl : j < len := by have := (List.getElem?_eq_some_iff.1 hj).1; rw [hlen] at this; exact this
    have hy : (F j).1 = y := by
      rw [List.getElem?_map, List.getElem?_range hjl] at hj
      exact Option.some.inj hj
    subst hy
    obtain ⟨hc, hs⟩ := hF j hjl
    obtain ⟨b, off, spot⟩ := a
    have hspot : spot = none := by
      have h0 := (hF 0 (Nat.lt_of_le_of_lt (Nat.zero_le _) hjl)).1 0 _ (by decide) rfl
      have := World.cell?_spot h0
      simpa [Addr.add] using this
    subst hspot
    have c0 := hc 0 _ (by decide) rfl
    have c1 := hc 1 _ (by decide) rfl
    have c2 := hc 2 _ (by decide) rfl
    have c3 := hc 3 _ (by decide) rfl
    have c4 := hc 4 _ (by decide) rfl
    have c5 := hc 5 _ (by decide) rfl
    rw [add_plain] at c0 c1 c2 c3 c4 c5
    exact ⟨b, off, _, rfl, block_lt_of_cell c0, ⟨c0, c1, c2, c3, c4, c5⟩, hs⟩
end Go.Proofs.YtloallndnmofnaaDoor
