/- An argument that is a batch, or a slice of records, opened. -/
import Derived.Test.YtdkngocinimjdaaDoorLift
import Derived.Test.YtdkngocinimjdaaDoorOfWalk
import Derived.Deep.Slices
import Derived.Deep.Fields
import Derived.Carry
import Derived.ChangeArms
namespace Go.Proofs.YtdkngocinimjdaaDoor
open Go.ChangeShapes Go.WideShapes Go.ChangeAt Go.RowKit

theorem laidOut : laidOutB Tryd.prog = true := by kernel_rfl
theorem cellsRec : Tryd.prog.cellsOf 27 = 4 := by kernel_rfl
theorem cellsBatch : Tryd.prog.cellsOf 24 = 6 := by kernel_rfl
theorem cellsBool : Tryd.prog.cellsOf 4 = 1 := by kernel_rfl
theorem cellsSl : Tryd.prog.cellsOf 22 = 1 := by kernel_rfl

set_option maxRecDepth 100000 in
theorem rec_of {H : Type} {enc : TypeId × Value → H} {W : World} {n : Nat} {cs : List Value} {y : DataW H × List MemPlace} (hlen : cs.length = 4) (h : DataW.trod enc Tryd.prog W 0 (fun _ => true) true n 27 cs = some y) :
    ∃ x : Pl.Rc, cs = cells4 x ∧ x.key.length ≤ maxLen ∧ x.val.length ≤ maxLen := by
  obtain ⟨ys, n', -, -, -, hyl, hf⟩ := DataW.trod_struct Tryd.underlying27 h
  match cs, hlen with
  | [x0, x1, x2, x3], _ =>
    have f0 := hf 0 _ rfl
    have f1 := hf 1 _ rfl
    have f2 := hf 2 _ rfl
    have f3 := hf 3 _ rfl
    have l0 : ys[0]? = some (ys[0]'(by rw [hyl]; decide)) := List.getElem?_eq_getElem _
    have l1 : ys[1]? = some (ys[1]'(by rw [hyl]; decide)) := List.getElem?_eq_getElem _
    have l2 : ys[2]? = some (ys[2]'(by rw [hyl]; decide)) := List.getElem?_eq_getElem _
    have l3 : ys[3]? = some (ys[3]'(by rw [hyl]; decide)) := List.getElem?_eq_getElem _
    have g0 : DataW.trod enc Tryd.prog W 0 (fun _ => true) true n' 3 [x0] = ys[0]? := f0
    have g1 : DataW.trod enc Tryd.prog W 0 (fun _ => true) true n' 9 [x1] = ys[1]? := f1
    have g2 : DataW.trod enc Tryd.prog W 0 (fun _ => true) true n' 9 [x2] = ys[2]? := f2
    have g3 : DataW.trod enc Tryd.prog W 0 (fun _ => true) true n' 4 [x3] = ys[3]? := f3
    obtain ⟨o, e0, -, -⟩ := DataW.trod_int Tryd.underlying3 (g0.trans l0)
    obtain ⟨K, e1, -, hK⟩ := DataW.trod_string Tryd.underlying9 (g1.trans l1)
    obtain ⟨V, e2, -, hV⟩ := DataW.trod_string Tryd.underlying9 (g2.trans l2)
    obtain ⟨g, e3, -⟩ := DataW.trod_bool Tryd.underlying4 (g3.trans l3)
    simp at e0 e1 e2 e3
    have hkk : (⟨K.data.toList.toArray⟩ : ByteArray) = K := by simp
    have hvv : (⟨V.data.toList.toArray⟩ : ByteArray) = V := by simp
    refine ⟨⟨o, K.data.toList, V.data.toList, g⟩, ?_, ?_, ?_⟩
    · unfold cells4
      rw [e0, e1, e2, e3, hkk, hvv]
    · rw [← Lib.size_eq]; exact hK
    · rw [← Lib.size_eq]; exact hV

set_option maxRecDepth 100000 in
theorem open_recs {H : Type} {enc : TypeId × Value → H} {W : World} {fuel : Nat} {a0 : Option Addr} {len cap : Nat} {x : DataW H × List MemPlace} (h : DataW.trod enc Tryd.prog W 0 (fun _ => true) true fuel 22 [.slice a0 len cap] = some x) :
    ∃ ls : List Pl.Rc, ls.length = len ∧ len ≤ maxLen ∧ (∀ x ∈ ls, x.key.length ≤ maxLen ∧ x.val.length ≤ maxLen) ∧ Recs (.slice a0 len cap) ls W := by
  rcases Deep.open_slice Tryd.underlying22 h with ⟨hcs, -⟩ | ⟨a, len', cap', m, n, D, PLS, hcs, -, hl, hm, hmm, hx, hi⟩
  · simp at hcs
    obtain ⟨rfl, rfl, rfl⟩ := hcs
    exact ⟨[], rfl, Nat.zero_le _, by simp, none, 0, rfl, fun j x hj => by simp at hj⟩
  · simp at hcs
    obtain ⟨rfl, rfl, rfl⟩ := hcs
    rw [cellsRec] at hi hx
    have recOf : ∀ i, i < len → ∃ r : Pl.Rc, (∀ k v, k < 4 → (cells4 r)[k]? = some v → W.cell? (a.add (i * 4 + k)) = some v) ∧ r.key.length ≤ maxLen ∧ r.val.length ≤ maxLen := by
      intro i hil
      have him : i < m := by simp at hmm; omega
      obtain ⟨cs', hc, ht'⟩ := hi i him
      obtain ⟨-, hcl, hat⟩ := World.cells?_some hc
      obtain ⟨r, rfl, hk, hv⟩ := rec_of hcl ht'
      refine ⟨r, fun k v hk4 hkv => ?_, hk, hv⟩
      have := hat k hk4
      rw [Deep.add_add] at this
      rw [this]
      exact hkv
    have pick : ∀ i, ∃ r : Pl.Rc, i < len → (∀ k v, k < 4 → (cells4 r)[k]? = some v → W.cell? (a.add (i * 4 + k)) = some v) ∧ r.key.length ≤ maxLen ∧ r.val.length ≤ maxLen := fun i => by
      by_cases hil : i < len
      · obtain ⟨r, hr⟩ := recOf i hil
        exact ⟨r, fun _ => hr⟩
      · exact ⟨⟨0, [], [], false⟩, fun h => absurd h hil⟩
    obtain ⟨F, hF⟩ := Classical.axiomOfChoice pick
    have hlen : ((List.range len).map F).length = len := by simp
    refine ⟨(List.range len).map F, hlen, by omega, ?_, some a, cap, by rw [hlen], ?_⟩
    · intro y hy
      obtain ⟨i, hi', rfl⟩ := List.mem_map.1 hy
      exact (hF i (List.mem_range.1 hi')).2
    · intro j y hj
      have hjl : j < len := by have := (List.getElem?_eq_some_iff.1 hj).1; rw [hlen] at this; exact this
      have hy : F j = y := by
        rw [List.getElem?_map, List.getElem?_range hjl] at hj
        exact Option.some.inj hj
      subst hy
      have hc := (hF j hjl).1
      obtain ⟨b, off, spot⟩ := a
      have hspot : spot = none := by
        have h0 := (hF 0 (Nat.lt_of_le_of_lt (Nat.zero_le _) hjl)).1 0 _ (by decide) rfl
        have := World.cell?_spot h0
        simpa [Addr.add] using this
      subst hspot
      have c0 := hc 0 _ (by decide) rfl
      have c1 := hc 1 _ (by decide) rfl
      have c2 := hc 2 _ (by decide) rfl
      have c3 := hc 3 _ (by decide) rfl
      rw [add_plain] at c0 c1 c2 c3
      exact ⟨b, off, rfl, block_lt_of_cell c0, c0, c1, c2, c3⟩

theorem array6 {α : Type} {cs : Array α} (h : cs.size = 6) : ∃ c0 c1 c2 c3 c4 c5, cs = #[c0, c1, c2, c3, c4, c5] := by
  obtain ⟨l⟩ := cs
  match l, h with
  | [c0, c1, c2, c3, c4, c5], _ => exact ⟨c0, c1, c2, c3, c4, c5, rfl⟩

set_option maxRecDepth 100000 in
theorem open_batch {H : Type} {enc : TypeId × Value → H} {W : World} {base : Nat} {v : Value} {d : DataW H} {p : List MemPlace} (hv : Value.okWide Tryd.prog W .any base 24 v) (h : DataW.Trod enc Tryd.prog W 0 (fun _ => true) true 24 v d p) :
    ∃ (b : Pl.Bt) (sv : Value), v = .agg #[.int .i64 b.base, .int .i64 b.count, .int .i64 b.prod, .int .i64 b.seq, .int .i64 b.time, sv] ∧ Come b sv W := by
  obtain ⟨cs, rfl, hsz⟩ := okWide_struct Tryd.underlying24 hv
  obtain ⟨c0, c1, c2, c3, c4, c5, rfl⟩ := array6 (hsz.trans cellsBatch)
  obtain ⟨fuel, hf⟩ := h
  obtain ⟨ys, n', -, -, -, hyl, hf⟩ := DataW.trod_struct Tryd.underlying24 hf
  have f0 := hf 0 _ rfl
  have f1 := hf 1 _ rfl
  have f2 := hf 2 _ rfl
  have f3 := hf 3 _ rfl
  have f4 := hf 4 _ rfl
  have f5 := hf 5 _ rfl
  have l0 : ys[0]? = some (ys[0]'(by rw [hyl]; decide)) := List.getElem?_eq_getElem _
  have l1 : ys[1]? = some (ys[1]'(by rw [hyl]; decide)) := List.getElem?_eq_getElem _
  have l2 : ys[2]? = some (ys[2]'(by rw [hyl]; decide)) := List.getElem?_eq_getElem _
  have l3 : ys[3]? = some (ys[3]'(by rw [hyl]; decide)) := List.getElem?_eq_getElem _
  have l4 : ys[4]? = some (ys[4]'(by rw [hyl]; decide)) := List.getElem?_eq_getElem _
  have l5 : ys[5]? = some (ys[5]'(by rw [hyl]; decide)) := List.getElem?_eq_getElem _
  have g0 : DataW.trod enc Tryd.prog W 0 (fun _ => true) true n' 3 [c0] = ys[0]? := f0
  have g1 : DataW.trod enc Tryd.prog W 0 (fun _ => true) true n' 3 [c1] = ys[1]? := f1
  have g2 : DataW.trod enc Tryd.prog W 0 (fun _ => true) true n' 3 [c2] = ys[2]? := f2
  have g3 : DataW.trod enc Tryd.prog W 0 (fun _ => true) true n' 3 [c3] = ys[3]? := f3
  have g4 : DataW.trod enc Tryd.prog W 0 (fun _ => true) true n' 3 [c4] = ys[4]? := f4
  have g5 : DataW.trod enc Tryd.prog W 0 (fun _ => true) true n' 22 [c5] = ys[5]? := f5
  have m1 : IntKind.i64.min = -9223372036854775808 := rfl
  have m2 : IntKind.i64.max = 9223372036854775807 := rfl
  obtain ⟨z0, e0, -, w0⟩ := DataW.trod_int Tryd.underlying3 (g0.trans l0)
  obtain ⟨z1, e1, -, w1⟩ := DataW.trod_int Tryd.underlying3 (g1.trans l1)
  obtain ⟨z2, e2, -, -⟩ := DataW.trod_int Tryd.underlying3 (g2.trans l2)
  obtain ⟨z3, e3, -, -⟩ := DataW.trod_int Tryd.underlying3 (g3.trans l3)
  obtain ⟨z4, e4, -, -⟩ := DataW.trod_int Tryd.underlying3 (g4.trans l4)
  simp at e0 e1 e2 e3 e4
  obtain ⟨a, len, cap, hcs⟩ : ∃ a l c, c5 = .slice a l c := by
    rcases Deep.open_slice Tryd.underlying22 (g5.trans l5) with ⟨hcs, _⟩ | ⟨a', len', cap', m, n, D, Pl, hcs, _⟩
    · simp at hcs; exact ⟨_, _, _, hcs⟩
    · simp at hcs; exact ⟨_, _, _, hcs⟩
  subst e0 e1 e2 e3 e4 hcs
  obtain ⟨ls, hll, hlm, hks, hr⟩ := open_recs (g5.trans l5)
  simp only [Lit.wf, Bool.and_eq_true, decide_eq_true_eq, m1, m2] at w0 w1
  exact ⟨⟨z0, z1, z2, z3, z4, ls⟩, _, rfl, hr, by show ls.length ≤ _; rw [hll]; exact hlm, hks, w0, w1⟩
end Go.Proofs.YtdkngocinimjdaaDoor
