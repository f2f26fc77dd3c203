/- An argument opened: a slice of acts. -/
import Derived.Test.YtdkngocinimjdaaOpen
import Derived.Test.YtdkngocinimjdaaRef7
import Derived.Deep.Fields
namespace Go.Proofs.Ytdkngocinimjdaa
open Go.ChangeShapes Go.WideShapes Go.ChangeAt Go.RowKit

theorem cellsAct : Try.prog.cellsOf 32 = 4 := by kernel_rfl
theorem trod_float {H : Type} {enc : TypeId × Value → H} {W : World} {n : Nat} {c : Value} {y : DataW H × List MemPlace} (h : DataW.trod enc Try.prog W 0 (fun _ => true) true n 30 [c] = some y) : ∃ b, c = .float .f64 b := by
  cases n with
  | zero => simp [DataW.trod] at h
  | succ n =>
    simp only [DataW.trod, Try.underlying30] at h
    cases c <;> simp_all

set_option maxRecDepth 100000 in
theorem act_of {H : Type} {enc : TypeId × Value → H} {W : World} {n : Nat} {cs : List Value} {y : DataW H × List MemPlace} (hlen : cs.length = 4) (h : DataW.trod enc Try.prog W 0 (fun _ => true) true n 32 cs = some y) :
    ∃ x : Ac, cs = [.int .i64 x.kind, .float .f64 x.re, .float .f64 x.im, .int .i64 x.pl] := by
  obtain ⟨ys, n', -, -, -, hyl, hf⟩ := DataW.trod_struct Try.underlying32 h
  match cs, hlen with
  | [x0, x1, x2, x3], _ =>
    have f0 := hf 0 _ rfl
    have f1 := hf 1 _ rfl
    have f2 := hf 2 _ rfl
    have f3 := hf 3 _ rfl
    have l0 : ys[0]? = some (ys[0]'(by rw [hyl]; decide)) := List.getElem?_eq_getElem _
    have l1 : ys[1]? = some (ys[1]'(by rw [hyl]; decide)) := List.getElem?_eq_getElem _
    have l2 : ys[2]? = some (ys[2]'(by rw [hyl]; decide)) := List.getElem?_eq_getElem _
    have l3 : ys[3]? = some (ys[3]'(by rw [hyl]; decide)) := List.getElem?_eq_getElem _
    have g0 : DataW.trod enc Try.prog W 0 (fun _ => true) true n' 3 [x0] = ys[0]? := f0
    have g1 : DataW.trod enc Try.prog W 0 (fun _ => true) true n' 30 [x1] = ys[1]? := f1
    have g2 : DataW.trod enc Try.prog W 0 (fun _ => true) true n' 30 [x2] = ys[2]? := f2
    have g3 : DataW.trod enc Try.prog W 0 (fun _ => true) true n' 3 [x3] = ys[3]? := f3
    obtain ⟨a, e0, -, -⟩ := DataW.trod_int Try.underlying3 (g0.trans l0)
    obtain ⟨b, e1⟩ := trod_float (g1.trans l1)
    obtain ⟨c, e2⟩ := trod_float (g2.trans l2)
    obtain ⟨d, e3, -, -⟩ := DataW.trod_int Try.underlying3 (g3.trans l3)
    simp at e0 e3
    exact ⟨⟨a, b, c, d⟩, by rw [e0, e1, e2, e3]⟩

set_option maxRecDepth 100000 in
theorem open_acts {H : Type} {enc : TypeId × Value → H} {W : World} {fuel : Nat} {a0 : Option Addr} {len cap : Nat} {x : DataW H × List MemPlace} (h : DataW.trod enc Try.prog W 0 (fun _ => true) true fuel 22 [.slice a0 len cap] = some x) :
    ∃ ac : List Ac, Acts W W.heap.size (.slice a0 len cap) ac := by
  rcases Deep.open_slice Try.underlying22 h with ⟨hcs, -⟩ | ⟨a, len', cap', m, n, D, PLS, hcs, -, hl, hm, hmm, hx, hi⟩
  · simp at hcs
    obtain ⟨rfl, rfl, rfl⟩ := hcs
    exact ⟨[], none, 0, rfl, fun j x hj => by simp at hj⟩
  · simp at hcs
    obtain ⟨rfl, rfl, rfl⟩ := hcs
    rw [cellsAct] at hi hx
    have actOf : ∀ i, i < len → ∃ z : Ac, W.cell? (a.add (i * 4)) = some (.int .i64 z.kind) ∧ W.cell? (a.add (i * 4 + 1)) = some (.float .f64 z.re) ∧ W.cell? (a.add (i * 4 + 2)) = some (.float .f64 z.im) ∧ W.cell? (a.add (i * 4 + 3)) = some (.int .i64 z.pl) := by
      intro i hil
      have him : i < m := by simp at hmm; omega
      obtain ⟨cs', hc, ht'⟩ := hi i him
      obtain ⟨-, hcl, hat⟩ := World.cells?_some hc
      obtain ⟨z, rfl⟩ := act_of hcl ht'
      have h0 := hat 0 (by decide)
      have h1 := hat 1 (by decide)
      have h2 := hat 2 (by decide)
      have h3 := hat 3 (by decide)
      rw [Deep.add_add] at h0 h1 h2 h3
      exact ⟨z, by simpa using h0, by simpa using h1, by simpa using h2, by simpa using h3⟩
    have pick : ∀ i, ∃ z : Ac, i < len → W.cell? (a.add (i * 4)) = some (.int .i64 z.kind) ∧ W.cell? (a.add (i * 4 + 1)) = some (.float .f64 z.re) ∧ W.cell? (a.add (i * 4 + 2)) = some (.float .f64 z.im) ∧ W.cell? (a.add (i * 4 + 3)) = some (.int .i64 z.pl) := fun i => by
      by_cases hil : i < len
      · obtain ⟨r, hr⟩ := actOf i hil
        exact ⟨r, fun _ => hr⟩
      · exact ⟨⟨0, 0, 0, 0⟩, fun h => absurd h hil⟩
    obtain ⟨F, hF⟩ := Classical.axiomOfChoice pick
    have hlen : ((List.range len).map F).length = len := by simp
    refine ⟨(List.range len).map F, some a, cap, by rw [hlen], ?_⟩
    intro j y hj
    have hjl : j < len := by have := (List.getElem?_eq_some_iff.1 hj).1; rw [hlen] at this; exact this
    have hy : F j = y := by
      rw [List.getElem?_map, List.getElem?_range hjl] at hj
      exact Option.some.inj hj
    subst hy
    obtain ⟨b, off, spot⟩ := a
    have hspot : spot = none := by
      have h0 := (hF 0 (Nat.lt_of_le_of_lt (Nat.zero_le _) hjl)).1
      have := World.cell?_spot h0
      simpa [Addr.add] using this
    subst hspot
    obtain ⟨c0, c1, c2, c3⟩ := hF j hjl
    rw [add_plain] at c0 c1 c2 c3
    exact ⟨b, off, rfl, block_lt_of_cell c0, c0, c1, c2, c3⟩
end Go.Proofs.Ytdkngocinimjdaa
