/- Arguments opened: slices of numbers, of records, of batches; a When, a pair, two Whens. -/
import Derived.Test.YtfapigccdbpepaaLift
import Derived.Test.YtfapigccdbpepaaSRep
import Derived.Test.YtfapigccdbpepaaROld
import Derived.Deep.Slices
import Derived.Deep.Fields
import Derived.Carry
import Derived.ChangeArms
namespace Go.Proofs.Ytfapigccdbpepaa
open Go.ChangeShapes Go.WideShapes Go.ChangeAt Go.RowKit

theorem cellsInt : Try.prog.cellsOf 3 = 1 := by kernel_rfl
theorem cellsRec : Try.prog.cellsOf 44 = 4 := by kernel_rfl
theorem cellsBatch : Try.prog.cellsOf 42 = 6 := by kernel_rfl
theorem cellsWhen : Try.prog.cellsOf 24 = 3 := by kernel_rfl
theorem cellsTwo : Try.prog.cellsOf 34 = 2 := by kernel_rfl
theorem cellsTwoW : Try.prog.cellsOf 46 = 6 := by kernel_rfl
set_option maxRecDepth 100000 in
theorem rec_of {H : Type} {enc : TypeId × Value → H} {W : World} {n : Nat} {cs : List Value} {y : DataW H × List MemPlace} (hlen : cs.length = 4) (h : DataW.trod enc Try.prog W 0 (fun _ => true) true n 44 cs = some y) :
    ∃ x : Pl.Rc, cs = cells4 x := by
  obtain ⟨ys, n', -, -, -, hyl, hf⟩ := DataW.trod_struct Try.underlying44 h
  match cs, hlen with
  | [x0, x1, x2, x3], _ =>
    have g0 : DataW.trod enc Try.prog W 0 (fun _ => true) true n' 3 [x0] = ys[0]? := hf 0 _ rfl
    have g1 : DataW.trod enc Try.prog W 0 (fun _ => true) true n' 9 [x1] = ys[1]? := hf 1 _ rfl
    have g2 : DataW.trod enc Try.prog W 0 (fun _ => true) true n' 9 [x2] = ys[2]? := hf 2 _ rfl
    have g3 : DataW.trod enc Try.prog W 0 (fun _ => true) true n' 4 [x3] = ys[3]? := hf 3 _ rfl
    have l0 : ys[0]? = some (ys[0]'(by rw [hyl]; decide)) := List.getElem?_eq_getElem _
    have l1 : ys[1]? = some (ys[1]'(by rw [hyl]; decide)) := List.getElem?_eq_getElem _
    have l2 : ys[2]? = some (ys[2]'(by rw [hyl]; decide)) := List.getElem?_eq_getElem _
    have l3 : ys[3]? = some (ys[3]'(by rw [hyl]; decide)) := List.getElem?_eq_getElem _
    obtain ⟨o, e0, -, -⟩ := DataW.trod_int Try.underlying3 (g0.trans l0)
    obtain ⟨K, e1, -, -⟩ := DataW.trod_string Try.underlying9 (g1.trans l1)
    obtain ⟨V, e2, -, -⟩ := DataW.trod_string Try.underlying9 (g2.trans l2)
    obtain ⟨g, e3, -⟩ := DataW.trod_bool Try.underlying4 (g3.trans l3)
    simp at e0 e1 e2 e3
    have hkk : (⟨K.data.toList.toArray⟩ : ByteArray) = K := by simp
    have hvv : (⟨V.data.toList.toArray⟩ : ByteArray) = V := by simp
    refine ⟨⟨o, K.data.toList, V.data.toList, g⟩, ?_⟩
    unfold cells4
    rw [e0, e1, e2, e3, hkk, hvv]
set_option maxRecDepth 100000 in
/-- A slice whose elements are such that their cells are given by C. -/
theorem open_rows {H : Type} {enc : TypeId × Value → H} {W : World} {fuel : Nat} {T e : TypeId} {c : Value} {x : DataW H × List MemPlace} (hund : Try.prog.underlying T = some (.slice e)) {α : Type} [Inhabited α] (C : α → List Value) (k : Nat) (hk : 0 < k) (hC : ∀ z, (C z).length = k) (hsz : Try.prog.cellsOf e = k) (P : α → Prop)
    (hel : ∀ (n : Nat) (cs : List Value) (y : DataW H × List MemPlace), cs.length = k → DataW.trod enc Try.prog W 0 (fun _ => true) true n e cs = some y → ∃ z : α, cs = C z ∧ P z) (h : DataW.trod enc Try.prog W 0 (fun _ => true) true fuel T [c] = some x) :
    ∃ zs : List α, (∀ z ∈ zs, P z) ∧ Rds (fun b => b < W.heap.size) W c k zs.length (zs.flatMap C) := by
  rcases Deep.open_slice hund h with ⟨hcs, -⟩ | ⟨a, len, cap, m, n, D, PLS, hcs, -, hl, hm, hmm, hx, hi⟩
  · simp at hcs
    subst hcs
    exact ⟨[], fun z hz => (by cases hz), Rds.nil _ _ _⟩
  · simp at hcs
    subst hcs
    rw [hsz] at hi hx
    have pick : ∀ i, ∃ z : α, i < len → P z ∧ ∀ j u, j < k → (C z)[j]? = some u → W.cell? (a.add (i * k + j)) = some u := fun i => by
      by_cases hil : i < len
      · have him : i < m := by simp at hmm; omega
        obtain ⟨cs', hc, ht'⟩ := hi i him
        obtain ⟨-, hcl, hat⟩ := World.cells?_some hc
        obtain ⟨z, rfl, hp⟩ := hel _ _ _ hcl ht'
        refine ⟨z, fun _ => ⟨hp, fun j u hj hu => ?_⟩⟩
        have := hat j hj
        rw [Deep.add_add] at this
        rw [this]
        exact hu
      · exact ⟨default, fun h => absurd h hil⟩
    obtain ⟨F, hF⟩ := Classical.axiomOfChoice pick
    have hlen : ((List.range len).map F).length = len := by simp
    refine ⟨(List.range len).map F, fun z hz => ?_, ?_⟩
    · obtain ⟨i, hi', rfl⟩ := List.mem_map.1 hz
      exact (hF i (List.mem_range.1 hi')).1
    · refine ⟨by rw [flat_length C k hC], .inr ⟨a, cap, by rw [hlen], fun h0 => ?_⟩⟩
      rw [hlen] at h0
      obtain ⟨b, off, spot⟩ := a
      obtain ⟨u0, hu0⟩ : ∃ u, (C (F 0))[0]? = some u := ⟨_, List.getElem?_eq_getElem (by rw [hC]; exact hk)⟩
      have c0 := (hF 0 h0).2 0 u0 hk hu0
      have hspot : spot = none := by
        have := World.cell?_spot c0
        simpa [Addr.add] using this
      subst hspot
      have hadd : ∀ j, (⟨b, off, none⟩ : Addr).add j = ⟨b, off + j, none⟩ := fun j => by
        unfold Addr.add
        by_cases hj : j = 0 <;> simp [hj]
      rw [hadd] at c0
      refine ⟨b, off, rfl, block_lt_of_cell c0, block_lt_of_cell c0, fun j u hj => ?_⟩
      have hjl := (List.getElem?_eq_some_iff.1 hj).1
      rw [flat_length C k hC, hlen] at hjl
      have hq : j / k < len := Nat.div_lt_of_lt_mul (by rw [Nat.mul_comm]; exact hjl)
      have hr : j % k < k := Nat.mod_lt _ hk
      have hdm : j = j / k * k + j % k := by rw [Nat.mul_comm]; exact (Nat.div_add_mod j k).symm
      have hfl := flat_at C k hC ((List.range len).map F) (j / k) (F (j / k)) (by rw [List.getElem?_map, List.getElem?_range hq]; rfl) (j % k) hr
      rw [← hdm, hj] at hfl
      have := (hF (j / k) hq).2 (j % k) u hr hfl.symm
      rw [hadd, ← hdm] at this
      exact this

theorem flat_nums : ∀ zs : List Int, (zs.flatMap fun z => [Value.int .i64 z]) = zs.map (Value.int .i64)
  | [] => rfl
  | a :: l => by rw [List.flatMap_cons, List.map_cons, flat_nums l]; rfl
set_option maxRecDepth 100000 in
theorem open_nums {H : Type} {enc : TypeId × Value → H} {W : World} {fuel : Nat} {c : Value} {x : DataW H × List MemPlace} (h : DataW.trod enc Try.prog W 0 (fun _ => true) true fuel 33 [c] = some x) :
    ∃ zs : List Int, Nm (fun b => b < W.heap.size) W c zs := by
  obtain ⟨zs, -, hz⟩ := open_rows Try.underlying33 (fun z : Int => [Value.int .i64 z]) 1 (by decide) (fun _ => rfl) cellsInt (fun _ => True) (fun n cs y hl ht => by
    match cs, hl with
    | [c0], _ =>
      obtain ⟨o, e0, -, -⟩ := DataW.trod_int Try.underlying3 ht
      simp at e0
      exact ⟨o, by rw [e0], trivial⟩) h
  refine ⟨zs, ?_⟩
  rw [flat_nums] at hz
  exact hz
set_option maxRecDepth 100000 in
theorem open_recs {H : Type} {enc : TypeId × Value → H} {W : World} {fuel : Nat} {c : Value} {x : DataW H × List MemPlace} (h : DataW.trod enc Try.prog W 0 (fun _ => true) true fuel 30 [c] = some x) :
    ∃ zs : List Pl.Rc, RcIn (fun b => b < W.heap.size) W c zs := by
  haveI : Inhabited Pl.Rc := ⟨⟨0, [], [], false⟩⟩
  obtain ⟨zs, -, hz⟩ := open_rows Try.underlying30 cells4 4 (by decide) (fun _ => rfl) cellsRec (fun _ => True) (fun n cs y hl ht => by
    obtain ⟨z, hz⟩ := rec_of hl ht
    exact ⟨z, hz, trivial⟩) h
  exact ⟨zs, hz⟩
set_option maxRecDepth 100000 in
theorem batch_of {H : Type} {enc : TypeId × Value → H} {W : World} {n : Nat} {cs : List Value} {y : DataW H × List MemPlace} (hlen : cs.length = 6) (h : DataW.trod enc Try.prog W 0 (fun _ => true) true n 42 cs = some y) :
    ∃ p : Pl.Bt × Value, cs = bc6 p ∧ RcIn (fun b => b < W.heap.size) W p.2 p.1.recs := by
  obtain ⟨ys, n', -, -, -, hyl, hf⟩ := DataW.trod_struct Try.underlying42 h
  match cs, hlen with
  | [x0, x1, x2, x3, x4, x5], _ =>
    have g0 : DataW.trod enc Try.prog W 0 (fun _ => true) true n' 3 [x0] = ys[0]? := hf 0 _ rfl
    have g1 : DataW.trod enc Try.prog W 0 (fun _ => true) true n' 3 [x1] = ys[1]? := hf 1 _ rfl
    have g2 : DataW.trod enc Try.prog W 0 (fun _ => true) true n' 3 [x2] = ys[2]? := hf 2 _ rfl
    have g3 : DataW.trod enc Try.prog W 0 (fun _ => true) true n' 3 [x3] = ys[3]? := hf 3 _ rfl
    have g4 : DataW.trod enc Try.prog W 0 (fun _ => true) true n' 3 [x4] = ys[4]? := hf 4 _ rfl
    have g5 : DataW.trod enc Try.prog W 0 (fun _ => true) true n' 30 [x5] = ys[5]? := hf 5 _ rfl
    have lk : ∀ i (hi : i < 6), ys[i]? = some (ys[i]'(by rw [hyl]; exact hi)) := fun i hi => List.getElem?_eq_getElem _
    obtain ⟨o0, e0, -, -⟩ := DataW.trod_int Try.underlying3 (g0.trans (lk 0 (by decide)))
    obtain ⟨o1, e1, -, -⟩ := DataW.trod_int Try.underlying3 (g1.trans (lk 1 (by decide)))
    obtain ⟨o2, e2, -, -⟩ := DataW.trod_int Try.underlying3 (g2.trans (lk 2 (by decide)))
    obtain ⟨o3, e3, -, -⟩ := DataW.trod_int Try.underlying3 (g3.trans (lk 3 (by decide)))
    obtain ⟨o4, e4, -, -⟩ := DataW.trod_int Try.underlying3 (g4.trans (lk 4 (by decide)))
    obtain ⟨zs, hz⟩ := open_recs (g5.trans (lk 5 (by decide)))
    simp at e0 e1 e2 e3 e4
    exact ⟨(⟨o0, o1, o2, o3, o4, zs⟩, x5), by rw [e0, e1, e2, e3, e4]; rfl, hz⟩
set_option maxRecDepth 100000 in
theorem open_batches {H : Type} {enc : TypeId × Value → H} {W : World} {fuel : Nat} {c : Value} {x : DataW H × List MemPlace} (h : DataW.trod enc Try.prog W 0 (fun _ => true) true fuel 22 [c] = some x) :
    ∃ L : List (Pl.Bt × Value), BtIn (fun b => b < W.heap.size) W c L := by
  haveI : Inhabited (Pl.Bt × Value) := ⟨(⟨0, 0, 0, 0, 0, []⟩, .slice none 0 0)⟩
  obtain ⟨L, hp, hz⟩ := open_rows Try.underlying22 bc6 6 (by decide) bc6_length cellsBatch (fun p => RcIn (fun b => b < W.heap.size) W p.2 p.1.recs) (fun n cs y hl ht => batch_of hl ht) h
  exact ⟨L, hz, hp⟩
set_option maxRecDepth 100000 in
theorem when_of {H : Type} {enc : TypeId × Value → H} {W : World} {n : Nat} {cs : List Value} {y : DataW H × List MemPlace} (hlen : cs.length = 3) (h : DataW.trod enc Try.prog W 0 (fun _ => true) true n 24 cs = some y) :
    ∃ a b c : Int, cs = [.int .i64 a, .int .i64 b, .int .i64 c] := by
  obtain ⟨ys, n', -, -, -, hyl, hf⟩ := DataW.trod_struct Try.underlying24 h
  match cs, hlen with
  | [x0, x1, x2], _ =>
    have g0 : DataW.trod enc Try.prog W 0 (fun _ => true) true n' 3 [x0] = ys[0]? := hf 0 _ rfl
    have g1 : DataW.trod enc Try.prog W 0 (fun _ => true) true n' 3 [x1] = ys[1]? := hf 1 _ rfl
    have g2 : DataW.trod enc Try.prog W 0 (fun _ => true) true n' 3 [x2] = ys[2]? := hf 2 _ rfl
    have lk : ∀ i (hi : i < 3), ys[i]? = some (ys[i]'(by rw [hyl]; exact hi)) := fun i hi => List.getElem?_eq_getElem _
    obtain ⟨o0, e0, -, -⟩ := DataW.trod_int Try.underlying3 (g0.trans (lk 0 (by decide)))
    obtain ⟨o1, e1, -, -⟩ := DataW.trod_int Try.underlying3 (g1.trans (lk 1 (by decide)))
    obtain ⟨o2, e2, -, -⟩ := DataW.trod_int Try.underlying3 (g2.trans (lk 2 (by decide)))
    simp at e0 e1 e2
    exact ⟨o0, o1, o2, by rw [e0, e1, e2]⟩
set_option maxRecDepth 100000 in
theorem open_when {H : Type} {enc : TypeId × Value → H} {W : World} {base : Nat} {v : Value} {d : DataW H} {p : List MemPlace} (hv : Value.okWide Try.prog W .any base 24 v) (h : DataW.Trod enc Try.prog W 0 (fun _ => true) true 24 v d p) :
    ∃ a b c : Int, v = .agg #[.int .i64 a, .int .i64 b, .int .i64 c] := by
  obtain ⟨cs, rfl, hsz⟩ := okWide_struct Try.underlying24 hv
  rw [cellsWhen] at hsz
  obtain ⟨l⟩ := cs
  match l, hsz with
  | [c0, c1, c2], _ =>
    obtain ⟨fuel, hf⟩ := h
    have hf' : DataW.trod enc Try.prog W 0 (fun _ => true) true fuel 24 [c0, c1, c2] = some (d, p) := hf
    obtain ⟨a, b, c, e⟩ := when_of rfl hf'
    exact ⟨a, b, c, by rw [e]⟩
set_option maxRecDepth 100000 in
theorem open_two {H : Type} {enc : TypeId × Value → H} {W : World} {base : Nat} {v : Value} {d : DataW H} {p : List MemPlace} (hv : Value.okWide Try.prog W .any base 34 v) (h : DataW.Trod enc Try.prog W 0 (fun _ => true) true 34 v d p) :
    ∃ a b : Int, v = .agg #[.int .i64 a, .int .i64 b] := by
  simp only [Value.okWide, Try.underlying34] at hv
  obtain ⟨cs, rfl, hsz, -⟩ := hv
  rw [cellsTwo] at hsz
  obtain ⟨l⟩ := cs
  match l, hsz with
  | [c0, c1], _ =>
    obtain ⟨fuel, hf⟩ := h
    have hf' : DataW.trod enc Try.prog W 0 (fun _ => true) true fuel 34 [c0, c1] = some (d, p) := hf
    obtain ⟨zs, m, -, -, -, hzl, hat⟩ := DataW.trod_array Try.underlying34 hf'
    have at' : ∀ i (hi : i < 2), DataW.trod enc Try.prog W 0 (fun _ => true) true m 3 (([c0, c1].drop i).take 1) = some (zs[i]'(by omega)) := fun i hi => by
      have := hat i hi
      rw [cellsInt, Nat.mul_one] at this
      rw [this, List.getElem?_eq_getElem]
    obtain ⟨y0, h0, -, -⟩ := DataW.trod_int Try.underlying3 (at' 0 (by omega))
    obtain ⟨y1, h1, -, -⟩ := DataW.trod_int Try.underlying3 (at' 1 (by omega))
    simp at h0 h1
    exact ⟨y0, y1, by rw [h0, h1]⟩
set_option maxRecDepth 100000 in
theorem open_whens {H : Type} {enc : TypeId × Value → H} {W : World} {base : Nat} {v : Value} {d : DataW H} {p : List MemPlace} (hv : Value.okWide Try.prog W .any base 46 v) (h : DataW.Trod enc Try.prog W 0 (fun _ => true) true 46 v d p) :
    ∃ a b c a' b' c' : Int, v = .agg #[.int .i64 a, .int .i64 b, .int .i64 c, .int .i64 a', .int .i64 b', .int .i64 c'] := by
  simp only [Value.okWide, Try.underlying46] at hv
  obtain ⟨cs, rfl, hsz, -⟩ := hv
  rw [cellsTwoW] at hsz
  obtain ⟨l⟩ := cs
  match l, hsz with
  | [c0, c1, c2, c3, c4, c5], _ =>
    obtain ⟨fuel, hf⟩ := h
    have hf' : DataW.trod enc Try.prog W 0 (fun _ => true) true fuel 46 [c0, c1, c2, c3, c4, c5] = some (d, p) := hf
    obtain ⟨zs, m, -, -, -, hzl, hat⟩ := DataW.trod_array Try.underlying46 hf'
    have at' : ∀ i (hi : i < 2), DataW.trod enc Try.prog W 0 (fun _ => true) true m 24 (([c0, c1, c2, c3, c4, c5].drop (i * 3)).take 3) = some (zs[i]'(by omega)) := fun i hi => by
      have := hat i hi
      rw [cellsWhen] at this
      rw [this, List.getElem?_eq_getElem]
    obtain ⟨a, b, c, h0⟩ := when_of (by rfl) (at' 0 (by omega))
    obtain ⟨a', b', c', h1⟩ := when_of (by rfl) (at' 1 (by omega))
    simp at h0 h1
    obtain ⟨e0, e1, e2⟩ := h0
    obtain ⟨e3, e4, e5⟩ := h1
    exact ⟨a, b, c, a', b', c', by rw [e0, e1, e2, e3, e4, e5]⟩
end Go.Proofs.Ytfapigccdbpepaa
