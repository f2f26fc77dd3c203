/- Arguments opened: three numbers, an event, events in a row. -/
import Derived.Test.YtmkinnheoejphaaDoorLift
import Derived.Test.YtmkinnheoejphaaDoorLwE
import Derived.Deep.Slices
import Derived.Deep.Fields
import Derived.Carry
import Derived.ChangeArms
namespace Go.Proofs.YtmkinnheoejphaaDoor
open Go.ChangeShapes Go.WideShapes Go.ChangeAt Go.RowKit

theorem cellsInt : Tryd.prog.cellsOf 3 = 1 := by kernel_rfl
theorem cellsThree : Tryd.prog.cellsOf 22 = 3 := by kernel_rfl
theorem cellsEvent : Tryd.prog.cellsOf 35 = 4 := by kernel_rfl
set_option maxRecDepth 100000 in
/-- A slice whose elements are such that their cells are given by C. -/
theorem open_rows {H : Type} {enc : TypeId × Value → H} {W : World} {fuel : Nat} {T e : TypeId} {c : Value} {x : DataW H × List MemPlace} (hund : Tryd.prog.underlying T = some (.slice e)) {α : Type} [Inhabited α] (C : α → List Value) (k : Nat) (hk : 0 < k) (hC : ∀ z, (C z).length = k) (hsz : Tryd.prog.cellsOf e = k) (P : α → Prop)
    (hel : ∀ (n : Nat) (cs : List Value) (y : DataW H × List MemPlace), cs.length = k → DataW.trod enc Tryd.prog W 0 (fun _ => true) true n e cs = some y → ∃ z : α, cs = C z ∧ P z) (h : DataW.trod enc Tryd.prog W 0 (fun _ => true) true fuel T [c] = some x) :
    ∃ zs : List α, (∀ z ∈ zs, P z) ∧ Rds (fun b => b < W.heap.size) W c k zs.length (zs.flatMap C) := by
  rcases Deep.open_slice hund h with ⟨hcs, -⟩ | ⟨a, len, cap, m, n, D, PLS, hcs, -, hl, hm, hmm, hx, hi⟩
  · simp at hcs
    subst hcs
    exact ⟨[], fun z hz => (by cases hz), Rds.nil _ _ _⟩
  · simp at hcs
    subst hcs
    rw [hsz] at hi hx
    have pick : ∀ i, ∃ z : α, i < len → P z ∧ ∀ j u, j < k → (C z)[j]? = some u → W.cell? (a.add (i * k + j)) = some u := fun i => by
      by_cases hil : i < len
      · have him : i < m := by simp at hmm; omega
        obtain ⟨cs', hc, ht'⟩ := hi i him
        obtain ⟨-, hcl, hat⟩ := World.cells?_some hc
        obtain ⟨z, rfl, hp⟩ := hel _ _ _ hcl ht'
        refine ⟨z, fun _ => ⟨hp, fun j u hj hu => ?_⟩⟩
        have := hat j hj
        rw [Deep.add_add] at this
        rw [this]
        exact hu
      · exact ⟨default, fun h => absurd h hil⟩
    obtain ⟨F, hF⟩ := Classical.axiomOfChoice pick
    have hlen : ((List.range len).map F).length = len := by simp
    refine ⟨(List.range len).map F, fun z hz => ?_, ?_⟩
    · obtain ⟨i, hi', rfl⟩ := List.mem_map.1 hz
      exact (hF i (List.mem_range.1 hi')).1
    · refine ⟨by rw [flat_length C k hC], .inr ⟨a, cap, by rw [hlen], by rw [hlen]; exact hl, fun h0 => ?_⟩⟩
      rw [hlen] at h0
      obtain ⟨b, off, spot⟩ := a
      obtain ⟨u0, hu0⟩ : ∃ u, (C (F 0))[0]? = some u := ⟨_, List.getElem?_eq_getElem (by rw [hC]; exact hk)⟩
      have c0 := (hF 0 h0).2 0 u0 hk hu0
      have hspot : spot = none := by
        have := World.cell?_spot c0
        simpa [Addr.add] using this
      subst hspot
      have hadd : ∀ j, (⟨b, off, none⟩ : Addr).add j = ⟨b, off + j, none⟩ := fun j => by
        unfold Addr.add
        by_cases hj : j = 0 <;> simp [hj]
      rw [hadd] at c0
      refine ⟨b, off, rfl, block_lt_of_cell c0, block_lt_of_cell c0, fun j u hj => ?_⟩
      have hjl := (List.getElem?_eq_some_iff.1 hj).1
      rw [flat_length C k hC, hlen] at hjl
      have hq : j / k < len := Nat.div_lt_of_lt_mul (by rw [Nat.mul_comm]; exact hjl)
      have hr : j % k < k := Nat.mod_lt _ hk
      have hdm : j = j / k * k + j % k := by rw [Nat.mul_comm]; exact (Nat.div_add_mod j k).symm
      have hfl := flat_at C k hC ((List.range len).map F) (j / k) (F (j / k)) (by rw [List.getElem?_map, List.getElem?_range hq]; rfl) (j % k) hr
      rw [← hdm, hj] at hfl
      have := (hF (j / k) hq).2 (j % k) u hr hfl.symm
      rw [hadd, ← hdm] at this
      exact this
set_option maxRecDepth 100000 in
theorem open_three {H : Type} {enc : TypeId × Value → H} {W : World} {base : Nat} {v : Value} {d : DataW H} {p : List MemPlace} (hv : Value.okWide Tryd.prog W .any base 22 v) (h : DataW.Trod enc Tryd.prog W 0 (fun _ => true) true 22 v d p) :
    ∃ a b c : Int, v = .agg #[.int .i64 a, .int .i64 b, .int .i64 c] := by
  simp only [Value.okWide, Tryd.underlying22] at hv
  obtain ⟨cs, rfl, hsz, -⟩ := hv
  rw [cellsThree] at hsz
  obtain ⟨l⟩ := cs
  match l, hsz with
  | [c0, c1, c2], _ =>
    obtain ⟨fuel, hf⟩ := h
    have hf' : DataW.trod enc Tryd.prog W 0 (fun _ => true) true fuel 22 [c0, c1, c2] = some (d, p) := hf
    obtain ⟨zs, m, -, -, -, hzl, hat⟩ := DataW.trod_array Tryd.underlying22 hf'
    have at' : ∀ i (hi : i < 3), DataW.trod enc Tryd.prog W 0 (fun _ => true) true m 3 (([c0, c1, c2].drop i).take 1) = some (zs[i]'(by omega)) := fun i hi => by
      have := hat i hi
      rw [cellsInt, Nat.mul_one] at this
      rw [this, List.getElem?_eq_getElem]
    obtain ⟨y0, h0, -, -⟩ := DataW.trod_int Tryd.underlying3 (at' 0 (by omega))
    obtain ⟨y1, h1, -, -⟩ := DataW.trod_int Tryd.underlying3 (at' 1 (by omega))
    obtain ⟨y2, h2, -, -⟩ := DataW.trod_int Tryd.underlying3 (at' 2 (by omega))
    simp at h0 h1 h2
    exact ⟨y0, y1, y2, by rw [h0, h1, h2]⟩
set_option maxRecDepth 100000 in
/-- An event's cells. -/
theorem ev_of {H : Type} {enc : TypeId × Value → H} {W : World} {n : Nat} {cs : List Value} {y : DataW H × List MemPlace} (hlen : cs.length = 4) (h : DataW.trod enc Tryd.prog W 0 (fun _ => true) true n 35 cs = some y) :
    ∃ x : Pn.Ev, cs = evc x ∧ True := by
  obtain ⟨ys, n', -, -, -, hyl, hf⟩ := DataW.trod_struct Tryd.underlying35 h
  match cs, hlen with
  | [x0, x1, x2, x3], _ =>
    have g0 : DataW.trod enc Tryd.prog W 0 (fun _ => true) true n' 3 [x0] = ys[0]? := hf 0 _ rfl
    have g1 : DataW.trod enc Tryd.prog W 0 (fun _ => true) true n' 3 [x1] = ys[1]? := hf 1 _ rfl
    have g2 : DataW.trod enc Tryd.prog W 0 (fun _ => true) true n' 3 [x2] = ys[2]? := hf 2 _ rfl
    have g3 : DataW.trod enc Tryd.prog W 0 (fun _ => true) true n' 3 [x3] = ys[3]? := hf 3 _ rfl
    have lk : ∀ i (hi : i < 4), ys[i]? = some (ys[i]'(by rw [hyl]; exact hi)) := fun i hi => List.getElem?_eq_getElem _
    obtain ⟨o0, e0, -, -⟩ := DataW.trod_int Tryd.underlying3 (g0.trans (lk 0 (by decide)))
    obtain ⟨o1, e1, -, -⟩ := DataW.trod_int Tryd.underlying3 (g1.trans (lk 1 (by decide)))
    obtain ⟨o2, e2, -, -⟩ := DataW.trod_int Tryd.underlying3 (g2.trans (lk 2 (by decide)))
    obtain ⟨o3, e3, -, -⟩ := DataW.trod_int Tryd.underlying3 (g3.trans (lk 3 (by decide)))
    simp at e0 e1 e2 e3
    exact ⟨⟨o0, o1, o2, o3⟩, by rw [e0, e1, e2, e3]; rfl, trivial⟩
set_option maxRecDepth 100000 in
theorem open_events {H : Type} {enc : TypeId × Value → H} {W : World} {fuel : Nat} {c : Value} {x : DataW H × List MemPlace} (h : DataW.trod enc Tryd.prog W 0 (fun _ => true) true fuel 23 [c] = some x) :
    ∃ l : List Pn.Ev, Evs (fun b => b < W.heap.size) W c l := by
  haveI : Inhabited Pn.Ev := ⟨⟨0, 0, 0, 0⟩⟩
  obtain ⟨L, -, hz⟩ := open_rows Tryd.underlying23 evc 4 (by decide) (fun _ => rfl) cellsEvent (fun _ => True) (fun n cs y hl ht => ev_of hl ht) h
  exact ⟨L, hz⟩
set_option maxRecDepth 100000 in
theorem open_event {H : Type} {enc : TypeId × Value → H} {W : World} {base : Nat} {v : Value} {d : DataW H} {p : List MemPlace} (hv : Value.okWide Tryd.prog W .any base 35 v) (h : DataW.Trod enc Tryd.prog W 0 (fun _ => true) true 35 v d p) :
    ∃ x : Pn.Ev, v = evV x := by
  simp only [Value.okWide, Tryd.underlying35] at hv
  obtain ⟨cs, rfl, hsz, -⟩ := hv
  rw [cellsEvent] at hsz
  obtain ⟨fuel, hf⟩ := h
  have hf' : DataW.trod enc Tryd.prog W 0 (fun _ => true) true fuel 35 cs.toList = some (d, p) := hf
  obtain ⟨x, e, -⟩ := ev_of (by rw [Array.length_toList]; exact hsz) hf'
  refine ⟨x, ?_⟩
  obtain ⟨l⟩ := cs
  simp only at e
  subst e
  rfl
end Go.Proofs.YtmkinnheoejphaaDoor
