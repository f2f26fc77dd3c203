import Derived.Test.YtdaoeplblkfapaaGreatDoorM23
import Derived.Test.YtdaoeplblkfapaaGreatDoorM25
import Derived.Deep.Slices
import Derived.Deep.Fields
import Derived.Carry
import Derived.ChangeArms

/- An argument opened: a slice of acts. -/
namespace Go.Proofs.YtdaoeplblkfapaaGreatDoor
open Go.ChangeShapes Go.WideShapes Go.ChangeAt Go.RowKit

theorem cellsRec : Tryz.prog.cellsOf 75 = 4 := by kernel_rfl
theorem cellsBatch : Tryz.prog.cellsOf 34 = 6 := by kernel_rfl
theorem cellsAct : Tryz.prog.cellsOf 37 = 12 := by kernel_rfl

set_option maxRecDepth 100000 in
theorem rec_of {H : Type} {enc : TypeId × Value → H} {W : World} {n : Nat} {cs : List Value} {y : DataW H × List MemPlace} (hlen : cs.length = 4) (h : DataW.trod enc Tryz.prog W 0 (fun _ => true) true n 75 cs = some y) :
    ∃ x : Pl.Rc, cs = cells4 x := by
  obtain ⟨ys, n', -, -, -, hyl, hf⟩ := DataW.trod_struct Tryz.underlying75 h
  match cs, hlen with
  | [x0, x1, x2, x3], _ =>
    have g0 : DataW.trod enc Tryz.prog W 0 (fun _ => true) true n' 3 [x0] = ys[0]? := hf 0 _ rfl
    have g1 : DataW.trod enc Tryz.prog W 0 (fun _ => true) true n' 9 [x1] = ys[1]? := hf 1 _ rfl
    have g2 : DataW.trod enc Tryz.prog W 0 (fun _ => true) true n' 9 [x2] = ys[2]? := hf 2 _ rfl
    have g3 : DataW.trod enc Tryz.prog W 0 (fun _ => true) true n' 4 [x3] = ys[3]? := hf 3 _ rfl
    have l0 : ys[0]? = some (ys[0]'(by rw [hyl]; decide)) := List.getElem?_eq_getElem _
    have l1 : ys[1]? = some (ys[1]'(by rw [hyl]; decide)) := List.getElem?_eq_getElem _
    have l2 : ys[2]? = some (ys[2]'(by rw [hyl]; decide)) := List.getElem?_eq_getElem _
    have l3 : ys[3]? = some (ys[3]'(by rw [hyl]; decide)) := List.getElem?_eq_getElem _
    obtain ⟨o, e0, -, -⟩ := DataW.trod_int Tryz.underlying3 (g0.trans l0)
    obtain ⟨K, e1, -, -⟩ := DataW.trod_string Tryz.underlying9 (g1.trans l1)
    obtain ⟨V, e2, -, -⟩ := DataW.trod_string Tryz.underlying9 (g2.trans l2)
    obtain ⟨g, e3, -⟩ := DataW.trod_bool Tryz.underlying4 (g3.trans l3)
    simp at e0 e1 e2 e3
    have hkk : (⟨K.data.toList.toArray⟩ : ByteArray) = K := by simp
    have hvv : (⟨V.data.toList.toArray⟩ : ByteArray) = V := by simp
    refine ⟨⟨o, K.data.toList, V.data.toList, g⟩, ?_⟩
    unfold cells4
    rw [e0, e1, e2, e3, hkk, hvv]
/-- A slice whose elements are such that their cells are given by C. -/
theorem open_rows {H : Type} {enc : TypeId × Value → H} {W : World} {fuel : Nat} {T e : TypeId} {c : Value} {x : DataW H × List MemPlace} (hund : Tryz.prog.underlying T = some (.slice e)) {α : Type} [Inhabited α] (C : α → List Value) (k : Nat) (hk : 0 < k) (hC : ∀ z, (C z).length = k) (hsz : Tryz.prog.cellsOf e = k) (P : α → Prop)
    (hel : ∀ (n : Nat) (cs : List Value) (y : DataW H × List MemPlace), cs.length = k → DataW.trod enc Tryz.prog W 0 (fun _ => true) true n e cs = some y → ∃ z : α, cs = C z ∧ P z) (h : DataW.trod enc Tryz.prog W 0 (fun _ => true) true fuel T [c] = some x) :
    ∃ zs : List α, (∀ z ∈ zs, P z) ∧ Rds (fun b => b < W.heap.size) W c k zs.length (zs.flatMap C) := by
  rcases Deep.open_slice hund h with ⟨hcs, -⟩ | ⟨a, len, cap, m, n, D, PLS, hcs, -, hl, hm, hmm, hx, hi⟩
  · simp at hcs
    subst hcs
    exact ⟨[], fun z hz => (by cases hz), Rds.nil _ _ _⟩
  · simp at hcs
    subst hcs
    rw [hsz] at hi hx
    have pick : ∀ i, ∃ z : α, i < len → P z ∧ ∀ j u, j < k → (C z)[j]? = some u → W.cell? (a.add (i * k + j)) = some u := fun i => by
      by_cases hil : i < len
      · have him : i < m := by simp at hmm; omega
        obtain ⟨cs', hc, ht'⟩ := hi i him
        obtain ⟨-, hcl, hat⟩ := World.cells?_some hc
        obtain ⟨z, rfl, hp⟩ := hel _ _ _ hcl ht'
        refine ⟨z, fun _ => ⟨hp, fun j u hj hu => ?_⟩⟩
        have := hat j hj
        rw [Deep.add_add] at this
        rw [this]
        exact hu
      · exact ⟨default, fun h => absurd h hil⟩
    obtain ⟨F, hF⟩ := Classical.axiomOfChoice pick
    have hlen : ((List.range len).map F).length = len := by simp
    refine ⟨(List.range len).map F, fun z hz => ?_, ?_⟩
    · obtain ⟨i, hi', rfl⟩ := List.mem_map.1 hz
      exact (hF i (List.mem_range.1 hi')).1
    · refine ⟨by rw [flat_length C k hC], .inr ⟨a, cap, by rw [hlen], fun h0 => ?_⟩⟩
      rw [hlen] at h0
      obtain ⟨b, off, spot⟩ := a
      obtain ⟨u0, hu0⟩ : ∃ u, (C (F 0))[0]? = some u := ⟨_, List.getElem?_eq_getElem (by rw [hC]; exact hk)⟩
      have c0 := (hF 0 h0).2 0 u0 hk hu0
      have hspot : spot = none := by
        have := World.cell?_spot c0
        simpa [Addr.add] using this
      subst hspot
      have hadd : ∀ j, (⟨b, off, none⟩ : Addr).add j = ⟨b, off + j, none⟩ := fun j => by
        unfold Addr.add
        by_cases hj : j = 0 <;> simp [hj]
      rw [hadd] at c0
      refine ⟨b, off, rfl, block_lt_of_cell c0, block_lt_of_cell c0, fun j u hj => ?_⟩
      have hjl := (List.getElem?_eq_some_iff.1 hj).1
      rw [flat_length C k hC, hlen] at hjl
      have hq : j / k < len := Nat.div_lt_of_lt_mul (by rw [Nat.mul_comm]; exact hjl)
      have hr : j % k < k := Nat.mod_lt _ hk
      have hdm : j = j / k * k + j % k := by rw [Nat.mul_comm]; exact (Nat.div_add_mod j k).symm
      have hfl := flat_at C k hC ((List.range len).map F) (j / k) (F (j / k)) (by rw [List.getElem?_map, List.getElem?_range hq]; rfl) (j % k) hr
      rw [← hdm, hj] at hfl
      have := (hF (j / k) hq).2 (j % k) u hr hfl.symm
      rw [hadd, ← hdm] at this
      exact this
instance : Inhabited Pl.Rc := ⟨⟨0, [], [], false⟩⟩
instance : Inhabited Ac := ⟨⟨0, ⟨0, 0, 0, 0, 0, []⟩, .slice none 0 0, false, 0, [], .slice none 0 0, [], .slice none 0 0, ⟨#[]⟩⟩⟩
theorem nums_of {W : World} {v : Value} {zs : List Int} (h : Rds (fun b => b < W.heap.size) W v 1 zs.length (zs.flatMap fun z => [Value.int .i64 z])) : Ta.Nums W v zs ∧ (0 < zs.length → ∀ a n c, v = .slice (some a) n c → a.block < W.heap.size) := by
  rcases h.2 with ⟨rfl, h0⟩ | ⟨ad, cap, rfl, hc⟩
  · exact ⟨⟨none, 0, by rw [h0], fun j z hj => by have := (List.getElem?_eq_some_iff.1 hj).1; omega⟩, fun _ a n c e => by cases e⟩
  · refine ⟨⟨some ad, cap, rfl, fun j z hj => ?_⟩, fun h0 a n c e => ?_⟩
    · obtain ⟨b, p, rfl, -, -, h3⟩ := hc (Nat.lt_of_le_of_lt (Nat.zero_le _) (List.getElem?_eq_some_iff.1 hj).1)
      refine ⟨b, p, rfl, h3 j _ ?_⟩
      have := flat_at (fun z => [Value.int .i64 z]) 1 (fun _ => rfl) zs j z hj 0 (by decide)
      rw [Nat.mul_one, Nat.add_zero] at this
      rw [this]
      rfl
    · obtain ⟨b, p, rfl, h1, -⟩ := hc h0
      cases e
      exact h1
set_option maxRecDepth 100000 in
theorem act_of {H : Type} {enc : TypeId × Value → H} {W : World} {n : Nat} {cs : List Value} {y : DataW H × List MemPlace} (hlen : cs.length = 12) (h : DataW.trod enc Tryz.prog W 0 (fun _ => true) true n 37 cs = some y) :
    ∃ x : Ac, cs = acells x ∧ AcIn W.heap.size W x := by
  obtain ⟨ys, n', -, -, -, hyl, hf⟩ := DataW.trod_struct Tryz.underlying37 h
  match cs, hlen with
  | [x0, x1, x2, x3, x4, x5, x6, x7, x8, x9, x10, x11], _ =>
    have g0 : DataW.trod enc Tryz.prog W 0 (fun _ => true) true n' 3 [x0] = ys[0]? := hf 0 _ rfl
    have g1 : DataW.trod enc Tryz.prog W 0 (fun _ => true) true n' 34 [x1, x2, x3, x4, x5, x6] = ys[1]? := hf 1 _ rfl
    have g2 : DataW.trod enc Tryz.prog W 0 (fun _ => true) true n' 4 [x7] = ys[2]? := hf 2 _ rfl
    have g3 : DataW.trod enc Tryz.prog W 0 (fun _ => true) true n' 3 [x8] = ys[3]? := hf 3 _ rfl
    have g4 : DataW.trod enc Tryz.prog W 0 (fun _ => true) true n' 35 [x9] = ys[4]? := hf 4 _ rfl
    have g5 : DataW.trod enc Tryz.prog W 0 (fun _ => true) true n' 35 [x10] = ys[5]? := hf 5 _ rfl
    have g6 : DataW.trod enc Tryz.prog W 0 (fun _ => true) true n' 9 [x11] = ys[6]? := hf 6 _ rfl
    have l0 : ys[0]? = some (ys[0]'(by rw [hyl]; decide)) := List.getElem?_eq_getElem _
    have l1 : ys[1]? = some (ys[1]'(by rw [hyl]; decide)) := List.getElem?_eq_getElem _
    have l2 : ys[2]? = some (ys[2]'(by rw [hyl]; decide)) := List.getElem?_eq_getElem _
    have l3 : ys[3]? = some (ys[3]'(by rw [hyl]; decide)) := List.getElem?_eq_getElem _
    have l4 : ys[4]? = some (ys[4]'(by rw [hyl]; decide)) := List.getElem?_eq_getElem _
    have l5 : ys[5]? = some (ys[5]'(by rw [hyl]; decide)) := List.getElem?_eq_getElem _
    have l6 : ys[6]? = some (ys[6]'(by rw [hyl]; decide)) := List.getElem?_eq_getElem _
    obtain ⟨zs, m', -, -, -, hzl, hb⟩ := DataW.trod_struct Tryz.underlying34 (g1.trans l1)
    have b0 : DataW.trod enc Tryz.prog W 0 (fun _ => true) true m' 3 [x1] = zs[0]? := hb 0 _ rfl
    have b1 : DataW.trod enc Tryz.prog W 0 (fun _ => true) true m' 3 [x2] = zs[1]? := hb 1 _ rfl
    have b2 : DataW.trod enc Tryz.prog W 0 (fun _ => true) true m' 3 [x3] = zs[2]? := hb 2 _ rfl
    have b3 : DataW.trod enc Tryz.prog W 0 (fun _ => true) true m' 3 [x4] = zs[3]? := hb 3 _ rfl
    have b4 : DataW.trod enc Tryz.prog W 0 (fun _ => true) true m' 3 [x5] = zs[4]? := hb 4 _ rfl
    have b5 : DataW.trod enc Tryz.prog W 0 (fun _ => true) true m' 32 [x6] = zs[5]? := hb 5 _ rfl
    have k0 : zs[0]? = some (zs[0]'(by rw [hzl]; decide)) := List.getElem?_eq_getElem _
    have k1 : zs[1]? = some (zs[1]'(by rw [hzl]; decide)) := List.getElem?_eq_getElem _
    have k2 : zs[2]? = some (zs[2]'(by rw [hzl]; decide)) := List.getElem?_eq_getElem _
    have k3 : zs[3]? = some (zs[3]'(by rw [hzl]; decide)) := List.getElem?_eq_getElem _
    have k4 : zs[4]? = some (zs[4]'(by rw [hzl]; decide)) := List.getElem?_eq_getElem _
    have k5 : zs[5]? = some (zs[5]'(by rw [hzl]; decide)) := List.getElem?_eq_getElem _
    obtain ⟨kind, e0, -, -⟩ := DataW.trod_int Tryz.underlying3 (g0.trans l0)
    obtain ⟨base, e1, -, -⟩ := DataW.trod_int Tryz.underlying3 (b0.trans k0)
    obtain ⟨count, e2, -, -⟩ := DataW.trod_int Tryz.underlying3 (b1.trans k1)
    obtain ⟨prod, e3, -, -⟩ := DataW.trod_int Tryz.underlying3 (b2.trans k2)
    obtain ⟨seq, e4, -, -⟩ := DataW.trod_int Tryz.underlying3 (b3.trans k3)
    obtain ⟨time, e5, -, -⟩ := DataW.trod_int Tryz.underlying3 (b4.trans k4)
    obtain ⟨nx, e7, -⟩ := DataW.trod_bool Tryz.underlying4 (g2.trans l2)
    obtain ⟨nn, e8, -, -⟩ := DataW.trod_int Tryz.underlying3 (g3.trans l3)
    obtain ⟨name, e11, -, -⟩ := DataW.trod_string Tryz.underlying9 (g6.trans l6)
    have hint : ∀ (n : Nat) (cs : List Value) (y : DataW H × List MemPlace), cs.length = 1 → DataW.trod enc Tryz.prog W 0 (fun _ => true) true n 3 cs = some y → ∃ z : Int, cs = [Value.int .i64 z] ∧ True := fun n cs y hl ht => by
      match cs, hl with
      | [u], _ =>
        obtain ⟨z, e, -, -⟩ := DataW.trod_int Tryz.underlying3 ht
        exact ⟨z, e, trivial⟩
    obtain ⟨recs, -, hr⟩ := open_rows Tryz.underlying32 cells4 4 (by decide) (fun _ => rfl) cellsRec (fun _ => True) (fun n cs y hl ht => let ⟨z, e⟩ := rec_of hl ht; ⟨z, e, trivial⟩) (b5.trans k5)
    obtain ⟨less, -, hl⟩ := open_rows Tryz.underlying35 (fun z : Int => [Value.int .i64 z]) 1 (by decide) (fun _ => rfl) cellsInt (fun _ => True) hint (g4.trans l4)
    obtain ⟨fates, -, hfa⟩ := open_rows Tryz.underlying35 (fun z : Int => [Value.int .i64 z]) 1 (by decide) (fun _ => rfl) cellsInt (fun _ => True) hint (g5.trans l5)
    simp at e0 e1 e2 e3 e4 e5 e7 e8 e11
    refine ⟨⟨kind, ⟨base, count, prod, seq, time, recs⟩, x6, nx, nn, less, x9, fates, x10, name⟩, ?_, hr, (nums_of hl).1, (nums_of hfa).1, (nums_of hfa).2⟩
    unfold acells
    rw [e0, e1, e2, e3, e4, e5, e7, e8, e11]
theorem open_acts {H : Type} {enc : TypeId × Value → H} {W : World} {fuel : Nat} {v : Value} {x : DataW H × List MemPlace} (h : DataW.trod enc Tryz.prog W 0 (fun _ => true) true fuel 38 [v] = some x) :
    ∃ zs : List Ac, Acts W.heap.size W v zs := by
  obtain ⟨zs, hp, hr⟩ := open_rows Tryz.underlying38 acells 12 (by decide) (fun _ => rfl) cellsAct (AcIn W.heap.size W) (fun n cs y hl ht => act_of hl ht) h
  obtain ⟨a, cap, rfl⟩ := hr.form
  refine ⟨zs, ⟨a, cap, rfl, fun j x hj => ?_⟩⟩
  have hjl := (List.getElem?_eq_some_iff.1 hj).1
  obtain ⟨b, o, cap', e, h1, h2, h3⟩ := hr.at (by omega)
  injection e with e1 _ _
  refine ⟨b, o, e1, h1, fun i u hi hu => ?_, hp x (List.mem_of_getElem? hj)⟩
  have := h3 (j * 12 + i) u (by rw [flat_at acells 12 (fun _ => rfl) zs j x hj i hi]; exact hu)
  rw [← Nat.add_assoc] at this
  exact this
end Go.Proofs.YtdaoeplblkfapaaGreatDoor
