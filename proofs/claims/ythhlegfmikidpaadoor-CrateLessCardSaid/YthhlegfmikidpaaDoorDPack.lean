/- THE CONTRACTS OF slices.Clone and crate.Pack. -/
import Derived.Test.YthhlegfmikidpaaDoorDGood
import Derived.OwnWalk
import Derived.Laws.AppendOwnNone
import Derived.Lib.SliceRun
namespace Go.Proofs.YthhlegfmikidpaaDoor
open Go.RowKit

theorem flat4_at : ∀ (ls : List Pl.Rc) (j : Nat) (u : Value), (ls.flatMap cells4)[j]? = some u → ∃ i x r, ls[i]? = some x ∧ r < 4 ∧ j = i * 4 + r ∧ (cells4 x)[r]? = some u
  | [], j, u, h => by simp at h
  | y :: ls, j, u, h => by
    rw [List.flatMap_cons] at h
    by_cases hj : j < 4
    · rw [List.getElem?_append_left (by simp [cells4]; omega)] at h
      exact ⟨0, y, j, rfl, hj, by omega, h⟩
    · rw [List.getElem?_append_right (by simp [cells4]; omega)] at h
      obtain ⟨i, x, r, h1, h2, h3, h4⟩ := flat4_at ls (j - (cells4 y).length) u h
      refine ⟨i + 1, x, r, h1, h2, ?_, h4⟩
      have : (cells4 y).length = 4 := rfl
      omega
theorem flat4_len (ls : List Pl.Rc) : (ls.flatMap cells4).length = ls.length * 4 := by
  induction ls with
  | nil => rfl
  | cons y ls ih => rw [List.flatMap_cons, List.length_append, ih]; simp [cells4]; omega
theorem flat4_one (ls : List Pl.Rc) : ∀ u ∈ ls.flatMap cells4, u.oneCell' = true := by
  intro u hu
  obtain ⟨x, -, hx⟩ := List.mem_flatMap.1 hu
  simp only [cells4, List.mem_cons, List.not_mem_nil, or_false] at hx
  rcases hx with rfl | rfl | rfl | rfl <;> rfl
theorem add_plain (b off j : Nat) : (⟨b, off, none⟩ : Addr).add j = ⟨b, off + j, none⟩ := by
  unfold Addr.add
  by_cases hj : j = 0 <;> simp [hj]
/-- The cells of a slice of records, one by one. -/
theorem Recs.at {b off m cap : Nat} {ls : List Pl.Rc} {w : World} (h : Recs (.slice (some ⟨b, off, none⟩) m cap) ls w) : ∀ j u, (ls.flatMap cells4)[j]? = some u → w.cell? ⟨b, off + j, none⟩ = some u := by
  obtain ⟨a, cap', he, hc⟩ := h
  intro j u hj
  obtain ⟨i, x, r, h1, h2, h3, h4⟩ := flat4_at ls j u hj
  obtain ⟨b', off', e, -, c0, c1, c2, c3⟩ := hc i x h1
  injection he with e1
  rw [e] at e1
  injection e1 with e1
  injection e1 with e1 e2
  subst e1 e2 h3
  match r, h2, h4 with
  | 0, _, h4 => obtain rfl := Option.some.inj h4; exact c0
  | 1, _, h4 => obtain rfl := Option.some.inj h4; exact c1
  | 2, _, h4 => obtain rfl := Option.some.inj h4; exact c2
  | 3, _, h4 => obtain rfl := Option.some.inj h4; exact c3
theorem own_slice {w : World} {base n : Nat} {e : TypeId} {v : Value} {xs : List Value} (h : w.ownsRow base e 4 v n xs) (hn : n ≠ 0) : ∃ g cap cur, v = .slice (some ⟨g, 0, none⟩) n cap ∧ base ≤ g ∧ Blk w g cur e ∧ n ≤ cap ∧ cur.size = cap * 4 := by
  rcases h.2 with ⟨-, h0⟩ | ⟨g, cap, cur, rfl, h1, h2, h3, h4, h5, -⟩
  · exact absurd h0 hn
  · exact ⟨g, cap, cur, rfl, h1, h2, h3, h5⟩

set_option maxHeartbeats 1000000 in
set_option maxRecDepth 100000 in
theorem dclone (v : Value) (ls : List Pl.Rc) (w : World) (h : Recs v ls w) (h1 : 1 ≤ ls.length) (h8 : ls.length ≤ 8) :
    Calls Tryd.prog 52 #[v] w fun e w' => ∃ v', e = .returned v' ∧ w'.ownsRow w.heap.size 41 4 v' ls.length (ls.flatMap cells4) ∧ Below w.heap.size w w' := by
  have h' := h
  obtain ⟨a, cap, rfl, hc⟩ := h'
  obtain ⟨b, off, rfl, hbl⟩ : ∃ b off, a = some ⟨b, off, none⟩ ∧ b < w.heap.size := by
    obtain ⟨b, off, e, hb, -⟩ := hc 0 _ (List.getElem?_eq_getElem h1)
    exact ⟨b, off, e, hb⟩
  clear hc
  have hat := h.at
  have hw0 : Below w.heap.size w (w.alloc (.cells #[] 41)) := (Below.refl _ _).alloc (Nat.le_refl _) _
  have HAT := Lib.hid fun j u hj => (hw0.cell (p := ⟨b, off + j, none⟩) hbl).trans (hat j u hj)
  have HB0 := Lib.hid (Blk.new w #[] 41)
  have HW0 := Lib.hid hw0
  have hs0 : (w.alloc (.cells #[] 41)).heap.size = w.heap.size + 1 := by simp
  have HS0 := Lib.hid hs0
  obtain ⟨m, hm⟩ : ∃ m, ls.length = m := ⟨_, rfl⟩
  rw [hm] at h1 h8 ⊢
  have HM := Lib.hid hm
  clear hat hw0 h hm hbl hs0
  have hnil := fun wx => Lib.run_eql_slice_nil (P := Tryd.prog) wx 22 41 (some ⟨b, off, none⟩) m cap 0 0 Tryd.underlying22
  obtain ⟨i0, hi, hz0, hz1, hz2⟩ := infoRec
  go_enter Tryd.func52, Tryd.ntmps52
  go_wp2_with (at_builtin; refine wpList_append_own _ rfl _ _ 22 rfl w.heap.size 41 i0 (.agg zeroR) 4 48 Tryd.underlying22 hi hz0 hz1 hz2 rfl (by decide) _ 0 [] rfl ⟨rfl, Or.inr ⟨w.heap.size, 0, #[], rfl, Nat.le_refl _, HB0.out, Nat.le_refl _, Nat.zero_le _, rfl, rfl⟩⟩ ⟨b, off, none⟩ m cap (ls.flatMap cells4) rfl (by rw [flat4_len, HM.out]) ?c1 (flat4_one ls) ?c3 ?c4 ?c5 ?_)
  case c1 =>
    intro j u hj
    rw [add_plain]
    exact HAT.out j u hj
  case c3 => unfold maxLen; omega
  case c4 => omega
  case c5 => rw [HS0.out]; omega
  intro v' w9 hown9 hgrow9 _
  have HB9 : Hid (Below w.heap.size w w9) := HW0.out.trans ⟨hgrow9.os, hgrow9.tape, hgrow9.output, hgrow9.size, fun k hk => hgrow9.block k (by rw [HS0.out]; omega) (fun e => by
    have : k = w.heap.size := Option.some.inj e
    omega)⟩
  have HO9 := Lib.hid hown9
  clear hown9 hgrow9
  go_wp2_with fail
  go_ret
  exact ⟨v', rfl, HO9.out, HB9.out⟩

theorem flat4_set : ∀ (ls : List Pl.Rc) (k : Nat) (x : Pl.Rc) (o : Int), ls[k]? = some x → (ls.flatMap cells4).set (k * 4) (.int .i64 o) = (ls.set k { x with off := o }).flatMap cells4
  | [], k, x, o, h => by simp at h
  | y :: ls, 0, x, o, h => by
    obtain rfl := Option.some.inj h
    rfl
  | y :: ls, k + 1, x, o, h => by
    have ih := flat4_set ls k x o h
    rw [List.set_cons_succ, List.flatMap_cons, List.flatMap_cons, ← ih, List.set_append_right _ _ (by simp [cells4]; omega)]
    congr 2
    simp [cells4]
    omega
theorem own_set {w : World} {base n k g cap : Nat} {e : TypeId} {acc : List Pl.Rc} {x : Pl.Rc} (h : w.ownsRow base e 4 (.slice (some ⟨g, 0, none⟩) n cap) n (acc.flatMap cells4)) (hx : acc[k]? = some x) (o : Int) :
    (w.setCell ⟨g, k * 4, none⟩ (.int .i64 o)).ownsRow base e 4 (.slice (some ⟨g, 0, none⟩) n cap) n ((acc.set k { x with off := o }).flatMap cells4) := by
  obtain ⟨hl, h⟩ := h
  refine ⟨by rw [flat4_len, List.length_set, ← flat4_len]; exact hl, ?_⟩
  rcases h with ⟨h0, -⟩ | ⟨g', cap', cur, he, h1, h2, h3, h4, h5, h6⟩
  · cases h0
  · injection he with e1 e2 e3
    injection e1 with e1
    injection e1 with e1
    subst e1 e3
    refine Or.inr ⟨g, cap, cur.setIfInBounds (k * 4) (.int .i64 o), rfl, h1, Blk.set h2 _, h3, h4, by simpa using h5, ?_⟩
    rw [Array.toList_setIfInBounds, List.take_set, h6]
    exact flat4_set acc k x o hx
theorem own_at {w : World} {base n k g cap : Nat} {e : TypeId} {acc : List Pl.Rc} {x : Pl.Rc} (h : w.ownsRow base e 4 (.slice (some ⟨g, 0, none⟩) n cap) n (acc.flatMap cells4)) (hx : acc[k]? = some x) :
    w.cell? ⟨g, k * 4, none⟩ = some (.int .i64 x.off) ∧ w.frozen? ⟨g, k * 4, none⟩ = false := by
  obtain ⟨hl, h⟩ := h
  rcases h with ⟨h0, -⟩ | ⟨g', cap', cur, he, h1, h2, h3, h4, h5, h6⟩
  · cases h0
  · injection he with e1 e2 e3
    injection e1 with e1
    injection e1 with e1
    subst e1 e3
    have hb : Blk w g cur e := h2
    refine ⟨hb.cell ?_, hb.free⟩
    have hk : k < acc.length := (List.getElem?_eq_some_iff.1 hx).1
    have hj := flat4 acc k x hx 0 (by decide)
    rw [Nat.add_zero] at hj
    rw [flat4_len] at hl
    rw [← h6, List.getElem?_take_of_lt (by omega)] at hj
    rw [← Array.getElem?_toList]
    exact hj

/-- What Pack answers, in the program's own values. -/
def PackOut (r : Option Pl.Bt) (e : Ending) (w' : World) : Prop :=
  match r with
  | none => e = .returned (.tuple #[.agg #[.int .i64 0, .int .i64 0, .int .i64 0, .int .i64 0, .int .i64 0, .slice none 0 0], .int .i64 1])
  | some b => ∃ v, Recs v b.recs w' ∧ e = .returned (.tuple #[.agg #[.int .i64 b.base, .int .i64 b.count, .int .i64 b.prod, .int .i64 b.seq, .int .i64 b.time, v], .int .i64 0])

theorem undP' : (Tryd.prog.underlying 24).map (fun d => match d with | .struct _ | .array _ _ => true | _ => false) = some true := by kernel_rfl
theorem sizeP : (Tryd.prog.info? 24).map (·.size) = some 6 := by kernel_rfl
/-- A function's two results: a batch in a cell, a number. -/
theorem two_ret {fn : Func} {pp uu : Nat} {W : World} {rb : Nat} {a0 a1 a2 a3 a4 a5 n : Value} {tmps : Array Value} (hf : fn.results = #[.cell pp 24, .tmp uu]) (hb : Blk W rb #[a0, a1, a2, a3, a4, a5] 24) (h2 : tmps.getD pp undef = .pointer (some ⟨rb, 0, none⟩)) (h3 : tmps.getD uu undef = n) :
    (results fn tmps).run Tryd.prog W = .ok (.tuple #[.agg #[a0, a1, a2, a3, a4, a5], n]) W := by
  obtain ⟨d, hd, hs⟩ : ∃ d, Tryd.prog.underlying 24 = some d ∧ (match d with | .struct _ | .array _ _ => true | _ => false) = true := by
    have h := undP'
    cases hd : Tryd.prog.underlying 24 with
    | none => rw [hd] at h; cases h
    | some d => rw [hd] at h; exact ⟨d, rfl, Option.some.inj h⟩
  rw [results_cell_tmp (p := pp) (u := uu) (ty := 24) hf, h2, h3]
  have hl := run_loadVar_row (P := Tryd.prog) W rb 24 24 #[a0, a1, a2, a3, a4, a5] (0, 0) d hb hd (by cases d <;> exact hs) sizeP
  simp [asAddr, hl]
theorem six_below {w w' : World} {r : Nat} (h : Below w.heap.size w w') (hr : w.heap.size ≤ r) (v0 v1 v2 v3 v4 v5 : Value) : Below w.heap.size w ((((((w'.setCell ⟨r, 0, none⟩ v0).setCell ⟨r, 1, none⟩ v1).setCell ⟨r, 2, none⟩ v2).setCell ⟨r, 3, none⟩ v3).setCell ⟨r, 4, none⟩ v4).setCell ⟨r, 5, none⟩ v5) :=
  (((((h.setCell (p := ⟨r, 0, none⟩) hr v0).setCell (p := ⟨r, 1, none⟩) hr v1).setCell (p := ⟨r, 2, none⟩) hr v2).setCell (p := ⟨r, 3, none⟩) hr v3).setCell (p := ⟨r, 4, none⟩) hr v4).setCell (p := ⟨r, 5, none⟩) hr v5
theorem Recs.kb {v : Value} {ls : List Pl.Rc} {w w' : World} {c : Nat} (h : Recs v ls w) (hk : Kb c w w') (hn : ∀ a n cp, v = .slice (some a) n cp → a.block ≠ c) : Recs v ls w' := by
  obtain ⟨a, cap, rfl, hc⟩ := h
  refine ⟨a, cap, rfl, fun j l hj => ?_⟩
  obtain ⟨b, off, rfl, hlt, h0, h1, h2, h3⟩ := hc j l hj
  have e : ∀ o, w'.cell? ⟨b, o, none⟩ = w.cell? ⟨b, o, none⟩ := fun o => World.cell?_of_block (a := ⟨b, o, none⟩) (hk.block b hlt (hn _ _ _ rfl))
  exact ⟨b, off, rfl, Nat.lt_of_lt_of_le hlt hk.size, (e _).trans h0, (e _).trans h1, (e _).trans h2, (e _).trans h3⟩
theorem Kb.six (w' : World) (r : Nat) (v0 v1 v2 v3 v4 v5 : Value) : Kb r w' ((((((w'.setCell ⟨r, 0, none⟩ v0).setCell ⟨r, 1, none⟩ v1).setCell ⟨r, 2, none⟩ v2).setCell ⟨r, 3, none⟩ v3).setCell ⟨r, 4, none⟩ v4).setCell ⟨r, 5, none⟩ v5) :=
  (((((Kb.setCell _ _).trans (Kb.setCell _ _)).trans (Kb.setCell _ _)).trans (Kb.setCell _ _)).trans (Kb.setCell _ _)).trans (Kb.setCell _ _)

/-- k offsets are laid. -/
def Laid (ls : List Pl.Rc) (base : Int) (k : Nat) (acc : List Pl.Rc) : Prop :=
  acc.length = ls.length ∧ ∀ j x, ls[j]? = some x → acc[j]? = some (if j < k then { x with off := wrap64 (base + j) } else x)
theorem Laid.start (ls : List Pl.Rc) (base : Int) : Laid ls base 0 ls := ⟨rfl, fun j x h => by rw [if_neg (Nat.not_lt_zero _)]; exact h⟩
theorem Laid.next {ls acc : List Pl.Rc} {base : Int} {k : Nat} {x : Pl.Rc} (h : Laid ls base k acc) (hx : ls[k]? = some x) : Laid ls base (k + 1) (acc.set k { x with off := wrap64 (base + k) }) := by
  refine ⟨by rw [List.length_set]; exact h.1, fun j y hy => ?_⟩
  by_cases hj : k = j
  · subst hj
    obtain rfl := Option.some.inj (hx.symm.trans hy)
    have hk := (List.getElem?_eq_some_iff.1 (h.2 k x hx)).1
    rw [List.getElem?_set_self hk, if_pos (Nat.lt_succ_self _)]
  · rw [List.getElem?_set_ne hj, h.2 j y hy]
    by_cases h1 : j < k
    · rw [if_pos h1, if_pos (by omega)]
    · rw [if_neg h1, if_neg (by omega)]
theorem Laid.done {ls acc : List Pl.Rc} {base : Int} (h : Laid ls base ls.length acc) (hb : 0 ≤ base ∧ base ≤ 1099511627776) (hl : ls.length ≤ 8) : acc = Pl.renum ls base := by
  apply List.ext_getElem?
  intro j
  rw [Pl.renum_at]
  cases hj : ls[j]? with
  | none =>
    have : acc.length ≤ j := by rw [h.1]; exact List.getElem?_eq_none_iff.1 hj
    simp [this]
  | some x =>
    have hlt := (List.getElem?_eq_some_iff.1 hj).1
    rw [h.2 j x hj, if_pos hlt]
    simp only [Option.map_some]
    rw [IntWalk.wrap64_in _ (by omega)]
theorem Laid.good {ls acc : List Pl.Rc} {base prod seq time : Int} (h : Laid ls base ls.length acc) (hl : ls.length ≤ 8) : Pl.goodB ⟨base, ls.length, prod, seq, time, acc⟩ = Pl.goodB ⟨base, ls.length, prod, seq, time, Pl.renum ls base⟩ := by
  by_cases hb : 0 ≤ base ∧ base ≤ 1099511627776
  · rw [h.done hb hl]
  · have e : ∀ l, Pl.goodB ⟨base, ls.length, prod, seq, time, l⟩ = false := fun l => Bool.eq_false_iff.2 fun hg => hb (Pl.goodB_iff.1 hg).1
    rw [e, e]

set_option maxHeartbeats 2000000 in
set_option maxRecDepth 100000 in
theorem dpack (v : Value) (ls : List Pl.Rc) (base prod seq time : Int) (w : World) (lb : Lb w) (h : Recs v ls w) (hl : ls.length ≤ 1099511627776) :
    Calls Tryd.prog 23 #[v, .int .i64 base, .int .i64 prod, .int .i64 seq, .int .i64 time] w fun e w' => Below w.heap.size w w' ∧ PackOut (Pl.packB ls base prod seq time) e w' := by
  have hr0 := Blk.new w zeroB 24
  have hw0 : Below w.heap.size w (w.alloc (.cells zeroB 24)) := (Below.refl _ _).alloc (Nat.le_refl _) _
  have hs0 : (w.alloc (.cells zeroB 24)).heap.size = w.heap.size + 1 := by simp
  obtain ⟨W0, hW0⟩ : ∃ W0, w.alloc (.cells zeroB 24) = W0 := ⟨_, rfl⟩
  rw [hW0] at hr0 hw0 hs0
  unfold zeroB at hW0
  have HW0 := Lib.hid hw0
  have HR0 := Lib.hid hr0
  have HE0 := Lib.hid hW0
  have HS0 := Lib.hid hs0
  have HF := Lib.hid (dfits v ls W0 (h.below hw0) hl)
  have HC := Lib.hid fun wx (hx : Below w.heap.size w wx) h1 h8 => dclone v ls wx (h.below hx) h1 h8
  have HLB := Lib.hid lb
  obtain ⟨D, hD⟩ : ∃ D, Pl.packB ls base prod seq time = D := ⟨_, rfl⟩
  rw [hD]
  have HD := Lib.hid hD
  clear hr0 hw0 hW0 hs0 lb hD
  cases hf : Pl.fitsB ls with
  | false =>
    rw [hf] at HF
    have HFB := Lib.hid hf
    clear hf h
    go_enter Tryd.func23, Tryd.ntmps23
    go_wp2_with fail
    rw [HE0.out]
    refine HF.out.mono ?_
    rintro e w1 ⟨rfl, b1⟩
    have HR1 := Lib.hid (HR0.out.below b1)
    have HW1 := Lib.hid (HW0.out.trans (b1.mono HW0.out.size))
    clear b1 HR0 HW0 HF
    have r0 : World.cell? _ ⟨w.heap.size, 0, none⟩ = some (.int .i64 0) := HR1.out.cell (i := 0) rfl
    have f0 := HR1.out.free (i := 0)
    have r1 : World.cell? _ ⟨w.heap.size, 1, none⟩ = some (.int .i64 0) := HR1.out.cell (i := 1) rfl
    have f1 := HR1.out.free (i := 1)
    have r2 : World.cell? _ ⟨w.heap.size, 2, none⟩ = some (.int .i64 0) := HR1.out.cell (i := 2) rfl
    have f2 := HR1.out.free (i := 2)
    have r3 : World.cell? _ ⟨w.heap.size, 3, none⟩ = some (.int .i64 0) := HR1.out.cell (i := 3) rfl
    have f3 := HR1.out.free (i := 3)
    have r4 : World.cell? _ ⟨w.heap.size, 4, none⟩ = some (.int .i64 0) := HR1.out.cell (i := 4) rfl
    have f4 := HR1.out.free (i := 4)
    have r5 : World.cell? _ ⟨w.heap.size, 5, none⟩ = some (.slice none 0 0) := HR1.out.cell (i := 5) rfl
    have f5 := HR1.out.free (i := 5)
    go_wp2_with fail
    refine bodyPost_ret (two_ret rfl (Blk.six (a0 := .int .i64 0) (a1 := .int .i64 0) (a2 := .int .i64 0) (a3 := .int .i64 0) (a4 := .int .i64 0) (a5 := .slice none 0 0) HR1.out (.int .i64 0) (.int .i64 0) (.int .i64 0) (.int .i64 0) (.int .i64 0) (.slice none 0 0)) rfl rfl) rfl ⟨six_below HW1.out (Nat.le_refl _) _ _ _ _ _ _, ?_⟩
    rw [show D = none from ?_]
    · rfl
    · rw [← HD.out]
      exact if_neg (fun h => by rw [HFB.out] at h; exact absurd h.1 (by decide))
  | true =>
    rw [hf] at HF
    have hlen : 1 ≤ ls.length ∧ ls.length ≤ 8 := by
      unfold Pl.fitsB at hf
      rw [Bool.and_eq_true, decide_eq_true_iff] at hf
      exact hf.1
    obtain ⟨hlen1, hlen8⟩ := hlen
    have HFB := Lib.hid hf
    obtain ⟨a, cap, rfl, hcell⟩ := h
    have HC2 := Lib.hid fun wx (hx : Below w.heap.size w wx) => HC.out wx hx hlen1 hlen8
    obtain ⟨m, hm⟩ : ∃ m, ls.length = m := ⟨_, rfl⟩
    rw [hm] at hlen1 hlen8 HF HC2 hl ⊢
    have HM := Lib.hid hm
    clear hf hcell HC hm
    go_enter Tryd.func23, Tryd.ntmps23
    go_wp2_with fail
    rw [HE0.out]
    refine HF.out.mono ?_
    rintro e w1 ⟨rfl, b1⟩
    have HR1 := Lib.hid (HR0.out.below b1)
    have HW1 := Lib.hid (HW0.out.trans (b1.mono HW0.out.size))
    clear b1 HR0 HW0 HF
    go_wp2_with fail
    refine (HC2.out w1 HW1.out).mono ?_
    rintro e w2 ⟨v', rfl, o2, b2⟩
    have HR2 := Lib.hid (HR1.out.below b2)
    obtain ⟨g, cap', cur, rfl, hg1, hg2, -, -⟩ := own_slice o2 (by omega)
    have HGL : Hid (g < w2.heap.size) := hg2.lt
    have HG1 := Lib.hid hg1
    have HRL : Hid (w.heap.size < w1.heap.size) := HR1.out.lt
    have b3 := Blk.new w2 #[.int .i64 base, .int .i64 m, .int .i64 prod, .int .i64 seq, .int .i64 time, .slice (some ⟨g, 0, none⟩) m cap'] 24
    have hw3 : Below w2.heap.size w2 (w2.alloc (.cells #[.int .i64 base, .int .i64 m, .int .i64 prod, .int .i64 seq, .int .i64 time, .slice (some ⟨g, 0, none⟩) m cap'] 24)) := (Below.refl _ _).alloc (Nat.le_refl _) _
    have HO3 := Lib.hid (own_below o2 hw3)
    have HB3 := Lib.hid b3
    have HR3 := Lib.hid (HR2.out.below hw3)
    have HW3 := Lib.hid (b2.trans (hw3.mono b2.size))
    clear b3 hw3 hg2 o2 b2 hg1 HR2 HR1
    go_wp2_with fail
    obtain ⟨W3, hW3⟩ : ∃ W3, w2.alloc (.cells #[.int .i64 base, .int .i64 m, .int .i64 prod, .int .i64 seq, .int .i64 time, .slice (some ⟨g, 0, none⟩) m cap'] 24) = W3 := ⟨_, rfl⟩
    rw [hW3] at HO3 HB3 HR3 HW3 ⊢
    clear hW3
    go_loopw [30] (fun iv wr => ∃ (k : Nat) (acc : List Pl.Rc), k ≤ m ∧ iv = .int .i64 k ∧ Laid ls base k acc ∧ wr.ownsRow w1.heap.size 41 4 (.slice (some ⟨g, 0, none⟩) m cap') m (acc.flatMap cells4) ∧ Blk wr w2.heap.size #[.int .i64 base, .int .i64 m, .int .i64 prod, .int .i64 seq, .int .i64 time, .slice (some ⟨g, 0, none⟩) m cap'] 24 ∧ Blk wr w.heap.size zeroB 24 ∧ Below w1.heap.size w1 wr) (fun iv _ => m - (intOf iv).toNat)
    case atStart => exact ⟨0, ls, Nat.zero_le _, rfl, Laid.start _ _, HO3.out, HB3.out, HR3.out, HW3.out⟩
    case round =>
      obtain ⟨k, acc, hk, rfl, hlaid, hown, hbb, hrr, hlow⟩ := hrel
      have HLD := Lib.hid hlaid
      have HO := Lib.hid hown
      have HBB := Lib.hid hbb
      have HRR := Lib.hid hrr
      have HLW := Lib.hid hlow
      clear hlaid hown hbb hrr hlow HO3 HB3 HR3 HW3
      by_cases hlt : k < m
      · obtain ⟨x, hx⟩ : ∃ x, ls[k]? = some x := ⟨_, List.getElem?_eq_getElem (by rw [HM.out]; exact hlt)⟩
        have hax := HLD.out.2 k x hx
        rw [if_neg (Nat.lt_irrefl _)] at hax
        obtain ⟨q0, q1⟩ := own_at HO.out hax
        have c5 := HBB.out.cell (i := 5) rfl
        have HLD2 := Lib.hid (HLD.out.next hx)
        have HO2 := Lib.hid (own_set HO.out hax (wrap64 (base + k)))
        clear hax hx
        go_wp2_with fail
        go_roundw
        case rel => exact ⟨k + 1, _, by omega, by go_num, HLD2.out, HO2.out, HBB.out.setOther _ (by have := HGL.out; omega), HRR.out.setOther _ (by have := HG1.out; have := HRL.out; omega), HLW.out.setCell (p := ⟨g, k * 4, none⟩) HG1.out _⟩
        case measure => simp [intOf]; omega
      · obtain rfl : k = m := by omega
        have hgood := HLD.out
        rw [← HM.out] at hgood
        have HGD := Lib.hid (hgood.good (prod := prod) (seq := seq) (time := time) (by rw [HM.out]; exact hlen8))
        have hlw := HW1.out.trans (HLW.out.mono HW1.out.size)
        have hrec : Recs (.slice (some ⟨g, 0, none⟩) k cap') acc wr := own_recs (by have h := HO.out; rw [show k = acc.length by rw [HLD.out.1, HM.out]] at h; rw [HLD.out.1, HM.out] at h ⊢; exact h)
        have HGG := Lib.hid (dgood base k prod seq time acc _ wr (HLB.out.below HLB.out.size hlw) hrec (by rw [HLD.out.1, HM.out]; omega))
        have HREC := Lib.hid hrec
        have HLW2 := Lib.hid hlw
        have HKG : Hid (Pl.goodB ⟨base, k, prod, seq, time, acc⟩ = Pl.goodB ⟨base, ls.length, prod, seq, time, Pl.renum ls base⟩) := by
          have h := HGD.out
          rw [HM.out] at h ⊢
          exact h
        have HDN : Hid (0 ≤ base ∧ base ≤ 1099511627776 → acc = Pl.renum ls base) := fun hb => hgood.done hb (by rw [HM.out]; exact hlen8)
        clear hrec hlw hgood HGD
        have c0 := HBB.out.cell (i := 0) rfl
        have c1 := HBB.out.cell (i := 1) rfl
        have c2 := HBB.out.cell (i := 2) rfl
        have c3 := HBB.out.cell (i := 3) rfl
        have c4 := HBB.out.cell (i := 4) rfl
        have c5 := HBB.out.cell (i := 5) rfl
        cases hgd : Pl.goodB ⟨base, k, prod, seq, time, acc⟩ with
        | false =>
          rw [hgd] at HGG
          have HG0 := Lib.hid hgd
          clear hgd
          go_wp2_with fail
          refine HGG.out.mono ?_
          rintro e w4 ⟨rfl, b4⟩
          have HR4 := Lib.hid (HRR.out.below b4)
          have HW4 := Lib.hid (HLW2.out.trans (b4.mono HLW2.out.size))
          clear b4 c0 c1 c2 c3 c4 c5 HGG HRR
          have r0 : World.cell? _ ⟨w.heap.size, 0, none⟩ = some (.int .i64 0) := HR4.out.cell (i := 0) rfl
          have f0 := HR4.out.free (i := 0)
          have r1 : World.cell? _ ⟨w.heap.size, 1, none⟩ = some (.int .i64 0) := HR4.out.cell (i := 1) rfl
          have f1 := HR4.out.free (i := 1)
          have r2 : World.cell? _ ⟨w.heap.size, 2, none⟩ = some (.int .i64 0) := HR4.out.cell (i := 2) rfl
          have f2 := HR4.out.free (i := 2)
          have r3 : World.cell? _ ⟨w.heap.size, 3, none⟩ = some (.int .i64 0) := HR4.out.cell (i := 3) rfl
          have f3 := HR4.out.free (i := 3)
          have r4 : World.cell? _ ⟨w.heap.size, 4, none⟩ = some (.int .i64 0) := HR4.out.cell (i := 4) rfl
          have f4 := HR4.out.free (i := 4)
          have r5 : World.cell? _ ⟨w.heap.size, 5, none⟩ = some (.slice none 0 0) := HR4.out.cell (i := 5) rfl
          have f5 := HR4.out.free (i := 5)
          go_wp2_with fail
          refine bodyPost_ret (two_ret rfl (Blk.six (a0 := .int .i64 0) (a1 := .int .i64 0) (a2 := .int .i64 0) (a3 := .int .i64 0) (a4 := .int .i64 0) (a5 := .slice none 0 0) HR4.out (.int .i64 0) (.int .i64 0) (.int .i64 0) (.int .i64 0) (.int .i64 0) (.slice none 0 0)) rfl rfl) rfl ⟨six_below HW4.out (Nat.le_refl _) _ _ _ _ _ _, ?_⟩
          rw [show D = none from ?_]
          · rfl
          · rw [← HD.out]
            exact if_neg (fun h => by rw [← HKG.out, HG0.out] at h; exact absurd h.2 (by decide))
        | true =>
          rw [hgd] at HGG
          have HG0 := Lib.hid hgd
          clear hgd
          go_wp2_with fail
          refine HGG.out.mono ?_
          rintro e w4 ⟨rfl, b4⟩
          have HR4 := Lib.hid (HRR.out.below b4)
          have HB4 := Lib.hid (HBB.out.below b4)
          have HW4 := Lib.hid (HLW2.out.trans (b4.mono HLW2.out.size))
          have HC4 := Lib.hid (HREC.out.below b4)
          clear b4 c0 c1 c2 c3 c4 c5 HGG HRR HBB
          have c0 := HB4.out.cell (i := 0) rfl
          have c1 := HB4.out.cell (i := 1) rfl
          have c2 := HB4.out.cell (i := 2) rfl
          have c3 := HB4.out.cell (i := 3) rfl
          have c4 := HB4.out.cell (i := 4) rfl
          have c5 := HB4.out.cell (i := 5) rfl
          have r0 : World.cell? _ ⟨w.heap.size, 0, none⟩ = some (.int .i64 0) := HR4.out.cell (i := 0) rfl
          have f0 := HR4.out.free (i := 0)
          have r1 : World.cell? _ ⟨w.heap.size, 1, none⟩ = some (.int .i64 0) := HR4.out.cell (i := 1) rfl
          have f1 := HR4.out.free (i := 1)
          have r2 : World.cell? _ ⟨w.heap.size, 2, none⟩ = some (.int .i64 0) := HR4.out.cell (i := 2) rfl
          have f2 := HR4.out.free (i := 2)
          have r3 : World.cell? _ ⟨w.heap.size, 3, none⟩ = some (.int .i64 0) := HR4.out.cell (i := 3) rfl
          have f3 := HR4.out.free (i := 3)
          have r4 : World.cell? _ ⟨w.heap.size, 4, none⟩ = some (.int .i64 0) := HR4.out.cell (i := 4) rfl
          have f4 := HR4.out.free (i := 4)
          have r5 : World.cell? _ ⟨w.heap.size, 5, none⟩ = some (.slice none 0 0) := HR4.out.cell (i := 5) rfl
          have f5 := HR4.out.free (i := 5)
          go_wp2_with fail
          refine bodyPost_ret (two_ret rfl (Blk.six (a0 := .int .i64 0) (a1 := .int .i64 0) (a2 := .int .i64 0) (a3 := .int .i64 0) (a4 := .int .i64 0) (a5 := .slice none 0 0) HR4.out (.int .i64 base) (.int .i64 k) (.int .i64 prod) (.int .i64 seq) (.int .i64 time) (.slice (some ⟨g, 0, none⟩) k cap')) rfl rfl) rfl ⟨six_below HW4.out (Nat.le_refl _) _ _ _ _ _ _, ?_⟩
          have hrn := HDN.out (Pl.goodB_iff.1 HG0.out).1
          rw [show D = some ⟨base, k, prod, seq, time, acc⟩ from ?_]
          · exact ⟨_, HC4.out.kb (Kb.six _ _ _ _ _ _ _ _) (fun a n cp e => by
              injection e with e1
              injection e1 with e1
              subst e1
              show g ≠ w.heap.size
              have := HG1.out
              have := HRL.out
              omega), rfl⟩
          · rw [← HD.out, hrn]
            unfold Pl.packB
            rw [if_pos ⟨HFB.out, by rw [← HKG.out]; exact HG0.out⟩, HM.out]
end Go.Proofs.YthhlegfmikidpaaDoor
