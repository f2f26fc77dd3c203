/- THE CONTRACT OF the document's Copy (layer 6). -/
import Derived.Test.YtloallndnmofnaaDoorClo
import Derived.Deep.RegionHeld3
import Derived.Deep.DrawnRows
import Derived.Lib.Hide
namespace Go.Proofs.YtloallndnmofnaaDoor
open Go.RowKit

/-- One producer more, behind the others: his slots are new, the table grows. -/
theorem Own.push {W W2 W3 W4 : World} {ov v2 ov' : Value} {tb gb2 tb' : Option Nat} {E : List En} {p : Int} {L : List Ld.Sl} (h : Own W ov tb E) (hb : RowKit.Below W.heap.size W W2) (hs : Sl W2 v2 gb2 41 3 L.length (L.flatMap three)) (hnew : ∀ q, gb2 = some q → W.heap.size ≤ q)
    (hb3 : RowKit.Below W2.heap.size W2 W3) (hgr : W3.grownBy W4 tb) (hs4 : Sl W4 ov' tb' 63 2 (E.length + 1) (E.flatMap En.cells ++ [.int .i64 p, v2])) (hn4 : tb' = tb ∨ ∀ q, tb' = some q → W3.heap.size ≤ q) :
    Own W4 ov' tb' (E ++ [⟨p, L, v2, gb2⟩]) ∧ (∀ q, foot tb' (E ++ [⟨p, L, v2, gb2⟩]) q → foot tb E q ∨ W.heap.size ≤ q) ∧ RowKit.Below W.heap.size W W3 := by
  have hsz := hb.size
  have hsz3 := hb3.size
  have hbb : RowKit.Below W.heap.size W W3 := hb.trans (hb3.mono hsz)
  have h3 := h.below hbb
  have htl : ∀ q, tb = some q → q < W.heap.size := fun q hq => h.row.lt q hq
  have hgl : ∀ e ∈ E, ∀ q, e.gb = some q → q < W.heap.size := fun e he q hq => Sl.lt (h.ok e he) q hq
  have hg2 : ∀ q, gb2 = some q → q < W2.heap.size := fun q hq => hs.lt q hq
  have hnt : ∀ q, gb2 = some q → tb ≠ some q := fun q hq ht => by have := hnew q hq; have := htl q ht; omega
  refine ⟨⟨?_, ?_, ?_, ?_⟩, ?_, hbb⟩
  · rw [List.length_append, List.flatMap_append]
    exact hs4
  · intro e he
    rcases List.mem_append.1 he with he | he
    · exact Sl.grown (h3.ok e he) hgr (fun k hk ht => h.far e he k hk ht)
    · rw [List.mem_singleton.1 he]
      exact (hs.below hb3).grown hgr hnt
  · rw [List.pairwise_append]
    refine ⟨h.apart, List.pairwise_singleton _ _, fun a ha b hb k hk hk2 => ?_⟩
    rw [List.mem_singleton.1 hb] at hk2
    have := hgl a ha k hk
    have := hnew k hk2
    omega
  · intro e he k hk ht
    rcases hn4 with h4 | h4
    · rw [h4] at ht
      rcases List.mem_append.1 he with he | he
      · exact h.far e he k hk ht
      · rw [List.mem_singleton.1 he] at hk
        exact hnt k hk ht
    · have h5 := h4 k ht
      rcases List.mem_append.1 he with he | he
      · have := hgl e he k hk; omega
      · rw [List.mem_singleton.1 he] at hk
        have := hg2 k hk; omega
  · rintro q (hq | ⟨e, he, hq⟩)
    · rcases hn4 with h4 | h4
      · exact .inl (.inl (h4.symm.trans hq))
      · exact .inr (by have := h4 q hq; omega)
    · rcases List.mem_append.1 he with he | he
      · exact .inl (.inr ⟨e, he, hq⟩)
      · rw [List.mem_singleton.1 he] at hq
        exact .inr (hnew q hq)
/-- A copy's first k producers. -/
def Cpy (w : World) (T : Ld.Tb) (k : Nat) (ov : Value) (wr : World) : Prop :=
  ∃ tb E, Own wr ov tb E ∧ tabOf E = T.take k ∧ (∀ q, foot tb E q → w.heap.size ≤ q) ∧ RowKit.Below w.heap.size w wr
theorem Cpy.fin {w : World} {T : Ld.Tb} {ov : Value} {wr : World} (h : Cpy w T T.length ov wr) : Clond w T (.returned ov) wr := by
  obtain ⟨tb, E, h1, h2, h3, h4⟩ := h
  rw [List.take_length] at h2
  exact ⟨ov, tb, E, rfl, h1, h2, h3, h4⟩
theorem Cpy.zero (w : World) (T : Ld.Tb) : Cpy w T 0 (.slice (some ⟨w.heap.size, 0, none⟩) 0 0) (w.alloc (.cells #[] 63)) := by
  have hal : RowKit.Below w.heap.size w (w.alloc (.cells #[] 63)) := (Below.refl _ _).alloc (Nat.le_refl _) _
  refine ⟨some w.heap.size, [], ⟨Sl.empty w 63 2, (fun _ h => by cases h), List.Pairwise.nil, (fun _ h => by cases h)⟩, rfl, ?_, hal⟩
  rintro q (hq | ⟨_, h, -⟩)
  · cases hq; exact Nat.le_refl _
  · cases h
/-- What an append of a producer's slots to an empty slice, then of the producer to the copy, leaves. -/
theorem Cpy.push {w wr W2 W3 W4 : World} {T : Ld.Tb} {k : Nat} {ov v2 ov' : Value} {tb gb2 tb' : Option Nat} {E : List En} {p : Int} {L : List Ld.Sl} (hx : T[k]? = some (p, L)) (h : Own wr ov tb E) (hT : tabOf E = T.take k) (hf : ∀ q, foot tb E q → w.heap.size ≤ q) (hw : RowKit.Below w.heap.size w wr)
    (hb : RowKit.Below wr.heap.size wr W2) (hs : Sl W2 v2 gb2 41 3 L.length (L.flatMap three)) (hnew : ∀ q, gb2 = some q → wr.heap.size ≤ q)
    (hb3 : RowKit.Below W2.heap.size W2 W3) (hgr : W3.grownBy W4 tb) (hs4 : Sl W4 ov' tb' 63 2 (E.length + 1) (E.flatMap En.cells ++ [.int .i64 p, v2])) (hn4 : tb' = tb ∨ ∀ q, tb' = some q → W3.heap.size ≤ q) : Cpy w T (k + 1) ov' W4 := by
  obtain ⟨h1, h2, h3⟩ := h.push hb hs hnew hb3 hgr hs4 hn4
  have hwz := hw.size
  refine ⟨tb', _, h1, ?_, ?_, ?_⟩
  · rw [List.take_add_one, hx, ← hT]
    simp [tabOf]
  · intro q hq
    rcases h2 q hq with h5 | h5
    · exact hf q h5
    · omega
  · have h6 := hw.trans (h3.mono hwz)
    exact h6.trans ⟨hgr.os, hgr.tape, hgr.output, hgr.size, fun q hq => hgr.block q (by have := h6.size; omega) (fun e => by have := hf q (.inl e.symm); omega)⟩

set_option maxRecDepth 100000 in
set_option maxHeartbeats 8000000 in
theorem rcopy (v : Value) (T : Ld.Tb) (w : World) (h : TabAt (fun _ => True) v T w) (hG : Ld.goodB T = true) :
    Calls Tryd.prog 12 #[v] w (Clond w T) := by
  obtain ⟨gl, gL⟩ := good_short hG
  have hpos : ∀ x ∈ T, 1 ≤ x.2.length := fun x hx => (Ld.rowOk_iff.1 ((Ld.good_iff.1 hG).2.1 x hx)).2.1
  obtain ⟨a, cap, rfl, hc⟩ := h
  obtain ⟨m, hm⟩ : ∃ m, T.length = m := ⟨_, rfl⟩
  obtain ⟨i0, hi0, hz0, hz1, hz2⟩ := infoSlot
  obtain ⟨i1, hi1, hy0, hy1, hy2⟩ := infoSeen
  have HFIN : Hid (∀ ov wr, Cpy w T m ov wr → Clond w T (.returned ov) wr) := by
    intro ov wr h
    rw [← hm] at h
    exact h.fin
  have HM := Lib.hid hm
  have HC := Lib.hid hc
  have HL := Lib.hid gL
  have HP := Lib.hid hpos
  have HZ := Lib.hid (Cpy.zero w T)
  rw [hm] at gl ⊢
  clear hm hc gL hpos hG
  go_enter Tryd.func12, Tryd.ntmps12
  go_wp2_with fail
  go_loopw [3, 4] (fun ov iv wr => ∃ i : Nat, i ≤ m ∧ iv = .int .i64 i ∧ Cpy w T i ov wr) (fun _ iv _ => m - (intOf iv).toNat)
  case atStart => exact ⟨0, Nat.zero_le _, rfl, HZ.out⟩
  case round =>
    obtain ⟨i, hi, rfl, hcp⟩ := hrel
    by_cases hlt : i < m
    · obtain ⟨tb, E, hown, hE, hft, hbl⟩ := hcp
      obtain ⟨x, hx⟩ : ∃ x, T[i]? = some x := ⟨_, List.getElem?_eq_getElem (by rw [HM.out]; exact hlt)⟩
      obtain ⟨b, off, sv, rfl, -, c0, c1, sa, scap, rfl, hsl⟩ := HC.out i x hx
      have hn1 := HP.out x (List.mem_of_getElem? hx)
      have hn2 := HL.out x (List.mem_of_getElem? hx)
      obtain ⟨p, L⟩ := x
      simp only at c0 c1 hsl hn1 hn2
      obtain ⟨n, hn⟩ : ∃ n, L.length = n := ⟨_, rfl⟩
      rw [hn] at c1 hn1 hn2
      obtain ⟨sb, so, rfl, -, -, -, -⟩ := hsl 0 _ (List.getElem?_eq_getElem (by omega))
      have hEl : E.length = i := by
        have := congrArg List.length hE
        rw [tab_len, List.length_take] at this
        have := HM.out
        omega
      have up := fun a v (h : w.cell? a = some v) => (hbl.cell (World.block_lt_of_cell? w a h)).trans h
      have d0 := up _ _ c0
      have d1 := up _ _ c1
      have hbb := World.block_lt_of_cell? w _ c0
      have hnews : ∀ j u, (L.flatMap three)[j]? = some u → wr.cell? (Addr.add ⟨sb, so, none⟩ j) = some u ∧ sb < wr.heap.size := by
        intro j u hj
        have hjl := (List.getElem?_eq_some_iff.1 hj).1
        rw [flat_len three_len, hn] at hjl
        obtain ⟨s, hs⟩ : ∃ s, L[j / 3]? = some s := ⟨_, List.getElem?_eq_getElem (by omega)⟩
        have hmod := Nat.div_add_mod j 3
        have hlt3 := Nat.mod_lt j (show 3 > 0 by omega)
        have e := flat_at three_len hs (j % 3) hlt3
        rw [Nat.mul_comm, hmod, hj] at e
        obtain ⟨b', off', had, -, q0, q1, q2⟩ := hsl (j / 3) s hs
        cases had
        refine ⟨?_, by have := World.block_lt_of_cell? w _ q0; have := hbl.size; simp at *; omega⟩
        rw [Addr.add_lit]
        obtain ⟨q, hq⟩ : ∃ q, j % 3 = q := ⟨_, rfl⟩
        rw [hq] at e hlt3 hmod
        have hj' : j = j / 3 * 3 + q := by omega
        rw [hj']
        match q, hlt3, e with
        | 0, _, e => cases e; exact up _ _ q0
        | 1, _, e => cases e; exact up _ _ q1
        | 2, _, e => cases e; exact up _ _ q2
      have hsbl : sb < wr.heap.size := by
        obtain ⟨s, hs⟩ : ∃ s, L[0]? = some s := ⟨_, List.getElem?_eq_getElem (by omega)⟩
        exact (hnews 0 (.int .i64 s.seq) (by have := flat_at three_len hs 0 (by decide); simpa [three] using this)).2
      have HPUSH : Hid (∀ W2 W3 W4 v2 ov' gb2 tb', RowKit.Below wr.heap.size wr W2 → Sl W2 v2 gb2 41 3 n (L.flatMap three) → (∀ q, gb2 = some q → wr.heap.size ≤ q) → RowKit.Below W2.heap.size W2 W3 → W3.grownBy W4 tb → Sl W4 ov' tb' 63 2 (i + 1) (E.flatMap En.cells ++ [.int .i64 p, v2]) → (tb' = tb ∨ ∀ q, tb' = some q → W3.heap.size ≤ q) → Cpy w T (i + 1) ov' W4) := by
        intro W2 W3 W4 v2 ov' gb2 tb' h1 h2 h3 h4 h5 h6 h7
        rw [← hn] at h2
        rw [← hEl] at h6
        exact Cpy.push hx hown hE hft hbl h1 h2 h3 h4 h5 h6 h7
      have HB := Lib.hid hbl
      have HN := Lib.hid hnews
      have HS := Lib.hid hsbl
      have hbw : b < wr.heap.size := by have := hbl.size; simp at hbb; omega
      have hi0' : (0 : Int) ≤ (i : Int) := by omega
      have hi1' : (i : Int) < (m : Int) := by omega
      have HOW := Lib.hid hown
      have hal : RowKit.Below wr.heap.size wr (wr.alloc (.cells #[] 41)).drew := ((Below.refl wr.heap.size wr).alloc (Nat.le_refl _) _).drew
      have HE : Hid (Sl (wr.alloc (.cells #[] 41)).drew (.slice (some ⟨wr.heap.size, 0, none⟩) 0 0) (some wr.heap.size) 41 3 0 []) := Sl.same (Sl.empty wr 41 3) (fun _ _ => rfl)
      have HXL : Hid ((L.flatMap three).length = n * 3) := by show _ = _; rw [flat_len three_len, hn]
      have HNEWS : Hid (∀ j u, (L.flatMap three)[j]? = some u → World.cell? (wr.alloc (.cells #[] 41)).drew (Addr.add ⟨sb, so, none⟩ j) = some u) := by
        intro j u hj
        refine Eq.trans ?_ (hnews j u hj).1
        rw [Addr.add_lit]
        exact hal.cell (p := ⟨sb, so + j, none⟩) hsbl
      have HONE := Lib.hid (one_three L)
      have HBY : Hid ((0 + n) * 24 ≤ 140737488355328) := by show _ ≤ _; omega
      have H63 : Hid (0 + n ≤ 9223372036854775807) := by show _ ≤ _; omega
      have HPO : Hid (0 < n) := by show _ < _; omega
      have HAL := Lib.hid hal
      have hbne : some b ≠ some wr.heap.size := by intro h; injection h; omega
      have hbw1 : b < wr.heap.size + 1 := by omega
      have hbtb : some b ≠ tb := fun e => by have := hft b (.inl e.symm); have := World.block_lt_of_cell? w _ c0; simp at *; omega
      have HBY2 : Hid ((i + 1) * 32 ≤ 140737488355328) := by show _ ≤ _; omega
      have H632 : Hid (i + 1 ≤ 9223372036854775807) := by show _ ≤ _; omega
      have HROW : Hid (Sl wr u3 tb 63 2 i (E.flatMap En.cells)) := by
        have := hown.row
        rw [hEl] at this
        exact this
      have HTB : Hid (∀ q, tb = some q → q < wr.heap.size) := fun q hq => hown.row.lt q hq
      have HSTEP : Hid (∀ w9 g1 p1 cap1 gb', (wr.alloc (.cells #[] 41)).drew.grownBy w9 (some wr.heap.size) → Sl w9 (.slice (some ⟨g1, p1, none⟩) (0 + n) cap1) gb' 41 3 (0 + n) ([] ++ L.flatMap three) → gb' = some g1 → (gb' = some wr.heap.size ∨ (wr.alloc (.cells #[] 41)).drew.heap.size ≤ g1) →
          RowKit.Below wr.heap.size wr w9 ∧ Sl (w9.alloc (.cells #[.int .i64 p, .slice (some ⟨g1, p1, none⟩) n cap1] 63)) u3 tb 63 2 i (E.flatMap En.cells) ∧ Blk (w9.alloc (.cells #[.int .i64 p, .slice (some ⟨g1, p1, none⟩) n cap1] 63)) w9.heap.size #[.int .i64 p, .slice (some ⟨g1, p1, none⟩) n cap1] 63 ∧ b < (w9.alloc (.cells #[.int .i64 p, .slice (some ⟨g1, p1, none⟩) n cap1] 63)).heap.size ∧
          ∀ w10 g2 p2 cap2 tb', Sl w10 (.slice (some ⟨g2, p2, none⟩) (i + 1) cap2) tb' 63 2 (i + 1) (E.flatMap En.cells ++ [.int .i64 p, .slice (some ⟨g1, p1, none⟩) n cap1]) → (w9.alloc (.cells #[.int .i64 p, .slice (some ⟨g1, p1, none⟩) n cap1] 63)).grownBy w10 tb → tb' = some g2 → (tb' = tb ∨ (w9.alloc (.cells #[.int .i64 p, .slice (some ⟨g1, p1, none⟩) n cap1] 63)).heap.size ≤ g2) → Cpy w T (i + 1) (.slice (some ⟨g2, p2, none⟩) (i + 1) cap2) w10) := by
        intro w9 g1 p1 cap1 gb' hgrow hs hgb hnew
        have hb9 : RowKit.Below wr.heap.size wr w9 := hal.trans ⟨hgrow.os, hgrow.tape, hgrow.output, hgrow.size, fun q hq => hgrow.block q (by have := hal.size; omega) (fun e => by injection e; omega)⟩
        have hal9 : RowKit.Below w9.heap.size w9 (w9.alloc (.cells #[.int .i64 p, .slice (some ⟨g1, p1, none⟩) n cap1] 63)) := (Below.refl w9.heap.size w9).alloc (Nat.le_refl _) _
        refine ⟨hb9, (HROW.out.below hb9).below hal9, heap_alloc_new w9 _, by have := hb9.size; have := hal9.size; omega, ?_⟩
        intro w10 g2 p2 cap2 tb' hs10 hgrow10 htb hnew10
        rw [Nat.zero_add, List.nil_append] at hs
        refine HPUSH.out w9 _ w10 _ _ gb' tb' hb9 hs (fun q hq => ?_) hal9 hgrow10 hs10 ?_
        · rcases hnew with h | h
          · rw [h] at hq; injection hq; omega
          · rw [hgb] at hq
            injection hq with hq
            have := hal.size
            omega
        · rcases hnew10 with h | h
          · exact .inl h
          · refine .inr fun q hq => ?_
            rw [htb] at hq
            injection hq with hq
            omega
      clear hown hE hft hbl hx c0 c1 hsl hn hEl up hbb hnews hsbl HPUSH HFIN HZ hal
      go_wp2_with fail
      go_region_held3 (fun w' => w'.cell? ⟨b, off + i * 2, none⟩ = some (.int .i64 p) ∧ w'.cell? ⟨b, off + i * 2 + 1, none⟩ = some (.slice (some ⟨sb, so, none⟩) n scap))
        (first
          | go_keep
          | (go_split_ands
             refine ⟨?_, ?_⟩
             · (rw [hgrow.cell_far _ (by simp; omega) hbne]; assumption)
             · (rw [hgrow.cell_far _ (by simp; omega) hbne]; assumption))
          | (go_split_ands
             refine ⟨?_, ?_⟩
             · (rw [hgrow2.cell_far _ HST2.out.2.2.2.1 hbtb]; assumption)
             · (rw [hgrow2.cell_far _ HST2.out.2.2.2.1 hbtb]; assumption)))
        (first
          | (refine step_append_sl _ (by rfl) _ _ _ (by rfl) 41 i0 (.agg #[.int .i64 0, .int .i64 0, .int .i64 0]) 3 24 Tryd.underlying61 hi0 hz0 hz1 hz2 rfl (.slice (some ⟨wr.heap.size, 0, none⟩) 0 0) (some wr.heap.size) 0 [] (by rfl) HE.out ⟨sb, so, none⟩ n scap (L.flatMap three) (by rfl) HXL.out HNEWS.out HONE.out HPO.out HBY.out H63.out ?_; intro g1 p1 cap1 w9 gb' hown hgrow hgb hnew; have HST2 := Lib.hid (HSTEP.out w9 g1 p1 cap1 gb' hgrow hown hgb hnew))
          | (refine step_append_sl _ (by rfl) _ _ _ (by rfl) 63 i1 (.agg #[.int .i64 0, .slice none 0 0]) 2 32 Tryd.underlying22 hi1 hy0 hy1 hy2 rfl u3 tb i (E.flatMap En.cells) (by rfl) HST2.out.2.1 ⟨w9.heap.size, 0, none⟩ 1 1 [.int .i64 p, .slice (some ⟨g1, p1, none⟩) n cap1] (by rfl) (by rfl) (World.news_of_block (cs := #[.int .i64 p, .slice (some ⟨g1, p1, none⟩) n cap1]) (t := 63) (fr := (0, 0)) HST2.out.2.2.1) (by simp [Value.oneCell']) (by decide) HBY2.out H632.out ?_; intro g2 p2 cap2 w10 tb' hown2 hgrow2 htb hnew2; have HDONE := Lib.hid (HST2.out.2.2.2.2 w10 g2 p2 cap2 tb' hown2 hgrow2 htb hnew2)))
      clear hown hgrow hgb hnew hown2 hgrow2 htb hnew2
      go_wp2_with fail
      go_roundw
      case rel => exact ⟨i + 1, by omega, by go_num, HDONE.out⟩
      case measure => simp [intOf]; omega
    · obtain rfl : i = m := by omega
      have HF := Lib.hid (HFIN.out _ _ hcp)
      clear hcp
      go_wp2_with fail
      go_ret
      exact HF.out
end Go.Proofs.YtloallndnmofnaaDoor
