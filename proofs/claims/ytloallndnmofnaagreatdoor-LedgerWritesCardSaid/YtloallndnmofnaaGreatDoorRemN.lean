/- .. of a producer that is new; where there is no place. -/
import Derived.Test.YtloallndnmofnaaGreatDoorRem
namespace Go.Proofs.YtloallndnmofnaaGreatDoor
open Go.RowKit
attribute [local go_sem ↓] Go.wp_at_zero Go.wp_at_succ

set_option maxHeartbeats 4000000 in
set_option maxRecDepth 100000 in
theorem drem_full (rb : Nat) (B : Nat → Prop) (T : Ld.Tb) (n : Int) (x : Ld.Sl) (w : World) (h : Lgr w rb B T) (hG : Ld.goodB T = true) (ha : Ld.at_ T n = none) (hfull : T.length = 64) :
    Calls Tryz.prog 35 #[.pointer (some ⟨rb, 0, none⟩), .int .i64 n, slV x] w fun e w' => e = .returned (.int .i64 1) ∧ RowKit.Below w.heap.size w w' := by
  obtain ⟨x0, x1, x2⟩ := x
  show Calls _ _ #[.pointer (some ⟨rb, 0, none⟩), .int .i64 n, .agg #[.int .i64 x0, .int .i64 x1, .int .i64 x2]] w _
  obtain ⟨tv, h1, h2⟩ := h.view
  have hw0 : RowKit.Below w.heap.size w (w.alloc (.cells #[.int .i64 x0, .int .i64 x1, .int .i64 x2] 40)) := (Below.refl _ _).alloc (Nat.le_refl _) _
  have hf := dfind (fun _ => True) rb tv T n _ (h1.below hw0) (h2.below hw0) hG
  rw [ha] at hf
  have HF := Lib.hid hf
  obtain ⟨a, cap, rfl, -⟩ := h2
  rw [hfull] at h1
  have c := h1.cell (i := 0) rfl
  have HC : Hid (∀ w1, RowKit.Below w.heap.size w w1 → w1.cell? ⟨rb, 0, none⟩ = some (.slice a 64 cap)) := fun w1 hb => bcell6 hb c
  have HW0 := Lib.hid hw0
  clear h hG ha hf h1 hw0 c hfull
  go_enter Tryz.func35, Tryz.ntmps35
  go_wp2_with fail
  refine HF.out.mono ?_
  rintro e1 w1 ⟨rfl, hb1⟩
  have hbw := HW0.out.trans (hb1.mono HW0.out.size)
  have c0 := HC.out w1 hbw
  have HBW := Lib.hid hbw
  clear hbw hb1
  go_wp2_with fail
  go_ret
  exact ⟨rfl, HBW.out⟩

set_option maxHeartbeats 4000000 in
set_option maxRecDepth 100000 in
theorem drem_new (rb : Nat) (B : Nat → Prop) (T : Ld.Tb) (n : Int) (x : Ld.Sl) (w : World) (h : Lgr w rb B T) (hG : Ld.goodB T = true) (ha : Ld.at_ T n = none) (hfull : T.length < 64) :
    Calls Tryz.prog 35 #[.pointer (some ⟨rb, 0, none⟩), .int .i64 n, slV x] w (Remd w rb B (T.take (Ld.pos T n) ++ (n, [x]) :: T.drop (Ld.pos T n))) := by
  obtain ⟨x0, x1, x2⟩ := x
  show Calls _ _ #[.pointer (some ⟨rb, 0, none⟩), .int .i64 n, .agg #[.int .i64 x0, .int .i64 x1, .int .i64 x2]] w _
  obtain ⟨tv, tb, E, h1, h2, h3, h4, h5⟩ := h.lies
  have hlen : E.length = T.length := by rw [← h3, tab_len]
  obtain ⟨i, hi⟩ : ∃ i, Ld.pos T n = i := ⟨_, rfl⟩
  have hiE : i ≤ E.length := by rw [hlen, ← hi]; exact Ld.pos_le
  obtain ⟨M, hM⟩ : ∃ M, E.length = M := ⟨_, rfl⟩
  have hw0 : RowKit.Below w.heap.size w (w.alloc (.cells #[.int .i64 x0, .int .i64 x1, .int .i64 x2] 40)) := (Below.refl _ _).alloc (Nat.le_refl _) _
  have hb0 := Blk.new w #[.int .i64 x0, .int .i64 x1, .int .i64 x2] 40
  have hf := dfind (fun _ => True) rb tv T n _ (h1.below hw0) ((h2.below hw0).tab (fun _ => True) (fun _ _ => trivial) |> fun q => by rw [h3] at q; exact q) hG
  rw [ha, hi] at hf
  have HF := Lib.hid hf
  have hxb : ¬ B w.heap.size := fun hb => by have := h.bnd _ hb; omega
  obtain ⟨ao, cap0, htv, -, -, -⟩ := h2.row.make
  have h1x := one_cells h2.ok
  rw [hM] at htv hiE hlen
  have hM64 : M < 64 := by omega
  have HINS : Hid (∀ w1 n', RowKit.Below w.heap.size w w1 → Calls Tryz.prog 52 #[tv, .int .i64 i, .slice (some ⟨w1.heap.size, 0, none⟩) 1 1] (w1.alloc (.cells #[.int .i64 n', .slice none 0 0] 46)) (Insd (w1.alloc (.cells #[.int .i64 n', .slice none 0 0] 46)) tb (M + 1) ((E.flatMap En.cells).take (i * 2) ++ ([.int .i64 n', .slice none 0 0] ++ (E.flatMap En.cells).drop (i * 2))))) := by
    intro w1 n' hb
    have hal : RowKit.Below w1.heap.size w1 (w1.alloc (.cells #[.int .i64 n', .slice none 0 0] 46)) := (Below.refl _ _).alloc (Nat.le_refl _) _
    have hrow := ((h2.below hb).below hal).row
    rw [hM] at hrow
    refine dinsert tv tb M i w1.heap.size _ n' _ hrow h1x (by omega) hiE (Blk.new w1 _ _) (fun e => ?_)
    have := (h2.below hb).row.lt _ e
    omega
  have HMID : Hid (∀ w1 w2 tv' g, RowKit.Below w.heap.size w w1 → w1.grownBy w2 tb → Sl w2 tv' (some g) 46 2 (M + 1) ((E.flatMap En.cells).take (i * 2) ++ ([.int .i64 n, .slice none 0 0] ++ (E.flatMap En.cells).drop (i * 2))) → (tb = some g ∨ w1.heap.size ≤ g) → Mid w (w2.setCell ⟨rb, 0, none⟩ tv') rb B tv' g (insEn E i n)) := by
    intro w1 w2 tv' g hb hgr hs hnew
    rw [← hM] at hs
    exact Mid.ins h1 h2 h4 h5 h.rbIn hb hgr hs hnew (by omega)
  have HRB : Hid (∀ w1, RowKit.Below w.heap.size w w1 → w1.cell? ⟨rb, 0, none⟩ = some (.slice ao M cap0) ∧ w1.frozen? ⟨rb, 0, none⟩ = false) := by
    intro w1 hb
    have := (h1.below hb).cell (i := 0) (x := tv) rfl
    rw [htv] at this
    exact ⟨this, (h1.below hb).free⟩
  have HTB : Hid (tb ≠ some rb ∧ tb ≠ some w.heap.size ∧ rb < w.heap.size) := ⟨fun e => h5 (.inl e), fun e => hxb (h4 _ (.inl e)), h1.lt⟩
  have HXB : Hid (∀ w1, RowKit.Below (w.alloc (.cells #[.int .i64 x0, .int .i64 x1, .int .i64 x2] 40)).heap.size (w.alloc (.cells #[.int .i64 x0, .int .i64 x1, .int .i64 x2] 40)) w1 → Blk w1 w.heap.size #[.int .i64 x0, .int .i64 x1, .int .i64 x2] 40) := fun w1 hb => hb0.below hb
  have HEND : Hid (∀ (w1 W1 W9 : World) (tv' : Value) (g p m cap g1 p1 cap1 : Nat) (gb' : Option Nat), Mid w w1 rb B tv' g (insEn E i n) → tv' = .slice (some ⟨g, p, none⟩) m cap → RowKit.Below w1.heap.size w1 W1 → Sl W9 (.slice (some ⟨g1, p1, none⟩) (0 + 1) cap1) gb' 40 3 (0 + 1) (List.flatMap three [] ++ three ⟨x0, x1, x2⟩) → W1.grownBy W9 none → gb' = some g1 → (gb' = none ∨ W1.heap.size ≤ g1) →
      Remd w rb B (T.take i ++ (n, [⟨x0, x1, x2⟩]) :: T.drop i) (.returned (.int .i64 0)) (W9.setCell ⟨g, p + (i * 2 + 1), none⟩ (endV g1 p1 0 cap1))) := by
    intro w1 W1 W9 tv' g p m cap g1 p1 cap1 gb' hm htv' hb1 hown hgr hgb hnew
    have hs := endV_sl (L := []) hown rfl (by omega)
    have hnew' : gb' = (newEn n).gb ∨ ∀ q, gb' = some q → W1.heap.size ≤ q := by
      rcases hnew with h | h
      · exact .inl h
      · refine .inr fun q hq => ?_
        have hgq : g1 = q := Option.some.inj (hgb.symm.trans hq)
        omega
    have hl1 : Ld.last5 ([] ++ [(⟨x0, x1, x2⟩ : Ld.Sl)]) = [⟨x0, x1, x2⟩] := rfl
    rw [hl1] at hs
    obtain ⟨e', hee⟩ : ∃ e' : En, e' = ⟨n, [⟨x0, x1, x2⟩], endV g1 p1 0 cap1, gb'⟩ := ⟨_, rfl⟩
    have q1 : e'.prod = (newEn n).prod := by rw [hee]; rfl
    have q2 : e'.v = endV g1 p1 0 cap1 := by rw [hee]
    have q3 : e'.gb = gb' := by rw [hee]
    have q4 : e'.L = [⟨x0, x1, x2⟩] := by rw [hee]
    rw [← q4, ← q3] at hs
    rw [← q3] at hnew'
    obtain ⟨B', hl, hmv⟩ := Mid.fin hm (insEn_at E i n (by omega)) htv' hb1 hgr q1 q2 hs hnew'
    rw [q4, insEn_tab, h3] at hl
    have hset : (T.take i ++ (n, ([] : List Ld.Sl)) :: T.drop i).set i ((newEn n).prod, [⟨x0, x1, x2⟩]) = T.take i ++ (n, [⟨x0, x1, x2⟩]) :: T.drop i := by
      have hti : (T.take i).length = i := by rw [List.length_take]; omega
      rw [List.set_append, if_neg (by omega), hti, Nat.sub_self]
      rfl
    rw [hset] at hl
    exact ⟨rfl, B', hl, hmv⟩
  have HW0 := Lib.hid hw0
  rw [htv] at HINS
  rw [hi]
  have hiN : i < M + 1 := by omega
  have HET : Hid (∀ w1 tv' g p m cap, Mid w w1 rb B tv' g (insEn E i n) → tv' = .slice (some ⟨g, p, none⟩) m cap → w1.cell? ⟨g, p + i * 2 + 1, none⟩ = some (.slice none 0 0) ∧ w1.frozen? ⟨g, p + i * 2 + 1, none⟩ = false) := by
    intro w1 tv' g p m cap hm htv'
    have hc := hm.own.row.cell htv' (i * 2 + 1) (.slice none 0 0) (by rw [flat_at encells_len (insEn_at E i n (by omega)) 1 (by decide)]; rfl)
    have hz := hm.own.row.frozen htv' (p + (i * 2 + 1))
    rw [← Nat.add_assoc] at hc hz
    exact ⟨hc, hz⟩
  clear h hG ha h1 h2 h3 h4 h5 hf hxb hb0 hw0 htv hlen hM hi h1x hfull
  go_enter Tryz.func35, Tryz.ntmps35
  go_wp2_with fail
  refine HF.out.mono ?_
  rintro e1 w1 ⟨rfl, hb1⟩
  have hbw := HW0.out.trans (hb1.mono HW0.out.size)
  have hxb1 := HXB.out w1 hb1
  obtain ⟨c0, f0⟩ := HRB.out w1 hbw
  have HINS1 := Lib.hid (HINS.out w1 n hbw)
  have HBW := Lib.hid hbw
  have HXB1 := Lib.hid hxb1
  have hM1 : ¬ ((M : Int) = 64) := by omega
  clear hbw hb1 hxb1 HINS
  go_wp2_with fail
  refine HINS1.out.mono ?_
  rintro e2 w2 ⟨g, p, cap, rfl, hs2, hgr2, hnew2⟩
  obtain ⟨W2, hW2⟩ : ∃ W2, w1.alloc (.cells #[.int .i64 n, .slice none 0 0] 46) = W2 := ⟨_, rfl⟩
  have hal : RowKit.Below w1.heap.size w1 W2 := by rw [← hW2]; exact (Below.refl _ _).alloc (Nat.le_refl _) _
  have hsz2 : W2.heap.size = w1.heap.size + 1 := by rw [← hW2]; simp
  rw [hW2] at hgr2 hnew2
  obtain ⟨ht1, ht2, ht3⟩ := HTB.out
  have hbw := HBW.out
  have hw12 := hbw.size
  have c02 : w2.cell? ⟨rb, 0, none⟩ = some (.slice ao M cap0) := (hgr2.cell_far ⟨rb, 0, none⟩ (by show rb < _; omega) (Ne.symm ht1)).trans (bcell6 hal c0)
  have f02 : w2.frozen? ⟨rb, 0, none⟩ = false := (hgr2.frozen_far ⟨rb, 0, none⟩ (by show rb < _; omega) (Ne.symm ht1)).trans ((hal.frozen (p := ⟨rb, 0, none⟩) (by show rb < _; omega)).trans f0)
  have hm3 := HMID.out W2 w2 _ g (hbw.trans (hal.mono hbw.size)) hgr2 hs2 hnew2
  have hx3 : Blk (w2.setCell ⟨rb, 0, none⟩ (.slice (some ⟨g, p, none⟩) (M + 1) cap)) w.heap.size #[.int .i64 x0, .int .i64 x1, .int .i64 x2] 40 := ((HXB1.out.below hal).grown hgr2 (Ne.symm ht2)).setO _ _ (by show w.heap.size ≠ rb; omega)
  have HM3 := Lib.hid hm3
  have HX3 := Lib.hid hx3
  clear hs2 hgr2 hnew2 hal hsz2 hW2 hbw hw12 hm3 hx3 c0 f0 HINS1 HMID
  go_wp2_with fail
  obtain ⟨w3, hw3⟩ : ∃ W, w2.setCell ⟨rb, 0, none⟩ (.slice (some ⟨g, p, none⟩) (M + 1) cap) = W := ⟨_, rfl⟩
  rw [hw3] at HM3 HX3 ⊢
  clear hw3 c02 f02
  obtain ⟨c1, f1⟩ := HET.out w3 _ g p (M + 1) cap HM3.out rfl
  have c0 := HM3.out.blk.cell (i := 0) rfl
  have hxb1 := HX3.out
  have hsl1 : Sl w3 (.slice none 0 0) none 40 3 0 (List.flatMap three []) := ⟨rfl, .inl ⟨rfl, rfl, rfl⟩⟩
  obtain ⟨i0, hi0, hz0, hz1, hz2⟩ := infoSlot
  have hne1 : (none : Option Nat) ≠ some rb := by simp
  have hne2 : (none : Option Nat) ≠ some g := by simp
  have HFIN := Lib.hid (fun W1 W9 g1 p1 cap1 gb' => HEND.out w3 W1 W9 _ g p (M + 1) cap g1 p1 cap1 gb' HM3.out rfl)
  clear HEND HET HM3 HX3 HTB HF HW0 HBW HXB1 HXB HRB
  have hal : RowKit.Below w3.heap.size w3 (World.alloc (World.drew w3) (.cells #[.int .i64 x0, .int .i64 x1, .int .i64 x2] 40)) := (Below.refl w3.heap.size w3).drew.alloc (Nat.le_refl _) _
  have HS4 := Lib.hid (hsl1.below hal)
  have c1a := bcell6 hal c1
  have f1a := (hal.frozen (p := ⟨g, p + i * 2 + 1, none⟩) (World.block_lt_of_cell? w3 ⟨g, p + i * 2 + 1, none⟩ c1)).trans f1
  have c0a := bcell6 hal c0
  have HNEWS : Hid (∀ j u, (three ⟨x0, x1, x2⟩)[j]? = some u → World.cell? (World.alloc (World.drew w3) (.cells #[.int .i64 x0, .int .i64 x1, .int .i64 x2] 40)) (Addr.add ⟨w3.heap.size, 0, none⟩ j) = some u) := World.news_of_block (cs := #[.int .i64 x0, .int .i64 x1, .int .i64 x2]) (t := 40) (fr := (0, 0)) (heap_alloc_new (World.drew w3) _)
  have HONE : Hid (∀ u ∈ three ⟨x0, x1, x2⟩, u.oneCell' = true) := one_three1 _
  have HBY : Hid ((0 + 1) * 24 ≤ 140737488355328) := by show _ ≤ _; omega
  have H63 : Hid (0 + 1 ≤ 9223372036854775807) := by show _ ≤ _; omega
  have HAL := Lib.hid hal
  have x0c := hxb1.cell (i := 0) rfl
  have x1c := hxb1.cell (i := 1) rfl
  have x2c := hxb1.cell (i := 2) rfl
  have n1 := World.new_ne w3 ⟨rb, 0, none⟩ c0
  have n2 := World.new_ne w3 ⟨w.heap.size, 0, none⟩ x0c
  have n5 := World.new_ne w3 ⟨g, p + i * 2 + 1, none⟩ c1
  have hrl : rb < w3.heap.size + 1 := by have := World.block_lt_of_cell? w3 ⟨rb, 0, none⟩ c0; simp at this; omega
  have hgl : g < w3.heap.size + 1 := by have := World.block_lt_of_cell? w3 ⟨g, p + i * 2 + 1, none⟩ c1; simp at this; omega
  have hi0' : (0 : Int) ≤ (i : Int) := by omega
  have hi1' : (i : Int) < (M : Int) + 1 := by omega
  have HC0A := Lib.hid c0a
  have c0b : (w3.alloc (.cells #[.int .i64 x0, .int .i64 x1, .int .i64 x2] 40)).cell? ⟨rb, 0, none⟩ = some (.slice (some ⟨g, p, none⟩) (M + 1) cap) := c0a
  have c1b : (w3.alloc (.cells #[.int .i64 x0, .int .i64 x1, .int .i64 x2] 40)).cell? ⟨g, p + i * 2 + 1, none⟩ = some (.slice none 0 0) := c1a
  have HC1A := Lib.hid c1a
  have HF1A := Lib.hid f1a
  clear f1 f1a hal hxb1 hsl1
  go_region_law (first
      | ((refine step_append_sl _ (by rfl) _ _ _ (by rfl) 40 i0 (.agg #[.int .i64 0, .int .i64 0, .int .i64 0]) 3 24 Tryz.underlying44 hi0 hz0 hz1 hz2 rfl (.slice none 0 0) none 0 (List.flatMap three []) (by rfl) HS4.out ⟨w3.heap.size, 0, none⟩ 1 1 (three ⟨x0, x1, x2⟩) (by rfl) (by rfl) HNEWS.out HONE.out (by decide) HBY.out H63.out ?_; intro g1 p1 cap1 w9 gb' hown hgrow hgb hnew; have hc1 := sl_cap hown; have c9 := (hgrow.cell_far ⟨g, p + i * 2 + 1, none⟩ (by simp; omega) (Ne.symm hne2)).trans HC1A.out; have f9 := (hgrow.frozen_far ⟨g, p + i * 2 + 1, none⟩ (by simp; omega) (Ne.symm hne2)).trans HF1A.out; have d9 := (hgrow.cell_far ⟨rb, 0, none⟩ (by simp; omega) (Ne.symm hne1)).trans HC0A.out; have HFI := Lib.hid (HFIN.out _ w9 g1 p1 cap1 gb' HAL.out hown hgrow hgb hnew); clear hown hgrow hgb hnew))
      | (refine step_call_same rfl 33 _ Tryz.func33 (by kernel_rfl) (by kernel_rfl) (.tmp 50) (.const (.int .i64 5)) _ rfl _ _ rfl rfl (dending5 _ _ 0 _ _ (by omega) (by omega)) ?_))
  all_goals (go_wp2_with fail)
  all_goals go_ret
  all_goals exact HFI.out
end Go.Proofs.YtloallndnmofnaaGreatDoor
