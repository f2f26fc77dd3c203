/- .. of a producer that is known. -/
import Derived.Test.YtloallndnmofnaaGreatDoorRem
namespace Go.Proofs.YtloallndnmofnaaGreatDoor
open Go.RowKit
attribute [local go_sem ↓] Go.wp_at_zero Go.wp_at_succ

set_option maxHeartbeats 4000000 in
set_option maxRecDepth 100000 in
theorem drem_known (rb : Nat) (B : Nat → Prop) (T : Ld.Tb) (n : Int) (i : Nat) (L : List Ld.Sl) (x : Ld.Sl) (w : World) (h : Lgr w rb B T) (hG : Ld.goodB T = true) (ha : Ld.at_ T n = some i) (hL : T[i]? = some (n, L)) :
    Calls Tryz.prog 35 #[.pointer (some ⟨rb, 0, none⟩), .int .i64 n, slV x] w (Remd w rb B (T.set i (n, Ld.last5 (L ++ [x])))) := by
  obtain ⟨x0, x1, x2⟩ := x
  show Calls _ _ #[.pointer (some ⟨rb, 0, none⟩), .int .i64 n, .agg #[.int .i64 x0, .int .i64 x1, .int .i64 x2]] w _
  obtain ⟨tv, tb, E, h1, h2, h3, h4, h5⟩ := h.lies
  obtain ⟨e, hE, he⟩ := tab_at (E := E) (j := i) (x := (n, L)) (by rw [h3]; exact hL)
  obtain ⟨he1, he2⟩ : n = e.prod ∧ L = e.L := by cases he; exact ⟨rfl, rfl⟩
  have hil := (List.getElem?_eq_some_iff.1 hE).1
  obtain ⟨ao, cap, htv, hcap, hpos, -⟩ := h2.row.make
  obtain ⟨g, p, rfl, htb⟩ := hpos (by omega)
  obtain ⟨N, hN⟩ : ∃ N, E.length = N := ⟨_, rfl⟩
  have h64 := (Ld.good_iff.1 hG).1
  have hlen : E.length = T.length := by rw [← h3, tab_len]
  rw [hN] at htv hcap hil
  have hN64 : N ≤ 64 := by omega
  have hw0 : RowKit.Below w.heap.size w (w.alloc (.cells #[.int .i64 x0, .int .i64 x1, .int .i64 x2] 40)) := (Below.refl _ _).alloc (Nat.le_refl _) _
  have hb0 := Blk.new w #[.int .i64 x0, .int .i64 x1, .int .i64 x2] 40
  have hf := dfind (fun _ => True) rb tv T n _ (h1.below hw0) ((h2.below hw0).tab (fun _ => True) (fun _ _ => trivial) |> fun q => by rw [h3] at q; exact q) hG
  rw [ha, Ld.pos_some (Ld.good_iff.1 hG).2.2 ha] at hf
  have HF := Lib.hid hf
  have hxb : ¬ B w.heap.size := fun hb => by have := h.bnd _ hb; omega
  have HMID : ∀ w1, RowKit.Below w.heap.size w w1 → Mid w w1 rb B tv g E := fun w1 hb => Mid.of h1 h2 h4 h5 h.rbIn htb hb
  have hgx : ∀ k, e.gb = some k → k ≠ w.heap.size := fun k hk hh => hxb (hh ▸ h4 k (.inr ⟨e, List.mem_of_getElem? hE, hk⟩))
  have hLk : L.length ≤ 5 := (Ld.rowOk_iff.1 ((Ld.good_iff.1 hG).2.1 _ (List.mem_of_getElem? hL))).2.2.1
  obtain ⟨k, hk⟩ : ∃ k, L.length = k := ⟨_, rfl⟩
  rw [hk] at hLk
  obtain ⟨i0, hi0, hz0, hz1, hz2⟩ := infoSlot
  have HFIN0 : Hid (∀ (w1 W1 W9 : World) (g1 p1 cap1 : Nat) (gb' : Option Nat), RowKit.Below w.heap.size w w1 → RowKit.Below w1.heap.size w1 W1 → Sl W9 (.slice (some ⟨g1, p1, none⟩) (k + 1) cap1) gb' 40 3 (k + 1) (L.flatMap three ++ three ⟨x0, x1, x2⟩) → W1.grownBy W9 e.gb → gb' = some g1 → (gb' = e.gb ∨ W1.heap.size ≤ g1) →
      Remd w rb B (T.set i (n, Ld.last5 (L ++ [⟨x0, x1, x2⟩]))) (.returned (.int .i64 0)) (W9.setCell ⟨g, p + (i * 2 + 1), none⟩ (endV g1 p1 k cap1))) := by
    intro w1 W1 W9 g1 p1 cap1 gb' hb hb1 hown hgr hgb hnew
    have hs := endV_sl hown hk hLk
    have hnew' : gb' = e.gb ∨ ∀ q, gb' = some q → W1.heap.size ≤ q := by
      rcases hnew with h | h
      · exact .inl h
      · refine .inr fun q hq => ?_
        have hgq : g1 = q := Option.some.inj (hgb.symm.trans hq)
        omega
    obtain ⟨e', hee⟩ : ∃ e' : En, e' = ⟨e.prod, Ld.last5 (L ++ [⟨x0, x1, x2⟩]), endV g1 p1 k cap1, gb'⟩ := ⟨_, rfl⟩
    have q1 : e'.prod = e.prod := by rw [hee]
    have q2 : e'.v = endV g1 p1 k cap1 := by rw [hee]
    have q3 : e'.gb = gb' := by rw [hee]
    have q4 : e'.L = Ld.last5 (L ++ [⟨x0, x1, x2⟩]) := by rw [hee]
    rw [← q4, ← q3] at hs
    rw [← q3] at hnew'
    obtain ⟨B', hl, hm⟩ := Mid.fin (HMID w1 hb) hE htv hb1 hgr q1 q2 hs hnew'
    rw [q4] at hl
    rw [h3, ← he1] at hl
    exact ⟨rfl, B', hl, hm⟩
  have HSL : Hid (∀ w1, RowKit.Below w.heap.size w w1 → Sl w1 e.v e.gb 40 3 k (L.flatMap three)) := by
    intro w1 hb
    have := (h2.below hb).ok e (List.mem_of_getElem? hE)
    unfold En.ok at this
    rw [← he2, hk] at this
    exact this
  have HRB : Hid (∀ w1, RowKit.Below w.heap.size w w1 → w1.cell? ⟨rb, 0, none⟩ = some (.slice (some ⟨g, p, none⟩) N cap)) := by
    intro w1 hb
    have := (h1.below hb).cell (i := 0) (x := tv) rfl
    rw [htv] at this
    exact this
  have HGC : Hid (∀ w1, RowKit.Below w.heap.size w w1 → w1.cell? ⟨g, p + (i * 2 + 1), none⟩ = some e.v ∧ w1.frozen? ⟨g, p + (i * 2 + 1), none⟩ = false) := by
    intro w1 hb
    have hrow := (h2.below hb).row
    exact ⟨hrow.cell htv (i * 2 + 1) e.v (by rw [flat_at encells_len hE 1 (by decide)]; rfl), hrow.frozen htv _⟩
  have HXB : Hid (∀ w1, RowKit.Below (w.alloc (.cells #[.int .i64 x0, .int .i64 x1, .int .i64 x2] 40)).heap.size (w.alloc (.cells #[.int .i64 x0, .int .i64 x1, .int .i64 x2] 40)) w1 → Blk w1 w.heap.size #[.int .i64 x0, .int .i64 x1, .int .i64 x2] 40) := fun w1 hb => hb0.below hb
  have HNE : Hid (e.gb ≠ some rb ∧ e.gb ≠ some g ∧ e.gb ≠ some w.heap.size) := by
    refine ⟨fun hh => h5 (.inr ⟨e, List.mem_of_getElem? hE, hh⟩), fun hh => ?_, fun hh => hgx _ hh rfl⟩
    exact h2.far e (List.mem_of_getElem? hE) g hh htb
  have HLT : Hid (rb < w.heap.size ∧ g < w.heap.size) := ⟨h1.lt, h2.row.lt g htb⟩
  have hrg : rb ≠ g := fun hh => h5 (.inl (by rw [htb, hh]))
  have hxg : w.heap.size ≠ g := fun hh => by have := HLT.out.2; omega
  have HW0 := Lib.hid hw0
  obtain ⟨ev, hev⟩ : ∃ v, e.v = v := ⟨_, rfl⟩
  obtain ⟨eb, heb⟩ : ∃ v, e.gb = v := ⟨_, rfl⟩
  rw [hev] at HSL HGC
  rw [heb] at HSL HNE HFIN0
  clear h hG ha hL h1 h2 h3 h4 h5 hE he he1 he2 hf hxb HMID hgx hk htv htb hN hlen h64 hb0 hw0 hpos hev heb hcap
  go_enter Tryz.func35, Tryz.ntmps35
  go_wp2_with fail
  refine HF.out.mono ?_
  rintro e1 w1 ⟨rfl, hb1⟩
  have hbw := HW0.out.trans (hb1.mono HW0.out.size)
  have hxb1 := HXB.out w1 hb1
  have c0 := HRB.out w1 hbw
  obtain ⟨c1, f1⟩ := HGC.out w1 hbw
  have hsl1 := HSL.out w1 hbw
  have HFIN := Lib.hid (fun W1 W9 g1 p1 cap1 gb' => HFIN0.out w1 W1 W9 g1 p1 cap1 gb' hbw)
  rw [← Nat.add_assoc] at c1 f1
  obtain ⟨hne1, hne2, hne3⟩ := HNE.out
  clear hbw hb1 HFIN0 HSL HXB HRB HGC HF HNE
  go_wp2_with fail
  have hal : RowKit.Below w1.heap.size w1 (World.alloc (World.drew w1) (.cells #[.int .i64 x0, .int .i64 x1, .int .i64 x2] 40)) := (Below.refl w1.heap.size w1).drew.alloc (Nat.le_refl _) _
  have HS4 := Lib.hid (hsl1.below hal)
  have c1a := bcell6 hal c1
  have f1a := (hal.frozen (p := ⟨g, p + i * 2 + 1, none⟩) (World.block_lt_of_cell? w1 ⟨g, p + i * 2 + 1, none⟩ c1)).trans f1
  have c0a := bcell6 hal c0
  have HNEWS : Hid (∀ j u, (three ⟨x0, x1, x2⟩)[j]? = some u → World.cell? (World.alloc (World.drew w1) (.cells #[.int .i64 x0, .int .i64 x1, .int .i64 x2] 40)) (Addr.add ⟨w1.heap.size, 0, none⟩ j) = some u) := World.news_of_block (cs := #[.int .i64 x0, .int .i64 x1, .int .i64 x2]) (t := 40) (fr := (0, 0)) (heap_alloc_new (World.drew w1) _)
  have HONE : Hid (∀ u ∈ three ⟨x0, x1, x2⟩, u.oneCell' = true) := one_three1 _
  have HBY : Hid ((k + 1) * 24 ≤ 140737488355328) := by show _ ≤ _; omega
  have H63 : Hid (k + 1 ≤ 9223372036854775807) := by show _ ≤ _; omega
  have HAL := Lib.hid hal
  have x0c := hxb1.cell (i := 0) rfl
  have x1c := hxb1.cell (i := 1) rfl
  have x2c := hxb1.cell (i := 2) rfl
  have n1 := World.new_ne w1 ⟨rb, 0, none⟩ c0
  have n2 := World.new_ne w1 ⟨w.heap.size, 0, none⟩ x0c
  have n5 := World.new_ne w1 ⟨g, p + i * 2 + 1, none⟩ c1
  have hrl : rb < w1.heap.size + 1 := by have := World.block_lt_of_cell? w1 ⟨rb, 0, none⟩ c0; simp at this; omega
  have hgl : g < w1.heap.size + 1 := by have := World.block_lt_of_cell? w1 ⟨g, p + i * 2 + 1, none⟩ c1; simp at this; omega
  have hi0' : (0 : Int) ≤ (i : Int) := by omega
  have hi1' : (i : Int) < (N : Int) := by omega
  have HC0A := Lib.hid c0a
  have c0b : (w1.alloc (.cells #[.int .i64 x0, .int .i64 x1, .int .i64 x2] 40)).cell? ⟨rb, 0, none⟩ = some (.slice (some ⟨g, p, none⟩) N cap) := c0a
  have c1b : (w1.alloc (.cells #[.int .i64 x0, .int .i64 x1, .int .i64 x2] 40)).cell? ⟨g, p + i * 2 + 1, none⟩ = some ev := c1a
  have HC1A := Lib.hid c1a
  have HF1A := Lib.hid f1a
  clear f1 f1a hal hxb1 hsl1
  go_region_law (first
      | ((refine step_append_sl _ (by rfl) _ _ _ (by rfl) 40 i0 (.agg #[.int .i64 0, .int .i64 0, .int .i64 0]) 3 24 Tryz.underlying44 hi0 hz0 hz1 hz2 rfl ev eb k (L.flatMap three) (by rfl) HS4.out ⟨w1.heap.size, 0, none⟩ 1 1 (three ⟨x0, x1, x2⟩) (by rfl) (by rfl) HNEWS.out HONE.out (by decide) HBY.out H63.out ?_; intro g1 p1 cap1 w9 gb' hown hgrow hgb hnew; have hc1 := sl_cap hown; have c9 := (hgrow.cell_far ⟨g, p + i * 2 + 1, none⟩ (by simp; omega) (Ne.symm hne2)).trans HC1A.out; have f9 := (hgrow.frozen_far ⟨g, p + i * 2 + 1, none⟩ (by simp; omega) (Ne.symm hne2)).trans HF1A.out; have d9 := (hgrow.cell_far ⟨rb, 0, none⟩ (by simp; omega) (Ne.symm hne1)).trans HC0A.out; have HFI := Lib.hid (HFIN.out _ w9 g1 p1 cap1 gb' HAL.out hown hgrow hgb hnew); clear hown hgrow hgb hnew))
      | (refine step_call_same rfl 33 _ Tryz.func33 (by kernel_rfl) (by kernel_rfl) (.tmp 50) (.const (.int .i64 5)) _ rfl _ _ rfl rfl (dending5 _ _ _ _ _ (by assumption) (by assumption)) ?_))
  all_goals (go_wp2_with fail)
  all_goals go_ret
  all_goals exact HFI.out
end Go.Proofs.YtloallndnmofnaaGreatDoor
