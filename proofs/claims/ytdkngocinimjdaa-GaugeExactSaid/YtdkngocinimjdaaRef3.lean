/- THE CONTRACT OF the document's Push. -/
import Derived.Test.YtdkngocinimjdaaRef2
import Derived.Deep.RegionLaw
namespace Go.Proofs.Ytdkngocinimjdaa
open Go.RowKit
attribute [local go_sem] run_store_complex

set_option maxHeartbeats 1000000 in
set_option maxRecDepth 100000 in
theorem rpush_no (x y : Nat) (w : World) (g : Nat) (gb : Option Nat) (L : List P2) (h : Ru w g gb L) (hno : Fl.part x = none ∨ Fl.part y = none ∨ L.length = 4096) :
    Calls Try.prog 12 #[.pointer (some ⟨g, 0, none⟩), .complex .f64 x y] w fun e w' => e = .returned (.int .i64 1) ∧ Below w.heap.size w w' := by
  obtain ⟨v, h1, h2⟩ := h.lies
  obtain ⟨ao, cap, rfl, hc, -⟩ := h2.make
  have H1 := Lib.hid h1
  cases hz : ((Fl.part x).isSome && (Fl.part y).isSome) with
  | false =>
    have HF := Lib.hid (fun w => from_no hz w)
    clear h h1 h2 hz hno
    go_enter Try.func12, Try.ntmps12
    go_wp2_with fail
    refine (HF.out _).mono ?_
    rintro e w1 ⟨⟨a, b, rfl⟩, b1⟩
    have hw := b1.alloc b1.size (.cells #[.int .i64 a, .int .i64 b] 39)
    have HW := Lib.hid hw
    clear hw b1
    go_wp2_with fail
    go_ret
    exact ⟨rfl, HW.out⟩
  | true =>
    rw [Bool.and_eq_true] at hz
    obtain ⟨m, hm⟩ := Option.isSome_iff_exists.1 hz.1
    obtain ⟨n, hn⟩ := Option.isSome_iff_exists.1 hz.2
    have hl : (L.length : Int) = 4096 := by
      rcases hno with h | h | h
      · rw [h] at hm; cases hm
      · rw [h] at hn; cases hn
      · omega
    have hl' : (4096 : Int) ≤ (L.length : Int) := by omega
    have HF := Lib.hid (fun w => from_ok hm hn w)
    clear h h1 h2 hz hno hm hn hl
    go_enter Try.func12, Try.ntmps12
    go_wp2_with fail
    refine (HF.out _).mono ?_
    rintro e w1 ⟨rfl, b1⟩
    have hw := b1.alloc b1.size (.cells #[.int .i64 m, .int .i64 n] 39)
    have c0 := (H1.out.below hw).cell (i := 0) rfl
    have HW := Lib.hid hw
    clear hw b1
    go_wp2_with fail
    go_ret
    exact ⟨rfl, HW.out⟩

theorem Kb2.of_below {a b : Option Nat} {w w' : World} (h : Below w.heap.size w w') : Kb2 a b w w' := ⟨h.os, h.tape, h.output, h.size, fun k hk _ _ => h.block k hk⟩
theorem rpush_end {w w3 w9 : World} {g N cap g1 p1 cap1 : Nat} {ao : Option Addr} {gb gb' : Option Nat} {L : List P2} {p : P2} (hr : Ru w g gb L) (hN : L.length = N) (hw : Below w.heap.size w w3) (hgr : w3.grownBy w9 gb) (hgb : gb' = some g1) (hnw : gb' = gb ∨ w3.heap.size ≤ g1)
    (hb : Blk w9 g #[.slice ao N cap] 29) (ho : Sl w9 (.slice (some ⟨g1, p1, none⟩) (N + 1) cap1) gb' 39 2 (N + 1) (L.flatMap two ++ two p)) :
    ∃ gb', Ru (w9.setCell ⟨g, 0, none⟩ (.slice (some ⟨g1, p1, none⟩) (N + 1) cap1)) g gb' (L ++ [p]) ∧ Kb2 (some g) gb w (w9.setCell ⟨g, 0, none⟩ (.slice (some ⟨g1, p1, none⟩) (N + 1) cap1)) ∧ (gb' = gb ∨ ∃ k, gb' = some k ∧ w.heap.size ≤ k) := by
  have hlt := hr.lt
  have hsz := hw.size
  have hne : some g ≠ gb' := by
    rcases hnw with e | e
    · rw [e]; exact hr.ne
    · rw [hgb]; intro e'; cases e'; omega
  refine ⟨gb', ⟨hne, _, hb.set (i := 0) _, ?_⟩, ((Kb2.of_below hw).trans (Kb2.of_grown hgr)).trans (Kb2.setCell _ ⟨g, 0, none⟩ _ (.inl rfl)), ?_⟩
  · rw [List.length_append, hN, List.flatMap_append]
    have := ho.setCell ⟨g, 0, none⟩ (.slice (some ⟨g1, p1, none⟩) (N + 1) cap1) hne
    simpa using this
  · rcases hnw with e | e
    · exact .inl e
    · exact .inr ⟨g1, hgb, by omega⟩

set_option maxHeartbeats 1000000 in
set_option maxRecDepth 100000 in
theorem rpush_ok (x y m n : Nat) (w : World) (g : Nat) (gb : Option Nat) (L : List P2) (h : Ru w g gb L) (hx : Fl.part x = some m) (hy : Fl.part y = some n) (hl : L.length < 4096) :
    Calls Try.prog 12 #[.pointer (some ⟨g, 0, none⟩), .complex .f64 x y] w fun e w' => e = .returned (.int .i64 0) ∧ ∃ gb', Ru w' g gb' (L ++ [((m : Int), (n : Int))]) ∧ Kb2 (some g) gb w w' ∧ (gb' = gb ∨ ∃ k, gb' = some k ∧ w.heap.size ≤ k) := by
  obtain ⟨v, h1, h2⟩ := h.lies
  obtain ⟨ao, cap, rfl, hc, -⟩ := h2.make
  have H1 := Lib.hid h1
  have H2 := Lib.hid h2
  have HW := Lib.hid h
  have HF := Lib.hid (fun w => from_ok hx hy w)
  obtain ⟨N, hN⟩ : ∃ N, L.length = N := ⟨_, rfl⟩
  rw [hN] at H1 H2 hl hc
  have HN := Lib.hid hN
  obtain ⟨i0, hi, hz0, hz1, hz2⟩ := infoS
  clear h h1 h2 hx hy hN
  go_enter Try.func12, Try.ntmps12
  go_wp2_with fail
  refine (HF.out _).mono ?_
  rintro e w1 ⟨rfl, b1⟩
  have hb5 := Blk.new w1 #[.int .i64 m, .int .i64 n] 39
  have hw := b1.alloc b1.size (.cells #[.int .i64 m, .int .i64 n] 39)
  have c0 := (H1.out.below hw).cell (i := 0) rfl
  have hs2 : (w1.alloc (.cells #[.int .i64 m, .int .i64 n] 39)).heap.size = w1.heap.size + 1 := by simp
  have HB1 := Lib.hid b1
  have hlt : g < w.heap.size := H1.out.lt
  obtain ⟨W2, hW2⟩ : ∃ W2, w1.alloc (.cells #[.int .i64 m, .int .i64 n] 39) = W2 := ⟨_, rfl⟩
  rw [hW2] at hb5 hw c0 hs2
  have hq : (N : Int) < 4096 := by omega
  have hg2 := H1.out.below hw
  have hsl2 := H2.out.same (fun k hk => hw.block k (H2.out.lt k hk))
  have hal : Below W2.heap.size W2 (World.alloc (World.drew W2) (.cells #[.int .i64 m, .int .i64 n] 39)) := (Below.refl W2.heap.size W2).drew.alloc (Nat.le_refl _) _
  have HS4 := Lib.hid (hsl2.same (fun k hk => hal.block k (hsl2.lt k hk)))
  have HG4 := Lib.hid (hg2.below hal)
  have HLT : Hid (∀ k, gb = some k → k < w.heap.size) := Lib.hid H2.out.lt
  have HAL := Lib.hid hal
  have HW2 := Lib.hid hw
  have HNEWS : Hid (∀ j u, (two ((m : Int), (n : Int)))[j]? = some u → World.cell? (World.alloc (World.drew W2) (.cells #[.int .i64 m, .int .i64 n] 39)) (Addr.add ⟨W2.heap.size, 0, none⟩ j) = some u) := World.news_of_block (cs := #[.int .i64 m, .int .i64 n]) (t := 39) (fr := (0, 0)) (heap_alloc_new (World.drew W2) _)
  have HONE : Hid (∀ u ∈ two ((m : Int), (n : Int)), u.oneCell' = true) := by
    intro u hu
    simp only [two, List.mem_cons, List.not_mem_nil, or_false] at hu
    rcases hu with rfl | rfl <;> rfl
  have HBY : Hid ((N + 1) * 16 ≤ 140737488355328) := by show _ ≤ _; omega
  have H63 : Hid (N + 1 ≤ 9223372036854775807) := by show _ ≤ _; omega
  have d0 := hb5.cell (i := 0) rfl
  have d1 := hb5.cell (i := 1) rfl
  have c0' := HG4.out.cell (i := 0) rfl
  have c0'' := (hg2.below (w' := World.alloc W2 (.cells #[.int .i64 m, .int .i64 n] 39)) ((Below.refl W2.heap.size W2).alloc (Nat.le_refl _) _)).cell (i := 0) rfl
  clear b1 hb5 hg2 hsl2 hal hw hs2
  go_wp2_with fail
  go_region_law ((refine step_append_sl _ (by rfl) _ _ _ (by rfl) 39 i0 (.agg #[.int .i64 0, .int .i64 0]) 2 16 Try.underlying27 hi hz0 hz1 hz2 rfl (.slice ao N cap) gb N (L.flatMap two) (by rfl) HS4.out ⟨W2.heap.size, 0, none⟩ 1 1 (two ((m : Int), (n : Int))) (by rfl) (by rfl) HNEWS.out HONE.out (by decide) HBY.out H63.out ?_; intro g1 p1 cap1 w9 gb' hown hgrow hgb hnew; have HB9 := Lib.hid (HG4.out.grown hgrow HW.out.ne); have HO9 := Lib.hid hown; have HGR := Lib.hid hgrow; have HGB := Lib.hid hgb; have HNW := Lib.hid hnew; have q5 := HB9.out.cell (i := 0) rfl; have q6 := HB9.out.free (i := 0); clear hown hgrow hgb hnew))
  all_goals (
    go_wp2_with fail
    go_ret
    exact ⟨rfl, rpush_end HW.out HN.out (HW2.out.trans (HAL.out.mono HW2.out.size)) HGR.out HGB.out HNW.out HB9.out HO9.out⟩)
end Go.Proofs.Ytdkngocinimjdaa
