/- THE CONTRACT OF slices.Collect over the records of a map. -/
import Derived.Test.YtfapigccdbpepaaWVals
import Derived.Test.YtfapigccdbpepaaGat
import Derived.Test.YtfapigccdbpepaaGTot
import Derived.RangeFuncBox
namespace Go.Proofs.Ytfapigccdbpepaa
open Go.RowKit Go.Shelf
attribute [local go_sem] Oper.semAt_some

/-- What has been gathered so far: the box z holds a slice of the call's own. -/
structure Ap (w : World) (z : Nat) (pre : List Pl.Rc) (v : Value) (gb : Option Nat) (W : World) : Prop where
  low : Below w.heap.size w W
  box : Blk W z #[v] 30
  row : Sl W v gb 44 4 pre.length (pre.flatMap cells4)
  gbl : ∀ k, gb = some k → w.heap.size ≤ k ∧ k ≠ z
  zl : w.heap.size ≤ z
section
variable {w W W' : World} {z B : Nat} {pre : List Pl.Rc} {v : Value} {gb : Option Nat}
theorem Ap.turn {row : Option Nat} (h : Ap w z pre v gb W) (hg : W.grownBy W' row) (hB : w.heap.size ≤ B) (hr : ∀ r, row = some r → B ≤ r ∧ ∃ o : Obj, W.heap[r]? = some o ∧ o.isCells = false) : Ap w z pre v gb W' := by
  have hr2 := fun r e => (hr r e).2
  refine ⟨h.low.grown hg h.low.size fun k e => Nat.le_trans hB (hr k e).1, h.box.same (turn_block h.box rfl hg hr2), h.row.same fun b hb => ?_, h.gbl, h.zl⟩
  obtain ⟨o, ho, hc⟩ := h.row.cells hb
  exact turn_block ho hc hg hr2
theorem Ap.below (h : Ap w z pre v gb W) (b : Below W.heap.size W W') : Ap w z pre v gb W' :=
  ⟨h.low.trans (b.mono h.low.size), h.box.below b, h.row.same fun k hk => b.block k (h.row.lt k hk), h.gbl, h.zl⟩
theorem Ap.more {w2 : World} {x : Pl.Rc} {v' : Value} {gb' : Option Nat} {k' : Nat} (h : Ap w z pre v gb W) (hr : Sl w2 v' gb' 44 4 (pre.length + 1) (pre.flatMap cells4 ++ cells4 x)) (o : Obj) (hg : (W.alloc o).grownBy w2 gb) (hgb : gb' = some k') (hn : gb' = gb ∨ (W.alloc o).heap.size ≤ k') :
    Ap w z (pre ++ [x]) v' gb' (w2.setCell ⟨z, 0, none⟩ v') ∧ w2.cell? ⟨z, 0, none⟩ = some v ∧ w2.frozen? ⟨z, 0, none⟩ = false := by
  have hb1 : Below W.heap.size W (W.alloc o) := (Below.refl _ _).alloc (Nat.le_refl _) _
  have h1 := h.below hb1
  have hs1 : (W.alloc o).heap.size = W.heap.size + 1 := by simp
  have hgn : some z ≠ gb := fun e => (h.gbl z e.symm).2 rfl
  have hbox2 : Blk w2 z #[v] 30 := h1.box.grown hg hgn
  have hzW := h.box.lt
  have hlo := h.low.size
  have hgb'' : ∀ k, gb' = some k → w.heap.size ≤ k ∧ k ≠ z := fun k hk => by
    rcases hn with e | e
    · exact h.gbl k (e ▸ hk)
    · rw [hgb] at hk; cases hk; omega
  refine ⟨⟨(h1.low.grown hg h1.low.size fun k e => (h.gbl k e).1).setCell (p := ⟨z, 0, none⟩) h.zl v', hbox2.set (i := 0) v', ?_, hgb'', h.zl⟩, hbox2.cell rfl, hbox2.free⟩
  have e : (pre ++ [x]).flatMap cells4 = pre.flatMap cells4 ++ cells4 x := by simp
  rw [List.length_append, e]
  exact hr.setCell ⟨z, 0, none⟩ v' (fun e => (hgb'' z e.symm).2 rfl)
end
/-- What Collect answers. -/
def CollOut (w : World) (S : List Pl.Rc) (e : Ending) (w' : World) : Prop :=
  ∃ v gb xs, e = .returned v ∧ xs.Perm S ∧ Wr w.heap.size v gb xs w' ∧ Below w.heap.size w w'

set_option maxRecDepth 100000 in
set_option maxHeartbeats 4000000 in
theorem appendSeq_any (Bm b : Nat) (S : List Pl.Rc) (hS : Wd.Srt S) (hl : S.length ≤ 1048576) (w : World) (hBm : Bm < w.heap.size) (hm : w.cell? ⟨Bm, 0, none⟩ = some (.map (some b))) (hv : VMap w b S) :
    Calls Try.prog 52 #[.slice none 0 0, .func (.func 45) #[] #[.pointer (some ⟨Bm, 0, none⟩)]] w (CollOut w S) := by
  refine (callsIn_wide (n := 6)).1 ?_
  refine callsIn_of_wp_marks Try.func52 rfl trivial ?_ rfl
  simp only [Try.ntmps52, List.size_toArray, List.length_cons, List.length_nil, Nat.reduceAdd, Nat.reduceSub, Array.replicate_succ, Array.replicate_zero, List.push_toArray, List.append_toArray, List.nil_append, List.cons_append]
  gi_wp2_with fail
  obtain ⟨z, hz⟩ : ∃ z, w.heap.size = z := ⟨_, rfl⟩
  obtain ⟨WL, hWL⟩ : ∃ WL, w.alloc (.cells #[.slice none 0 0] 30) = WL := ⟨_, rfl⟩
  have hbL : Below w.heap.size w WL := by rw [← hWL]; exact (Below.refl _ _).alloc (Nat.le_refl _) _
  have hsz : WL.heap.size = w.heap.size + 1 := by rw [← hWL]; simp
  have hap : Ap w z [] (.slice none 0 0) none WL := ⟨hbL, by rw [← hWL, ← hz]; exact Blk.new _ _ _, Sl.nil _ _ _, (fun k e => by cases e), by omega⟩
  have hgv := vals_gives 5 (by omega) Bm b S hS WL (Nat.lt_of_lt_of_le hBm hbL.size) ((hbL.cell (p := ⟨Bm, 0, none⟩) hBm).trans hm) (hv.below hbL)
  obtain ⟨i0, hi0, hz0, hz1, hz2⟩ := infoRec
  have HNW : Hid (∀ (W : World) (cs : Array Value) j u, cs.toList[j]? = some u → World.cell? (W.alloc (.cells cs 44)) (Addr.add ⟨W.heap.size, 0, none⟩ j) = some u) := Lib.hid fun W cs => World.news_of_block (cs := cs) (t := 44) (fr := (0, 0)) (heap_alloc_new W _)
  have HGV := Lib.hid hgv
  have HAP := Lib.hid hap
  have HSZ := Lib.hid hsz
  have HZ := Lib.hid hz
  have HL := Lib.hid hl
  rw [hz, hWL]
  clear hgv hap hsz hbL hWL hl hS hBm hm hv
  refine wpIn_gives rfl (by omega) (gf := 45) (lb := #[.pointer (some ⟨Bm, 0, none⟩)]) rfl trivial (enters_of Try.func45 (by kernel_rfl) rfl)
    HGV.out (Below.refl _ _) (fun _ => rfl) (fun h k => h.trans k) (fun W l o o' hl h1 h2 h3 => KeepsWalks.putObj _ h1 h3)
    (fun pre W => ∃ v gb, Ap w z pre v gb W) (fun _ _ _ => False)
    (fun x a' W => ∃ b, a' = { tmps := #[.slice none 0 0, .func (.func 45) #[] #[.pointer (some ⟨Bm, 0, none⟩)], .pointer (some ⟨z, 0, none⟩), undef, .slice none 0 0, .pointer (some ⟨b, 0, none⟩), .func (.func 45) #[] #[.pointer (some ⟨Bm, 0, none⟩)], rv4 x, undef, undef, undef, undef, undef], defers := [] } ∧ Blk W b #[.int .i64 x.off, .string ⟨x.key.toArray⟩, .string ⟨x.val.toArray⟩, .bool x.gone] 44)
    ?hI ?hIx (fun _ _ _ _ _ h _ _ => h) ?hAx ⟨_, _, HAP.out⟩ ?assign ?body ?done ?stop
  case hI =>
    rintro pre W W' row ⟨v, gb, hA⟩ hg hr
    exact ⟨v, gb, hA.turn hg (by rw [HSZ.out]; omega) hr⟩
  case hIx => intro c pre W W' row h _ _; exact h
  case hAx =>
    rintro a' x W W' row ⟨b, e, hb⟩ hg hr
    exact ⟨b, e, hb.same (turn_block hb rfl hg fun r e => (hr r e).2)⟩
  case assign =>
    rintro l pre x W K ⟨v, gb, hA⟩ hc hK
    have hb : Below W.heap.size W (W.alloc (.cells #[.int .i64 x.off, .string ⟨x.key.toArray⟩, .string ⟨x.val.toArray⟩, .bool x.gone] 44)) := (Below.refl _ _).alloc (Nat.le_refl _) _
    have HF := Lib.hid (hK { tmps := #[.slice none 0 0, .func (.func 45) #[] #[.pointer (some ⟨Bm, 0, none⟩)], .pointer (some ⟨z, 0, none⟩), undef, .slice none 0 0, .pointer (some ⟨W.heap.size, 0, none⟩), .func (.func 45) #[] #[.pointer (some ⟨Bm, 0, none⟩)], rv4 x, undef, undef, undef, undef, undef], defers := [] } _ ((KeepsOthers.alloc W _).from _) (KeepsWalks.alloc _ _) ⟨v, gb, hA.below hb⟩ hc ⟨W.heap.size, rfl, Blk.new _ _ _⟩)
    clear hA hc hK hb
    gi_wp2_with fail
    exact HF.out
  case body =>
    rintro l pre x a' W hl ⟨v, gb, hA⟩ hc ⟨b, rfl, hb⟩
    have hA2 := hA.row
    obtain ⟨va, vc, rfl⟩ := hA2.form
    obtain ⟨m, hm⟩ : ∃ m, pre.length = m := ⟨_, rfl⟩
    have hll := HL.out
    have HBY : Hid ((m + 1) * 48 ≤ 140737488355328) := Lib.hid (by omega)
    have H63 : Hid (m + 1 ≤ 9223372036854775807) := Lib.hid (by omega)
    rw [hm] at hA hA2
    have c0 : W.cell? ⟨z, 0, none⟩ = some (.slice va m vc) := hA.box.cell rfl
    have e0 : W.cell? ⟨b, 0, none⟩ = some (.int .i64 x.off) := hb.cell rfl
    have e1 : W.cell? ⟨b, 1, none⟩ = some (.string ⟨x.key.toArray⟩) := hb.cell rfl
    have e2 : W.cell? ⟨b, 2, none⟩ = some (.string ⟨x.val.toArray⟩) := hb.cell rfl
    have e3 : W.cell? ⟨b, 3, none⟩ = some (.bool x.gone) := hb.cell rfl
    have HSL : ∀ o, Hid (Sl (W.alloc o) (.slice va m vc) gb 44 4 m (pre.flatMap cells4)) := fun o => Lib.hid (hA2.same fun k hk => Below.heap_alloc _ _ _ (hA2.lt k hk))
    have HA := Lib.hid hA
    have HM := Lib.hid hm
    obtain ⟨off, key, val, gone⟩ := x
    simp only at e0 e1 e2 e3
    clear hA hA2 hc hb hll hm
    gi_wp2_with (gi_at_builtin; refine wpListIn_append_sl (by rfl) _ _ _ (by rfl) 44 i0 (.agg zeroR) 4 48 Try.underlying30 hi0 hz0 hz1 hz2 rfl (.slice va m vc) gb m (pre.flatMap cells4) (by rfl) (HSL _).out ⟨W.heap.size, 0, none⟩ 1 1 [.int .i64 off, .string ⟨key.toArray⟩, .string ⟨val.toArray⟩, .bool gone] (by rfl) (by rfl) (HNW.out W #[.int .i64 off, .string ⟨key.toArray⟩, .string ⟨val.toArray⟩, .bool gone]) (by simp [Value.oneCell']) (by decide) HBY.out H63.out ?_)
    intro g9 q9 cap9 w9 gb9 hs9 hg9 hgb9 hn9
    obtain ⟨hA9, k0, z0⟩ := HA.out.more (x := ⟨off, key, val, gone⟩) (by rw [HM.out]; exact hs9) _ hg9 hgb9 (by rw [World.size_alloc]; exact hn9)
    have hko : KeepsOthers W (w9.setCell ⟨z, 0, none⟩ (.slice (some ⟨g9, q9, none⟩) (m + 1) cap9)) := ((KeepsOthers.alloc W _).trans (KeepsOthers.of_grownBy hg9 fun j o hj ho => by
      obtain ⟨o', ho', hc'⟩ := (HSL _).out.cells hj
      rw [ho] at ho'
      cases ho'
      exact hc')).trans (KeepsOthers.setCell _ _ _)
    have hkw : KeepsWalks W (w9.setCell ⟨z, 0, none⟩ (.slice (some ⟨g9, q9, none⟩) (m + 1) cap9)) := ((KeepsWalks.alloc W _).trans (KeepsWalks.of_grownBy hg9 fun j o hj ho => by
      obtain ⟨o', ho', hc'⟩ := (HSL _).out.cells hj
      rw [ho] at ho'
      cases ho'
      cases o <;> first | rfl | cases hc')).trans (KeepsWalks.setCell _ _ _)
    have HF := Lib.hid (And.intro (hko.from WL.heap.size) (And.intro hkw hA9))
    clear hs9 hg9 hgb9 hn9 hA9 hko hkw
    gi_wp2_with fail
    exact ⟨HF.out.1, HF.out.2.1, _, _, HF.out.2.2⟩
  case done =>
    rintro D xs W hD hS ⟨v, gb, hA⟩ hK
    have hA2 := hA.row
    obtain ⟨va, vc, rfl⟩ := hA2.form
    have c0 : W.cell? ⟨z, 0, none⟩ = some (.slice va xs.length vc) := hA.box.cell rfl
    have HA := Lib.hid hA
    have HK := Lib.hid hK
    have HD := Lib.hid hD
    have HS := Lib.hid hS
    obtain ⟨m, hm⟩ : ∃ m, xs.length = m := ⟨_, rfl⟩
    have HM := Lib.hid hm
    rw [hm] at c0
    clear hA hA2 hK hD hS hm
    gi_wp2_with fail
    refine ⟨by simp, .inl ⟨_, _, rfl, run_takeDeferred HK.out, ?_⟩⟩
    have hA3 := HA.out.turn (grownBy_putObj' W D (.deferred none)) (B := WL.heap.size) (by rw [HSZ.out]; omega) (fun r e => by cases e; exact ⟨HD.out, _, HK.out, rfl⟩)
    refine ⟨_, ?_, _, _, xs, rfl, HS.out, ⟨hA3.row, fun b hb => (hA3.gbl b hb).1⟩, hA3.low⟩
    rw [HM.out]
    simp [results, Try.f52, go_sem]
  case stop =>
    rintro D c pre W _ _ hF _
    exact hF.elim

set_option maxHeartbeats 1000000 in
theorem collect_any (Bm b : Nat) (S : List Pl.Rc) (hS : Wd.Srt S) (hl : S.length ≤ 1048576) (w : World) (hBm : Bm < w.heap.size) (hm : w.cell? ⟨Bm, 0, none⟩ = some (.map (some b))) (hv : VMap w b S) :
    Calls Try.prog 43 #[.func (.func 45) #[] #[.pointer (some ⟨Bm, 0, none⟩)]] w (CollOut w S) := by
  have HA := Lib.hid (appendSeq_any Bm b S hS hl w hBm hm hv)
  clear hS hl hBm hm hv
  go_enter Try.func43, Try.ntmps43
  go_wp2_with fail
  refine HA.out.mono ?_
  rintro e w' ⟨v, gb, xs, rfl, h1, h2, h3⟩
  go_wp2_with fail
  go_ret
  exact ⟨v, gb, xs, rfl, h1, h2, h3⟩
end Go.Proofs.Ytfapigccdbpepaa
