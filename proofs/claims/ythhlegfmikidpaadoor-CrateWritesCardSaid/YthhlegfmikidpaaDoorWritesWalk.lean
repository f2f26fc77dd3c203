/- The walk of the law CrateWrites. -/
import Derived.Test.YthhlegfmikidpaaDoorSameWalk
import Derived.Test.YthhlegfmikidpaaDoorCSame
namespace Go.Proofs.YthhlegfmikidpaaDoor
open Go.RowKit

set_option maxHeartbeats 4000000 in
set_option maxRecDepth 100000 in
theorem writes_any (a b : Pl.Bt) (va vb : Value) (w : World) (lb : Lb w) (ha : Come a va w) (hb : Come b vb w) :
    Calls Tryd.prog 3 #[.agg #[.int .i64 a.base, .int .i64 a.count, .int .i64 a.prod, .int .i64 a.seq, .int .i64 a.time, va], .agg #[.int .i64 b.base, .int .i64 b.count, .int .i64 b.prod, .int .i64 b.seq, .int .i64 b.time, vb]] w fun e w' => e = .returned (.bool true) ∧ Below w.heap.size w w' := by
  obtain ⟨xa, pa, rfl⟩ := ha.slice
  obtain ⟨xb, pb, rfl⟩ := hb.slice
  have GA := Lib.hid (Got.mk ha)
  have GB := Lib.hid (Got.mk hb)
  have HLB := Lib.hid lb
  have h0 := pa2 w (cellsB a (.slice xa a.recs.length pa)) (cellsB b (.slice xb b.recs.length pb))
  obtain ⟨W0, hW0⟩ : ∃ W0, ((w.alloc (.cells (cellsB a (.slice xa a.recs.length pa)) 24)).alloc (.cells (cellsB b (.slice xb b.recs.length pb)) 24)) = W0 := ⟨_, rfl⟩
  rw [hW0] at h0
  unfold cellsB at hW0 h0
  have H0 := Lib.hid h0
  have HE := Lib.hid hW0
  clear h0 hW0 ha hb lb
  go_enter Tryd.func3, Tryd.ntmps3
  go_wp2_with fail
  rw [HE.out]
  refine (awake_any W0 (H0.out.lb HLB.out)).mono ?_
  rintro e w1 ⟨rfl, b1⟩
  have H1 := Lib.hid (H0.out.below b1)
  clear b1 H0 HE
  have a5 := H1.out.cell (k := 0) (i := 5) rfl rfl
  go_wp2_with fail
  have C := GA.out.great H1.out.low
  cases hga : greatB a.recs with
  | true =>
    rw [hga] at C
    refine C.mono ?_
    rintro e w2 ⟨rfl, b2⟩
    have H2 := Lib.hid (H1.out.below b2)
    clear b2 C
    go_wp2_with fail
    go_ret
    exact ⟨rfl, H2.out.low⟩
  | false =>
    rw [hga] at C
    have la := great_few hga
    refine C.mono ?_
    clear C hga
    rintro e w2 ⟨rfl, b2⟩
    have H2 := Lib.hid (H1.out.below b2)
    clear b2 a5 H1
    have b5 := H2.out.cell (k := 1) (i := 5) rfl rfl
    have C := GB.out.great H2.out.low
    cases hgb : greatB b.recs with
    | true =>
      rw [hgb] at C
      have HC := Lib.hid C
      clear C
      go_wp2_with fail
      refine HC.out.mono ?_
      rintro e w3 ⟨rfl, b3⟩
      have H3 := Lib.hid (H2.out.below b3)
      clear b3
      go_wp2_with fail
      go_ret
      exact ⟨rfl, H3.out.low⟩
    | false =>
      rw [hgb] at C
      have lb := great_few hgb
      have HC := Lib.hid C
      clear C hgb
      go_wp2_with fail
      refine HC.out.mono ?_
      rintro e w3 ⟨rfl, b3⟩
      have H3 := Lib.hid (H2.out.below b3)
      clear b3 b5 H2 HC
      have a0 := H3.out.cell (k := 0) (i := 0) rfl rfl
      have a1 := H3.out.cell (k := 0) (i := 1) rfl rfl
      have a2 := H3.out.cell (k := 0) (i := 2) rfl rfl
      have a3 := H3.out.cell (k := 0) (i := 3) rfl rfl
      have a4 := H3.out.cell (k := 0) (i := 4) rfl rfl
      have a5 := H3.out.cell (k := 0) (i := 5) rfl rfl
      have CA := dencode a (.slice xa a.recs.length pa) w3 (H3.out.lb HLB.out) (GA.out.come.recs.below H3.out.low) (by omega)
      have CR := fun wx (hx : Below w.heap.size w wx) => rencode a (.slice xa a.recs.length pa) wx (GA.out.come.recs.below hx) (by omega) GA.out.come.i1 GA.out.come.i0
      obtain ⟨Y, f, hYf⟩ : ∃ (Y : ByteArray) (f : Int), (if Pl.goodB a = true then Ending.returned (.tuple #[.string ⟨(Pl.enc a).toArray⟩, .int .i64 0]) else .returned (.tuple #[.string ⟨#[]⟩, .int .i64 1])) = .returned (.tuple #[.string Y, .int .i64 f]) := by
        split
        · exact ⟨_, _, rfl⟩
        · exact ⟨_, _, rfl⟩
      rw [hYf] at CA CR
      have HCA := Lib.hid CA
      have HCR := Lib.hid CR
      clear CA CR hYf
      go_wp2_with fail
      refine HCA.out.mono ?_
      rintro e w4 ⟨rfl, b4'⟩
      have H4 := Lib.hid (H3.out.below b4')
      clear b4' HCA H3 a0 a1 a2 a3 a4 a5
      have a0 := H4.out.cell (k := 0) (i := 0) rfl rfl
      have a1 := H4.out.cell (k := 0) (i := 1) rfl rfl
      have a2 := H4.out.cell (k := 0) (i := 2) rfl rfl
      have a3 := H4.out.cell (k := 0) (i := 3) rfl rfl
      have a4 := H4.out.cell (k := 0) (i := 4) rfl rfl
      have a5 := H4.out.cell (k := 0) (i := 5) rfl rfl
      go_wp2_with fail
      refine (HCR.out _ H4.out.low).mono ?_
      rintro e w5 ⟨rfl, b5'⟩
      have H5 := Lib.hid (H4.out.below b5')
      clear b5' HCR H4 a0 a1 a2 a3 a4 a5
      have a0 := cell_regrown (H5.out.cell (k := 0) (i := 0) rfl rfl)
      have a1 := cell_regrown (H5.out.cell (k := 0) (i := 1) rfl rfl)
      have a2 := cell_regrown (H5.out.cell (k := 0) (i := 2) rfl rfl)
      have a3 := cell_regrown (H5.out.cell (k := 0) (i := 3) rfl rfl)
      have a4 := cell_regrown (H5.out.cell (k := 0) (i := 4) rfl rfl)
      have a5 := cell_regrown (H5.out.cell (k := 0) (i := 5) rfl rfl)
      have b0 := cell_regrown (H5.out.cell (k := 1) (i := 0) rfl rfl)
      have b1 := cell_regrown (H5.out.cell (k := 1) (i := 1) rfl rfl)
      have b2 := cell_regrown (H5.out.cell (k := 1) (i := 2) rfl rfl)
      have b3 := cell_regrown (H5.out.cell (k := 1) (i := 3) rfl rfl)
      have b4 := cell_regrown (H5.out.cell (k := 1) (i := 4) rfl rfl)
      have b5 := cell_regrown (H5.out.cell (k := 1) (i := 5) rfl rfl)
      have hw : ∀ d os, Below w.heap.size w (Sort.grow (redrawn w5 d) os) := fun d os => H5.out.low.trans ((below_regrown w5 d os).mono H5.out.low.size)
      have hlb : ∀ d os, Lb (Sort.grow (redrawn w5 d) os) := fun d os => HLB.out.below HLB.out.size (hw d os)
      obtain ⟨g, hg⟩ : ∃ g, Pl.goodB a = g := ⟨_, rfl⟩
      obtain ⟨fi, hfi⟩ : ∃ g, Pl.fitsB a.recs = g := ⟨_, rfl⟩
      obtain ⟨sm, hsm⟩ : ∃ g, Pl.sameB a b = g := ⟨_, rfl⟩
      have C1 : ∀ d os, _ := fun d os => Calls.regrown_of (dgood a.base a.count a.prod a.seq a.time a.recs (.slice xa a.recs.length pa) _ (hlb d os) (GA.out.come.recs.below (hw d os)) (by omega))
      have C2 : ∀ d os, _ := fun d os => Calls.regrown_of (rgood a.base a.count a.prod a.seq a.time a.recs (.slice xa a.recs.length pa) _ (GA.out.come.recs.below (hw d os)) (by omega) GA.out.come.i1 GA.out.come.i0)
      have C3 : ∀ d os, _ := fun d os => Calls.regrown_of (dfits (.slice xa a.recs.length pa) a.recs _ (GA.out.come.recs.below (hw d os)) (by omega))
      have C4 : ∀ d os, _ := fun d os => Calls.regrown_of (rfits (.slice xa a.recs.length pa) a.recs _ (GA.out.come.recs.below (hw d os)) (by omega))
      have C5 : ∀ d os, _ := fun d os => Calls.regrown_of (GA.out.same GB.out la lb (hw d os))
      have C6 : ∀ d os, _ := fun d os => Calls.regrown_of (rsame a.base a.count a.prod a.seq a.time b.base b.count b.prod b.seq b.time a.recs b.recs (.slice xa a.recs.length pa) (.slice xb b.recs.length pb) _ (GA.out.come.recs.below (hw d os)) (GB.out.come.recs.below (hw d os)) (by omega) (by omega))
      rw [show Pl.goodB ⟨a.base, a.count, a.prod, a.seq, a.time, a.recs⟩ = g from hg] at C1 C2
      rw [hfi] at C3 C4
      rw [hsm] at C5
      rw [show Pl.sameB ⟨a.base, a.count, a.prod, a.seq, a.time, a.recs⟩ ⟨b.base, b.count, b.prod, b.seq, b.time, b.recs⟩ = sm from hsm] at C6
      have HC1 := Lib.hid C1
      have HC2 := Lib.hid C2
      have HC3 := Lib.hid C3
      have HC4 := Lib.hid C4
      have HC5 := Lib.hid C5
      have HC6 := Lib.hid C6
      have n1 : (g == g) = true := by simp
      have n2 : (fi == fi) = true := by simp
      have n3 : (sm == sm) = true := by simp
      have n4 : (Y.toList == Y.toList) = true := by simp
      have n5 : (f == f) = true := by simp
      clear C1 C2 C3 C4 C5 C6 hw hlb hg hfi hsm
      go_wp2_with fail
      refine wp_region_quiet_below (by kernel_rfl) (by kernel_rfl) ?_
      repeat (go_big_quiet_step (first | (go_at_call 15; with_reducible exact HC1.out _ _) | (go_at_call 16; with_reducible exact HC2.out _ _) | (go_at_call 17; with_reducible exact HC3.out _ _) | (go_at_call 18; with_reducible exact HC4.out _ _) | (go_at_call 19; with_reducible exact HC5.out _ _) | (go_at_call 20; with_reducible exact HC6.out _ _)))
      refine wpQuiet_nil ?_
      intro w6 hw6
      obtain ⟨⟨dq, osq⟩, hw6'⟩ := hw6
      have h6 := H5.out.below (below_regrown w5 dq osq)
      go_wp2_with fail
      go_ret
      exact ⟨rfl, h6.low⟩
end Go.Proofs.YthhlegfmikidpaaDoor
