/- The walk of the law CrateSame. -/
import Derived.Test.YthhlegfmikidpaaDoorPa
namespace Go.Proofs.YthhlegfmikidpaaDoor
open Go.RowKit

/-- What is known of a batch that came in, whenever it is asked. -/
structure Got (w : World) (b : Pl.Bt) (x : Option Addr) (cap : Nat) : Prop where
  come : Come b (.slice x b.recs.length cap) w
theorem Got.great {w W : World} {b : Pl.Bt} {x : Option Addr} {cap : Nat} (h : Got w b x cap) (hw : Below w.heap.size w W) :
    Calls Tryd.prog 12 #[.slice x b.recs.length cap] W fun e w' => e = .returned (.bool (greatB b.recs)) ∧ Below W.heap.size W w' :=
  great_any _ b.recs W (h.come.recs.below hw) h.come.len h.come.keys
theorem Got.same {w W : World} {a b : Pl.Bt} {x y : Option Addr} {p q : Nat} (h : Got w a x p) (k : Got w b y q) (ha : a.recs.length ≤ 40) (hb : b.recs.length ≤ 40) (hw : Below w.heap.size w W) :
    Calls Tryd.prog 19 #[.agg #[.int .i64 a.base, .int .i64 a.count, .int .i64 a.prod, .int .i64 a.seq, .int .i64 a.time, .slice x a.recs.length p], .agg #[.int .i64 b.base, .int .i64 b.count, .int .i64 b.prod, .int .i64 b.seq, .int .i64 b.time, .slice y b.recs.length q]] W fun e w' => e = .returned (.bool (Pl.sameB a b)) ∧ Below W.heap.size W w' :=
  dsame a b _ _ W (h.come.recs.below hw) (k.come.recs.below hw) (by omega) (by omega)

set_option maxHeartbeats 4000000 in
set_option maxRecDepth 100000 in
theorem same_any (a b c : Pl.Bt) (va vb vc : Value) (w : World) (lb : Lb w) (ha : Come a va w) (hb : Come b vb w) (hc : Come c vc w) (hsh : va = .slice none 0 0 ∨ ∃ ad m cap, va = .slice (some ad) m cap) :
    Calls Tryd.prog 9 #[.agg #[.int .i64 a.base, .int .i64 a.count, .int .i64 a.prod, .int .i64 a.seq, .int .i64 a.time, va], .agg #[.int .i64 b.base, .int .i64 b.count, .int .i64 b.prod, .int .i64 b.seq, .int .i64 b.time, vb], .agg #[.int .i64 c.base, .int .i64 c.count, .int .i64 c.prod, .int .i64 c.seq, .int .i64 c.time, vc]] w fun e w' => e = .returned (.bool true) ∧ Below w.heap.size w w' := by
  obtain ⟨xa, pa, rfl⟩ := ha.slice
  obtain ⟨xb, pb, rfl⟩ := hb.slice
  obtain ⟨xc, pc, rfl⟩ := hc.slice
  have GA := Lib.hid (Got.mk ha)
  have GB := Lib.hid (Got.mk hb)
  have GC := Lib.hid (Got.mk hc)
  have HLB := Lib.hid lb
  have HSH := Lib.hid hsh
  have h0 := pa3 w (cellsB a (.slice xa a.recs.length pa)) (cellsB b (.slice xb b.recs.length pb)) (cellsB c (.slice xc c.recs.length pc))
  obtain ⟨W0, hW0⟩ : ∃ W0, (((w.alloc (.cells (cellsB a (.slice xa a.recs.length pa)) 24)).alloc (.cells (cellsB b (.slice xb b.recs.length pb)) 24)).alloc (.cells (cellsB c (.slice xc c.recs.length pc)) 24)) = W0 := ⟨_, rfl⟩
  rw [hW0] at h0
  unfold cellsB at hW0 h0
  have H0 := Lib.hid h0
  have HE := Lib.hid hW0
  clear h0 hW0 ha hb hc lb hsh
  go_enter Tryd.func9, Tryd.ntmps9
  go_wp2_with fail
  rw [HE.out]
  refine (awake_any W0 (H0.out.lb HLB.out)).mono ?_
  rintro e w1 ⟨rfl, b1⟩
  have H1 := Lib.hid (H0.out.below b1)
  clear b1 H0 HE
  have a5 := H1.out.cell (k := 0) (i := 5) rfl rfl
  go_wp2_with fail
  have C := GA.out.great H1.out.low
  cases hga : greatB a.recs with
  | true =>
    rw [hga] at C
    refine C.mono ?_
    rintro e w2 ⟨rfl, b2⟩
    have H2 := Lib.hid (H1.out.below b2)
    clear b2 C
    go_wp2_with fail
    go_ret
    exact ⟨rfl, H2.out.low⟩
  | false =>
    rw [hga] at C
    have la := great_few hga
    refine C.mono ?_
    clear C hga
    rintro e w2 ⟨rfl, b2⟩
    have H2 := Lib.hid (H1.out.below b2)
    clear b2 a5 H1
    have b5 := H2.out.cell (k := 1) (i := 5) rfl rfl
    have C := GB.out.great H2.out.low
    cases hgb : greatB b.recs with
    | true =>
      rw [hgb] at C
      have HC := Lib.hid C
      clear C
      go_wp2_with fail
      refine HC.out.mono ?_
      rintro e w3 ⟨rfl, b3⟩
      have H3 := Lib.hid (H2.out.below b3)
      clear b3
      go_wp2_with fail
      go_ret
      exact ⟨rfl, H3.out.low⟩
    | false =>
      rw [hgb] at C
      have lb := great_few hgb
      have HC := Lib.hid C
      clear C hgb
      go_wp2_with fail
      refine HC.out.mono ?_
      rintro e w3 ⟨rfl, b3⟩
      have H3 := Lib.hid (H2.out.below b3)
      clear b3 b5 H2 HC
      have c5 := H3.out.cell (k := 2) (i := 5) rfl rfl
      have C := GC.out.great H3.out.low
      cases hgc : greatB c.recs with
      | true =>
        rw [hgc] at C
        have HC := Lib.hid C
        clear C
        go_wp2_with fail
        refine HC.out.mono ?_
        rintro e w4 ⟨rfl, b4⟩
        have H4 := Lib.hid (H3.out.below b4)
        clear b4
        go_wp2_with fail
        go_ret
        exact ⟨rfl, H4.out.low⟩
      | false =>
        rw [hgc] at C
        have lc := great_few hgc
        have HC := Lib.hid C
        clear C hgc
        go_wp2_with fail
        refine HC.out.mono ?_
        rintro e w4 ⟨rfl, b4⟩
        have H4 := Lib.hid (H3.out.below b4)
        clear b4 c5 H3 HC
        have a0 := cell_regrown (H4.out.cell (k := 0) (i := 0) rfl rfl)
        have a1 := cell_regrown (H4.out.cell (k := 0) (i := 1) rfl rfl)
        have a2 := cell_regrown (H4.out.cell (k := 0) (i := 2) rfl rfl)
        have a3 := cell_regrown (H4.out.cell (k := 0) (i := 3) rfl rfl)
        have a4 := cell_regrown (H4.out.cell (k := 0) (i := 4) rfl rfl)
        have a5 := cell_regrown (H4.out.cell (k := 0) (i := 5) rfl rfl)
        have b0 := cell_regrown (H4.out.cell (k := 1) (i := 0) rfl rfl)
        have b1 := cell_regrown (H4.out.cell (k := 1) (i := 1) rfl rfl)
        have b2 := cell_regrown (H4.out.cell (k := 1) (i := 2) rfl rfl)
        have b3 := cell_regrown (H4.out.cell (k := 1) (i := 3) rfl rfl)
        have b4 := cell_regrown (H4.out.cell (k := 1) (i := 4) rfl rfl)
        have b5 := cell_regrown (H4.out.cell (k := 1) (i := 5) rfl rfl)
        have c0 := cell_regrown (H4.out.cell (k := 2) (i := 0) rfl rfl)
        have c1 := cell_regrown (H4.out.cell (k := 2) (i := 1) rfl rfl)
        have c2 := cell_regrown (H4.out.cell (k := 2) (i := 2) rfl rfl)
        have c3 := cell_regrown (H4.out.cell (k := 2) (i := 3) rfl rfl)
        have c4 := cell_regrown (H4.out.cell (k := 2) (i := 4) rfl rfl)
        have c5 := cell_regrown (H4.out.cell (k := 2) (i := 5) rfl rfl)
        have Caa : ∀ d os, _ := fun d os => Calls.regrown_of (GA.out.same GA.out la la (H4.out.low.trans ((below_regrown w4 d os).mono H4.out.low.size)))
        have Cab : ∀ d os, _ := fun d os => Calls.regrown_of (GA.out.same GB.out la lb (H4.out.low.trans ((below_regrown w4 d os).mono H4.out.low.size)))
        have Cba : ∀ d os, _ := fun d os => Calls.regrown_of (GB.out.same GA.out lb la (H4.out.low.trans ((below_regrown w4 d os).mono H4.out.low.size)))
        have Cbc : ∀ d os, _ := fun d os => Calls.regrown_of (GB.out.same GC.out lb lc (H4.out.low.trans ((below_regrown w4 d os).mono H4.out.low.size)))
        have Cac : ∀ d os, _ := fun d os => Calls.regrown_of (GA.out.same GC.out la lc (H4.out.low.trans ((below_regrown w4 d os).mono H4.out.low.size)))
        rw [show Pl.sameB a a = true from Pl.sameB_iff.2 rfl] at Caa
        have hsym : Pl.sameB b a = Pl.sameB a b := by
          rw [Bool.eq_iff_iff, Pl.sameB_iff, Pl.sameB_iff]
          exact eq_comm
        rw [hsym] at Cba
        have htr : Pl.sameB a b = true → Pl.sameB b c = true → Pl.sameB a c = true := fun h1 h2 => Pl.sameB_iff.2 ((Pl.sameB_iff.1 h1).trans (Pl.sameB_iff.1 h2))
        have HTR := Lib.hid htr
        have HAA := Lib.hid Caa
        clear hsym htr Caa
        cases hab : Pl.sameB a b with
        | false =>
          rw [hab] at Cab Cba
          have HAB := Lib.hid Cab
          have HBA := Lib.hid Cba
          clear Cab Cba Cbc Cac hab HTR
          go_wp2_with fail
          refine wp_region_quiet_below (by kernel_rfl) (by kernel_rfl) ?_
          repeat (go_big_quiet_step (first | (go_at_call 19; with_reducible exact HAA.out _ _) | (go_at_call 19; with_reducible exact HAB.out _ _) | (go_at_call 19; with_reducible exact HBA.out _ _)))
          refine wpQuiet_nil ?_
          intro w5 hw5
          obtain ⟨⟨dq, osq⟩, hw5'⟩ := hw5
          have h5 := H4.out.below (below_regrown w4 dq osq)
          rw [← hw5'] at h5
          have H5 := Lib.hid h5
          clear h5 hw5' HAA HAB HBA a0 a1 a2 a3 a4 a5 b0 b1 b2 b3 b4 b5 c0 c1 c2 c3 c4 c5
          have a0 := H5.out.cell (k := 0) (i := 0) rfl rfl
          have a1 := H5.out.cell (k := 0) (i := 1) rfl rfl
          have a2 := H5.out.cell (k := 0) (i := 2) rfl rfl
          have a3 := H5.out.cell (k := 0) (i := 3) rfl rfl
          have a4 := H5.out.cell (k := 0) (i := 4) rfl rfl
          have a5 := H5.out.cell (k := 0) (i := 5) rfl rfl
          have h6 := H5.out.more #[.int .i64 a.base, .int .i64 a.count, .int .i64 a.prod, .int .i64 (bits BinOp.xor IntKind.i64 a.seq 1), .int .i64 a.time, .slice xa a.recs.length pa]
          have h7 := h6.more #[.int .i64 a.base, .int .i64 a.count, .int .i64 a.prod, .int .i64 a.seq, .int .i64 a.time, .slice xa a.recs.length pa]
          rw [show (w5.alloc (.cells #[.int .i64 a.base, .int .i64 a.count, .int .i64 a.prod, .int .i64 (bits BinOp.xor IntKind.i64 a.seq 1), .int .i64 a.time, .slice xa a.recs.length pa] 24)).heap.size = w5.heap.size + 1 by simp] at h7
          have hal : Below ((w5.alloc (.cells #[.int .i64 a.base, .int .i64 a.count, .int .i64 a.prod, .int .i64 (bits BinOp.xor IntKind.i64 a.seq 1), .int .i64 a.time, .slice xa a.recs.length pa] 24)).alloc (.cells #[.int .i64 a.base, .int .i64 a.count, .int .i64 a.prod, .int .i64 a.seq, .int .i64 a.time, .slice xa a.recs.length pa] 24)).heap.size ((w5.alloc (.cells #[.int .i64 a.base, .int .i64 a.count, .int .i64 a.prod, .int .i64 (bits BinOp.xor IntKind.i64 a.seq 1), .int .i64 a.time, .slice xa a.recs.length pa] 24)).alloc (.cells #[.int .i64 a.base, .int .i64 a.count, .int .i64 a.prod, .int .i64 a.seq, .int .i64 a.time, .slice xa a.recs.length pa] 24)) (((w5.alloc (.cells #[.int .i64 a.base, .int .i64 a.count, .int .i64 a.prod, .int .i64 (bits BinOp.xor IntKind.i64 a.seq 1), .int .i64 a.time, .slice xa a.recs.length pa] 24)).alloc (.cells #[.int .i64 a.base, .int .i64 a.count, .int .i64 a.prod, .int .i64 a.seq, .int .i64 a.time, .slice xa a.recs.length pa] 24)).alloc (.cells #[] 41)) := (Below.refl _ _).alloc (Nat.le_refl _) _
          have hb8 := Blk.new ((w5.alloc (.cells #[.int .i64 a.base, .int .i64 a.count, .int .i64 a.prod, .int .i64 (bits BinOp.xor IntKind.i64 a.seq 1), .int .i64 a.time, .slice xa a.recs.length pa] 24)).alloc (.cells #[.int .i64 a.base, .int .i64 a.count, .int .i64 a.prod, .int .i64 a.seq, .int .i64 a.time, .slice xa a.recs.length pa] 24)) #[] 41
          have es7 : ((w5.alloc (.cells #[.int .i64 a.base, .int .i64 a.count, .int .i64 a.prod, .int .i64 (bits BinOp.xor IntKind.i64 a.seq 1), .int .i64 a.time, .slice xa a.recs.length pa] 24)).alloc (.cells #[.int .i64 a.base, .int .i64 a.count, .int .i64 a.prod, .int .i64 a.seq, .int .i64 a.time, .slice xa a.recs.length pa] 24)).heap.size = w5.heap.size + 1 + 1 := by simp
          rw [es7] at hb8
          have hlt7 := h7.lt
          rw [es7] at hlt7
          have H6 := Lib.hid h6
          have H8 := Lib.hid (h7.below hal)
          have HB8 := Lib.hid hb8
          have HLT := Lib.hid hlt7
          have HSR := Lib.hid (rsrc_of (GA.out.come.recs.below H8.out.low) HSH.out)
          have HZ8 : Hid (w5.heap.size + 1 + 1 ≤ (((w5.alloc (.cells #[.int .i64 a.base, .int .i64 a.count, .int .i64 a.prod, .int .i64 (bits BinOp.xor IntKind.i64 a.seq 1), .int .i64 a.time, .slice xa a.recs.length pa] 24)).alloc (.cells #[.int .i64 a.base, .int .i64 a.count, .int .i64 a.prod, .int .i64 a.seq, .int .i64 a.time, .slice xa a.recs.length pa] 24)).alloc (.cells #[] 41)).heap.size) := by show _ ≤ _; simp
          have HZ0 : Hid (w.heap.size ≤ w5.heap.size + 1 + 1) := by have := H5.out.low.size; show _ ≤ _; omega
          clear h6 h7 hal hb8 es7 hlt7
          have e0 : World.cell? (w5.alloc (.cells #[.int .i64 a.base, .int .i64 a.count, .int .i64 a.prod, .int .i64 (bits BinOp.xor IntKind.i64 a.seq 1), .int .i64 a.time, .slice xa a.recs.length pa] 24)) ⟨w.heap.size, 0, none⟩ = _ := H6.out.cell (k := 0) (i := 0) rfl rfl
          have e1 : World.cell? (w5.alloc (.cells #[.int .i64 a.base, .int .i64 a.count, .int .i64 a.prod, .int .i64 (bits BinOp.xor IntKind.i64 a.seq 1), .int .i64 a.time, .slice xa a.recs.length pa] 24)) ⟨w.heap.size, 1, none⟩ = _ := H6.out.cell (k := 0) (i := 1) rfl rfl
          have e2 : World.cell? (w5.alloc (.cells #[.int .i64 a.base, .int .i64 a.count, .int .i64 a.prod, .int .i64 (bits BinOp.xor IntKind.i64 a.seq 1), .int .i64 a.time, .slice xa a.recs.length pa] 24)) ⟨w.heap.size, 2, none⟩ = _ := H6.out.cell (k := 0) (i := 2) rfl rfl
          have e3 : World.cell? (w5.alloc (.cells #[.int .i64 a.base, .int .i64 a.count, .int .i64 a.prod, .int .i64 (bits BinOp.xor IntKind.i64 a.seq 1), .int .i64 a.time, .slice xa a.recs.length pa] 24)) ⟨w.heap.size, 3, none⟩ = _ := H6.out.cell (k := 0) (i := 3) rfl rfl
          have e4 : World.cell? (w5.alloc (.cells #[.int .i64 a.base, .int .i64 a.count, .int .i64 a.prod, .int .i64 (bits BinOp.xor IntKind.i64 a.seq 1), .int .i64 a.time, .slice xa a.recs.length pa] 24)) ⟨w.heap.size, 4, none⟩ = _ := H6.out.cell (k := 0) (i := 4) rfl rfl
          have e5 : World.cell? (w5.alloc (.cells #[.int .i64 a.base, .int .i64 a.count, .int .i64 a.prod, .int .i64 (bits BinOp.xor IntKind.i64 a.seq 1), .int .i64 a.time, .slice xa a.recs.length pa] 24)) ⟨w.heap.size, 5, none⟩ = _ := H6.out.cell (k := 0) (i := 5) rfl rfl
          have f5 : World.cell? (((w5.alloc (.cells #[.int .i64 a.base, .int .i64 a.count, .int .i64 a.prod, .int .i64 (bits BinOp.xor IntKind.i64 a.seq 1), .int .i64 a.time, .slice xa a.recs.length pa] 24)).alloc (.cells #[.int .i64 a.base, .int .i64 a.count, .int .i64 a.prod, .int .i64 a.seq, .int .i64 a.time, .slice xa a.recs.length pa] 24)).alloc (.cells #[] 41)) ⟨w.heap.size, 5, none⟩ = _ := H8.out.cell (k := 0) (i := 5) rfl rfl
          go_wp2_with (at_builtin; refine wpList_append_recs rfl _ _ rfl (w5.heap.size + 1 + 1) _ 0 [] rfl ⟨rfl, Or.inr ⟨w5.heap.size + 1 + 1, 0, #[], rfl, Nat.le_refl _, HB8.out, Nat.le_refl _, Nat.zero_le _, rfl, rfl⟩⟩ _ a.recs rfl HSR.out (by decide) (by omega) HZ8.out ?_)
          intro v9 w9 hown9 hgrow9
          have H9 := Lib.hid (H8.out.grown hgrow9 (fun k hk => by injection hk with hk; exact Nat.le_of_eq hk) HLT.out HZ0.out)
          have HO9 := Lib.hid (own_below hown9 ((Below.refl w9.heap.size w9).alloc (Nat.le_refl _) (.cells #[.int .i64 0, .string ⟨#[]⟩, .string ⟨#[]⟩, .bool false] 41)))
          have HZ9 : Hid (w5.heap.size + 1 + 1 ≤ (w9.alloc (.cells #[.int .i64 0, .string ⟨#[]⟩, .string ⟨#[]⟩, .bool false] 41)).heap.size) := by
            have h1 := hgrow9.size
            have h2 := HZ8.out
            show _ ≤ _
            simp at h1 h2 ⊢
            omega
          have HB9 := Lib.hid (Blk.new w9 #[.int .i64 0, .string ⟨#[]⟩, .string ⟨#[]⟩, .bool false] 41)
          have HA9 := Lib.hid (H9.out.below ((Below.refl w9.heap.size w9).alloc (Nat.le_refl _) (.cells #[.int .i64 0, .string ⟨#[]⟩, .string ⟨#[]⟩, .bool false] 41)))
          obtain ⟨i0, hi, hz0, hz1, hz2⟩ := infoRec
          clear hown9 hgrow9 e0 e1 e2 e3 e4 e5 f5 a0 a1 a2 a3 a4 a5 HSR HB8
          go_wp2_with (at_builtin; refine wpList_append_own _ rfl _ _ 22 rfl (w5.heap.size + 1 + 1) 41 i0 (.agg zeroR) 4 48 Tryd.underlying22 hi hz0 hz1 hz2 rfl (by decide) _ _ _ rfl HO9.out ⟨w9.heap.size, 0, none⟩ 1 1 (cells4 ⟨0, [], [], false⟩) rfl rfl ?c1 ?c2 ?c3 ?c4 ?c5 ?_)
          case c1 =>
            intro j u hj
            match j, hj with
            | 0, hj => obtain rfl := Option.some.inj hj; exact HB9.out.cell (i := 0) rfl
            | 1, hj => obtain rfl := Option.some.inj hj; exact HB9.out.cell (i := 1) rfl
            | 2, hj => obtain rfl := Option.some.inj hj; exact HB9.out.cell (i := 2) rfl
            | 3, hj => obtain rfl := Option.some.inj hj; exact HB9.out.cell (i := 3) rfl
            | j + 4, hj => simp [cells4] at hj
          case c2 =>
            intro u hu
            simp only [cells4, List.mem_cons, List.not_mem_nil, or_false] at hu
            rcases hu with rfl | rfl | rfl | rfl <;> rfl
          case c3 => unfold maxLen; omega
          case c4 => omega
          case c5 => exact HZ9.out
          intro v10 w10 hown10 hgrow10 _
          have H10 := Lib.hid (HA9.out.grown hgrow10 (fun k hk => (HO9.out.lt k hk).1) HLT.out HZ0.out)
          have HO10 : Hid (w10.ownsRow (w5.heap.size + 1 + 1) 41 4 v10 (a.recs ++ [(⟨0, [], [], false⟩ : Pl.Rc)]).length ((a.recs ++ [(⟨0, [], [], false⟩ : Pl.Rc)]).flatMap cells4) ) := by
            have e1 : (a.recs ++ [(⟨0, [], [], false⟩ : Pl.Rc)]).length = a.recs.length + 1 := by simp
            have e2 : (a.recs ++ [(⟨0, [], [], false⟩ : Pl.Rc)]).flatMap cells4 = a.recs.flatMap cells4 ++ cells4 ⟨0, [], [], false⟩ := by simp
            show World.ownsRow _ _ _ _ _ _ _
            rw [e1, e2]
            exact hown10
          clear hown10 hgrow10
          obtain ⟨ae, ce, rfl⟩ : ∃ ae ce, v10 = .slice ae (a.recs.length + 1) ce := by
            obtain ⟨g, cap, cur, rfl, -⟩ := own_slice HO10.out (by simp)
            exact ⟨some ⟨g, 0, none⟩, cap, by simp⟩
          have q5 := H10.out.cell (k := 4) (i := 5) rfl rfl
          have q6 := H10.out.free (k := 4) (i := 5) rfl
          have hka : Blk (w10.setCell ⟨w5.heap.size + 1, 5, none⟩ (.slice ae (a.recs.length + 1) ce)) w.heap.size #[.int .i64 a.base, .int .i64 a.count, .int .i64 a.prod, .int .i64 a.seq, .int .i64 a.time, .slice xa a.recs.length pa] 24 := (H10.out.blk 0 _ _ rfl).2.setOther _ (by have := HZ0.out; have := H5.out.low.size; omega)
          have hkd : Blk (w10.setCell ⟨w5.heap.size + 1, 5, none⟩ (.slice ae (a.recs.length + 1) ce)) w5.heap.size #[.int .i64 a.base, .int .i64 a.count, .int .i64 a.prod, .int .i64 (bits BinOp.xor IntKind.i64 a.seq 1), .int .i64 a.time, .slice xa a.recs.length pa] 24 := (H10.out.blk 3 _ _ rfl).2.setOther _ (by omega)
          have hke : Blk (w10.setCell ⟨w5.heap.size + 1, 5, none⟩ (.slice ae (a.recs.length + 1) ce)) (w5.heap.size + 1) #[.int .i64 a.base, .int .i64 a.count, .int .i64 a.prod, .int .i64 a.seq, .int .i64 a.time, .slice ae (a.recs.length + 1) ce] 24 := (H10.out.blk 4 _ _ rfl).2.set _
          have hlow : Below w.heap.size w (w10.setCell ⟨w5.heap.size + 1, 5, none⟩ (.slice ae (a.recs.length + 1) ce)) := H10.out.low.setCell (p := ⟨w5.heap.size + 1, 5, none⟩) (Nat.le_succ_of_le H5.out.low.size) _
          have hown : Recs (.slice ae (a.recs.length + 1) ce) (a.recs ++ [(⟨0, [], [], false⟩ : Pl.Rc)]) (w10.setCell ⟨w5.heap.size + 1, 5, none⟩ (.slice ae (a.recs.length + 1) ce)) := own_recs (own_kb HO10.out (Kb.setCell _ _) (by omega))
          have HKA := Lib.hid hka
          have HKE := Lib.hid hke
          have HLW := Lib.hid hlow
          have HOW := Lib.hid hown
          have CD := dsame a { a with seq := bits BinOp.xor IntKind.i64 a.seq 1 } (.slice xa a.recs.length pa) (.slice xa a.recs.length pa) _ (GA.out.come.recs.below hlow) (GA.out.come.recs.below hlow) (by omega) (by show a.recs.length ≤ _; omega)
          rw [show Pl.sameB a { a with seq := bits BinOp.xor IntKind.i64 a.seq 1 } = false from Bool.eq_false_iff.2 fun h => xor_ne a.seq (congrArg Pl.Bt.seq (Pl.sameB_iff.1 h)).symm] at CD
          have HCD := Lib.hid CD
          have a0 := hka.cell (i := 0) rfl
          have d0 := hkd.cell (i := 0) rfl
          have a1 := hka.cell (i := 1) rfl
          have d1 := hkd.cell (i := 1) rfl
          have a2 := hka.cell (i := 2) rfl
          have d2 := hkd.cell (i := 2) rfl
          have a3 := hka.cell (i := 3) rfl
          have d3 := hkd.cell (i := 3) rfl
          have a4 := hka.cell (i := 4) rfl
          have d4 := hkd.cell (i := 4) rfl
          have a5 := hka.cell (i := 5) rfl
          have d5 := hkd.cell (i := 5) rfl
          clear hka hkd hke hlow hown CD
          go_wp2_with fail
          refine HCD.out.mono ?_
          rintro e w12 ⟨rfl, b12⟩
          have hka := HKA.out.below b12
          have hke := HKE.out.below b12
          have hlow := HLW.out.trans (b12.mono HLW.out.size)
          have CE := dsame a { a with recs := a.recs ++ [(⟨0, [], [], false⟩ : Pl.Rc)] } (.slice xa a.recs.length pa) (.slice ae (a.recs.length + 1) ce) w12 (GA.out.come.recs.below hlow) (HOW.out.below b12) (by omega) (by show (a.recs ++ [(⟨0, [], [], false⟩ : Pl.Rc)]).length ≤ _; simp; omega)
          rw [show Pl.sameB a { a with recs := a.recs ++ [(⟨0, [], [], false⟩ : Pl.Rc)] } = false from Bool.eq_false_iff.2 fun h => by
            have h1 := congrArg (fun b : Pl.Bt => b.recs.length) (Pl.sameB_iff.1 h)
            simp at h1] at CE
          have HCE := Lib.hid CE
          have HLX := Lib.hid hlow
          clear a0 a1 a2 a3 a4 a5 d0 d1 d2 d3 d4 d5 CE b12 hlow
          have a0 := hka.cell (i := 0) rfl
          have e0 := hke.cell (i := 0) rfl
          have a1 := hka.cell (i := 1) rfl
          have e1 := hke.cell (i := 1) rfl
          have a2 := hka.cell (i := 2) rfl
          have e2 := hke.cell (i := 2) rfl
          have a3 := hka.cell (i := 3) rfl
          have e3 := hke.cell (i := 3) rfl
          have a4 := hka.cell (i := 4) rfl
          have e4 := hke.cell (i := 4) rfl
          have a5 := hka.cell (i := 5) rfl
          have e5 := hke.cell (i := 5) rfl
          go_wp2_with fail
          refine HCE.out.mono ?_
          rintro e w13 ⟨rfl, b13⟩
          go_wp2_with fail
          go_ret
          exact ⟨rfl, HLX.out.trans (b13.mono HLX.out.size)⟩
        | true =>
          rw [hab] at Cab Cba
          have HAB := Lib.hid Cab
          have HBA := Lib.hid Cba
          clear Cab Cba
          cases hbc : Pl.sameB b c with
          | false =>
            rw [hbc] at Cbc
            have HBC := Lib.hid Cbc
            clear Cbc Cac hab hbc HTR
            go_wp2_with fail
            refine wp_region_quiet_below (by kernel_rfl) (by kernel_rfl) ?_
            repeat (go_big_quiet_step (first | (go_at_call 19; with_reducible exact HAA.out _ _) | (go_at_call 19; with_reducible exact HAB.out _ _) | (go_at_call 19; with_reducible exact HBA.out _ _) | (go_at_call 19; with_reducible exact HBC.out _ _)))
            refine wpQuiet_nil ?_
            intro w5 hw5
            obtain ⟨⟨dq, osq⟩, hw5'⟩ := hw5
            have h5 := H4.out.below (below_regrown w4 dq osq)
            rw [← hw5'] at h5
            have H5 := Lib.hid h5
            clear h5 hw5' HAA HAB HBA HBC a0 a1 a2 a3 a4 a5 b0 b1 b2 b3 b4 b5 c0 c1 c2 c3 c4 c5
            have a0 := H5.out.cell (k := 0) (i := 0) rfl rfl
            have a1 := H5.out.cell (k := 0) (i := 1) rfl rfl
            have a2 := H5.out.cell (k := 0) (i := 2) rfl rfl
            have a3 := H5.out.cell (k := 0) (i := 3) rfl rfl
            have a4 := H5.out.cell (k := 0) (i := 4) rfl rfl
            have a5 := H5.out.cell (k := 0) (i := 5) rfl rfl
            have h6 := H5.out.more #[.int .i64 a.base, .int .i64 a.count, .int .i64 a.prod, .int .i64 (bits BinOp.xor IntKind.i64 a.seq 1), .int .i64 a.time, .slice xa a.recs.length pa]
            have h7 := h6.more #[.int .i64 a.base, .int .i64 a.count, .int .i64 a.prod, .int .i64 a.seq, .int .i64 a.time, .slice xa a.recs.length pa]
            rw [show (w5.alloc (.cells #[.int .i64 a.base, .int .i64 a.count, .int .i64 a.prod, .int .i64 (bits BinOp.xor IntKind.i64 a.seq 1), .int .i64 a.time, .slice xa a.recs.length pa] 24)).heap.size = w5.heap.size + 1 by simp] at h7
            have hal : Below ((w5.alloc (.cells #[.int .i64 a.base, .int .i64 a.count, .int .i64 a.prod, .int .i64 (bits BinOp.xor IntKind.i64 a.seq 1), .int .i64 a.time, .slice xa a.recs.length pa] 24)).alloc (.cells #[.int .i64 a.base, .int .i64 a.count, .int .i64 a.prod, .int .i64 a.seq, .int .i64 a.time, .slice xa a.recs.length pa] 24)).heap.size ((w5.alloc (.cells #[.int .i64 a.base, .int .i64 a.count, .int .i64 a.prod, .int .i64 (bits BinOp.xor IntKind.i64 a.seq 1), .int .i64 a.time, .slice xa a.recs.length pa] 24)).alloc (.cells #[.int .i64 a.base, .int .i64 a.count, .int .i64 a.prod, .int .i64 a.seq, .int .i64 a.time, .slice xa a.recs.length pa] 24)) (((w5.alloc (.cells #[.int .i64 a.base, .int .i64 a.count, .int .i64 a.prod, .int .i64 (bits BinOp.xor IntKind.i64 a.seq 1), .int .i64 a.time, .slice xa a.recs.length pa] 24)).alloc (.cells #[.int .i64 a.base, .int .i64 a.count, .int .i64 a.prod, .int .i64 a.seq, .int .i64 a.time, .slice xa a.recs.length pa] 24)).alloc (.cells #[] 41)) := (Below.refl _ _).alloc (Nat.le_refl _) _
            have hb8 := Blk.new ((w5.alloc (.cells #[.int .i64 a.base, .int .i64 a.count, .int .i64 a.prod, .int .i64 (bits BinOp.xor IntKind.i64 a.seq 1), .int .i64 a.time, .slice xa a.recs.length pa] 24)).alloc (.cells #[.int .i64 a.base, .int .i64 a.count, .int .i64 a.prod, .int .i64 a.seq, .int .i64 a.time, .slice xa a.recs.length pa] 24)) #[] 41
            have es7 : ((w5.alloc (.cells #[.int .i64 a.base, .int .i64 a.count, .int .i64 a.prod, .int .i64 (bits BinOp.xor IntKind.i64 a.seq 1), .int .i64 a.time, .slice xa a.recs.length pa] 24)).alloc (.cells #[.int .i64 a.base, .int .i64 a.count, .int .i64 a.prod, .int .i64 a.seq, .int .i64 a.time, .slice xa a.recs.length pa] 24)).heap.size = w5.heap.size + 1 + 1 := by simp
            rw [es7] at hb8
            have hlt7 := h7.lt
            rw [es7] at hlt7
            have H6 := Lib.hid h6
            have H8 := Lib.hid (h7.below hal)
            have HB8 := Lib.hid hb8
            have HLT := Lib.hid hlt7
            have HSR := Lib.hid (rsrc_of (GA.out.come.recs.below H8.out.low) HSH.out)
            have HZ8 : Hid (w5.heap.size + 1 + 1 ≤ (((w5.alloc (.cells #[.int .i64 a.base, .int .i64 a.count, .int .i64 a.prod, .int .i64 (bits BinOp.xor IntKind.i64 a.seq 1), .int .i64 a.time, .slice xa a.recs.length pa] 24)).alloc (.cells #[.int .i64 a.base, .int .i64 a.count, .int .i64 a.prod, .int .i64 a.seq, .int .i64 a.time, .slice xa a.recs.length pa] 24)).alloc (.cells #[] 41)).heap.size) := by show _ ≤ _; simp
            have HZ0 : Hid (w.heap.size ≤ w5.heap.size + 1 + 1) := by have := H5.out.low.size; show _ ≤ _; omega
            clear h6 h7 hal hb8 es7 hlt7
            have e0 : World.cell? (w5.alloc (.cells #[.int .i64 a.base, .int .i64 a.count, .int .i64 a.prod, .int .i64 (bits BinOp.xor IntKind.i64 a.seq 1), .int .i64 a.time, .slice xa a.recs.length pa] 24)) ⟨w.heap.size, 0, none⟩ = _ := H6.out.cell (k := 0) (i := 0) rfl rfl
            have e1 : World.cell? (w5.alloc (.cells #[.int .i64 a.base, .int .i64 a.count, .int .i64 a.prod, .int .i64 (bits BinOp.xor IntKind.i64 a.seq 1), .int .i64 a.time, .slice xa a.recs.length pa] 24)) ⟨w.heap.size, 1, none⟩ = _ := H6.out.cell (k := 0) (i := 1) rfl rfl
            have e2 : World.cell? (w5.alloc (.cells #[.int .i64 a.base, .int .i64 a.count, .int .i64 a.prod, .int .i64 (bits BinOp.xor IntKind.i64 a.seq 1), .int .i64 a.time, .slice xa a.recs.length pa] 24)) ⟨w.heap.size, 2, none⟩ = _ := H6.out.cell (k := 0) (i := 2) rfl rfl
            have e3 : World.cell? (w5.alloc (.cells #[.int .i64 a.base, .int .i64 a.count, .int .i64 a.prod, .int .i64 (bits BinOp.xor IntKind.i64 a.seq 1), .int .i64 a.time, .slice xa a.recs.length pa] 24)) ⟨w.heap.size, 3, none⟩ = _ := H6.out.cell (k := 0) (i := 3) rfl rfl
            have e4 : World.cell? (w5.alloc (.cells #[.int .i64 a.base, .int .i64 a.count, .int .i64 a.prod, .int .i64 (bits BinOp.xor IntKind.i64 a.seq 1), .int .i64 a.time, .slice xa a.recs.length pa] 24)) ⟨w.heap.size, 4, none⟩ = _ := H6.out.cell (k := 0) (i := 4) rfl rfl
            have e5 : World.cell? (w5.alloc (.cells #[.int .i64 a.base, .int .i64 a.count, .int .i64 a.prod, .int .i64 (bits BinOp.xor IntKind.i64 a.seq 1), .int .i64 a.time, .slice xa a.recs.length pa] 24)) ⟨w.heap.size, 5, none⟩ = _ := H6.out.cell (k := 0) (i := 5) rfl rfl
            have f5 : World.cell? (((w5.alloc (.cells #[.int .i64 a.base, .int .i64 a.count, .int .i64 a.prod, .int .i64 (bits BinOp.xor IntKind.i64 a.seq 1), .int .i64 a.time, .slice xa a.recs.length pa] 24)).alloc (.cells #[.int .i64 a.base, .int .i64 a.count, .int .i64 a.prod, .int .i64 a.seq, .int .i64 a.time, .slice xa a.recs.length pa] 24)).alloc (.cells #[] 41)) ⟨w.heap.size, 5, none⟩ = _ := H8.out.cell (k := 0) (i := 5) rfl rfl
            go_wp2_with (at_builtin; refine wpList_append_recs rfl _ _ rfl (w5.heap.size + 1 + 1) _ 0 [] rfl ⟨rfl, Or.inr ⟨w5.heap.size + 1 + 1, 0, #[], rfl, Nat.le_refl _, HB8.out, Nat.le_refl _, Nat.zero_le _, rfl, rfl⟩⟩ _ a.recs rfl HSR.out (by decide) (by omega) HZ8.out ?_)
            intro v9 w9 hown9 hgrow9
            have H9 := Lib.hid (H8.out.grown hgrow9 (fun k hk => by injection hk with hk; exact Nat.le_of_eq hk) HLT.out HZ0.out)
            have HO9 := Lib.hid (own_below hown9 ((Below.refl w9.heap.size w9).alloc (Nat.le_refl _) (.cells #[.int .i64 0, .string ⟨#[]⟩, .string ⟨#[]⟩, .bool false] 41)))
            have HZ9 : Hid (w5.heap.size + 1 + 1 ≤ (w9.alloc (.cells #[.int .i64 0, .string ⟨#[]⟩, .string ⟨#[]⟩, .bool false] 41)).heap.size) := by
              have h1 := hgrow9.size
              have h2 := HZ8.out
              show _ ≤ _
              simp at h1 h2 ⊢
              omega
            have HB9 := Lib.hid (Blk.new w9 #[.int .i64 0, .string ⟨#[]⟩, .string ⟨#[]⟩, .bool false] 41)
            have HA9 := Lib.hid (H9.out.below ((Below.refl w9.heap.size w9).alloc (Nat.le_refl _) (.cells #[.int .i64 0, .string ⟨#[]⟩, .string ⟨#[]⟩, .bool false] 41)))
            obtain ⟨i0, hi, hz0, hz1, hz2⟩ := infoRec
            clear hown9 hgrow9 e0 e1 e2 e3 e4 e5 f5 a0 a1 a2 a3 a4 a5 HSR HB8
            go_wp2_with (at_builtin; refine wpList_append_own _ rfl _ _ 22 rfl (w5.heap.size + 1 + 1) 41 i0 (.agg zeroR) 4 48 Tryd.underlying22 hi hz0 hz1 hz2 rfl (by decide) _ _ _ rfl HO9.out ⟨w9.heap.size, 0, none⟩ 1 1 (cells4 ⟨0, [], [], false⟩) rfl rfl ?c1 ?c2 ?c3 ?c4 ?c5 ?_)
            case c1 =>
              intro j u hj
              match j, hj with
              | 0, hj => obtain rfl := Option.some.inj hj; exact HB9.out.cell (i := 0) rfl
              | 1, hj => obtain rfl := Option.some.inj hj; exact HB9.out.cell (i := 1) rfl
              | 2, hj => obtain rfl := Option.some.inj hj; exact HB9.out.cell (i := 2) rfl
              | 3, hj => obtain rfl := Option.some.inj hj; exact HB9.out.cell (i := 3) rfl
              | j + 4, hj => simp [cells4] at hj
            case c2 =>
              intro u hu
              simp only [cells4, List.mem_cons, List.not_mem_nil, or_false] at hu
              rcases hu with rfl | rfl | rfl | rfl <;> rfl
            case c3 => unfold maxLen; omega
            case c4 => omega
            case c5 => exact HZ9.out
            intro v10 w10 hown10 hgrow10 _
            have H10 := Lib.hid (HA9.out.grown hgrow10 (fun k hk => (HO9.out.lt k hk).1) HLT.out HZ0.out)
            have HO10 : Hid (w10.ownsRow (w5.heap.size + 1 + 1) 41 4 v10 (a.recs ++ [(⟨0, [], [], false⟩ : Pl.Rc)]).length ((a.recs ++ [(⟨0, [], [], false⟩ : Pl.Rc)]).flatMap cells4) ) := by
              have e1 : (a.recs ++ [(⟨0, [], [], false⟩ : Pl.Rc)]).length = a.recs.length + 1 := by simp
              have e2 : (a.recs ++ [(⟨0, [], [], false⟩ : Pl.Rc)]).flatMap cells4 = a.recs.flatMap cells4 ++ cells4 ⟨0, [], [], false⟩ := by simp
              show World.ownsRow _ _ _ _ _ _ _
              rw [e1, e2]
              exact hown10
            clear hown10 hgrow10
            obtain ⟨ae, ce, rfl⟩ : ∃ ae ce, v10 = .slice ae (a.recs.length + 1) ce := by
              obtain ⟨g, cap, cur, rfl, -⟩ := own_slice HO10.out (by simp)
              exact ⟨some ⟨g, 0, none⟩, cap, by simp⟩
            have q5 := H10.out.cell (k := 4) (i := 5) rfl rfl
            have q6 := H10.out.free (k := 4) (i := 5) rfl
            have hka : Blk (w10.setCell ⟨w5.heap.size + 1, 5, none⟩ (.slice ae (a.recs.length + 1) ce)) w.heap.size #[.int .i64 a.base, .int .i64 a.count, .int .i64 a.prod, .int .i64 a.seq, .int .i64 a.time, .slice xa a.recs.length pa] 24 := (H10.out.blk 0 _ _ rfl).2.setOther _ (by have := HZ0.out; have := H5.out.low.size; omega)
            have hkd : Blk (w10.setCell ⟨w5.heap.size + 1, 5, none⟩ (.slice ae (a.recs.length + 1) ce)) w5.heap.size #[.int .i64 a.base, .int .i64 a.count, .int .i64 a.prod, .int .i64 (bits BinOp.xor IntKind.i64 a.seq 1), .int .i64 a.time, .slice xa a.recs.length pa] 24 := (H10.out.blk 3 _ _ rfl).2.setOther _ (by omega)
            have hke : Blk (w10.setCell ⟨w5.heap.size + 1, 5, none⟩ (.slice ae (a.recs.length + 1) ce)) (w5.heap.size + 1) #[.int .i64 a.base, .int .i64 a.count, .int .i64 a.prod, .int .i64 a.seq, .int .i64 a.time, .slice ae (a.recs.length + 1) ce] 24 := (H10.out.blk 4 _ _ rfl).2.set _
            have hlow : Below w.heap.size w (w10.setCell ⟨w5.heap.size + 1, 5, none⟩ (.slice ae (a.recs.length + 1) ce)) := H10.out.low.setCell (p := ⟨w5.heap.size + 1, 5, none⟩) (Nat.le_succ_of_le H5.out.low.size) _
            have hown : Recs (.slice ae (a.recs.length + 1) ce) (a.recs ++ [(⟨0, [], [], false⟩ : Pl.Rc)]) (w10.setCell ⟨w5.heap.size + 1, 5, none⟩ (.slice ae (a.recs.length + 1) ce)) := own_recs (own_kb HO10.out (Kb.setCell _ _) (by omega))
            have HKA := Lib.hid hka
            have HKE := Lib.hid hke
            have HLW := Lib.hid hlow
            have HOW := Lib.hid hown
            have CD := dsame a { a with seq := bits BinOp.xor IntKind.i64 a.seq 1 } (.slice xa a.recs.length pa) (.slice xa a.recs.length pa) _ (GA.out.come.recs.below hlow) (GA.out.come.recs.below hlow) (by omega) (by show a.recs.length ≤ _; omega)
            rw [show Pl.sameB a { a with seq := bits BinOp.xor IntKind.i64 a.seq 1 } = false from Bool.eq_false_iff.2 fun h => xor_ne a.seq (congrArg Pl.Bt.seq (Pl.sameB_iff.1 h)).symm] at CD
            have HCD := Lib.hid CD
            have a0 := hka.cell (i := 0) rfl
            have d0 := hkd.cell (i := 0) rfl
            have a1 := hka.cell (i := 1) rfl
            have d1 := hkd.cell (i := 1) rfl
            have a2 := hka.cell (i := 2) rfl
            have d2 := hkd.cell (i := 2) rfl
            have a3 := hka.cell (i := 3) rfl
            have d3 := hkd.cell (i := 3) rfl
            have a4 := hka.cell (i := 4) rfl
            have d4 := hkd.cell (i := 4) rfl
            have a5 := hka.cell (i := 5) rfl
            have d5 := hkd.cell (i := 5) rfl
            clear hka hkd hke hlow hown CD
            go_wp2_with fail
            refine HCD.out.mono ?_
            rintro e w12 ⟨rfl, b12⟩
            have hka := HKA.out.below b12
            have hke := HKE.out.below b12
            have hlow := HLW.out.trans (b12.mono HLW.out.size)
            have CE := dsame a { a with recs := a.recs ++ [(⟨0, [], [], false⟩ : Pl.Rc)] } (.slice xa a.recs.length pa) (.slice ae (a.recs.length + 1) ce) w12 (GA.out.come.recs.below hlow) (HOW.out.below b12) (by omega) (by show (a.recs ++ [(⟨0, [], [], false⟩ : Pl.Rc)]).length ≤ _; simp; omega)
            rw [show Pl.sameB a { a with recs := a.recs ++ [(⟨0, [], [], false⟩ : Pl.Rc)] } = false from Bool.eq_false_iff.2 fun h => by
              have h1 := congrArg (fun b : Pl.Bt => b.recs.length) (Pl.sameB_iff.1 h)
              simp at h1] at CE
            have HCE := Lib.hid CE
            have HLX := Lib.hid hlow
            clear a0 a1 a2 a3 a4 a5 d0 d1 d2 d3 d4 d5 CE b12 hlow
            have a0 := hka.cell (i := 0) rfl
            have e0 := hke.cell (i := 0) rfl
            have a1 := hka.cell (i := 1) rfl
            have e1 := hke.cell (i := 1) rfl
            have a2 := hka.cell (i := 2) rfl
            have e2 := hke.cell (i := 2) rfl
            have a3 := hka.cell (i := 3) rfl
            have e3 := hke.cell (i := 3) rfl
            have a4 := hka.cell (i := 4) rfl
            have e4 := hke.cell (i := 4) rfl
            have a5 := hka.cell (i := 5) rfl
            have e5 := hke.cell (i := 5) rfl
            go_wp2_with fail
            refine HCE.out.mono ?_
            rintro e w13 ⟨rfl, b13⟩
            go_wp2_with fail
            go_ret
            exact ⟨rfl, HLX.out.trans (b13.mono HLX.out.size)⟩
          | true =>
            rw [hbc] at Cbc
            rw [HTR.out hab hbc] at Cac
            have HBC := Lib.hid Cbc
            have HAC := Lib.hid Cac
            clear Cbc Cac hab hbc HTR
            go_wp2_with fail
            refine wp_region_quiet_below (by kernel_rfl) (by kernel_rfl) ?_
            repeat (go_big_quiet_step (first | (go_at_call 19; with_reducible exact HAA.out _ _) | (go_at_call 19; with_reducible exact HAB.out _ _) | (go_at_call 19; with_reducible exact HBA.out _ _) | (go_at_call 19; with_reducible exact HBC.out _ _) | (go_at_call 19; with_reducible exact HAC.out _ _)))
            refine wpQuiet_nil ?_
            intro w5 hw5
            obtain ⟨⟨dq, osq⟩, hw5'⟩ := hw5
            have h5 := H4.out.below (below_regrown w4 dq osq)
            rw [← hw5'] at h5
            have H5 := Lib.hid h5
            clear h5 hw5' HAA HAB HBA HBC HAC a0 a1 a2 a3 a4 a5 b0 b1 b2 b3 b4 b5 c0 c1 c2 c3 c4 c5
            have a0 := H5.out.cell (k := 0) (i := 0) rfl rfl
            have a1 := H5.out.cell (k := 0) (i := 1) rfl rfl
            have a2 := H5.out.cell (k := 0) (i := 2) rfl rfl
            have a3 := H5.out.cell (k := 0) (i := 3) rfl rfl
            have a4 := H5.out.cell (k := 0) (i := 4) rfl rfl
            have a5 := H5.out.cell (k := 0) (i := 5) rfl rfl
            have h6 := H5.out.more #[.int .i64 a.base, .int .i64 a.count, .int .i64 a.prod, .int .i64 (bits BinOp.xor IntKind.i64 a.seq 1), .int .i64 a.time, .slice xa a.recs.length pa]
            have h7 := h6.more #[.int .i64 a.base, .int .i64 a.count, .int .i64 a.prod, .int .i64 a.seq, .int .i64 a.time, .slice xa a.recs.length pa]
            rw [show (w5.alloc (.cells #[.int .i64 a.base, .int .i64 a.count, .int .i64 a.prod, .int .i64 (bits BinOp.xor IntKind.i64 a.seq 1), .int .i64 a.time, .slice xa a.recs.length pa] 24)).heap.size = w5.heap.size + 1 by simp] at h7
            have hal : Below ((w5.alloc (.cells #[.int .i64 a.base, .int .i64 a.count, .int .i64 a.prod, .int .i64 (bits BinOp.xor IntKind.i64 a.seq 1), .int .i64 a.time, .slice xa a.recs.length pa] 24)).alloc (.cells #[.int .i64 a.base, .int .i64 a.count, .int .i64 a.prod, .int .i64 a.seq, .int .i64 a.time, .slice xa a.recs.length pa] 24)).heap.size ((w5.alloc (.cells #[.int .i64 a.base, .int .i64 a.count, .int .i64 a.prod, .int .i64 (bits BinOp.xor IntKind.i64 a.seq 1), .int .i64 a.time, .slice xa a.recs.length pa] 24)).alloc (.cells #[.int .i64 a.base, .int .i64 a.count, .int .i64 a.prod, .int .i64 a.seq, .int .i64 a.time, .slice xa a.recs.length pa] 24)) (((w5.alloc (.cells #[.int .i64 a.base, .int .i64 a.count, .int .i64 a.prod, .int .i64 (bits BinOp.xor IntKind.i64 a.seq 1), .int .i64 a.time, .slice xa a.recs.length pa] 24)).alloc (.cells #[.int .i64 a.base, .int .i64 a.count, .int .i64 a.prod, .int .i64 a.seq, .int .i64 a.time, .slice xa a.recs.length pa] 24)).alloc (.cells #[] 41)) := (Below.refl _ _).alloc (Nat.le_refl _) _
            have hb8 := Blk.new ((w5.alloc (.cells #[.int .i64 a.base, .int .i64 a.count, .int .i64 a.prod, .int .i64 (bits BinOp.xor IntKind.i64 a.seq 1), .int .i64 a.time, .slice xa a.recs.length pa] 24)).alloc (.cells #[.int .i64 a.base, .int .i64 a.count, .int .i64 a.prod, .int .i64 a.seq, .int .i64 a.time, .slice xa a.recs.length pa] 24)) #[] 41
            have es7 : ((w5.alloc (.cells #[.int .i64 a.base, .int .i64 a.count, .int .i64 a.prod, .int .i64 (bits BinOp.xor IntKind.i64 a.seq 1), .int .i64 a.time, .slice xa a.recs.length pa] 24)).alloc (.cells #[.int .i64 a.base, .int .i64 a.count, .int .i64 a.prod, .int .i64 a.seq, .int .i64 a.time, .slice xa a.recs.length pa] 24)).heap.size = w5.heap.size + 1 + 1 := by simp
            rw [es7] at hb8
            have hlt7 := h7.lt
            rw [es7] at hlt7
            have H6 := Lib.hid h6
            have H8 := Lib.hid (h7.below hal)
            have HB8 := Lib.hid hb8
            have HLT := Lib.hid hlt7
            have HSR := Lib.hid (rsrc_of (GA.out.come.recs.below H8.out.low) HSH.out)
            have HZ8 : Hid (w5.heap.size + 1 + 1 ≤ (((w5.alloc (.cells #[.int .i64 a.base, .int .i64 a.count, .int .i64 a.prod, .int .i64 (bits BinOp.xor IntKind.i64 a.seq 1), .int .i64 a.time, .slice xa a.recs.length pa] 24)).alloc (.cells #[.int .i64 a.base, .int .i64 a.count, .int .i64 a.prod, .int .i64 a.seq, .int .i64 a.time, .slice xa a.recs.length pa] 24)).alloc (.cells #[] 41)).heap.size) := by show _ ≤ _; simp
            have HZ0 : Hid (w.heap.size ≤ w5.heap.size + 1 + 1) := by have := H5.out.low.size; show _ ≤ _; omega
            clear h6 h7 hal hb8 es7 hlt7
            have e0 : World.cell? (w5.alloc (.cells #[.int .i64 a.base, .int .i64 a.count, .int .i64 a.prod, .int .i64 (bits BinOp.xor IntKind.i64 a.seq 1), .int .i64 a.time, .slice xa a.recs.length pa] 24)) ⟨w.heap.size, 0, none⟩ = _ := H6.out.cell (k := 0) (i := 0) rfl rfl
            have e1 : World.cell? (w5.alloc (.cells #[.int .i64 a.base, .int .i64 a.count, .int .i64 a.prod, .int .i64 (bits BinOp.xor IntKind.i64 a.seq 1), .int .i64 a.time, .slice xa a.recs.length pa] 24)) ⟨w.heap.size, 1, none⟩ = _ := H6.out.cell (k := 0) (i := 1) rfl rfl
            have e2 : World.cell? (w5.alloc (.cells #[.int .i64 a.base, .int .i64 a.count, .int .i64 a.prod, .int .i64 (bits BinOp.xor IntKind.i64 a.seq 1), .int .i64 a.time, .slice xa a.recs.length pa] 24)) ⟨w.heap.size, 2, none⟩ = _ := H6.out.cell (k := 0) (i := 2) rfl rfl
            have e3 : World.cell? (w5.alloc (.cells #[.int .i64 a.base, .int .i64 a.count, .int .i64 a.prod, .int .i64 (bits BinOp.xor IntKind.i64 a.seq 1), .int .i64 a.time, .slice xa a.recs.length pa] 24)) ⟨w.heap.size, 3, none⟩ = _ := H6.out.cell (k := 0) (i := 3) rfl rfl
            have e4 : World.cell? (w5.alloc (.cells #[.int .i64 a.base, .int .i64 a.count, .int .i64 a.prod, .int .i64 (bits BinOp.xor IntKind.i64 a.seq 1), .int .i64 a.time, .slice xa a.recs.length pa] 24)) ⟨w.heap.size, 4, none⟩ = _ := H6.out.cell (k := 0) (i := 4) rfl rfl
            have e5 : World.cell? (w5.alloc (.cells #[.int .i64 a.base, .int .i64 a.count, .int .i64 a.prod, .int .i64 (bits BinOp.xor IntKind.i64 a.seq 1), .int .i64 a.time, .slice xa a.recs.length pa] 24)) ⟨w.heap.size, 5, none⟩ = _ := H6.out.cell (k := 0) (i := 5) rfl rfl
            have f5 : World.cell? (((w5.alloc (.cells #[.int .i64 a.base, .int .i64 a.count, .int .i64 a.prod, .int .i64 (bits BinOp.xor IntKind.i64 a.seq 1), .int .i64 a.time, .slice xa a.recs.length pa] 24)).alloc (.cells #[.int .i64 a.base, .int .i64 a.count, .int .i64 a.prod, .int .i64 a.seq, .int .i64 a.time, .slice xa a.recs.length pa] 24)).alloc (.cells #[] 41)) ⟨w.heap.size, 5, none⟩ = _ := H8.out.cell (k := 0) (i := 5) rfl rfl
            go_wp2_with (at_builtin; refine wpList_append_recs rfl _ _ rfl (w5.heap.size + 1 + 1) _ 0 [] rfl ⟨rfl, Or.inr ⟨w5.heap.size + 1 + 1, 0, #[], rfl, Nat.le_refl _, HB8.out, Nat.le_refl _, Nat.zero_le _, rfl, rfl⟩⟩ _ a.recs rfl HSR.out (by decide) (by omega) HZ8.out ?_)
            intro v9 w9 hown9 hgrow9
            have H9 := Lib.hid (H8.out.grown hgrow9 (fun k hk => by injection hk with hk; exact Nat.le_of_eq hk) HLT.out HZ0.out)
            have HO9 := Lib.hid (own_below hown9 ((Below.refl w9.heap.size w9).alloc (Nat.le_refl _) (.cells #[.int .i64 0, .string ⟨#[]⟩, .string ⟨#[]⟩, .bool false] 41)))
            have HZ9 : Hid (w5.heap.size + 1 + 1 ≤ (w9.alloc (.cells #[.int .i64 0, .string ⟨#[]⟩, .string ⟨#[]⟩, .bool false] 41)).heap.size) := by
              have h1 := hgrow9.size
              have h2 := HZ8.out
              show _ ≤ _
              simp at h1 h2 ⊢
              omega
            have HB9 := Lib.hid (Blk.new w9 #[.int .i64 0, .string ⟨#[]⟩, .string ⟨#[]⟩, .bool false] 41)
            have HA9 := Lib.hid (H9.out.below ((Below.refl w9.heap.size w9).alloc (Nat.le_refl _) (.cells #[.int .i64 0, .string ⟨#[]⟩, .string ⟨#[]⟩, .bool false] 41)))
            obtain ⟨i0, hi, hz0, hz1, hz2⟩ := infoRec
            clear hown9 hgrow9 e0 e1 e2 e3 e4 e5 f5 a0 a1 a2 a3 a4 a5 HSR HB8
            go_wp2_with (at_builtin; refine wpList_append_own _ rfl _ _ 22 rfl (w5.heap.size + 1 + 1) 41 i0 (.agg zeroR) 4 48 Tryd.underlying22 hi hz0 hz1 hz2 rfl (by decide) _ _ _ rfl HO9.out ⟨w9.heap.size, 0, none⟩ 1 1 (cells4 ⟨0, [], [], false⟩) rfl rfl ?c1 ?c2 ?c3 ?c4 ?c5 ?_)
            case c1 =>
              intro j u hj
              match j, hj with
              | 0, hj => obtain rfl := Option.some.inj hj; exact HB9.out.cell (i := 0) rfl
              | 1, hj => obtain rfl := Option.some.inj hj; exact HB9.out.cell (i := 1) rfl
              | 2, hj => obtain rfl := Option.some.inj hj; exact HB9.out.cell (i := 2) rfl
              | 3, hj => obtain rfl := Option.some.inj hj; exact HB9.out.cell (i := 3) rfl
              | j + 4, hj => simp [cells4] at hj
            case c2 =>
              intro u hu
              simp only [cells4, List.mem_cons, List.not_mem_nil, or_false] at hu
              rcases hu with rfl | rfl | rfl | rfl <;> rfl
            case c3 => unfold maxLen; omega
            case c4 => omega
            case c5 => exact HZ9.out
            intro v10 w10 hown10 hgrow10 _
            have H10 := Lib.hid (HA9.out.grown hgrow10 (fun k hk => (HO9.out.lt k hk).1) HLT.out HZ0.out)
            have HO10 : Hid (w10.ownsRow (w5.heap.size + 1 + 1) 41 4 v10 (a.recs ++ [(⟨0, [], [], false⟩ : Pl.Rc)]).length ((a.recs ++ [(⟨0, [], [], false⟩ : Pl.Rc)]).flatMap cells4) ) := by
              have e1 : (a.recs ++ [(⟨0, [], [], false⟩ : Pl.Rc)]).length = a.recs.length + 1 := by simp
              have e2 : (a.recs ++ [(⟨0, [], [], false⟩ : Pl.Rc)]).flatMap cells4 = a.recs.flatMap cells4 ++ cells4 ⟨0, [], [], false⟩ := by simp
              show World.ownsRow _ _ _ _ _ _ _
              rw [e1, e2]
              exact hown10
            clear hown10 hgrow10
            obtain ⟨ae, ce, rfl⟩ : ∃ ae ce, v10 = .slice ae (a.recs.length + 1) ce := by
              obtain ⟨g, cap, cur, rfl, -⟩ := own_slice HO10.out (by simp)
              exact ⟨some ⟨g, 0, none⟩, cap, by simp⟩
            have q5 := H10.out.cell (k := 4) (i := 5) rfl rfl
            have q6 := H10.out.free (k := 4) (i := 5) rfl
            have hka : Blk (w10.setCell ⟨w5.heap.size + 1, 5, none⟩ (.slice ae (a.recs.length + 1) ce)) w.heap.size #[.int .i64 a.base, .int .i64 a.count, .int .i64 a.prod, .int .i64 a.seq, .int .i64 a.time, .slice xa a.recs.length pa] 24 := (H10.out.blk 0 _ _ rfl).2.setOther _ (by have := HZ0.out; have := H5.out.low.size; omega)
            have hkd : Blk (w10.setCell ⟨w5.heap.size + 1, 5, none⟩ (.slice ae (a.recs.length + 1) ce)) w5.heap.size #[.int .i64 a.base, .int .i64 a.count, .int .i64 a.prod, .int .i64 (bits BinOp.xor IntKind.i64 a.seq 1), .int .i64 a.time, .slice xa a.recs.length pa] 24 := (H10.out.blk 3 _ _ rfl).2.setOther _ (by omega)
            have hke : Blk (w10.setCell ⟨w5.heap.size + 1, 5, none⟩ (.slice ae (a.recs.length + 1) ce)) (w5.heap.size + 1) #[.int .i64 a.base, .int .i64 a.count, .int .i64 a.prod, .int .i64 a.seq, .int .i64 a.time, .slice ae (a.recs.length + 1) ce] 24 := (H10.out.blk 4 _ _ rfl).2.set _
            have hlow : Below w.heap.size w (w10.setCell ⟨w5.heap.size + 1, 5, none⟩ (.slice ae (a.recs.length + 1) ce)) := H10.out.low.setCell (p := ⟨w5.heap.size + 1, 5, none⟩) (Nat.le_succ_of_le H5.out.low.size) _
            have hown : Recs (.slice ae (a.recs.length + 1) ce) (a.recs ++ [(⟨0, [], [], false⟩ : Pl.Rc)]) (w10.setCell ⟨w5.heap.size + 1, 5, none⟩ (.slice ae (a.recs.length + 1) ce)) := own_recs (own_kb HO10.out (Kb.setCell _ _) (by omega))
            have HKA := Lib.hid hka
            have HKE := Lib.hid hke
            have HLW := Lib.hid hlow
            have HOW := Lib.hid hown
            have CD := dsame a { a with seq := bits BinOp.xor IntKind.i64 a.seq 1 } (.slice xa a.recs.length pa) (.slice xa a.recs.length pa) _ (GA.out.come.recs.below hlow) (GA.out.come.recs.below hlow) (by omega) (by show a.recs.length ≤ _; omega)
            rw [show Pl.sameB a { a with seq := bits BinOp.xor IntKind.i64 a.seq 1 } = false from Bool.eq_false_iff.2 fun h => xor_ne a.seq (congrArg Pl.Bt.seq (Pl.sameB_iff.1 h)).symm] at CD
            have HCD := Lib.hid CD
            have a0 := hka.cell (i := 0) rfl
            have d0 := hkd.cell (i := 0) rfl
            have a1 := hka.cell (i := 1) rfl
            have d1 := hkd.cell (i := 1) rfl
            have a2 := hka.cell (i := 2) rfl
            have d2 := hkd.cell (i := 2) rfl
            have a3 := hka.cell (i := 3) rfl
            have d3 := hkd.cell (i := 3) rfl
            have a4 := hka.cell (i := 4) rfl
            have d4 := hkd.cell (i := 4) rfl
            have a5 := hka.cell (i := 5) rfl
            have d5 := hkd.cell (i := 5) rfl
            clear hka hkd hke hlow hown CD
            go_wp2_with fail
            refine HCD.out.mono ?_
            rintro e w12 ⟨rfl, b12⟩
            have hka := HKA.out.below b12
            have hke := HKE.out.below b12
            have hlow := HLW.out.trans (b12.mono HLW.out.size)
            have CE := dsame a { a with recs := a.recs ++ [(⟨0, [], [], false⟩ : Pl.Rc)] } (.slice xa a.recs.length pa) (.slice ae (a.recs.length + 1) ce) w12 (GA.out.come.recs.below hlow) (HOW.out.below b12) (by omega) (by show (a.recs ++ [(⟨0, [], [], false⟩ : Pl.Rc)]).length ≤ _; simp; omega)
            rw [show Pl.sameB a { a with recs := a.recs ++ [(⟨0, [], [], false⟩ : Pl.Rc)] } = false from Bool.eq_false_iff.2 fun h => by
              have h1 := congrArg (fun b : Pl.Bt => b.recs.length) (Pl.sameB_iff.1 h)
              simp at h1] at CE
            have HCE := Lib.hid CE
            have HLX := Lib.hid hlow
            clear a0 a1 a2 a3 a4 a5 d0 d1 d2 d3 d4 d5 CE b12 hlow
            have a0 := hka.cell (i := 0) rfl
            have e0 := hke.cell (i := 0) rfl
            have a1 := hka.cell (i := 1) rfl
            have e1 := hke.cell (i := 1) rfl
            have a2 := hka.cell (i := 2) rfl
            have e2 := hke.cell (i := 2) rfl
            have a3 := hka.cell (i := 3) rfl
            have e3 := hke.cell (i := 3) rfl
            have a4 := hka.cell (i := 4) rfl
            have e4 := hke.cell (i := 4) rfl
            have a5 := hka.cell (i := 5) rfl
            have e5 := hke.cell (i := 5) rfl
            go_wp2_with fail
            refine HCE.out.mono ?_
            rintro e w13 ⟨rfl, b13⟩
            go_wp2_with fail
            go_ret
            exact ⟨rfl, HLX.out.trans (b13.mono HLX.out.size)⟩
end Go.Proofs.YthhlegfmikidpaaDoor
