/- THE WALK OF THE LAW GaugeOf. -/
import Derived.Test.YtdkngocinimjdaaDoorOfWalk1
import Derived.Lib.QuietBelow
namespace Go.Proofs.YtdkngocinimjdaaDoor
open Go.RowKit

/-- A batch that came in: its records are read at the world where the call begins. -/
structure Come (b : Pl.Bt) (v : Value) (w : World) : Prop where
  recs : Recs v b.recs w
  len : b.recs.length ≤ maxLen
  keys : ∀ x ∈ b.recs, x.key.length ≤ maxLen ∧ x.val.length ≤ maxLen
  i0 : Pl.I64 b.base
  i1 : Pl.I64 b.count
theorem sz_small {b : Pl.Bt} : (szR b).natAbs < 2 ^ 53 ∧ (szB b).natAbs < 2 ^ 53 := by
  unfold szR szB
  by_cases hg : Pl.goodB b = true
  · obtain ⟨h1, h2, h3⟩ := Pl.enc_short hg
    rw [if_pos hg, if_pos hg]
    constructor <;> omega
  · rw [if_neg hg, if_neg hg]
    decide

set_option maxHeartbeats 2000000 in
set_option maxRecDepth 100000 in
theorem of_any (b : Pl.Bt) (v : Value) (w : World) (lb : Lb w) (h : Come b v w) :
    Calls Tryd.prog 3 #[.agg #[.int .i64 b.base, .int .i64 b.count, .int .i64 b.prod, .int .i64 b.seq, .int .i64 b.time, v]] w fun e w' => e = .returned (.bool true) ∧ Below w.heap.size w w' := by
  obtain ⟨base, count, prod, seq, time, ls⟩ := b
  obtain ⟨hrec, hlen, hkeys, hi0, hi1⟩ := h
  have hsm := @sz_small ⟨base, count, prod, seq, time, ls⟩
  simp only at hrec hlen hkeys hi0 hi1 hsm ⊢
  have hb0 := Blk.new w #[.int .i64 base, .int .i64 count, .int .i64 prod, .int .i64 seq, .int .i64 time, v] 24
  have hw0 : Below w.heap.size w (w.alloc (.cells #[.int .i64 base, .int .i64 count, .int .i64 prod, .int .i64 seq, .int .i64 time, v] 24)) := (Below.refl _ _).alloc (Nat.le_refl _) _
  obtain ⟨W0, hW0⟩ : ∃ W0, w.alloc (.cells #[.int .i64 base, .int .i64 count, .int .i64 prod, .int .i64 seq, .int .i64 time, v] 24) = W0 := ⟨_, rfl⟩
  rw [hW0] at hb0 hw0
  have HE := Lib.hid hW0
  have HB0 := Lib.hid hb0
  have HW0 := Lib.hid hw0
  have HAW := Lib.hid (Ga.awake_any W0)
  have HRW := Lib.hid hrec
  have HKY := Lib.hid hkeys
  have HLB := Lib.hid lb
  have HI0 := Lib.hid hi0
  have HI1 := Lib.hid hi1
  have HO1 := Lib.hid (Ga.ord_is (Fl.ofInt_is hsm.1) (Fl.ofInt_is hsm.1))
  have HO2 := Lib.hid (Ga.ord_is (Fl.ofInt_is hsm.2) (Fl.ofInt_is hsm.2))
  clear hb0 hw0 hW0 hrec hkeys lb hi0 hi1 hsm
  unfold maxLen at hlen
  obtain ⟨a, cap, rfl⟩ : ∃ a cap, v = .slice a ls.length cap := by obtain ⟨a, cap, rfl, -⟩ := HRW.out; exact ⟨a, cap, rfl⟩
  obtain ⟨m, hm⟩ : ∃ m, ls.length = m := ⟨_, rfl⟩
  have HM := Lib.hid hm
  rw [hm] at hlen HE HB0 HRW ⊢
  clear hm
  go_enter Tryd.func3, Tryd.ntmps3
  go_wp2_with fail
  rw [HE.out]
  refine HAW.out.mono ?_
  rintro e w1 ⟨rfl, b1⟩
  have HB1 := Lib.hid (HB0.out.below b1)
  have HW1 := Lib.hid (HW0.out.trans (b1.mono HW0.out.size))
  have c5 := HB1.out.cell (i := 5) rfl
  clear b1 HB0 HW0 HAW
  by_cases h40 : 40 < m
  · go_wp2_with fail
    go_ret
    exact ⟨rfl, HW1.out⟩
  · go_wp2_with fail
    go_loopw [3] (fun iv wr => ∃ k : Nat, k ≤ m ∧ iv = .int .i64 k ∧ wr = w1) (fun iv _ => m - (intOf iv).toNat)
    case atStart => exact ⟨0, Nat.zero_le _, rfl, rfl⟩
    case round =>
      obtain ⟨k, hk, rfl, rfl⟩ := hrel
      by_cases hlt : k < m
      · obtain ⟨x, hx⟩ : ∃ x, ls[k]? = some x := ⟨_, List.getElem?_eq_getElem (by rw [HM.out]; exact hlt)⟩
        obtain ⟨a', cap', he', hc'⟩ := HRW.out.below HW1.out
        obtain ⟨b, off, hab, hbl, c0, c1, c2, c3⟩ := hc' k x hx
        cases he'
        subst hab
        obtain ⟨hs1, hs2⟩ := HKY.out x (List.mem_of_getElem? hx)
        obtain ⟨K, hK⟩ : ∃ K : ByteArray, (⟨x.key.toArray⟩ : ByteArray) = K := ⟨_, rfl⟩
        obtain ⟨V, hV⟩ : ∃ V : ByteArray, (⟨x.val.toArray⟩ : ByteArray) = V := ⟨_, rfl⟩
        have hKs : x.key.length = K.size := by rw [← hK, size_list]
        have hVs : x.val.length = V.size := by rw [← hV, size_list]
        rw [hK] at c1
        rw [hV] at c2
        rw [hKs] at hs1
        rw [hVs] at hs2
        unfold maxLen at hs1 hs2
        clear hx hK hV hKs hVs hbl c0 c3 hc'
        by_cases h1 : 1000 < K.size
        · go_wp2_with fail
          go_ret
          exact ⟨rfl, HW1.out⟩
        · by_cases h2 : 1000 < V.size
          · go_wp2_with fail
            go_ret
            exact ⟨rfl, HW1.out⟩
          · go_wp2_with fail
            go_round
            case rel => exact ⟨k + 1, by omega, by go_num, trivial⟩
            case measure => simp [intOf]; omega
      · have HB2 := HB1
        clear c5
        have a0 := cell_regrown (HB1.out.cell (i := 0) rfl)
        have a1 := cell_regrown (HB1.out.cell (i := 1) rfl)
        have a2 := cell_regrown (HB1.out.cell (i := 2) rfl)
        have a3 := cell_regrown (HB1.out.cell (i := 3) rfl)
        have a4 := cell_regrown (HB1.out.cell (i := 4) rfl)
        have a5 := cell_regrown (HB1.out.cell (i := 5) rfl)
        have c5 := HB1.out.cell (i := 5) rfl
        have hw : ∀ d os, Below w.heap.size w (Sort.grow (redrawn wr d) os) := fun d os => HW1.out.trans ((below_regrown wr d os).mono HW1.out.size)
        have hlb : ∀ d os, Lb (Sort.grow (redrawn wr d) os) := fun d os => HLB.out.below HLB.out.size (hw d os)
        have C1 : ∀ d os, _ := fun d os => Calls.regrown_of (dof ⟨base, count, prod, seq, time, ls⟩ (.slice a m cap) _ (hlb d os) (HRW.out.below (hw d os)) (by show ls.length ≤ _; rw [HM.out]; omega))
        have C2 : ∀ d os, _ := fun d os => Calls.regrown_of (rof ⟨base, count, prod, seq, time, ls⟩ (.slice a m cap) _ (HRW.out.below (hw d os)) (by show ls.length ≤ _; rw [HM.out]; omega) HI1.out HI0.out)
        have C3 : ∀ d os, _ := fun d os => Calls.regrown_of (complex_any (szR ⟨base, count, prod, seq, time, ls⟩) (szB ⟨base, count, prod, seq, time, ls⟩) (Sort.grow (redrawn wr d) os))
        have o1 := HO1.out
        have o2 := HO2.out
        obtain ⟨A, hA⟩ : ∃ A, floatOfInt .f64 (szR ⟨base, count, prod, seq, time, ls⟩) = A := ⟨_, rfl⟩
        obtain ⟨B, hB⟩ : ∃ B, floatOfInt .f64 (szB ⟨base, count, prod, seq, time, ls⟩) = B := ⟨_, rfl⟩
        rw [hA] at o1
        rw [hB] at o2
        rw [hA, hB] at C1 C3
        clear hA hB
        obtain ⟨M, hM⟩ : ∃ A, szR ⟨base, count, prod, seq, time, ls⟩ = A := ⟨_, rfl⟩
        obtain ⟨N, hN⟩ : ∃ B, szB ⟨base, count, prod, seq, time, ls⟩ = B := ⟨_, rfl⟩
        rw [hM, hN] at C2 C3
        clear hM hN
        have HC1 := Lib.hid C1
        have HC2 := Lib.hid C2
        have HC3 := Lib.hid C3
        clear C1 C2 C3 hw hlb
        go_wp2_with fail
        refine wp_region_quiet_below (by kernel_rfl) (by kernel_rfl) ?_
        repeat (go_big_quiet_step (first | (go_at_call 5; with_reducible exact HC1.out _ _) | (go_at_call 6; with_reducible exact HC2.out _ _) | (go_at_call 7; with_reducible exact HC3.out _ _)))
        refine wpQuiet_nil ?_
        intro w6 hw6
        obtain ⟨⟨dq, osq⟩, hw6'⟩ := hw6
        have h6 := HW1.out.trans ((below_regrown wr dq osq).mono HW1.out.size)
        go_wp2_with fail
        go_ret
        exact ⟨rfl, h6⟩
end Go.Proofs.YtdkngocinimjdaaDoor
