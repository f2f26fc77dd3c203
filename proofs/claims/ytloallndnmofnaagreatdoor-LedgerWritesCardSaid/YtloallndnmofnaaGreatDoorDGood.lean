/- THE CONTRACTS OF crate.Fits and crate.Good. -/
import Derived.Test.YtloallndnmofnaaGreatDoorDWalk1
namespace Go.Proofs.YtloallndnmofnaaGreatDoor
open Go.RowKit

set_option maxHeartbeats 2000000 in
set_option maxRecDepth 100000 in
theorem dgood (base count prod seq time : Int) (ls : List Pl.Rc) (v : Value) (w : World) (lb : Lg w) (h : Recs v ls w) (hl : ls.length ≤ 1099511627776) :
    Calls Tryz.prog 32 #[.agg #[.int .i64 base, .int .i64 count, .int .i64 prod, .int .i64 seq, .int .i64 time, v]] w fun e w' => e = .returned (.bool (Pl.goodB ⟨base, count, prod, seq, time, ls⟩)) ∧ Below w.heap.size w w' := by
  obtain ⟨r, hr⟩ : ∃ r, Pl.goodB ⟨base, count, prod, seq, time, ls⟩ = r := ⟨_, rfl⟩
  rw [hr]
  rw [Pl.good_eq] at hr
  have HR := Lib.hid hr
  have hb0 := Blk.new w #[.int .i64 base, .int .i64 count, .int .i64 prod, .int .i64 seq, .int .i64 time, v] 37
  have hw0 : Below w.heap.size w (w.alloc (.cells #[.int .i64 base, .int .i64 count, .int .i64 prod, .int .i64 seq, .int .i64 time, v] 37)) := (Below.refl _ _).alloc (Nat.le_refl _) _
  have HCON := Lib.hid fun wx (hx : Below w.heap.size w wx) => dcontains v ls wx (h.below hx) hl
  have HPL := Lib.hid fun wx (hx : Below w.heap.size w wx) => dplaced base count prod seq time ls v wx (h.below hx) hl
  have HBK := Lib.hid hb0
  have HW0 := Lib.hid hw0
  have HLB := Lib.hid lb
  clear hr hb0 hw0 h lb
  have hs0 : (w.alloc (.cells #[.int .i64 base, .int .i64 count, .int .i64 prod, .int .i64 seq, .int .i64 time, v] 37)).heap.size = w.heap.size + 1 := by simp
  have HS0 := Lib.hid hs0
  clear hs0
  go_enter Tryz.func32, Tryz.ntmps32
  go_wp2_with fail
  refine (dnumbers _ _).mono ?_
  rintro e w1 ⟨rfl, k1, b1⟩
  generalize hW0 : w.alloc (.cells #[.int .i64 base, .int .i64 count, .int .i64 prod, .int .i64 seq, .int .i64 time, v] 37) = W0 at *
  have HW1 := Lib.hid (HW0.out.trans (b1.mono HW0.out.size))
  have HB1 := Lib.hid (HBK.out.below b1)
  have HK1 := Lib.hid k1
  have HL1 := Lib.hid (HLB.out.below HLB.out.size HW1.out)
  clear k1 b1 hW0 HLB HBK HW0
  obtain ⟨N, hN⟩ : ∃ N, W0.heap.size = N := ⟨_, rfl⟩
  rw [hN] at HK1 ⊢
  clear hN
  go_wp2_with fail
  go_loopw [7] (fun iv wr => ∃ k n : Nat, k ≤ 5 ∧ iv = .int .i64 k ∧ wr = w1.drewN n ∧ ∀ j z, j < k → (Pl.nums ⟨base, count, prod, seq, time, ls⟩)[j]? = some z → Pl.loN.getD j 0 ≤ z ∧ z ≤ Pl.hiN.getD j 0) (fun iv _ => 5 - (intOf iv).toNat)
  case atStart => exact ⟨0, 0, Nat.zero_le _, rfl, rfl, fun j z hj _ => absurd hj (Nat.not_lt_zero _)⟩
  case round =>
    obtain ⟨k, n, hk, rfl, rfl, hok⟩ := hrel
    have HOK := Lib.hid hok
    clear hok
    by_cases hlt : k < 5
    · obtain ⟨z, hz⟩ : ∃ z, (Pl.nums ⟨base, count, prod, seq, time, ls⟩)[k]? = some z := ⟨_, List.getElem?_eq_getElem hlt⟩
      have p0 : w1.cell? ⟨N, k, none⟩ = some (.pointer (some ⟨w.heap.size, k, none⟩)) := by
        refine HK1.out.cell ?_
        match k, hlt with
        | 0, _ => rfl
        | 1, _ => rfl
        | 2, _ => rfl
        | 3, _ => rfl
        | 4, _ => rfl
      have p1 : w1.cell? ⟨w.heap.size, k, none⟩ = some (.int .i64 z) := by
        refine HB1.out.cell ?_
        match k, hlt, hz with
        | 0, _, hz => obtain rfl := Option.some.inj hz; rfl
        | 1, _, hz => obtain rfl := Option.some.inj hz; rfl
        | 2, _, hz => obtain rfl := Option.some.inj hz; rfl
        | 3, _, hz => obtain rfl := Option.some.inj hz; rfl
        | 4, _, hz => obtain rfl := Option.some.inj hz; rfl
      obtain ⟨l, hll⟩ : ∃ l, Pl.loN.getD k 0 = l := ⟨_, rfl⟩
      obtain ⟨h, hhh⟩ : ∃ h, Pl.hiN.getD k 0 = h := ⟨_, rfl⟩
      have p2 : w1.cell? ⟨0, k, none⟩ = some (.int .i64 l) := by rw [← hll]; exact HL1.out.lst.cell gLst k hlt
      have p3 : w1.cell? ⟨1, k, none⟩ = some (.int .i64 h) := by rw [← hhh]; exact HL1.out.grt.cell gGrt k hlt
      have HZ := Lib.hid hz
      have HLL := Lib.hid hll
      have HHH := Lib.hid hhh
      have hki : (k : Int) < 5 := by omega
      clear hz hll hhh
      have bad : ¬ (l ≤ z ∧ z ≤ h) → r = false := by
        intro hn
        rw [← HR.out, show Pl.headB ⟨base, count, prod, seq, time, ls⟩ = false from Bool.eq_false_iff.2 fun hh => hn (by
          have := (Pl.head_iff _).1 hh k z HZ.out
          rw [HLL.out, HHH.out] at this
          exact this)]
        rfl
      have HBAD := Lib.hid bad
      clear bad
      by_cases h1 : z < l
      · have h2 : decide (z < l) = true := decide_eq_true h1
        have H1 := Lib.hid h1
        clear h1
        go_wp2_with fail
        go_quiet (fail)
        go_wp2_with fail
        go_ret
        exact ⟨congrArg (fun b => Ending.returned (.bool b)) (HBAD.out fun hh => absurd H1.out (by omega)).symm, HW1.out.trans ((below_drewN w1 n).trans (below_drewN _ _))⟩
      · have h2 : decide (z < l) = false := decide_eq_false h1
        have H1 := Lib.hid h1
        clear h1
        by_cases h3 : h < z
        · have h4 : decide (h < z) = true := decide_eq_true h3
          have H3 := Lib.hid h3
          clear h3
          go_wp2_with fail
          go_quiet (fail)
          go_wp2_with fail
          go_ret
          exact ⟨congrArg (fun b => Ending.returned (.bool b)) (HBAD.out fun hh => absurd H3.out (by omega)).symm, HW1.out.trans ((below_drewN w1 n).trans (below_drewN _ _))⟩
        · have h4 : decide (h < z) = false := decide_eq_false h3
          have H3 := Lib.hid h3
          clear h3
          go_wp2_with fail
          go_quiet (fail)
          go_wp2_with fail
          go_roundw
          case rel => exact ⟨k + 1, n + nq, by omega, by go_num, rfl, by
            intro j z' hj hz'
            by_cases hjk : j < k
            · exact HOK.out j z' hjk hz'
            · obtain rfl : j = k := by omega
              obtain rfl := Option.some.inj (HZ.out.symm.trans hz')
              have a1 := HLL.out
              have a2 := HHH.out
              have a3 := H1.out
              have a4 := H3.out
              exact ⟨by omega, by omega⟩⟩
          case measure => simp [intOf]; omega
    · obtain rfl : k = 5 := by omega
      have hhead : Pl.headB ⟨base, count, prod, seq, time, ls⟩ = true := (Pl.head_iff _).2 fun j z hz => HOK.out j z (List.getElem?_eq_some_iff.1 hz).1 hz
      have g0 : 0 ≤ base ∧ base ≤ 1099511627776 := (Pl.head_iff _).1 hhead 0 _ rfl
      have g1 : 1 ≤ count ∧ count ≤ 8 := (Pl.head_iff _).1 hhead 1 _ rfl
      have hr := HR.out
      rw [hhead, Bool.true_and] at hr
      have HR2 := Lib.hid hr
      clear hhead hr HOK HR
      obtain ⟨g00, g01⟩ := g0
      obtain ⟨g10, g11⟩ := g1
      have c0 := HB1.out.cell (i := 0) rfl
      have c1 := HB1.out.cell (i := 1) rfl
      have c2 := HB1.out.cell (i := 2) rfl
      have c3 := HB1.out.cell (i := 3) rfl
      have c4 := HB1.out.cell (i := 4) rfl
      have c5 := HB1.out.cell (i := 5) rfl
      by_cases h1 : base + count ≤ 1099511627776
      · have HPL2 := Lib.hid (HPL.out (w1.drewN n) (HW1.out.trans (below_drewN w1 n)) ⟨g00, g01⟩ ⟨by omega, g11⟩)
        cases hp : Pl.placedB ls base (base + count) with
        | false =>
          rw [hp] at HPL2
          have HP := Lib.hid hp
          clear hp
          go_wp2_with fail
          refine HPL2.out.mono ?_
          rintro e w2 ⟨rfl, b2⟩
          go_wp2_with fail
          go_ret
          exact ⟨congrArg (fun b => Ending.returned (.bool b)) (by rw [← HR2.out, HP.out]; simp), HW1.out.trans (((below_drewN w1 n).trans b2).mono HW1.out.size)⟩
        | true =>
          rw [hp] at HPL2
          have HP := Lib.hid hp
          clear hp
          go_wp2_with fail
          refine HPL2.out.mono ?_
          rintro e w2 ⟨rfl, b2⟩
          have hb2 : Below w1.heap.size w1 w2 := (below_drewN w1 n).trans b2
          have HB2 := Lib.hid (HB1.out.below hb2)
          have HW2 := Lib.hid (HW1.out.trans (hb2.mono HW1.out.size))
          clear c0 c1 c2 c3 c4 c5 b2 hb2
          have c5 := HB2.out.cell (i := 5) rfl
          have HCC := Lib.hid (HCON.out w2 HW2.out)
          cases ha : Pl.anyBad ls with
          | false =>
            rw [ha] at HCC
            have HA := Lib.hid ha
            clear ha
            go_wp2_with fail
            refine HCC.out.mono ?_
            rintro e w3 ⟨rfl, b3⟩
            go_wp2_with fail
            go_ret
            exact ⟨congrArg (fun b => Ending.returned (.bool b)) (by rw [← HR2.out, HP.out, HA.out, decide_eq_true (by omega)]; rfl), HW2.out.trans (b3.mono HW2.out.size)⟩
          | true =>
            rw [ha] at HCC
            have HA := Lib.hid ha
            clear ha
            go_wp2_with fail
            refine HCC.out.mono ?_
            rintro e w3 ⟨rfl, b3⟩
            go_wp2_with fail
            go_ret
            exact ⟨congrArg (fun b => Ending.returned (.bool b)) (by rw [← HR2.out, HP.out, HA.out, decide_eq_true (by omega)]; rfl), HW2.out.trans (b3.mono HW2.out.size)⟩
      · go_wp2_with fail
        go_ret
        exact ⟨congrArg (fun b => Ending.returned (.bool b)) (by rw [← HR2.out, decide_eq_false (by omega)]; rfl), HW1.out.trans (below_drewN _ _)⟩
end Go.Proofs.YtloallndnmofnaaGreatDoor
