/- THE CONTRACT of the document's Same, of two plans that are the same. -/
import Derived.Test.YtmkinnheoejphaaDoorLwI
namespace Go.Proofs.YtmkinnheoejphaaDoor
open Go.RowKit

set_option maxHeartbeats 4000000 in
set_option maxRecDepth 100000 in
theorem same_true {A B : Nat → Prop} (pu pv : Value) (p : Pn.P) (w : World) (hu : PlR A w pu p) (hv : PlR B w pv p) (hl : p.parts.length ≤ 64) (hll : p.lives.length ≤ 64) (hc : ∀ x ∈ p.parts, x.ch.length ≤ 64) :
    Calls Tryd.prog 11 #[pu, pv] w fun e w' => BolOut w true e w' := by
  obtain ⟨nodes, copies, parts, lives⟩ := p
  obtain ⟨s1, l1, rfl, hs1, hl1⟩ := hu
  obtain ⟨s2, l2, rfl, hs2, hl2⟩ := hv
  unfold plv
  simp only at hs1 hl1 hs2 hl2 hl hll hc ⊢
  obtain ⟨a1, c1, rfl⟩ := hs1.form
  obtain ⟨a2, c2, rfl⟩ := hs2.form
  obtain ⟨d1, f1, rfl⟩ := hl1.form
  obtain ⟨d2, f2, rfl⟩ := hl2.form
  obtain ⟨m, hm⟩ : ∃ n, parts.length = n := ⟨_, rfl⟩
  obtain ⟨q, hq⟩ : ∃ n, lives.length = n := ⟨_, rfl⟩
  have HS1 : Hid (∀ wx, Below w.heap.size w wx → PsR A wx (.slice a1 m c1) parts) := Lib.hid fun wx hb => by rw [← hm]; exact hs1.below hb
  have HS2 : Hid (∀ wx, Below w.heap.size w wx → PsR B wx (.slice a2 m c2) parts) := Lib.hid fun wx hb => by rw [← hm]; exact hs2.below hb
  have HL1 : Hid (∀ wx, Below w.heap.size w wx → Lvs A wx (.slice d1 q f1) lives) := Lib.hid fun wx hb => by rw [← hq]; exact hl1.below hb
  have HL2 : Hid (∀ wx, Below w.heap.size w wx → Lvs B wx (.slice d2 q f2) lives) := Lib.hid fun wx hb => by rw [← hq]; exact hl2.below hb
  have HM := Lib.hid hm
  have HQ := Lib.hid hq
  have HC := Lib.hid hc
  rw [hm] at hl ⊢
  rw [hq] at hll ⊢
  obtain ⟨W1, hW1⟩ : ∃ W, w.alloc (.cells #[.int .i64 nodes, .int .i64 copies, .slice a1 m c1, .slice d1 q f1] 28) = W := ⟨_, rfl⟩
  obtain ⟨W2, hW2⟩ : ∃ W, W1.alloc (.cells #[.int .i64 nodes, .int .i64 copies, .slice a2 m c2, .slice d2 q f2] 28) = W := ⟨_, rfl⟩
  have hb1 : Below w.heap.size w W1 := by rw [← hW1]; exact (Below.refl _ _).alloc (Nat.le_refl _) _
  have hb12 : Below W1.heap.size W1 W2 := by rw [← hW2]; exact (Below.refl _ _).alloc (Nat.le_refl _) _
  have k1 : Blk W2 w.heap.size #[.int .i64 nodes, .int .i64 copies, .slice a1 m c1, .slice d1 q f1] 28 := by
    refine Blk.below ?_ hb12
    rw [← hW1]; exact Blk.new _ _ _
  have k2 : Blk W2 W1.heap.size #[.int .i64 nodes, .int .i64 copies, .slice a2 m c2, .slice d2 q f2] 28 := by rw [← hW2]; exact Blk.new _ _ _
  have hb2 := hb1.trans (hb12.mono hb1.size)
  have HB2 := Lib.hid hb2
  have HK1 := Lib.hid k1
  have HK2 := Lib.hid k2
  have HR2 := Lib.hid (Below.refl W2.heap.size W2)
  obtain ⟨x0, x1, x2, x3⟩ := k1.cells4
  obtain ⟨y0, y1, y2, y3⟩ := k2.cells4
  clear hb1 hb12 k1 k2 hb2 hs1 hs2 hl1 hl2 hc hm hq
  go_enter Tryd.func11, Tryd.ntmps11
  go_upto_region 3 with fail
  go_wp2_with fail
  clear x0 x1 x2 x3 y0 y1 y2 y3 hW1 hW2
  go_loopw [5] (fun iv wr => ∃ i : Nat, i ≤ m ∧ iv = .int .i64 i ∧ Below W2.heap.size W2 wr) (fun iv _ => m - (intOf iv).toNat)
  case atStart => exact ⟨0, Nat.zero_le _, rfl, HR2.out⟩
  case round =>
    obtain ⟨i, hi, rfl, hb⟩ := hrel
    have HB := Lib.hid hb
    obtain ⟨x0, x1, x2, x3⟩ := (HK1.out.below hb).cells4
    obtain ⟨y0, y1, y2, y3⟩ := (HK2.out.below hb).cells4
    clear hb
    by_cases hlt : i < m
    · have HBW := Lib.hid (HB2.out.trans (HB.out.mono HB2.out.size))
      obtain ⟨x, hx⟩ : ∃ x, parts[i]? = some x := ⟨_, List.getElem?_eq_getElem (by rw [HM.out]; exact hlt)⟩
      obtain ⟨b1, p1, k1, v1, e1, -, -, n1, g0, g1, g2⟩ := (HS1.out _ HBW.out).at hx
      obtain ⟨b2, p2, k2, v2, e2, -, -, n2, h0, h1, h2⟩ := (HS2.out _ HBW.out).at hx
      rw [HM.out] at e1 e2
      obtain rfl : a1 = some ⟨b1, p1, none⟩ := by injection e1
      obtain rfl : a2 = some ⟨b2, p2, none⟩ := by injection e2
      have i0 : (0 : Int) ≤ (i : Int) := by omega
      have i1 : (i : Int) < (m : Int) := by omega
      have hpl := fun d os => Calls.regrown_of (places_any x x v1 v2 _ (n1.below (below_regrown wr d os)) (n2.below (below_regrown wr d os)) (HC.out x (List.mem_of_getElem? hx)))
      rw [Pn.ptB_self] at hpl
      obtain ⟨xe, xc, xl⟩ := x
      unfold ptv at hpl
      simp only at g0 g1 g2 h0 h1 h2 n1 n2 hpl
      obtain ⟨a3, c3, rfl⟩ := n1.form
      obtain ⟨a4, c4, rfl⟩ := n2.form
      have HPL := Lib.hid hpl
      have kx2 := cell_regrown x2
      have ky2 := cell_regrown y2
      have kg0 := cell_regrown g0
      have kg1 := cell_regrown g1
      have kg2 := cell_regrown g2
      have kh0 := cell_regrown h0
      have kh1 := cell_regrown h1
      have kh2 := cell_regrown h2
      clear hpl n1 n2 hx e1 e2
      go_upto_region 6 with fail
      clear x0 x1 x2 x3 y0 y1 y2 y3 g0 g1 g2 h0 h1 h2
      refine wp_region_quiet_below (by kernel_rfl) (by kernel_rfl) ?_
      repeat (go_big_quiet_step ((go_at_call 14; with_reducible exact HPL.out _ _)))
      refine wpQuiet_nil ?_
      intro w3 hw3
      obtain ⟨⟨dq, osq⟩, hw3'⟩ := hw3
      have H3 : Hid (Below W2.heap.size W2 w3) := Lib.hid (HB.out.trans (by rw [hw3']; exact (below_regrown wr dq osq).mono HB.out.size))
      clear hw3' HPL kx2 ky2 kg0 kg1 kg2 kh0 kh1 kh2
      go_wp2_with fail
      go_roundw
      case rel => exact ⟨i + 1, by omega, by go_num, H3.out⟩
      case measure => simp [intOf]; omega
    · have hlt2 := hlt
      clear hlt2
      go_wp2_with fail
      go_loopw [6] (fun iv wr2 => ∃ i : Nat, i ≤ q ∧ iv = .int .i64 i ∧ Below W2.heap.size W2 wr2) (fun iv _ => q - (intOf iv).toNat)
      case atStart => exact ⟨0, Nat.zero_le _, rfl, HB.out⟩
      case round =>
        obtain ⟨j, hj, rfl, hb⟩ := hrel
        have HBJ := Lib.hid hb
        clear x0 x1 x2 x3 y0 y1 y2 y3
        obtain ⟨x0, x1, x2, x3⟩ := (HK1.out.below hb).cells4
        obtain ⟨y0, y1, y2, y3⟩ := (HK2.out.below hb).cells4
        clear hb
        by_cases hlt : j < q
        · have HBW := Lib.hid (HB2.out.trans (HBJ.out.mono HB2.out.size))
          obtain ⟨x, hx⟩ : ∃ x, lives[j]? = some x := ⟨_, List.getElem?_eq_getElem (by rw [HQ.out]; exact hlt)⟩
          obtain ⟨b1, p1, k1, e1, -, -, g0, g1⟩ := (HL1.out _ HBW.out).at hx
          obtain ⟨b2, p2, k2, e2, -, -, h0, h1⟩ := (HL2.out _ HBW.out).at hx
          rw [HQ.out] at e1 e2
          obtain rfl : d1 = some ⟨b1, p1, none⟩ := by injection e1
          obtain rfl : d2 = some ⟨b2, p2, none⟩ := by injection e2
          have i0 : (0 : Int) ≤ (j : Int) := by omega
          have i1 : (j : Int) < (q : Int) := by omega
          clear e1 e2 hx
          go_upto_region 11 with fail
          go_quiet (fail)
          go_wp2_with fail
          go_roundw
          case rel => exact ⟨j + 1, by omega, by go_num, HBJ.out.trans ((below_drewN _ _).mono (Nat.le_refl _))⟩
          case measure => simp [intOf]; omega
        · go_wp2_with fail
          go_ret
          exact ⟨rfl, HB2.out.trans (HBJ.out.mono HB2.out.size)⟩
end Go.Proofs.YtmkinnheoejphaaDoor
