/- THE CONTRACT OF Good. -/
import Derived.Test.YtmkinnheoejphaaGreatDoorPnE
namespace Go.Proofs.YtmkinnheoejphaaGreatDoor
open Go.RowKit

theorem Pn.all_take {α : Type} (f : α → Bool) {l : List α} {i : Nat} {x : α} (h : l[i]? = some x) : (l.take (i + 1)).all f = ((l.take i).all f && f x) := by
  rw [List.take_add_one, h, List.all_append]
  simp
theorem Pn.all_bad {α : Type} (f : α → Bool) {l : List α} {i : Nat} {x : α} (h : l[i]? = some x) (hf : f x = false) : l.all f = false := by
  rw [List.all_eq_false]
  exact ⟨x, List.mem_of_getElem? h, by rw [hf]; exact Bool.false_ne_true⟩
/-- The last node of lives, or what it was. -/
def Pn.lastN : Int → List (Int × Int) → Int
  | a, [] => a
  | _, q :: l => Pn.lastN q.1 l
theorem Pn.lives_snoc (nodes : Int) : ∀ (l : List (Int × Int)) (a : Int) (q : Int × Int), Pn.livesB nodes a (l ++ [q]) = (Pn.livesB nodes a l && (decide (Pn.lastN a l < q.1) && decide (q.1 ≤ nodes) && Pn.epB q.2))
  | [], a, q => by
    simp only [List.nil_append, Pn.livesB, Pn.lastN, Bool.and_true, Bool.true_and]
    rfl
  | y :: l, a, q => by
    simp only [List.cons_append, Pn.livesB, Pn.lastN]
    rw [Pn.lives_snoc nodes l y.1 q]
    simp only [Bool.and_assoc]
    rfl
theorem Pn.last_snoc : ∀ (l : List (Int × Int)) (a : Int) (q : Int × Int), Pn.lastN a (l ++ [q]) = q.1
  | [], _a, _q => rfl
  | y :: l, _a, q => Pn.last_snoc l y.1 q
theorem Pn.lives_pre (nodes : Int) : ∀ (l r : List (Int × Int)) (a : Int), Pn.livesB nodes a l = false → Pn.livesB nodes a (l ++ r) = false
  | [], r, a, h => by simp [Pn.livesB] at h
  | y :: l, r, a, h => by
    simp only [List.cons_append, Pn.livesB] at h ⊢
    cases h1 : (decide (a < y.1) && decide (y.1 ≤ nodes) && Pn.epB y.2) with
    | false => rfl
    | true =>
      rw [h1, Bool.true_and] at h
      rw [Bool.true_and]
      exact Pn.lives_pre nodes l r y.1 h
theorem Pn.lives_take {nodes : Int} {l : List (Int × Int)} {i : Nat} {q : Int × Int} (h : l[i]? = some q) : Pn.livesB nodes 0 (l.take (i + 1)) = (Pn.livesB nodes 0 (l.take i) && (decide (Pn.lastN 0 (l.take i) < q.1) && decide (q.1 ≤ nodes) && Pn.epB q.2)) ∧ Pn.lastN 0 (l.take (i + 1)) = q.1 := by
  have e : l.take (i + 1) = l.take i ++ [q] := by rw [List.take_add_one, h]; rfl
  rw [e]
  exact ⟨Pn.lives_snoc nodes _ 0 q, Pn.last_snoc _ 0 q⟩
theorem Pn.lives_bad {nodes : Int} {l : List (Int × Int)} (i : Nat) (h : Pn.livesB nodes 0 (l.take i) = false) : Pn.livesB nodes 0 l = false := by
  rw [← List.take_append_drop i l]
  exact Pn.lives_pre nodes _ _ 0 h
set_option maxHeartbeats 4000000 in
set_option maxRecDepth 100000 in
theorem good_any {A : Nat → Prop} (pv : Value) (p : Pn.P) (w : World) (h : PlR A w pv p) (hl : p.parts.length ≤ 64) (hll : p.lives.length ≤ 64) (hc : ∀ x ∈ p.parts, x.ch.length ≤ 64) : Calls Tryz.prog 13 #[pv] w fun e w' => BolOut w (Pn.goodB p) e w' := by
  obtain ⟨sv, lv, rfl, hv, hlv⟩ := h
  obtain ⟨nodes, copies, parts, lives⟩ := p
  simp only [plv] at hv hlv hl hll hc ⊢
  obtain ⟨a, cap, rfl⟩ := hv.form
  obtain ⟨la, lcap, rfl⟩ := hlv.form
  obtain ⟨D, hD⟩ : ∃ D, Pn.goodB ⟨nodes, copies, parts, lives⟩ = D := ⟨_, rfl⟩
  rw [hD]
  obtain ⟨m, hm⟩ : ∃ m, parts.length = m := ⟨_, rfl⟩
  obtain ⟨k, hk⟩ : ∃ m, lives.length = m := ⟨_, rfl⟩
  obtain ⟨Y, hY⟩ : ∃ Y, Pn.layB nodes copies m = Y := ⟨_, rfl⟩
  have HD : Hid (D = (Y && parts.all (fun x => Pn.placeB x nodes) && Pn.livesB nodes 0 lives)) := Lib.hid (by rw [← hD, ← hY, ← hm]; rfl)
  have HM := Lib.hid hm
  have HK := Lib.hid hk
  have HC := Lib.hid hc
  obtain ⟨W1, hW1⟩ : ∃ W, w.alloc (.cells #[.int .i64 nodes, .int .i64 copies, .slice a parts.length cap, .slice la lives.length lcap] 25) = W := ⟨_, rfl⟩
  have hB1 : Below w.heap.size w W1 := by rw [← hW1]; exact (Below.refl _ _).alloc (Nat.le_refl _) _
  have hk1 : Blk W1 w.heap.size #[.int .i64 nodes, .int .i64 copies, .slice a parts.length cap, .slice la lives.length lcap] 25 := by rw [← hW1]; exact Blk.new _ _ _
  have HV := Lib.hid (hv.below hB1)
  have HLV := Lib.hid (hlv.below hB1)
  have HB1 := Lib.hid hB1
  have HR := Lib.hid (Below.refl W1.heap.size W1)
  have HLY := Lib.hid (layout_any nodes copies m W1)
  rw [hY] at HLY
  rw [hm, hk] at hW1 hk1 
  rw [hm] at HV hl ⊢
  rw [hk] at HLV hll ⊢
  have HK1 := Lib.hid hk1
  have c0 : W1.cell? ⟨w.heap.size, 0, none⟩ = some (.int .i64 nodes) := hk1.cell rfl
  have c1 : W1.cell? ⟨w.heap.size, 1, none⟩ = some (.int .i64 copies) := hk1.cell rfl
  have c2 : W1.cell? ⟨w.heap.size, 2, none⟩ = some (.slice a m cap) := hk1.cell rfl
  clear hv hlv hB1 hk1 hm hk hD hc hY
  go_enter Tryz.func13, Tryz.ntmps13
  go_wp2_with fail
  refine HLY.out.mono ?_
  rintro e w2 ⟨rfl, rfl⟩
  clear HLY
  cases Y with
  | false =>
    have HF : Hid (D = false) := Lib.hid (by rw [HD.out]; rfl)
    go_wp2_with fail
    go_ret
    exact ⟨by rw [HF.out]; rfl, HB1.out⟩
  | true =>
  have HD2 : Hid (D = (parts.all (fun x => Pn.placeB x nodes) && Pn.livesB nodes 0 lives)) := Lib.hid (by rw [HD.out]; rfl)
  clear HD
  go_wp2_with fail
  go_loopw [4, 20] (fun _ s20 wx => ∃ i : Nat, i ≤ m ∧ s20 = .int .i64 i ∧ Below w2.heap.size w2 wx ∧ (parts.take i).all (fun x => Pn.placeB x nodes) = true) (fun _ s20 _ => m - (intOf s20).toNat)
  case atStart => exact ⟨0, Nat.zero_le _, rfl, HR.out, rfl⟩
  case round =>
    obtain ⟨i, hi, rfl, hb, hok⟩ := hrel
    have HB := Lib.hid hb
    have HOK := Lib.hid hok
    clear hok
    by_cases hlt : i < m
    · obtain ⟨x, hx⟩ : ∃ x, parts[i]? = some x := ⟨_, List.getElem?_eq_getElem (by rw [HM.out]; exact hlt)⟩
      have hv := HV.out.below hb
      rw [← HM.out] at hv
      obtain ⟨b, p, cap', cv, ev, -, hbl, hns, e0, e1, e2⟩ := hv.at hx
      rw [HM.out] at ev
      obtain rfl : a = some ⟨b, p, none⟩ := by injection ev
      have hc64 := HC.out x (List.mem_of_getElem? hx)
      have HALL := Lib.hid (Pn.all_take (fun x => Pn.placeB x nodes) hx)
      have HBAD := Lib.hid (Pn.all_bad (fun x => Pn.placeB x nodes) hx)
      obtain ⟨xe, xc, xl⟩ := x
      simp only at e0 e1 e2 hns hc64
      obtain ⟨ca, cc, rfl⟩ := hns.form
      obtain ⟨cn, hcn⟩ : ∃ n, xc.length = n := ⟨_, rfl⟩
      obtain ⟨W2, hW2⟩ : ∃ W, wr.alloc (.cells #[.int .i64 xe, .slice ca xc.length cc, .int .i64 xl] 49) = W := ⟨_, rfl⟩
      have hb2 : Below wr.heap.size wr W2 := by rw [← hW2]; exact (Below.refl _ _).alloc (Nat.le_refl _) _
      have hk2 : Blk W2 wr.heap.size #[.int .i64 xe, .slice ca xc.length cc, .int .i64 xl] 49 := by rw [← hW2]; exact Blk.new _ _ _
      have HPL := Lib.hid (place_any ⟨xe, xc, xl⟩ (.slice ca xc.length cc) nodes W2 (hns.below hb2) hc64)
      obtain ⟨B, hB⟩ : ∃ B, Pn.placeB ⟨xe, xc, xl⟩ nodes = B := ⟨_, rfl⟩
      rw [hB] at HALL HBAD HPL
      have HB2 := Lib.hid (HB.out.trans (hb2.mono HB.out.size))
      simp only [ptv] at HPL
      rw [hcn] at hW2 hk2 HPL e1
      have d0 : W2.cell? ⟨wr.heap.size, 0, none⟩ = some (.int .i64 xe) := hk2.cell rfl
      have d1 : W2.cell? ⟨wr.heap.size, 1, none⟩ = some (.slice ca cn cc) := hk2.cell rfl
      have d2 : W2.cell? ⟨wr.heap.size, 2, none⟩ = some (.int .i64 xl) := hk2.cell rfl
      have c0 : W2.cell? ⟨w.heap.size, 0, none⟩ = some (.int .i64 nodes) := (HK1.out.below HB2.out).cell rfl
      have i0 : (0 : Int) ≤ (i : Int) := by omega
      have i1 : (i : Int) < (m : Int) := by omega
      have HWH := Lib.hid hW2
      clear ev hx hv hb hns hc64 hb2 hk2 hB hcn hW2
      go_upto_region 6 with fail
      rw [HWH.out]
      clear e0 e1 e2 HWH
      go_wp2_with fail
      refine HPL.out.mono ?_
      rintro e w3 ⟨rfl, hb3⟩
      have HB3 := Lib.hid (HB2.out.trans (hb3.mono HB2.out.size))
      clear hb3
      cases B with
      | false =>
        have HF : Hid (D = false) := Lib.hid (by rw [HD2.out, HBAD.out rfl]; rfl)
        go_wp2_with fail
        go_ret
        exact ⟨by rw [HF.out]; rfl, HB1.out.trans (HB3.out.mono HB1.out.size)⟩
      | true =>
        have HT : Hid ((parts.take (i + 1)).all (fun x => Pn.placeB x nodes) = true) := Lib.hid (by rw [HALL.out, HOK.out]; rfl)
        go_wp2_with fail
        go_roundw
        case rel => exact ⟨i + 1, by omega, by go_num, HB3.out, HT.out⟩
        case measure => simp [intOf]; omega
    · have HD3 : Hid (D = Pn.livesB nodes 0 lives) := Lib.hid (by
        have e : parts.take i = parts := List.take_of_length_le (by rw [HM.out]; omega)
        have := HOK.out
        rw [e] at this
        rw [HD2.out, this]
        rfl)
      have HBL := Lib.hid (HB1.out.trans (hb.mono HB1.out.size))
      have HR2 := Lib.hid (Below.refl wr.heap.size wr)
      have HKR := Lib.hid (HK1.out.below hb)
      have HLR := Lib.hid (HLV.out.below hb)
      have c3 : wr.cell? ⟨w.heap.size, 3, none⟩ = some (.slice la k lcap) := HKR.out.cell rfl
      clear HOK HD2 hb HB
      go_wp2_with fail
      go_loopw [5, 7, 33] (fun s5 _ s33 wx => ∃ i : Nat, i ≤ k ∧ s33 = .int .i64 i ∧ s5 = .int .i64 (Pn.lastN 0 (lives.take i)) ∧ Below wr.heap.size wr wx ∧ Pn.livesB nodes 0 (lives.take i) = true) (fun _ _ s33 _ => k - (intOf s33).toNat)
      case atStart => exact ⟨0, Nat.zero_le _, rfl, rfl, HR2.out, rfl⟩
      case round =>
        obtain ⟨j, hj, rfl, rfl, hb, hok⟩ := hrel
        have HB := Lib.hid hb
        have HOK := Lib.hid hok
        clear hok
        by_cases hjt : j < k
        · obtain ⟨x, hx⟩ : ∃ x, lives[j]? = some x := ⟨_, List.getElem?_eq_getElem (by rw [HK.out]; exact hjt)⟩
          have hv := HLR.out.below hb
          rw [← HK.out] at hv
          obtain ⟨b, p, cap', ev, -, hbl, e0, e1⟩ := hv.at hx
          rw [HK.out] at ev
          obtain rfl : la = some ⟨b, p, none⟩ := by injection ev
          obtain ⟨ht1, ht2⟩ := Pn.lives_take (nodes := nodes) hx
          obtain ⟨xn, xl⟩ := x
          simp only at e0 e1 ht1 ht2
          obtain ⟨E, hE⟩ : ∃ E, Pn.epB xl = E := ⟨_, rfl⟩
          obtain ⟨z, hz⟩ : ∃ z, Pn.lastN 0 (lives.take j) = z := ⟨_, rfl⟩
          rw [hE, hz, HOK.out, Bool.true_and] at ht1
          rw [hz]
          have HT1 := Lib.hid ht1
          have HT2 := Lib.hid ht2
          obtain ⟨W2, hW2⟩ : ∃ W, wr.alloc (.cells #[.int .i64 xn, .int .i64 xl] 55) = W := ⟨_, rfl⟩
          have hb2 : Below wr.heap.size wr W2 := by rw [← hW2]; exact (Below.refl _ _).alloc (Nat.le_refl _) _
          have hk2 : Blk W2 wr.heap.size #[.int .i64 xn, .int .i64 xl] 55 := by rw [← hW2]; exact Blk.new _ _ _
          have HB2 := Lib.hid (HB.out.trans (hb2.mono HB.out.size))
          have HEP := Lib.hid (epoch_any xl W2)
          rw [hE] at HEP
          have d0 : W2.cell? ⟨wr.heap.size, 0, none⟩ = some (.int .i64 xn) := hk2.cell rfl
          have d1 : W2.cell? ⟨wr.heap.size, 1, none⟩ = some (.int .i64 xl) := hk2.cell rfl
          have f0 : W2.cell? ⟨w.heap.size, 0, none⟩ = some (.int .i64 nodes) := (HKR.out.below HB2.out).cell rfl
          have i0 : (0 : Int) ≤ (j : Int) := by omega
          have i1 : (j : Int) < (k : Int) := by omega
          have HEND := Lib.hid (HBL.out.trans (HB2.out.mono HBL.out.size))
          have HBAD : Hid ((decide (z < xn) && decide (xn ≤ nodes) && E) = false → D = false) := Lib.hid fun h => by
            rw [HD3.out]
            exact Pn.lives_bad (j + 1) (by rw [HT1.out]; exact h)
          have HWH := Lib.hid hW2
          clear ev hx hv hb hb2 hk2 ht1 ht2 hE hz hW2
          go_upto_region 13 with fail
          rw [HWH.out]
          clear e0 e1 HWH
          by_cases j1 : xn ≤ z
          · have HF : Hid (D = false) := Lib.hid (HBAD.out (by rw [decide_eq_false (by omega : ¬ z < xn)]; rfl))
            clear HBAD
            go_wp2_with fail
            go_ret
            exact ⟨by rw [HF.out]; rfl, HEND.out⟩
          by_cases j2 : nodes < xn
          · have HF : Hid (D = false) := Lib.hid (HBAD.out (by rw [decide_eq_false (by omega : ¬ xn ≤ nodes)]; simp))
            clear HBAD
            go_wp2_with fail
            go_ret
            exact ⟨by rw [HF.out]; rfl, HEND.out⟩
          cases E with
          | false =>
            have HF : Hid (D = false) := Lib.hid (HBAD.out (by simp))
            clear HBAD
            go_wp2_with fail
            refine HEP.out.mono ?_
            rintro e w3 ⟨rfl, rfl⟩
            go_wp2_with fail
            go_ret
            exact ⟨by rw [HF.out]; rfl, HEND.out⟩
          | true =>
            have HT : Hid (Pn.livesB nodes 0 (lives.take (j + 1)) = true) := Lib.hid (by rw [HT1.out, decide_eq_true (by omega : z < xn), decide_eq_true (by omega : xn ≤ nodes)]; rfl)
            clear HBAD
            go_wp2_with fail
            refine HEP.out.mono ?_
            rintro e w3 ⟨rfl, rfl⟩
            go_wp2_with fail
            go_roundw
            case rel => exact ⟨j + 1, by omega, by go_num, by rw [HT2.out], HB2.out, HT.out⟩
            case measure => simp [intOf]; omega
        · have HF : Hid (D = true) := Lib.hid (by
            have e : lives.take j = lives := List.take_of_length_le (by rw [HK.out]; omega)
            rw [HD3.out, ← HOK.out, e])
          clear hb
          go_wp2_with fail
          go_ret
          exact ⟨by rw [HF.out]; rfl, HBL.out.trans (HB.out.mono HBL.out.size)⟩
end Go.Proofs.YtmkinnheoejphaaGreatDoor
