/- THE DOCUMENT'S Good. -/
import Derived.Test.YtmkinnheoejphaaGreatDoorRLw
import Derived.Deep.QuietTactic
import Derived.BigQuiet
namespace Go.Proofs.YtmkinnheoejphaaGreatDoor
open Go.RowKit

/-- What the document looks at in a place. -/
theorem place_r {x : Pn.Pt} {nodes : Int} : Pn.placeB x nodes = true ↔ (Pn.epB x.ep = true ∧ 1 ≤ x.ch.length ∧ (x.le = 0 ∨ (1 ≤ x.le ∧ x.le ≤ nodes)) ∧ x.ch.contains x.le = false ∧ ∀ (j : Nat) (n : Int), x.ch[j]? = some n → (1 ≤ n ∧ n ≤ nodes) ∧ n ∉ x.ch.take j) := by
  rw [Pn.place_iff]
  constructor
  · intro h
    refine ⟨?_, List.length_pos_iff.2 h.ne, ?_, by simpa using h.le, fun j n hj => ⟨h.nds n (List.mem_of_getElem? hj), Pn.nodup_take.1 h.nd j n hj⟩⟩
    · unfold Pn.epB
      have := h.e1
      have := h.e2
      simp
      omega
    · have := h.l0
      have := h.l1
      omega
  · rintro ⟨h1, h2, h3, h4, h5⟩
    unfold Pn.epB at h1
    simp only [Bool.and_eq_true, decide_eq_true_eq] at h1
    have hne : x.ch ≠ [] := List.length_pos_iff.1 h2
    have hpos : 1 ≤ nodes := by
      have := (h5 0 x.ch[0] (List.getElem?_eq_getElem h2)).1
      omega
    refine ⟨h1.1, h1.2, by omega, by omega, hne, Pn.nodup_take.2 fun j n hj => (h5 j n hj).2, fun n hn => ?_, by simpa using h4⟩
    obtain ⟨j, hj, e⟩ := List.getElem_of_mem hn
    exact (h5 j n (by rw [← e]; exact List.getElem?_eq_getElem hj)).1
theorem place_no {x : Pn.Pt} {nodes : Int} (h : ¬ (Pn.epB x.ep = true ∧ 1 ≤ x.ch.length ∧ (x.le = 0 ∨ (1 ≤ x.le ∧ x.le ≤ nodes)) ∧ x.ch.contains x.le = false ∧ ∀ (j : Nat) (n : Int), x.ch[j]? = some n → (1 ≤ n ∧ n ≤ nodes) ∧ n ∉ x.ch.take j)) : Pn.placeB x nodes = false := by
  cases hb : Pn.placeB x nodes with
  | false => rfl
  | true => exact absurd (place_r.1 hb) h
theorem last_nonneg (nodes : Int) : ∀ (l : List (Int × Int)) (a : Int), Pn.livesB nodes a l = true → 0 ≤ a → 0 ≤ Pn.lastN a l
  | [], a, _, h => h
  | y :: l, a, h, h0 => by
    unfold Pn.livesB at h
    simp only [Bool.and_eq_true, decide_eq_true_eq] at h
    exact last_nonneg nodes l y.1 h.2 (by omega)
set_option maxHeartbeats 4000000 in
set_option maxRecDepth 100000 in
theorem rgood_any {A : Nat → Prop} (pv : Value) (p : Pn.P) (w : World) (h : PlR A w pv p) (hl : p.parts.length ≤ 64) (hll : p.lives.length ≤ 64) (hc : ∀ x ∈ p.parts, x.ch.length ≤ 64) : Calls Tryz.prog 14 #[pv] w fun e w' => BolOut w (Pn.goodB p) e w' := by
  obtain ⟨sv, lv, rfl, hv, hlv⟩ := h
  obtain ⟨nodes, copies, parts, lives⟩ := p
  simp only [plv] at hv hlv hl hll hc ⊢
  obtain ⟨a, cap, rfl⟩ := hv.form
  obtain ⟨la, lcap, rfl⟩ := hlv.form
  obtain ⟨D, hD⟩ : ∃ D, Pn.goodB ⟨nodes, copies, parts, lives⟩ = D := ⟨_, rfl⟩
  rw [hD]
  obtain ⟨m, hm⟩ : ∃ m, parts.length = m := ⟨_, rfl⟩
  obtain ⟨k, hk⟩ : ∃ m, lives.length = m := ⟨_, rfl⟩
  obtain ⟨Y, hY⟩ : ∃ Y, Pn.layB nodes copies m = Y := ⟨_, rfl⟩
  have HD : Hid (D = (Y && parts.all (fun x => Pn.placeB x nodes) && Pn.livesB nodes 0 lives)) := Lib.hid (by rw [← hD, ← hY, ← hm]; rfl)
  have HM := Lib.hid hm
  have HK := Lib.hid hk
  have HC := Lib.hid hc
  obtain ⟨W1, hW1⟩ : ∃ W, w.alloc (.cells #[.int .i64 nodes, .int .i64 copies, .slice a parts.length cap, .slice la lives.length lcap] 25) = W := ⟨_, rfl⟩
  have hB1 : Below w.heap.size w W1 := by rw [← hW1]; exact (Below.refl _ _).alloc (Nat.le_refl _) _
  have hk1 : Blk W1 w.heap.size #[.int .i64 nodes, .int .i64 copies, .slice a parts.length cap, .slice la lives.length lcap] 25 := by rw [← hW1]; exact Blk.new _ _ _
  have HV := Lib.hid (hv.below hB1)
  have HLV := Lib.hid (hlv.below hB1)
  have HB1 := Lib.hid hB1
  have HR := Lib.hid (Below.refl W1.heap.size W1)
  rw [hm, hk] at hW1 hk1
  rw [hm] at HV hl ⊢
  rw [hk] at HLV hll ⊢
  have HK1 := Lib.hid hk1
  have HLO := Lib.hid (lay_or nodes copies m Y hY)
  have c0 : W1.cell? ⟨w.heap.size, 0, none⟩ = some (.int .i64 nodes) := hk1.cell rfl
  have c1 : W1.cell? ⟨w.heap.size, 1, none⟩ = some (.int .i64 copies) := hk1.cell rfl
  have c2 : W1.cell? ⟨w.heap.size, 2, none⟩ = some (.slice a m cap) := hk1.cell rfl
  have HNODE : Hid (∀ n wx, Calls Tryz.prog 42 #[.int .i64 n, .int .i64 nodes] wx fun e w' => e = .returned (.bool (decide (1 ≤ n) && decide (n ≤ nodes))) ∧ w' = wx) := Lib.hid fun n wx => rnode_any n nodes wx
  clear hv hlv hB1 hk1 hm hk hD hc hY
  go_enter Tryz.func14, Tryz.ntmps14
  cases Y with
  | false =>
    have HF : Hid (D = false) := Lib.hid (by rw [HD.out]; rfl)
    rcases HLO.out.2 rfl with h1 | ⟨h1, h2⟩ | ⟨h1, h2, h3⟩ | ⟨h1, h2, h3, h4⟩ | ⟨h1, h2, h3, h4, h5⟩ | ⟨h1, h2, h3, h4, h5, h6⟩
    · skip
      go_wp2_with fail
      go_ret
      exact ⟨by rw [HF.out]; rfl, HB1.out⟩
    · skip
      go_wp2_with fail
      go_ret
      exact ⟨by rw [HF.out]; rfl, HB1.out⟩
    · skip
      go_wp2_with fail
      go_ret
      exact ⟨by rw [HF.out]; rfl, HB1.out⟩
    · skip
      go_wp2_with fail
      go_ret
      exact ⟨by rw [HF.out]; rfl, HB1.out⟩
    · skip
      have h5n : m < 2 := by omega
      go_wp2_with fail
      go_ret
      exact ⟨by rw [HF.out]; rfl, HB1.out⟩
    · skip
      have h6n : 4 < m := by omega
      have h5n : ¬ (m < 2) := by omega
      go_wp2_with fail
      go_ret
      exact ⟨by rw [HF.out]; rfl, HB1.out⟩
  | true =>
  have HD2 : Hid (D = (parts.all (fun x => Pn.placeB x nodes) && Pn.livesB nodes 0 lives)) := Lib.hid (by rw [HD.out]; rfl)
  obtain ⟨h1, h2, h3, h4, h5, h6⟩ := HLO.out.1 rfl
  have h5n : ¬ (m < 2) := by omega
  have h6n : ¬ (4 < m) := by omega
  clear HD HLO
  go_wp2_with fail
  clear h1 h2 h3 h4 h5 h6 h5n h6n
  go_loopw [3, 4, 5] (fun s3 _ _ wx => ∃ i : Nat, i ≤ m ∧ s3 = .int .i64 i ∧ Below W1.heap.size W1 wx ∧ (parts.take i).all (fun x => Pn.placeB x nodes) = true) (fun s3 _ _ _ => m - (intOf s3).toNat)
  case atStart => exact ⟨0, Nat.zero_le _, rfl, HR.out, rfl⟩
  case round =>
    clear c0 c1 c2
    obtain ⟨i, hi, rfl, hb, hok⟩ := hrel
    have HB := Lib.hid hb
    have HOK := Lib.hid hok
    obtain ⟨f0, f1, f2, f3⟩ := (HK1.out.below hb).cells4
    clear hok
    by_cases hlt : i < m
    · obtain ⟨x, hx⟩ : ∃ x, parts[i]? = some x := ⟨_, List.getElem?_eq_getElem (by rw [HM.out]; exact hlt)⟩
      have hv := HV.out.below hb
      rw [← HM.out] at hv
      obtain ⟨b, p, cap', cv, ev, -, hbl, hns, e0, e1, e2⟩ := hv.at hx
      rw [HM.out] at ev
      obtain rfl : a = some ⟨b, p, none⟩ := by injection ev
      have hc64 := HC.out x (List.mem_of_getElem? hx)
      have HALL := Lib.hid (Pn.all_take (fun x => Pn.placeB x nodes) hx)
      have HBAD := Lib.hid (Pn.all_bad (fun x => Pn.placeB x nodes) hx)
      obtain ⟨xe, xc, xl⟩ := x
      simp only at e0 e1 e2 hns hc64
      obtain ⟨ca, cc, rfl⟩ := hns.form
      obtain ⟨cn, hcn⟩ : ∃ n, xc.length = n := ⟨_, rfl⟩
      obtain ⟨W2, hW2⟩ : ∃ W, wr.alloc (.cells #[.int .i64 xe, .slice ca xc.length cc, .int .i64 xl] 49) = W := ⟨_, rfl⟩
      have hb2 : Below wr.heap.size wr W2 := by rw [← hW2]; exact (Below.refl _ _).alloc (Nat.le_refl _) _
      have hk2 : Blk W2 wr.heap.size #[.int .i64 xe, .slice ca xc.length cc, .int .i64 xl] 49 := by rw [← hW2]; exact Blk.new _ _ _
      have HEP := Lib.hid (rnum_any xe W2)
      have HHL := Lib.hid (rhas_any _ xc xl W2 (hns.below hb2) hc64)
      obtain ⟨E, hE⟩ : ∃ E, Pn.epB xe = E := ⟨_, rfl⟩
      obtain ⟨C, hC⟩ : ∃ C, xc.contains xl = C := ⟨_, rfl⟩
      rw [hE] at HEP
      rw [hC] at HHL
      have HNP : Hid (¬ (E = true ∧ 1 ≤ cn ∧ (xl = 0 ∨ (1 ≤ xl ∧ xl ≤ nodes)) ∧ C = false ∧ ∀ (j : Nat) (n : Int), xc[j]? = some n → (1 ≤ n ∧ n ≤ nodes) ∧ n ∉ xc.take j) → D = false) := Lib.hid fun h => by
        rw [HD2.out, HBAD.out (place_no (by simp only; rw [hE, hC, hcn]; exact h))]
        rfl
      have HYP : Hid ((E = true ∧ 1 ≤ cn ∧ (xl = 0 ∨ (1 ≤ xl ∧ xl ≤ nodes)) ∧ C = false ∧ ∀ (j : Nat) (n : Int), xc[j]? = some n → (1 ≤ n ∧ n ≤ nodes) ∧ n ∉ xc.take j) → (parts.take (i + 1)).all (fun x => Pn.placeB x nodes) = true) := Lib.hid fun h => by
        rw [HALL.out, HOK.out, Bool.true_and]
        exact place_r.2 (by simp only; rw [hE, hC, hcn]; exact h)
      have HNS := Lib.hid (hns.below hb2)
      have HCN := Lib.hid hcn
      have HB2 := Lib.hid (HB.out.trans (hb2.mono HB.out.size))
      rw [hcn] at hW2 hk2 HHL e1
      have HK2 := Lib.hid hk2
      have HR2 := Lib.hid (Below.refl W2.heap.size W2)
      have i0 : (0 : Int) ≤ (i : Int) := by omega
      have i1 : (i : Int) < (m : Int) := by omega
      have HWH := Lib.hid hW2
      have HC6 : Hid (cn ≤ 64) := Lib.hid (by rw [← hcn]; exact hc64)
      clear ev hx hv hb hns hc64 hb2 hk2 hE hC hcn hW2 HALL HBAD
      go_upto_region 7 with fail
      rw [HWH.out]
      clear e0 e1 e2 HWH f0 f1 f2 f3
      obtain ⟨bx, hbx⟩ : ∃ b, wr.heap.size = b := ⟨_, rfl⟩
      rw [hbx] at HK2 ⊢
      clear hbx
      obtain ⟨f0, f1, f2, f3⟩ := (HK1.out.below HB2.out).cells4
      obtain ⟨d0, d1, d2⟩ := HK2.out.cells3
      have HEND := Lib.hid (HB1.out.trans (HB2.out.mono HB1.out.size))
      cases E with
      | false =>
        have HF := Lib.hid (HNP.out (fun h => by cases h.1))
        go_wp2_with fail
        refine HEP.out.mono ?_
        rintro e w3 ⟨rfl, rfl⟩
        go_wp2_with fail
        go_ret
        exact ⟨by rw [HF.out]; rfl, HEND.out⟩
      | true =>
      by_cases k1 : cn < 1
      · have HF := Lib.hid (HNP.out (fun h => by have := h.2.1; omega))
        have k1i : (cn : Int) < 1 := by omega
        go_wp2_with fail
        refine HEP.out.mono ?_
        rintro e w3 ⟨rfl, rfl⟩
        go_wp2_with fail
        go_ret
        exact ⟨by rw [HF.out]; rfl, HEND.out⟩
      have k1i : ¬ ((cn : Int) < 1) := by omega
      have HNL := Lib.hid (HNODE.out xl W2)
      obtain ⟨NL, hNL⟩ : ∃ b, (decide (1 ≤ xl) && decide (xl ≤ nodes)) = b := ⟨_, rfl⟩
      have HNN := Lib.hid hNL
      rw [hNL] at HNL
      clear hNL
      have hxz : (xl = 0 ∨ (1 ≤ xl ∧ xl ≤ nodes)) ∨ (xl ≠ 0 ∧ NL = false) := by
        by_cases h0 : xl = 0
        · exact .inl (.inl h0)
        · cases hn : NL with
          | false => exact .inr ⟨h0, rfl⟩
          | true =>
            have := HNN.out
            rw [hn] at this
            simp only [Bool.and_eq_true, decide_eq_true_eq] at this
            exact .inl (.inr this)
      have HXZ := Lib.hid hxz
      clear hxz
      go_cut [81] from 40 to 81 (fun s wx => ∃ bb : Bool, s = .bool bb ∧ wx = W2 ∧ (bb = true → D = false) ∧ (bb = false → (xl = 0 ∨ (1 ≤ xl ∧ xl ≤ nodes)) ∧ C = false))
      case first =>
        by_cases h0 : xl = 0
        · have h0b : (xl != 0) = false := by simp [h0]
          have HXX : Hid (xl = 0) := Lib.hid h0
          clear h0
          go_wp2_with fail
          refine HEP.out.mono ?_
          rintro e w3 ⟨rfl, rfl⟩
          go_wp2_with fail
          refine HHL.out.mono ?_
          rintro e w3 ⟨rfl, rfl⟩
          go_wp2_with fail
          go_meet
          case rel => exact ⟨C, by rw [show decide ((cn : Int) < 1) = false from decide_eq_false (by omega)]; rfl, rfl, fun h => HNP.out (fun h2 => by rw [h] at h2; cases h2.2.2.2.1), fun h => ⟨.inl HXX.out, h⟩⟩
        · have h0b : (xl != 0) = true := by simp [h0]
          have HXX : Hid (xl ≠ 0) := Lib.hid h0
          clear h0
          cases NL with
          | false =>
            go_wp2_with fail
            refine HEP.out.mono ?_
            rintro e w3 ⟨rfl, rfl⟩
            go_wp2_with fail
            refine HNL.out.mono ?_
            rintro e w3 ⟨rfl, rfl⟩
            go_wp2_with fail
            go_meet
            case rel => exact ⟨true, rfl, rfl, fun _ => HNP.out (fun h2 => by
              rcases h2.2.2.1 with h | ⟨h, h'⟩
              · exact HXX.out h
              · have := HNN.out
                rw [decide_eq_true h, decide_eq_true h'] at this
                cases this), fun h => by cases h⟩
          | true =>
            go_wp2_with fail
            refine HEP.out.mono ?_
            rintro e w3 ⟨rfl, rfl⟩
            go_wp2_with fail
            refine HNL.out.mono ?_
            rintro e w3 ⟨rfl, rfl⟩
            go_wp2_with fail
            refine HHL.out.mono ?_
            rintro e w3 ⟨rfl, rfl⟩
            go_wp2_with fail
            go_meet
            case rel => exact ⟨C, by rw [show decide ((cn : Int) < 1) = false from decide_eq_false (by omega)]; rfl, rfl, fun h => HNP.out (fun h2 => by rw [h] at h2; cases h2.2.2.2.1), fun h => ⟨(by
              rcases HXZ.out with h3 | ⟨-, h3⟩
              · exact h3
              · cases h3), h⟩⟩
      case rest =>
      obtain ⟨bb, rfl, hwc, hbt, hbf⟩ := hcut
      have hwc' : W2 = wc := hwc.symm
      subst hwc'
      clear hwc
      cases bb with
      | true =>
        have HF := Lib.hid (hbt rfl)
        clear hbt hbf
        go_wp2_with fail
        go_ret
        exact ⟨by rw [HF.out]; rfl, HEND.out⟩
      | false =>
      have HBF := Lib.hid (hbf rfl)
      clear hbt hbf f0 f1 f2 f3 d0 d1 d2
      go_wp2_with fail
      go_loopw [5] (fun s5 wx => ∃ j : Nat, j ≤ cn ∧ s5 = .int .i64 j ∧ Below W2.heap.size W2 wx ∧ ∀ (t : Nat) (n : Int), t < j → xc[t]? = some n → (1 ≤ n ∧ n ≤ nodes) ∧ n ∉ xc.take t) (fun s5 _ => cn - (intOf s5).toNat)
      case atStart => exact ⟨0, Nat.zero_le _, rfl, HR2.out, fun t n ht => absurd ht (Nat.not_lt_zero _)⟩
      case round =>
        obtain ⟨j, hj, rfl, hbj, hno⟩ := hrel
        have hc6 : cn ≤ 64 := HC6.out
        have HNO := Lib.hid hno
        have HBJ := Lib.hid hbj
        obtain ⟨f0, f1, f2, f3⟩ := (HK1.out.below (HB2.out.trans (hbj.mono HB2.out.size))).cells4
        obtain ⟨d0, d1, d2⟩ := (HK2.out.below hbj).cells3
        clear hno
        by_cases hjl : j < cn
        · obtain ⟨x', hx'⟩ : ∃ x, xc[j]? = some x := ⟨_, List.getElem?_eq_getElem (by rw [HCN.out]; exact hjl)⟩
          have hns := HNS.out.below hbj
          have hcp := (Rds.cap (show Rds _ _ _ _ _ _ from hns)).2.1
          rw [HCN.out] at hcp
          obtain ⟨vb, vp, vk, ev, -, -, q0⟩ := hns.at hx'
          try simp only at ev
          rw [HCN.out] at ev hns
          obtain rfl : ca = some ⟨vb, vp, none⟩ := by injection ev
          have HTK : Hid (∀ n, Calls Tryz.prog 34 #[.slice (some ⟨vb, vp, none⟩) j cc, .int .i64 x'] (wr.drewN n) fun e w' => e = .returned (.bool ((xc.take j).contains x')) ∧ w' = wr.drewN n) := Lib.hid fun n => rhas_any _ (xc.take j) x' (wr.drewN n) (Rds.below (Ns.take hns hj) (below_drewN wr n)) (by have := HC6.out; rw [List.length_take]; omega)
          have HND := Lib.hid (HNODE.out x')
          obtain ⟨NX, hNX⟩ : ∃ b, (decide (1 ≤ x') && decide (x' ≤ nodes)) = b := ⟨_, rfl⟩
          obtain ⟨TX, hTX⟩ : ∃ b, (xc.take j).contains x' = b := ⟨_, rfl⟩
          rw [hNX] at HND
          rw [hTX] at HTK
          have HX' := Lib.hid hx'
          have HNX := Lib.hid hNX
          have HTX := Lib.hid hTX
          have j0 : (0 : Int) ≤ (j : Int) := by omega
          have j1 : (j : Int) < (cn : Int) := by omega
          have j2 : (j : Int) ≤ (cc : Int) := by omega
          clear hx' hns ev hNX hTX hcp hbj
          cases NX with
          | false =>
            have HF := Lib.hid (HNP.out (fun h => by
              have h2 := (h.2.2.2.2 j x' HX'.out).1
              have := HNX.out
              rw [decide_eq_true h2.1, decide_eq_true h2.2] at this
              cases this))
            go_wp2_with fail
            go_quiet ((go_at_call 42; refine Calls.quiet_of_same (HND.out _)))
            have HBQ := Lib.hid (HEND.out.trans ((HBJ.out.trans ((below_drewN (B := wr.heap.size) wr nq).mono HBJ.out.size)).mono HEND.out.size))
            go_wp2_with fail
            go_ret
            exact ⟨by rw [HF.out]; rfl, HBQ.out⟩
          | true =>
          cases TX with
          | true =>
            have HF := Lib.hid (HNP.out (fun h => (h.2.2.2.2 j x' HX'.out).2 (by have := HTX.out; simpa using this)))
            go_wp2_with fail
            go_quiet (first | (go_at_call 42; refine Calls.quiet_of_same (HND.out _)) | (go_at_call 34; refine Calls.quiet_of_same (HTK.out _)))
            have HBQ := Lib.hid (HEND.out.trans ((HBJ.out.trans ((below_drewN (B := wr.heap.size) wr nq).mono HBJ.out.size)).mono HEND.out.size))
            go_wp2_with fail
            go_ret
            exact ⟨by rw [HF.out]; rfl, HBQ.out⟩
          | false =>
            have HNN2 : Hid (∀ (t : Nat) (n : Int), t < j + 1 → xc[t]? = some n → (1 ≤ n ∧ n ≤ nodes) ∧ n ∉ xc.take t) := Lib.hid fun t n ht hn => by
              by_cases h : t = j
              · subst h
                rw [HX'.out] at hn
                injection hn with hn
                subst hn
                have h1 := HNX.out
                simp only [Bool.and_eq_true, decide_eq_true_eq] at h1
                exact ⟨h1, by have := HTX.out; simpa using this⟩
              · exact HNO.out t n (by omega) hn
            go_wp2_with fail
            go_quiet (first | (go_at_call 42; refine Calls.quiet_of_same (HND.out _)) | (go_at_call 34; refine Calls.quiet_of_same (HTK.out _)))
            have HBQ := Lib.hid (HBJ.out.trans ((below_drewN (B := wr.heap.size) wr nq).mono HBJ.out.size))
            go_wp2_with fail
            go_roundw
            case rel => exact ⟨j + 1, by omega, by go_num, HBQ.out, HNN2.out⟩
            case measure => simp [intOf]; omega
        · have HT := Lib.hid (HYP.out ⟨by trivial, by omega, HBF.out.1, HBF.out.2, fun t n hn => HNO.out t n (by have := (List.getElem?_eq_some_iff.1 hn).1; rw [HCN.out] at this; omega) hn⟩)
          have HBZ := Lib.hid (HB2.out.trans (HBJ.out.mono HB2.out.size))
          have hjn : ¬ ((j : Int) < (cn : Int)) := by omega
          clear hbj
          go_wp2_with fail
          go_roundw
          case rel => exact ⟨i + 1, by omega, by go_num, HBZ.out, HT.out⟩
          case measure => simp [intOf]; omega
    · have HD3 : Hid (D = Pn.livesB nodes 0 lives) := Lib.hid (by
        have e : parts.take i = parts := List.take_of_length_le (by rw [HM.out]; omega)
        have := HOK.out
        rw [e] at this
        rw [HD2.out, this]
        rfl)
      have HBL := Lib.hid (HB1.out.trans (hb.mono HB1.out.size))
      have HR2 := Lib.hid (Below.refl wr.heap.size wr)
      have HKR := Lib.hid (HK1.out.below hb)
      have HLR := Lib.hid (HLV.out.below hb)
      have c3 : wr.cell? ⟨w.heap.size, 3, none⟩ = some (.slice la k lcap) := HKR.out.cell rfl
      clear HOK HD2 hb HB
      go_wp2_with fail
      go_loopw [6, 7] (fun s5 s33 wx => ∃ i : Nat, i ≤ k ∧ s33 = .int .i64 i ∧ s5 = .int .i64 (Pn.lastN 0 (lives.take i)) ∧ Below wr.heap.size wr wx ∧ Pn.livesB nodes 0 (lives.take i) = true) (fun _ s33 _ => k - (intOf s33).toNat)
      case atStart => exact ⟨0, Nat.zero_le _, rfl, rfl, HR2.out, rfl⟩
      case round =>
        obtain ⟨j, hj, rfl, rfl, hb, hok⟩ := hrel
        have HB := Lib.hid hb
        have HOK := Lib.hid hok
        obtain ⟨f0, f1, f2, f3⟩ := (HKR.out.below hb).cells4
        clear hok
        by_cases hjt : j < k
        · obtain ⟨x, hx⟩ : ∃ x, lives[j]? = some x := ⟨_, List.getElem?_eq_getElem (by rw [HK.out]; exact hjt)⟩
          have hv := HLR.out.below hb
          rw [← HK.out] at hv
          obtain ⟨b, p, cap', ev, -, hbl, e0, e1⟩ := hv.at hx
          rw [HK.out] at ev
          obtain rfl : la = some ⟨b, p, none⟩ := by injection ev
          obtain ⟨ht1, ht2⟩ := Pn.lives_take (nodes := nodes) hx
          obtain ⟨xn, xl⟩ := x
          simp only at e0 e1 ht1 ht2
          obtain ⟨E, hE⟩ : ∃ E, Pn.epB xl = E := ⟨_, rfl⟩
          obtain ⟨z, hz⟩ : ∃ z, Pn.lastN 0 (lives.take j) = z := ⟨_, rfl⟩
          have HZ0 : Hid (0 ≤ z) := Lib.hid (by rw [← hz]; exact last_nonneg nodes _ 0 HOK.out (Int.le_refl _))
          rw [hE, hz, HOK.out, Bool.true_and] at ht1
          rw [hz]
          have HT1 := Lib.hid ht1
          have HT2 := Lib.hid ht2
          have HEP : Hid (∀ n, Calls Tryz.prog 41 #[.int .i64 xl] (wr.drewN n) fun e w' => e = .returned (.bool E) ∧ w' = wr.drewN n) := Lib.hid fun n => by have h := rnum_any xl (wr.drewN n); rw [hE] at h; exact h
          have HND := Lib.hid (HNODE.out xn)
          have i0 : (0 : Int) ≤ (j : Int) := by omega
          have i1 : (j : Int) < (k : Int) := by omega
          have HEND := Lib.hid (HBL.out.trans (HB.out.mono HBL.out.size))
          have HBAD : Hid ((decide (z < xn) && decide (xn ≤ nodes) && E) = false → D = false) := Lib.hid fun h => by
            rw [HD3.out]
            exact Pn.lives_bad (j + 1) (by rw [HT1.out]; exact h)
          clear ev hx hv hb ht1 ht2 hE hz
          by_cases j1 : xn ≤ z
          · have HF : Hid (D = false) := Lib.hid (HBAD.out (by rw [decide_eq_false (by omega : ¬ z < xn)]; rfl))
            clear HBAD
            go_wp2_with fail
            go_quiet (fail)
            have HBQ := Lib.hid (HEND.out.trans ((below_drewN (B := wr.heap.size) wr nq).mono HEND.out.size))
            go_wp2_with fail
            go_ret
            exact ⟨by rw [HF.out]; rfl, HBQ.out⟩
          have j1b : decide (xn ≤ z) = false := decide_eq_false j1
          have j1c : z < xn := by omega
          clear j1
          obtain ⟨NX, hNX⟩ : ∃ b, (decide (1 ≤ xn) && decide (xn ≤ nodes)) = b := ⟨_, rfl⟩
          rw [hNX] at HND
          have HNX := Lib.hid hNX
          clear hNX
          have HFN : Hid (NX = false → D = false) := Lib.hid (by
            intro hn
            refine HBAD.out ?_
            have h1 := HNX.out
            have h0 := HZ0.out
            rw [hn] at h1
            simp only [Bool.and_eq_false_iff, decide_eq_false_iff_not] at h1
            have h2 : ¬ xn ≤ nodes := by omega
            rw [decide_eq_false h2]
            simp)
          cases NX with
          | false =>
            have HF := Lib.hid (HFN.out rfl)
            clear HBAD HFN HNX HZ0 HT1 HT2 HEP
            go_wp2_with fail
            go_quiet ((go_at_call 42; refine Calls.quiet_of_same (HND.out _)))
            have HBQ := Lib.hid (HEND.out.trans ((below_drewN (B := wr.heap.size) wr nq).mono HEND.out.size))
            go_wp2_with fail
            go_ret
            exact ⟨by rw [HF.out]; rfl, HBQ.out⟩
          | true =>
          cases E with
          | false =>
            have HF : Hid (D = false) := Lib.hid (HBAD.out (by simp))
            clear HBAD
            go_wp2_with fail
            go_quiet (first | (go_at_call 42; refine Calls.quiet_of_same (HND.out _)) | (go_at_call 41; refine Calls.quiet_of_same (HEP.out _)))
            have HBQ := Lib.hid (HEND.out.trans ((below_drewN (B := wr.heap.size) wr nq).mono HEND.out.size))
            go_wp2_with fail
            go_ret
            exact ⟨by rw [HF.out]; rfl, HBQ.out⟩
          | true =>
            have h1 := HNX.out
            simp only [Bool.and_eq_true, decide_eq_true_eq] at h1
            have HT : Hid (Pn.livesB nodes 0 (lives.take (j + 1)) = true) := Lib.hid (by rw [HT1.out, decide_eq_true (by omega : z < xn), decide_eq_true h1.2]; rfl)
            clear HBAD h1
            go_wp2_with fail
            go_quiet (first | (go_at_call 42; refine Calls.quiet_of_same (HND.out _)) | (go_at_call 41; refine Calls.quiet_of_same (HEP.out _)))
            have HBQ := Lib.hid (HB.out.trans ((below_drewN (B := wr.heap.size) wr nq).mono HB.out.size))
            go_wp2_with fail
            go_roundw
            case rel => exact ⟨j + 1, by omega, by go_num, by rw [HT2.out], HBQ.out, HT.out⟩
            case measure => simp [intOf]; omega
        · have HF : Hid (D = true) := Lib.hid (by
            have e : lives.take j = lives := List.take_of_length_le (by rw [HK.out]; omega)
            rw [HD3.out, ← HOK.out, e])
          clear hb
          go_wp2_with fail
          go_ret
          exact ⟨by rw [HF.out]; rfl, HBL.out.trans (HB.out.mono HBL.out.size)⟩
end Go.Proofs.YtmkinnheoejphaaGreatDoor
