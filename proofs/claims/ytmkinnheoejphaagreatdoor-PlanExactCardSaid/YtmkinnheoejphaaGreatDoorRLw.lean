/- THE DOCUMENT'S Life, Wants, without. -/
import Derived.Test.YtmkinnheoejphaaGreatDoorRPl
import Derived.Test.YtmkinnheoejphaaGreatDoorEvR
import Derived.Test.YtmkinnheoejphaaGreatDoorPnX
namespace Go.Proofs.YtmkinnheoejphaaGreatDoor
open Go.RowKit

set_option maxHeartbeats 1000000 in
set_option maxRecDepth 100000 in
theorem rlife_any {A : Nat → Prop} (pv : Value) (p : Pn.P) (n : Int) (w : World) (h : PlR A w pv p) (hl : p.lives.length ≤ 64) : Calls Tryz.prog 16 #[pv, .int .i64 n] w fun e w' => NumOut w (Pn.life p.lives n) e w' := by
  obtain ⟨sv, lv, rfl, -, hv⟩ := h
  obtain ⟨nodes, copies, parts, lives⟩ := p
  simp only [plv] at hv hl ⊢
  obtain ⟨a, cap, rfl⟩ := hv.form
  obtain ⟨D, hD⟩ : ∃ D, Pn.life lives n = D := ⟨_, rfl⟩
  rw [hD]
  have HD := Lib.hid hD
  obtain ⟨m, hm⟩ : ∃ m, lives.length = m := ⟨_, rfl⟩
  have HM := Lib.hid hm
  obtain ⟨W1, hW1⟩ : ∃ W, w.alloc (.cells #[.int .i64 nodes, .int .i64 copies, sv, .slice a lives.length cap] 25) = W := ⟨_, rfl⟩
  have hB1 : Below w.heap.size w W1 := by rw [← hW1]; exact (Below.refl _ _).alloc (Nat.le_refl _) _
  have hk1 : Blk W1 w.heap.size #[.int .i64 nodes, .int .i64 copies, sv, .slice a lives.length cap] 25 := by rw [← hW1]; exact Blk.new _ _ _
  have HV := Lib.hid (hv.below hB1)
  have HB1 := Lib.hid hB1
  have HR := Lib.hid (Below.refl W1.heap.size W1)
  rw [hm] at hW1 hk1 HV hl ⊢
  have HK1 : Hid (∀ wx, Below W1.heap.size W1 wx → wx.cell? ⟨w.heap.size, 3, none⟩ = some (.slice a m cap)) := Lib.hid fun wx hb => (hk1.below hb).cell rfl
  clear hv hB1 hk1 hm hD
  go_enter Tryz.func16, Tryz.ntmps16
  go_wp2_with fail
  go_loopw [5] (fun s10 wx => ∃ i : Nat, i ≤ m ∧ s10 = .int .i64 i ∧ Below W1.heap.size W1 wx ∧ ∀ j x, j < i → lives[j]? = some x → x.1 ≠ n) (fun s10 _ => m - (intOf s10).toNat)
  case atStart => exact ⟨0, Nat.zero_le _, rfl, HR.out, fun j x hj => absurd hj (Nat.not_lt_zero _)⟩
  case round =>
    obtain ⟨i, hi, rfl, hb, hno⟩ := hrel
    have HNO := Lib.hid hno
    have HB := Lib.hid hb
    clear hno
    by_cases hlt : i < m
    · obtain ⟨x, hx⟩ : ∃ x, lives[i]? = some x := ⟨_, List.getElem?_eq_getElem (by rw [HM.out]; exact hlt)⟩
      have c3' := (show wr.cell? ⟨w.heap.size, 3, none⟩ = some (.slice a m cap) from HK1.out _ hb)
      have hv := HV.out.below hb
      rw [← HM.out] at hv
      obtain ⟨b, p, cap', ev, -, hbl, e0, e1⟩ := hv.at hx
      rw [HM.out] at ev
      obtain rfl : a = some ⟨b, p, none⟩ := by injection ev
      have HX := Lib.hid hx
      obtain ⟨xn, xl⟩ := x
      simp only at e0 e1
      have i0 : (0 : Int) ≤ (i : Int) := by omega
      have i1 : (i : Int) < (m : Int) := by omega
      clear ev hx hv hb
      by_cases he : xn = n
      · have HT : Hid (D = xl) := Lib.hid (by rw [← HD.out]; exact Pn.life_first HX.out he HNO.out)
        subst he
        have HE : Hid (Below w.heap.size w wr) := Lib.hid (HB1.out.trans (HB.out.mono HB1.out.size))
        go_wp2_with fail
        go_ret
        exact ⟨by rw [HT.out]; rfl, HE.out⟩
      · have HNX : Hid (∀ j z, j < i + 1 → lives[j]? = some z → z.1 ≠ n) := Lib.hid fun j z hj hz => by
          rcases Nat.lt_or_ge j i with h | h
          · exact HNO.out j z h hz
          · obtain rfl : j = i := by omega
            rw [HX.out] at hz
            obtain rfl := Option.some.inj hz
            exact he
        have hne : (xn == n) = false := by simp [he]
        clear he
        go_wp2_with fail
        go_roundw
        case rel => exact ⟨i + 1, by omega, by go_num, HB.out, HNX.out⟩
        case measure => simp [intOf]; omega
    · have HT : Hid (D = 0) := Lib.hid (by
        rw [← HD.out]
        refine Pn.life_none fun q h => ?_
        obtain ⟨j, hj, rfl⟩ := List.getElem_of_mem h
        exact HNO.out j _ (by rw [HM.out] at hj; omega) (List.getElem?_eq_getElem hj))
      have c3' := HK1.out _ hb
      clear hb
      go_wp2_with fail
      go_ret
      exact ⟨by rw [HT.out]; rfl, HB1.out.trans (HB.out.mono HB1.out.size)⟩

theorem wants_idx (nodes copies n : Int) (parts : List Pn.Pt) (lives : List (Int × Int)) (NB : Bool) (h : (decide (1 ≤ n) && decide (n ≤ nodes)) = NB) : Pn.wants ⟨nodes, copies, parts, lives⟩ n = Pn.idx (fun x => NB && Pn.wantB copies n x) 0 parts := by
  unfold Pn.wants
  simp only
  cases NB with
  | true =>
    simp only [Bool.and_eq_true, decide_eq_true_eq] at h
    rw [if_pos h]
    congr 1
  | false =>
    have h' : ¬ (1 ≤ n ∧ n ≤ nodes) := by
      intro e
      have := h
      simp [e.1, e.2] at this
    rw [if_neg h']
    have : ∀ (l : List Pn.Pt) (k : Nat), Pn.idx (fun x => false && Pn.wantB copies n x) k l = [] := by
      intro l
      induction l with
      | nil => intro k; rfl
      | cons y l ih =>
        intro k
        unfold Pn.idx
        rw [if_neg (by simp)]
        exact ih _
    rw [this]
set_option maxHeartbeats 2000000 in
set_option maxRecDepth 100000 in
theorem rwants_any {A : Nat → Prop} (pv : Value) (p : Pn.P) (n : Int) (w : World) (h : PlR A w pv p) (hl : p.parts.length ≤ 64) (hc : ∀ x ∈ p.parts, x.ch.length ≤ 64) : Calls Tryz.prog 18 #[pv, .int .i64 n] w fun e w' => LstOut w (Pn.nums (Pn.wants p n)) e w' := by
  obtain ⟨sv, lv, rfl, hv, -⟩ := h
  obtain ⟨nodes, copies, parts, lives⟩ := p
  simp only [plv] at hv hl hc ⊢
  obtain ⟨a, cap, rfl⟩ := hv.form
  obtain ⟨D, hD⟩ : ∃ D, Pn.wants ⟨nodes, copies, parts, lives⟩ n = D := ⟨_, rfl⟩
  rw [hD]
  obtain ⟨NB, hNB⟩ : ∃ b, (decide (1 ≤ n) && decide (n ≤ nodes)) = b := ⟨_, rfl⟩
  have HT : Hid (D = Pn.idx (fun x => NB && Pn.wantB copies n x) 0 parts) := Lib.hid (by rw [← hD]; exact wants_idx nodes copies n parts lives NB hNB)
  have HND := Lib.hid fun wx => rnode_any n nodes wx
  rw [hNB] at HND
  clear hNB
  obtain ⟨m, hm⟩ : ∃ m, parts.length = m := ⟨_, rfl⟩
  have HM := Lib.hid hm
  have HC := Lib.hid hc
  obtain ⟨W1, hW1⟩ : ∃ W, w.alloc (.cells #[.int .i64 nodes, .int .i64 copies, .slice a parts.length cap, lv] 25) = W := ⟨_, rfl⟩
  have hB1 : Below w.heap.size w W1 := by rw [← hW1]; exact (Below.refl _ _).alloc (Nat.le_refl _) _
  have hk1 : Blk W1 w.heap.size #[.int .i64 nodes, .int .i64 copies, .slice a parts.length cap, lv] 25 := by rw [← hW1]; exact Blk.new _ _ _
  have HV := Lib.hid (hv.below hB1)
  have HB1 := Lib.hid hB1
  have HR := Lib.hid (Below.refl W1.heap.size W1)
  rw [hm] at hW1 hk1 HV hl ⊢
  have HK1 := Lib.hid hk1
  have c0 : W1.cell? ⟨w.heap.size, 0, none⟩ = some (.int .i64 nodes) := hk1.cell rfl
  have c2 : W1.cell? ⟨w.heap.size, 2, none⟩ = some (.slice a m cap) := hk1.cell rfl
  clear hv hB1 hk1 hm hD hc c0 c2
  go_enter Tryz.func18, Tryz.ntmps18
  go_upto_region 1 with fail
  go_upto_region 2 with fail
  obtain ⟨W0, hW0⟩ : ∃ W, W1.alloc (.cells #[] 3) = W := ⟨_, rfl⟩
  have hb0 : Below W1.heap.size W1 W0 := by rw [← hW0]; exact (Below.refl _ _).alloc (Nat.le_refl _) _
  have HN0 : Hid (NsO W1.heap.size W0 (.slice (some ⟨W1.heap.size, 0, none⟩) 0 0) (some W1.heap.size) []) := Lib.hid (by rw [← hW0]; exact Wz.empty _ _ _ (Nat.le_refl _))
  have HB0 := Lib.hid hb0
  have HW0 := Lib.hid hW0
  clear hW0 hb0 hW1
  rw [HW0.out]
  clear HW0
  go_wp2_with fail
  go_loopw [5, 6, 7] (fun s5 s19 _ wx => ∃ (i : Nat) (gb : Option Nat), i ≤ m ∧ s19 = .int .i64 i ∧ Below W1.heap.size W1 wx ∧ NsO W1.heap.size wx s5 gb (Pn.nums (Pn.idx (fun x => NB && Pn.wantB copies n x) 0 (parts.take i)))) (fun _ s19 _ _ => m - (intOf s19).toNat)
  case atStart => exact ⟨0, _, Nat.zero_le _, rfl, HB0.out, by simp only [List.take_zero]; exact HN0.out⟩
  case round =>
    obtain ⟨i, gb, hi, rfl, hb, hw⟩ := hrel
    have HB := Lib.hid hb
    have HW := Lib.hid hw
    obtain ⟨aw, cw, rfl⟩ := hw.ns.form
    obtain ⟨f0, f1, f2, f3⟩ := (HK1.out.below hb).cells4
    by_cases hlt : i < m
    · obtain ⟨x, hx⟩ : ∃ x, parts[i]? = some x := ⟨_, List.getElem?_eq_getElem (by rw [HM.out]; exact hlt)⟩
      have hv := HV.out.below hb
      rw [← HM.out] at hv
      obtain ⟨b, p, cap', cv, ev, -, hbl, hns, e0, e1, e2⟩ := hv.at hx
      rw [HM.out] at ev
      obtain rfl : a = some ⟨b, p, none⟩ := by injection ev
      have hc64 := HC.out x (List.mem_of_getElem? hx)
      have HIX := Lib.hid (Pn.idx_take (fun x => NB && Pn.wantB copies n x) hx)
      have hwl : (Pn.idx (fun x => NB && Pn.wantB copies n x) 0 (parts.take i)).length ≤ 64 := Nat.le_trans (Pn.idx_len _ _ _) (by rw [List.length_take]; omega)
      obtain ⟨xe, xc, xl⟩ := x
      simp only at e0 e1 e2 hns hc64
      obtain ⟨ca, cc, rfl⟩ := hns.form
      obtain ⟨cn, hcn⟩ : ∃ n, xc.length = n := ⟨_, rfl⟩
      have i0 : (0 : Int) ≤ (i : Int) := by omega
      have i1 : (i : Int) < (m : Int) := by omega
      obtain ⟨W2, hW2⟩ : ∃ W, wr.alloc (.cells #[.int .i64 xe, .slice ca xc.length cc, .int .i64 xl] 49) = W := ⟨_, rfl⟩
      have hb2 : Below wr.heap.size wr W2 := by rw [← hW2]; exact (Below.refl _ _).alloc (Nat.le_refl _) _
      have hk2 : Blk W2 wr.heap.size #[.int .i64 xe, .slice ca xc.length cc, .int .i64 xl] 49 := by rw [← hW2]; exact Blk.new _ _ _
      have HCT := Lib.hid (rhas_any _ xc n W2 (hns.below hb2) hc64)
      have HWB : Hid ((NB && Pn.wantB copies n ⟨xe, xc, xl⟩) = (NB && (decide ((xc.length : Int) < copies) && (xl == 0) && !xc.contains n))) := Lib.hid rfl
      obtain ⟨B, hB⟩ : ∃ B, xc.contains n = B := ⟨_, rfl⟩
      rw [hB] at HCT HWB
      have HB2 := Lib.hid (HB.out.trans (hb2.mono HB.out.size))
      have HW2 := Lib.hid (Wz.below hw hb2)
      have HK2 := Lib.hid hk2
      rw [hcn] at hW2 hk2 HCT HWB e1
      have d1 : W2.cell? ⟨wr.heap.size, 1, none⟩ = some (.slice ca cn cc) := hk2.cell rfl
      have d2 : W2.cell? ⟨wr.heap.size, 2, none⟩ = some (.int .i64 xl) := hk2.cell rfl
      have c1 : W2.cell? ⟨w.heap.size, 1, none⟩ = some (.int .i64 copies) := (HK1.out.below HB2.out).cell rfl
      have HWH := Lib.hid hW2
      have HWL := Lib.hid hwl
      clear ev hx hv hb hw hns hc64 hb2 hk2 hB hcn HK2 hW2 hwl
      go_upto_region 6 with fail
      rw [HWH.out]
      clear e0 e1 e2 HWH f0 f1 f2 f3
      obtain ⟨f0, f1, f2, f3⟩ := (HK1.out.below HB2.out).cells4
      have HNW := Lib.hid (HND.out W2)
      go_cut [44] from 9 to 44 (fun s wx => s = .bool (NB && (decide ((cn : Int) < copies) && (xl == 0) && !B)) ∧ wx = W2)
      case first =>
        cases NB with
        | false =>
          go_wp2_with fail
          refine HNW.out.mono ?_
          rintro e w3 ⟨rfl, rfl⟩
          go_wp2_with fail
          go_meet
          case rel => exact ⟨rfl, rfl⟩
        | true =>
        by_cases k1 : (cn : Int) < copies
        · by_cases k2 : xl = 0
          · subst k2
            go_wp2_with fail
            refine HNW.out.mono ?_
            rintro e w3 ⟨rfl, rfl⟩
            go_wp2_with fail
            refine HCT.out.mono ?_
            rintro e w3 ⟨rfl, rfl⟩
            go_wp2_with fail
            go_meet
            case rel => exact ⟨by simp <;> omega, rfl⟩
          · have k3 : (xl == 0) = false := by simp [k2]
            clear k2
            go_wp2_with fail
            refine HNW.out.mono ?_
            rintro e w3 ⟨rfl, rfl⟩
            go_wp2_with fail
            go_meet
            case rel => exact ⟨by simp [k3], rfl⟩
        · have k4 : decide ((cn : Int) < copies) = false := decide_eq_false k1
          go_wp2_with fail
          refine HNW.out.mono ?_
          rintro e w3 ⟨rfl, rfl⟩
          go_wp2_with fail
          go_meet
          case rel => exact ⟨by simp [k4], rfl⟩
      case rest =>
      obtain ⟨hs, hw⟩ := hcut
      rw [← HWB.out] at hs
      have hw' : W2 = wc := hw.symm
      subst hw'
      subst hs
      clear hw
      cases hf : (NB && Pn.wantB copies n ⟨xe, xc, xl⟩) with
      | false =>
        have HIY : Hid (Pn.idx (fun x => NB && Pn.wantB copies n x) 0 (parts.take (i + 1)) = Pn.idx (fun x => NB && Pn.wantB copies n x) 0 (parts.take i)) := Lib.hid (by rw [HIX.out]; simp only [hf]; simp)
        clear hf
        go_wp2_with fail
        go_roundw
        case rel => exact ⟨i + 1, gb, by omega, by go_num, HB2.out, by rw [HIY.out]; exact HW2.out⟩
        case measure => simp [intOf]; omega
      | true =>
        have HIY : Hid (Pn.idx (fun x => NB && Pn.wantB copies n x) 0 (parts.take (i + 1)) = Pn.idx (fun x => NB && Pn.wantB copies n x) 0 (parts.take i) ++ [i]) := Lib.hid (by rw [HIX.out]; simp only [hf]; simp)
        obtain ⟨T, hT⟩ : ∃ T, Pn.idx (fun x => NB && Pn.wantB copies n x) 0 (parts.take i) = T := ⟨_, rfl⟩
        rw [hT] at HIY HW2 HWL ⊢
        have HTL : Hid ((Pn.nums T).length ≤ 64) := Lib.hid (by unfold Pn.nums; rw [List.length_map]; exact HWL.out)
        clear hf hT
        obtain ⟨W3, hW3⟩ : ∃ W, W2.alloc (.cells #[.int .i64 (i : Int)] 3) = W := ⟨_, rfl⟩
        have hb3 : Below W2.heap.size W2 W3 := by rw [← hW3]; exact (Below.refl _ _).alloc (Nat.le_refl _) _
        have HN : Hid (W3.cell? ⟨W2.heap.size, 0, none⟩ = some (.int .i64 (i : Int))) := Lib.hid (by rw [← hW3]; exact (Blk.new W2 #[.int .i64 (i : Int)] 3).cell rfl)
        have HB3 := Lib.hid (HB2.out.trans (hb3.mono HB2.out.size))
        have HW3 := Lib.hid (Wz.below HW2.out hb3)
        clear hb3
        obtain ⟨tn, htn⟩ : ∃ n, (Pn.nums T).length = n := ⟨_, rfl⟩
        have HTN := Lib.hid htn
        rw [htn]
        clear htn
        go_wp2_with (at_builtin; refine wp_num infoInt Tryz.underlying32 (by rfl) _ _ (by rfl) (by rfl) (by rw [← HTN.out]; exact HW3.out) W2.heap.size 1 (i : Int) (by rfl) HN.out (by have := HTL.out; omega) HB3.out.size ?_)
        intro v' g' w' hz' hg' _
        have HZ' : Hid (NsO W1.heap.size w' v' g' (Pn.nums (Pn.idx (fun x => NB && Pn.wantB copies n x) 0 (parts.take (i + 1))))) := Lib.hid (by
          rw [HIY.out]
          unfold Pn.nums at hz' ⊢
          rw [List.map_append]
          exact hz')
        have HB' := Lib.hid (Below.appended HB3.out hg' HW3.out.2 HB3.out.size)
        clear hz' hg'
        go_wp2_with fail
        go_roundw
        case rel => exact ⟨i + 1, g', by omega, by go_num, HB'.out, HZ'.out⟩
        case measure => simp [intOf]; omega
    · have HF : Hid (NsO w.heap.size wr (.slice aw (Pn.nums (Pn.idx (fun x => NB && Pn.wantB copies n x) 0 (parts.take i))).length cw) gb (Pn.nums D)) := Lib.hid (by
        rw [HT.out]
        have e : parts.take i = parts := List.take_of_length_le (by rw [HM.out]; omega)
        rw [e] at hw ⊢
        exact hw.mono HB1.out.size)
      clear hb hw
      go_wp2_with fail
      go_ret
      exact ⟨HB1.out.trans (HB.out.mono HB1.out.size), _, gb, rfl, HF.out⟩
theorem filt_take {f : Int → Bool} {l : List Int} {i : Nat} {x : Int} (h : l[i]? = some x) : (l.take (i + 1)).filter f = (l.take i).filter f ++ if f x = true then [x] else [] := by
  rw [List.take_add_one, h, List.filter_append]
  simp only [Option.toList_some, List.filter_cons, List.filter_nil]
theorem wo_filt {l : List Int} {n : Int} (h : n ∈ l) (hn : l.Nodup) : Pn.wo l n = l.filter fun m => m != n := by
  rw [Pn.wo_erase h]
  exact hn.erase_eq_filter n
set_option maxHeartbeats 2000000 in
set_option maxRecDepth 100000 in
theorem rwithout_any {A : Nat → Prop} (v : Value) (l : List Int) (n : Int) (w : World) (h : Ns A w v l) (hl : l.length ≤ 64) : Calls Tryz.prog 35 #[v, .int .i64 n] w fun e w' => LstOut w (l.filter fun m => m != n) e w' := by
  obtain ⟨a, cap, rfl⟩ := h.form
  obtain ⟨m, hm⟩ : ∃ m, l.length = m := ⟨_, rfl⟩
  have HH := Lib.hid h
  have HM := Lib.hid hm
  rw [hm] at hl HH ⊢
  clear h hm
  obtain ⟨W0, hW0⟩ : ∃ W, w.alloc (.cells #[] 3) = W := ⟨_, rfl⟩
  have hb0 : Below w.heap.size w W0 := by rw [← hW0]; exact (Below.refl _ _).alloc (Nat.le_refl _) _
  have HN0 : Hid (NsO w.heap.size W0 (.slice (some ⟨w.heap.size, 0, none⟩) 0 0) (some w.heap.size) []) := Lib.hid (by rw [← hW0]; exact Wz.empty _ _ _ (Nat.le_refl _))
  have HB0 := Lib.hid hb0
  have HW0 := Lib.hid hW0
  clear hW0 hb0
  go_enter Tryz.func35, Tryz.ntmps35
  go_upto_region 2 with fail
  rw [HW0.out]
  clear HW0
  go_wp2_with fail
  go_loopw [5, 6] (fun s5 s6 wx => ∃ (i : Nat) (gb : Option Nat), i ≤ m ∧ s6 = .int .i64 i ∧ Below w.heap.size w wx ∧ NsO w.heap.size wx s5 gb ((l.take i).filter fun m => m != n)) (fun _ s6 _ => m - (intOf s6).toNat)
  case atStart => exact ⟨0, _, Nat.zero_le _, rfl, HB0.out, by simp only [List.take_zero, List.filter_nil]; exact HN0.out⟩
  case round =>
    obtain ⟨i, gb, hi, rfl, hb, hw⟩ := hrel
    have HB := Lib.hid hb
    have HW := Lib.hid hw
    obtain ⟨aw, cw, rfl⟩ := hw.ns.form
    by_cases hlt : i < m
    · obtain ⟨x, hx⟩ : ∃ x, l[i]? = some x := ⟨_, List.getElem?_eq_getElem (by rw [HM.out]; exact hlt)⟩
      have h0 := Rds.below HH.out hb
      obtain ⟨b, p, k, e, -, -, d⟩ := nums_at (m := m) (show Rds A wr _ 1 m (l.map (Value.int .i64)) by rw [← HM.out]; rw [← HM.out] at h0; exact h0) (by omega) hx
      obtain rfl : a = some ⟨b, p, none⟩ := by injection e
      have HIX := Lib.hid (filt_take (f := fun m => m != n) hx)
      have hwl : ((l.take i).filter fun m => m != n).length ≤ 64 := Nat.le_trans (List.length_filter_le _ _) (by rw [List.length_take]; omega)
      have HWL := Lib.hid hwl
      have i0 : (0 : Int) ≤ (i : Int) := by omega
      have i1 : (i : Int) < (m : Int) := by omega
      clear e hx h0 hwl hb hw
      by_cases hxn : x = n
      · have HIY : Hid ((l.take (i + 1)).filter (fun m => m != n) = (l.take i).filter fun m => m != n) := Lib.hid (by rw [HIX.out]; simp [hxn])
        have hne : (x != n) = false := by simp [hxn]
        clear hxn
        go_wp2_with fail
        go_roundw
        case rel => exact ⟨i + 1, gb, by omega, by go_num, HB.out, by rw [HIY.out]; exact HW.out⟩
        case measure => simp [intOf]; omega
      · have HIY : Hid ((l.take (i + 1)).filter (fun m => m != n) = ((l.take i).filter fun m => m != n) ++ [x]) := Lib.hid (by rw [HIX.out]; simp [hxn])
        have hne : (x != n) = true := by simp [hxn]
        obtain ⟨T, hT⟩ : ∃ T, (l.take i).filter (fun m => m != n) = T := ⟨_, rfl⟩
        rw [hT] at HIY HW HWL ⊢
        clear hxn hT
        obtain ⟨W3, hW3⟩ : ∃ W, wr.alloc (.cells #[.int .i64 x] 3) = W := ⟨_, rfl⟩
        have hb3 : Below wr.heap.size wr W3 := by rw [← hW3]; exact (Below.refl _ _).alloc (Nat.le_refl _) _
        have HN : Hid (W3.cell? ⟨wr.heap.size, 0, none⟩ = some (.int .i64 x)) := Lib.hid (by rw [← hW3]; exact (Blk.new wr #[.int .i64 x] 3).cell rfl)
        have HB3 := Lib.hid (HB.out.trans (hb3.mono HB.out.size))
        have HW3 := Lib.hid (Wz.below HW.out hb3)
        clear hb3
        obtain ⟨tn, htn⟩ : ∃ n, T.length = n := ⟨_, rfl⟩
        have HTN := Lib.hid htn
        rw [htn]
        clear htn
        go_wp2_with (at_builtin; refine wp_num infoInt Tryz.underlying32 (by rfl) _ _ (by rfl) (by rfl) (by rw [← HTN.out]; exact HW3.out) wr.heap.size 1 x (by rfl) HN.out (by have := HWL.out; omega) HB3.out.size ?_)
        intro v' g' w' hz' hg' _
        have HZ' : Hid (NsO w.heap.size w' v' g' ((l.take (i + 1)).filter fun m => m != n)) := Lib.hid (by
          rw [HIY.out]
          exact hz')
        have HB' := Lib.hid (Below.appended HB3.out hg' HW3.out.2 HB3.out.size)
        clear hz' hg'
        go_wp2_with fail
        go_roundw
        case rel => exact ⟨i + 1, g', by omega, by go_num, HB'.out, HZ'.out⟩
        case measure => simp [intOf]; omega
    · have HF : Hid (NsO w.heap.size wr (.slice aw ((l.take i).filter fun m => m != n).length cw) gb (l.filter fun m => m != n)) := Lib.hid (by
        have e : l.take i = l := List.take_of_length_le (by rw [HM.out]; omega)
        rw [e] at hw ⊢
        exact hw)
      clear hb hw
      go_wp2_with fail
      go_ret
      exact ⟨HB.out, _, gb, rfl, HF.out⟩
theorem lay_or (n c m : Int) (Y : Bool) (h : Pn.layB n c m = Y) : (Y = true → ¬ (n < 1) ∧ ¬ (5 < n) ∧ ¬ (c < 1) ∧ ¬ (n < c) ∧ ¬ (m < 2) ∧ ¬ (4 < m)) ∧ (Y = false → n < 1 ∨ (¬ (n < 1) ∧ 5 < n) ∨ (¬ (n < 1) ∧ ¬ (5 < n) ∧ c < 1) ∨ (¬ (n < 1) ∧ ¬ (5 < n) ∧ ¬ (c < 1) ∧ n < c) ∨ (¬ (n < 1) ∧ ¬ (5 < n) ∧ ¬ (c < 1) ∧ ¬ (n < c) ∧ m < 2) ∨ (¬ (n < 1) ∧ ¬ (5 < n) ∧ ¬ (c < 1) ∧ ¬ (n < c) ∧ ¬ (m < 2) ∧ 4 < m)) := by
  subst h
  constructor
  · intro h
    have := Pn.lay_iff.1 h
    omega
  · intro h
    have : ¬ (1 ≤ n ∧ n ≤ 5 ∧ 1 ≤ c ∧ c ≤ n ∧ 2 ≤ m ∧ m ≤ 4) := fun e => by rw [Pn.lay_iff.2 e] at h; cases h
    omega
end Go.Proofs.YtmkinnheoejphaaGreatDoor
