/- THE CONTRACT OF the program's Thin. -/
import Derived.Test.YtfapigccdbpepaaDThin
namespace Go.Proofs.Ytfapigccdbpepaa
open Go.RowKit

namespace Wd
/-- What the closure says is what the document says. -/
theorem stays_eq {l : List Pl.Bt} {b : Pl.Bt} (hb : b ∈ l) {high now hor : Int} (hok : okB now hor = true) {x : Pl.Rc} (hx : x ∈ b.recs) :
    staysB (lasts ((rcs l).filter (under high))) high (decide (b.time ≤ now - hor)) x = !(okB now hor && uselessB l b x high now hor) := by
  unfold staysB
  rw [hok, Bool.true_and]
  congr 1
  rw [(lasts_spec _).2]
  by_cases h1 : x.key = []
  · simp [h1, uselessB]
  by_cases h2 : x.off < high
  · have hmem : x ∈ (rcs l).filter (under high) := List.mem_filter.2 ⟨mem_rcs.2 ⟨b, hb, hx⟩, by simp [under, h1, h2]⟩
    have hs := pick_spec ((rcs l).filter (under high)) x.key
    cases hp : pick ((rcs l).filter (under high)) x.key with
    | none =>
      rw [hp] at hs
      exact absurd rfl (hs x hmem)
    | some y =>
      rw [hp] at hs
      obtain ⟨hy, hyk, hmax⟩ := hs
      have hlater : decide (x.off < y.off) = (rcs l).any fun y => decide (y.key = x.key) && decide (x.off < y.off) && decide (y.off < high) := by
        rw [Bool.eq_iff_iff, decide_eq_true_iff, List.any_eq_true]
        constructor
        · intro h
          obtain ⟨h3, h4⟩ := List.mem_filter.1 hy
          refine ⟨y, h3, ?_⟩
          simp only [under, Bool.and_eq_true, decide_eq_true_eq] at h4
          simp [hyk, h, h4.2]
        · rintro ⟨u, hu, h⟩
          simp only [Bool.and_eq_true, decide_eq_true_eq] at h
          have := hmax u (List.mem_filter.2 ⟨hu, by simp [under, h.1.1, h1, h.2]⟩) h.1.1
          omega
      show (_ && _ && (decide (x.off < y.off) || _)) = _
      rw [hlater]
      unfold uselessB
      rw [Bool.or_comm]
  · simp [h2, uselessB]
theorem thin_not {l : List Pl.Bt} {high now hor : Int} (h : okB now hor = false) : thin l high now hor = l := by
  unfold thin
  have : ∀ b ∈ l, thin1 l high now hor b = b := fun b _ => by
    unfold thin1
    simp only [h, Bool.false_and, Bool.not_false]
    rw [List.filter_eq_self.2 fun _ _ => rfl]
  exact (List.map_congr_left this).trans (List.map_id _)
/-- So far thinned. -/
def thinTo (l : List Pl.Bt) (high now hor : Int) (i : Nat) : List Pl.Bt := (l.take i).map (thin1 l high now hor) ++ l.drop i
theorem thinTo_zero (l : List Pl.Bt) (high now hor : Int) : thinTo l high now hor 0 = l := by simp [thinTo]
theorem thinTo_all {l : List Pl.Bt} {high now hor : Int} {i : Nat} (h : l.length ≤ i) : thinTo l high now hor i = thin l high now hor := by
  unfold thinTo thin
  rw [List.take_of_length_le h, List.drop_of_length_le h, List.append_nil]
theorem thinTo_at {l : List Pl.Bt} {high now hor : Int} {i : Nat} {b : Pl.Bt} (h : (thinTo l high now hor i)[i]? = some b) : l[i]? = some b := by
  unfold thinTo at h
  rcases Nat.lt_or_ge i l.length with hl | hl
  · rw [List.getElem?_append_right (by simp; omega), List.length_map, List.length_take, Nat.min_eq_left (by omega), Nat.sub_self, List.getElem?_drop, Nat.add_zero] at h
    exact h
  · rw [List.drop_of_length_le hl, List.append_nil, List.getElem?_eq_none (by simp; omega)] at h
    cases h
theorem thinTo_next {l : List Pl.Bt} {high now hor : Int} {i : Nat} {b : Pl.Bt} (h : l[i]? = some b) : (thinTo l high now hor i).set i (thin1 l high now hor b) = thinTo l high now hor (i + 1) := by
  have hl := (List.getElem?_eq_some_iff.1 h).1
  unfold thinTo
  rw [List.set_append_right _ _ (by rw [List.length_map, List.length_take]; exact Nat.min_le_left _ _), List.length_map, List.length_take, Nat.min_eq_left (by omega), Nat.sub_self, List.drop_eq_getElem_cons hl, List.set_cons_zero, List.take_add_one, h, List.map_append]
  simp
end Wd
theorem map_fst_setq : ∀ {M : List (Pl.Bt × Value)} {i : Nat} {b : Pl.Bt} {u : Value}, (M.set i (b, u)).map (·.1) = (M.map (·.1)).set i b
  | [], _, _, _ => rfl
  | m :: M, 0, b, u => rfl
  | m :: M, i + 1, b, u => by
    rw [List.set_cons_succ, List.map_cons, List.map_cons, List.set_cons_succ, map_fst_setq]
/-- What lies beside the batches while they are thinned. -/
structure Bsd (zh N1 bm b : Nat) (high : Int) (S : List Pl.Rc) (W : World) : Prop where
  hi : Blk W zh #[.int .i64 high] 3
  box : Blk W bm #[.map (some b)] 52
  map : VMap W b S
  n1 : N1 ≤ bm
  n2 : N1 ≤ b
section
variable {zh N1 bm b : Nat} {high : Int} {S : List Pl.Rc} {W W' : World}
theorem Bsd.below (h : Bsd zh N1 bm b high S W) (k : Below W.heap.size W W') : Bsd zh N1 bm b high S W' := ⟨h.hi.below k, h.box.below k, h.map.below k, h.n1, h.n2⟩
theorem Bsd.grown {r : Option Nat} (h : Bsd zh N1 bm b high S W) (k : W.grownBy W' r) (hr : ∀ c, r = some c → zh < c ∧ c < N1) : Bsd zh N1 bm b high S W' := by
  have n1 := h.n1
  have n2 := h.n2
  exact ⟨h.hi.same (k.block _ h.hi.lt fun e => by have := hr _ e.symm; omega), h.box.same (k.block _ h.box.lt fun e => by have := hr _ e.symm; omega), h.map.same (k.block _ h.map.lt fun e => by have := hr _ e.symm; omega), n1, n2⟩
theorem Bsd.set {g i : Nat} (h : Bsd zh N1 bm b high S W) (hr : zh < g ∧ g < N1) (v : Value) : Bsd zh N1 bm b high S (W.setCell ⟨g, i, none⟩ v) := by
  have n1 := h.n1
  have n2 := h.n2
  exact ⟨h.hi.same (Below.heap_setCell _ _ _ _ (by show zh ≠ g; omega)), h.box.same (Below.heap_setCell _ _ _ _ (by show bm ≠ g; omega)), h.map.same (Below.heap_setCell _ _ _ _ (by show b ≠ g; omega)), n1, n2⟩
end

set_option maxHeartbeats 4000000 in
set_option maxRecDepth 100000 in
theorem dthin {A : Nat → Prop} (v : Value) (L : List (Pl.Bt × Value)) (high now hor : Int) (w : World) (hv : BtIn A w v L) (hf : Few (L.map (·.1))) :
    Calls Try.prog 13 #[v, .int .i64 high, .int .i64 now, .int .i64 hor] w (ThinOut w (L.map (·.1)) high now hor) := by
  obtain ⟨l, hl⟩ : ∃ l, L.map (·.1) = l := ⟨_, rfl⟩
  obtain ⟨m, hm⟩ : ∃ m, L.length = m := ⟨_, rfl⟩
  have hlm : l.length = m := by rw [← hl, List.length_map, hm]
  obtain ⟨W0, hW0⟩ : ∃ W0, w.alloc (.cells #[.int .i64 high] 3) = W0 := ⟨_, rfl⟩
  have hb0 : Below w.heap.size w W0 := by rw [← hW0]; exact (Below.refl _ _).alloc (Nat.le_refl _) _
  have s0 : W0.heap.size = w.heap.size + 1 := by rw [← hW0]; simp
  have HBH : Hid (Blk W0 w.heap.size #[.int .i64 high] 3) := Lib.hid (by rw [← hW0]; exact Blk.new _ _ _)
  have HCL := Lib.hid (cloned_any v L W0 (hv.below hb0) hf)
  have HLA : Hid (∀ wx, Below W0.heap.size W0 wx → Calls Try.prog 25 #[v, .int .i64 high] wx fun e w' => ∃ b, e = .returned (.map (some b)) ∧ wx.heap.size ≤ b ∧ VMap w' b (Wd.lasts ((Wd.rcs l).filter (Wd.under high))) ∧ Below wx.heap.size wx w') := Lib.hid fun wx hx => by
    rw [← hl]
    exact latest_any v L high wx ((hv.below hb0).below hx) hf
  rw [hl, hm] at HCL
  have HF : Hid (Few l) := Lib.hid (by rw [← hl]; exact hf)
  have hmm : m ≤ 64 := by rw [← hlm]; exact HF.out.1
  rw [hl]
  have HLM := Lib.hid hlm
  have HB0 := Lib.hid hb0
  have HS0 := Lib.hid s0
  have HW0 := Lib.hid hW0
  obtain ⟨q1, hq1⟩ : ∃ q, decide (0 ≤ now ∧ now ≤ 1099511627776) = q := ⟨_, rfl⟩
  obtain ⟨q2, hq2⟩ : ∃ q, decide (0 ≤ hor ∧ hor ≤ 1099511627776) = q := ⟨_, rfl⟩
  have HOK : Hid (Wd.okB now hor = (q1 && q2)) := Lib.hid (by rw [← hq1, ← hq2]; unfold Wd.okB; rw [Bool.eq_iff_iff, Bool.and_eq_true, decide_eq_true_iff, decide_eq_true_iff, decide_eq_true_iff, and_assoc])
  have HT1 : Hid (∀ wx, Calls Try.prog 24 #[.int .i64 now] wx fun e w' => e = .returned (.bool q1) ∧ wx = w') := Lib.hid fun wx => by rw [← hq1]; exact isTime_any now wx
  have HT2 : Hid (∀ wx, Calls Try.prog 24 #[.int .i64 hor] wx fun e w' => e = .returned (.bool q2) ∧ wx = w') := Lib.hid fun wx => by rw [← hq2]; exact isTime_any hor wx
  have HQ1 := Lib.hid hq1
  have HQ2 := Lib.hid hq2
  clear hv hf hl hm hlm hW0 hb0 s0 hq1 hq2
  go_enter Try.func13, Try.ntmps13
  go_upto_region 1 with fail
  rw [HW0.out]
  go_wp2_with fail
  refine HCL.out.mono ?_
  rintro e W1 ⟨v1, gb, M, G, rfl, hc, hML, hb1⟩
  have HC := Lib.hid hc
  have HML := Lib.hid hML
  have HB1 := Lib.hid hb1
  have HNOT : Hid ((q1 && q2) = false → ThinOut w l high now hor (.returned v1) W1) := Lib.hid fun h => ⟨HB0.out.trans (hb1.mono HB0.out.size), v1, M, rfl, (hc.out (by have := congrArg List.length hML; rw [List.length_map] at this; rw [this, HLM.out]; exact Nat.le_refl _)).mono fun b hb => by have := HS0.out; omega, by rw [hML, Wd.thin_not (HOK.out.trans h)]⟩
  have hmlen : M.length = m := by have := congrArg List.length hML; rw [List.length_map] at this; rw [this, HLM.out]
  obtain ⟨av, cv, rfl⟩ := hc.form
  rw [hmlen] at HC HNOT ⊢
  have HMN := Lib.hid hmlen
  clear hc hML hb1 HCL hmlen
  cases q1 with
  | false =>
    go_wp2_with (first | (go_at_call 24; refine (HT1.out _).mono ?_; rintro e w' ⟨rfl, rfl⟩) | fail)
    go_ret
    exact HNOT.out rfl
  | true =>
    cases q2 with
    | false =>
      go_wp2_with (first | (go_at_call 24; refine (HT1.out _).mono ?_; rintro e w' ⟨rfl, rfl⟩) | (go_at_call 24; refine (HT2.out _).mono ?_; rintro e w' ⟨rfl, rfl⟩) | fail)
      go_ret
      exact HNOT.out rfl
    | true =>
      clear HNOT
      have hok : Wd.okB now hor = true := HOK.out
      have hn := of_decide_eq_true HQ1.out
      have hh := of_decide_eq_true HQ2.out
      obtain ⟨hn0, hn1⟩ := hn
      obtain ⟨hh0, hh1⟩ := hh
      have HOK2 := Lib.hid hok
      have r0 : W1.cell? ⟨w.heap.size, 0, none⟩ = some (.int .i64 high) := (HBH.out.below HB1.out).cell rfl
      clear hok
      go_wp2_with (first | (go_at_call 24; refine (HT1.out _).mono ?_; rintro e w' ⟨rfl, rfl⟩) | (go_at_call 24; refine (HT2.out _).mono ?_; rintro e w' ⟨rfl, rfl⟩) | (go_at_call 25; refine (HLA.out _ HB1.out).mono ?_; rintro e W2 ⟨b, rfl, hbs, hvm, hb2⟩; have HB2 := Lib.hid hb2; have HVM := Lib.hid hvm; have HBS := Lib.hid hbs; clear hb2 hvm hbs) | fail)
      clear r0 HT1 HT2
      have HCQ : Hid (∀ j c, G j = some c → w.heap.size < c ∧ c < W1.heap.size) := Lib.hid fun j c e => by
        obtain ⟨h1, h2, h3⟩ := HC.out.fresh j c e
        have := HS0.out
        exact ⟨by omega, h3⟩
      have HGQ : Hid (∀ c, gb = some c → w.heap.size < c ∧ c < W1.heap.size) := Lib.hid fun c e => by
        have h1 := HC.out.zb c e
        have := HS0.out
        exact ⟨by omega, HC.out.sl.lt c e⟩
      obtain ⟨W3, hW3⟩ : ∃ W3, W2.alloc (.cells #[.map (some b)] 52) = W3 := ⟨_, rfl⟩
      rw [hW3]
      have hb3 : Below W2.heap.size W2 W3 := by rw [← hW3]; exact (Below.refl _ _).alloc (Nat.le_refl _) _
      have hb13 : Below W1.heap.size W1 W3 := HB2.out.trans (hb3.mono HB2.out.size)
      have HBD : Hid (Bsd w.heap.size W1.heap.size W2.heap.size b high (Wd.lasts ((Wd.rcs l).filter (Wd.under high))) W3) := Lib.hid ⟨(HBH.out.below HB1.out).below hb13, by rw [← hW3]; exact Blk.new _ _ _, HVM.out.below hb3, HB2.out.size, HBS.out⟩
      have HC3 := Lib.hid (HC.out.below hb13)
      have HW13 := Lib.hid (HB0.out.trans ((HB1.out.trans (hb13.mono HB1.out.size)).mono HB0.out.size))
      obtain ⟨S, hS⟩ : ∃ S, Wd.lasts ((Wd.rcs l).filter (Wd.under high)) = S := ⟨_, rfl⟩
      rw [hS] at HBD
      have HSQ := Lib.hid hS
      clear hW3 hb3 hb13 hS HVM HBS HLA
      obtain ⟨bm, hbm⟩ : ∃ bm, W2.heap.size = bm := ⟨_, rfl⟩
      rw [hbm] at HBD ⊢
      clear hbm
      go_wp2_with fail
      go_loopw [11, 30] (fun _ iv wr => ∃ (i : Nat) (M : List (Pl.Bt × Value)), i ≤ m ∧ iv = .int .i64 i ∧ Cl W0.heap.size (.slice av m cv) gb M G wr i m ∧ Bsd w.heap.size W1.heap.size bm b high S wr ∧ Below w.heap.size w wr ∧ M.map (·.1) = Wd.thinTo l high now hor i) (fun _ iv _ => m - (intOf iv).toNat)
      case atStart => exact ⟨0, M, Nat.zero_le _, rfl, HC3.out, HBD.out, HW13.out, by rw [Wd.thinTo_zero]; exact HML.out⟩
      case round =>
        obtain ⟨i, M', hi, rfl, hc, hbd, hbw, hMT⟩ := hrel
        have HC' := Lib.hid hc
        have HBW := Lib.hid hbw
        have HBD' := Lib.hid hbd
        have HMT := Lib.hid hMT
        have HMN' : Hid (M'.length = m) := Lib.hid (by have := congrArg List.length hMT; unfold Wd.thinTo at this; simp only [List.length_map, List.length_append, List.length_take, List.length_drop] at this; have h2 := HLM.out; omega)
        clear hMT hbd HC3 HBD HW13
        by_cases hlt : i < m
        · obtain ⟨⟨⟨tb, tc, tp, ts, tt, ls⟩, pv⟩, hg⟩ : ∃ q, M'[i]? = some q := ⟨_, List.getElem?_eq_getElem (by rw [HMN'.out]; exact hlt)⟩
          obtain ⟨a2, c2, hp2⟩ := hc.value hg
          simp only at hp2
          subst hp2
          have hlg : l[i]? = some ⟨tb, tc, tp, ts, tt, ls⟩ := Wd.thinTo_at (high := high) (now := now) (hor := hor) (by rw [← HMT.out, List.getElem?_map, hg]; rfl)
          have hown := hc.own i _ (Nat.le_refl _) hlt hg
          simp only at hown
          have hln : ls.length ≤ 64 := (HF.out.2 _ (List.mem_of_getElem? hlg)).1
          obtain ⟨bb, o, cp, hgb, e2, hbl, hfz, hcell⟩ := hc.at hg
          rw [HMN'.out] at e2
          obtain ⟨rfl, rfl⟩ : av = some ⟨bb, o, none⟩ ∧ cv = cp := by injection e2 with e3 e4 e5; exact ⟨e3, e5⟩
          have c0 : wr.cell? ⟨bb, o + i * 6, none⟩ = some (.int .i64 tb) := hcell 0 _ (by decide) rfl
          have c1 : wr.cell? ⟨bb, o + i * 6 + 1, none⟩ = some (.int .i64 tc) := hcell 1 _ (by decide) rfl
          have c2' : wr.cell? ⟨bb, o + i * 6 + 2, none⟩ = some (.int .i64 tp) := hcell 2 _ (by decide) rfl
          have c3 : wr.cell? ⟨bb, o + i * 6 + 3, none⟩ = some (.int .i64 ts) := hcell 3 _ (by decide) rfl
          have c4 : wr.cell? ⟨bb, o + i * 6 + 4, none⟩ = some (.int .i64 tt) := hcell 4 _ (by decide) rfl
          have c5 : wr.cell? ⟨bb, o + i * 6 + 5, none⟩ = some (.slice a2 ls.length c2) := hcell 5 _ (by decide) rfl
          have HLG := Lib.hid hlg
          have HG := Lib.hid hg
          have HFZ := Lib.hid hfz
          have HOWN := Lib.hid hown
          have i0 : (0 : Int) ≤ (i : Int) := by omega
          have i1 : (i : Int) < (m : Int) := by omega
          obtain ⟨n, hnl⟩ : ∃ n, ls.length = n := ⟨_, rfl⟩
          have HNL := Lib.hid hnl
          rw [hnl] at c5 hln HG HOWN
          obtain ⟨Wa, hWa⟩ : ∃ Wa, wr.alloc (.cells #[.int .i64 tb, .int .i64 tc, .int .i64 tp, .int .i64 ts, .int .i64 tt, .slice a2 n c2] 42) = Wa := ⟨_, rfl⟩
          have hba : Below wr.heap.size wr Wa := by rw [← hWa]; exact (Below.refl _ _).alloc (Nat.le_refl _) _
          have HKA : Hid (Blk Wa wr.heap.size #[.int .i64 tb, .int .i64 tc, .int .i64 tp, .int .i64 ts, .int .i64 tt, .slice a2 n c2] 42) := Lib.hid (by rw [← hWa]; exact Blk.new _ _ _)
          have HWA := Lib.hid hWa
          have HBA := Lib.hid hba
          clear hc hg hlg hown hfz hcell e2 hbw hnl hWa hba hgb
          go_upto_region 8 with fail
          rw [HWA.out]
          have x4 : Wa.cell? ⟨wr.heap.size, 4, none⟩ = some (.int .i64 tt) := HKA.out.cell rfl
          clear c0 c1 c2' c3 c4
          obtain ⟨ago, hago⟩ : ∃ ago, decide (tt ≤ now - hor) = ago := ⟨_, rfl⟩
          have HAGO := Lib.hid hago
          obtain ⟨Wb, hWb⟩ : ∃ Wb, Wa.alloc (.cells #[.bool ago] 4) = Wb := ⟨_, rfl⟩
          have hbb : Below Wa.heap.size Wa Wb := by rw [← hWb]; exact (Below.refl _ _).alloc (Nat.le_refl _) _
          have HKB : Hid (Blk Wb Wa.heap.size #[.bool ago] 4) := Lib.hid (by rw [← hWb]; exact Blk.new _ _ _)
          have HWB := Lib.hid hWb
          have HAB := Lib.hid (HBA.out.trans (hbb.mono HBA.out.size))
          have HBB := Lib.hid hbb
          clear hWb hbb
          go_upto_region 9 with fail
          rw [HWB.out]
          clear hago
          have x5 : Wb.cell? ⟨wr.heap.size, 5, none⟩ = some (.slice a2 n c2) := (HKA.out.below HBB.out).cell rfl
          clear x4
          have HCB := Lib.hid (HC'.out.below HAB.out)
          have HDB := Lib.hid (HBD'.out.below HAB.out)
          obtain ⟨bt, hbt⟩ : ∃ bt, Wa.heap.size = bt := ⟨_, rfl⟩
          rw [hbt] at HKB ⊢
          have HBTN : Hid (W1.heap.size ≤ bt) := Lib.hid (by have h1 := HBD'.out.n1; have h2 := HBD'.out.box.lt; have h3 := HBA.out.size; omega)
          have HDF := Lib.hid (delF_any w.heap.size bm bt _ (G i) (fun x => Wd.staysB S high ago x) ls Wb (fun x hx wx hgx => clos_any w.heap.size bm bt b S high ago x wx
            (HDB.out.grown hgx (HCQ.out i)).hi (HDB.out.grown hgx (HCQ.out i)).box (HKB.out.same (hgx.block _ HKB.out.lt fun e => by have h1 := HCQ.out i _ e.symm; have h2 := HBTN.out; omega)) (by rw [← HSQ.out]; exact (Wd.lasts_spec _).1) (HDB.out.grown hgx (HCQ.out i)).map
            (Nat.le_trans ((HF.out.2 _ (List.mem_of_getElem? HLG.out)).2 x hx) (by decide)) (fun hu => by
              rw [← HSQ.out, (Wd.lasts_spec _).2]
              have hm := Wd.pick_spec ((Wd.rcs l).filter (Wd.under high)) x.key
              have hxm : x ∈ (Wd.rcs l).filter (Wd.under high) := List.mem_filter.2 ⟨Wd.mem_rcs.2 ⟨_, List.mem_of_getElem? HLG.out, hx⟩, hu⟩
              cases hp : Wd.pick ((Wd.rcs l).filter (Wd.under high)) x.key with
              | none => rw [hp] at hm; exact absurd rfl (hm x hxm)
              | some y => exact ⟨y, rfl⟩))
            (by rw [HNL.out]; exact HOWN.out.below HAB.out) (by rw [HNL.out]; omega))
          have HFE : Hid (({ (⟨tb, tc, tp, ts, tt, ls⟩ : Pl.Bt) with recs := ls.filter fun x => Wd.staysB S high ago x } : Pl.Bt) = Wd.thin1 l high now hor ⟨tb, tc, tp, ts, tt, ls⟩) := Lib.hid (by
            have e : (ls.filter fun x => Wd.staysB S high ago x) = ls.filter fun x => !(Wd.okB now hor && Wd.uselessB l ⟨tb, tc, tp, ts, tt, ls⟩ x high now hor) := List.filter_congr fun x hx => by
              rw [← HSQ.out, ← HAGO.out]
              exact Wd.stays_eq (List.mem_of_getElem? HLG.out) HOK2.out hx
            rw [e]
            rfl)
          clear hbt
          go_wp2_with fail
          refine HDF.out.mono ?_
          rintro e w2 ⟨v2, rfl, hr2, hg2⟩
          obtain ⟨bb', o', cp', hgb2, e2, hbl2, hfz2, hcell2⟩ := HCB.out.at HG.out
          obtain ⟨rfl, rfl⟩ : bb = bb' ∧ o = o' := by injection e2 with e3; injection e3 with e3; injection e3 with e4 e5; exact ⟨e4, e5⟩
          have hne : some bb ≠ G i := fun e => (HCB.out.fresh i bb e.symm).2.1 hgb2
          have hbk : w2.heap[bb]? = Wb.heap[bb]? := hg2.block bb hbl2 hne
          have f5 : w2.cell? ⟨bb, o + i * 6 + 5, none⟩ = some (.slice a2 n c2) := (World.cell?_of_block hbk).trans (hcell2 5 _ (by decide) rfl)
          have fz : ∀ x, w2.frozen? ⟨bb, x, none⟩ = false := fun x => by
            have := hfz2 x
            unfold World.frozen? at this ⊢
            rw [hbk]
            exact this
          obtain ⟨a3, c3, rfl⟩ := hr2.slice
          have HNX := Lib.hid (HCB.out.thin hlt HG.out hgb2 rfl hg2 hr2)
          obtain ⟨rn, hrn⟩ : ∃ rn, (ls.filter fun x => Wd.staysB S high ago x).length = rn := ⟨_, rfl⟩
          rw [hrn] at HNX ⊢
          have HDN := Lib.hid ((HDB.out.grown hg2 (HCQ.out i)).set (i := o + i * 6 + 5) (HGQ.out bb hgb2) (.slice a3 rn c3))
          have HBN := Lib.hid (((HBW.out.trans (HAB.out.mono HBW.out.size)).grown hg2 (Nat.le_trans HBW.out.size HAB.out.size) (fun k e => Nat.le_of_lt (HCQ.out i k e).1)).setCell (p := ⟨bb, o + i * 6 + 5, none⟩) (Nat.le_of_lt (HGQ.out bb hgb2).1) (.slice a3 rn c3))
          have HMX : Hid ((M'.set i ({ (⟨tb, tc, tp, ts, tt, ls⟩ : Pl.Bt) with recs := ls.filter fun x => Wd.staysB S high ago x }, .slice a3 rn c3)).map (·.1) = Wd.thinTo l high now hor (i + 1)) := Lib.hid (by
            rw [map_fst_setq, HMT.out, HFE.out]
            exact Wd.thinTo_next HLG.out)
          clear hr2 hg2 e2 hfz2 hcell2 hne hbk x5 hgb2 hrn
          go_wp2_with fail
          go_roundw
          case rel => exact ⟨i + 1, _, by omega, by go_num, HNX.out, HDN.out, HBN.out, HMX.out⟩
          case measure => simp [intOf]; omega
        · obtain rfl : i = m := by omega
          have HT : Hid (M'.map (·.1) = Wd.thin l high now hor) := Lib.hid (HMT.out.trans (Wd.thinTo_all (by rw [HLM.out]; exact Nat.le_refl _)))
          clear hc hbw
          go_wp2_with fail
          go_ret
          exact ⟨HBW.out, _, M', rfl, (HC'.out.out (by rw [HMN'.out]; exact Nat.le_refl _)).mono fun b hb => by have := HS0.out; omega, HT.out⟩
end Go.Proofs.Ytfapigccdbpepaa
