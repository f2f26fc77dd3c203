/- THE CONTRACTS OF the program's cloned, Thin's closure, isTime, Thin. -/
import Derived.Test.YtfapigccdbpepaaDCl
import Derived.Test.YtfapigccdbpepaaDLast
namespace Go.Proofs.Ytfapigccdbpepaa
open Go.RowKit

/-- What cloned answers. -/
def ClonedOut (w : World) (m : Nat) (l : List Pl.Bt) (e : Ending) (w' : World) : Prop := ∃ v' gb M G, e = .returned v' ∧ Cl w.heap.size v' gb M G w' 0 m ∧ M.map (·.1) = l ∧ Below w.heap.size w w'
theorem map_fst_set : ∀ {M : List (Pl.Bt × Value)} {i : Nat} {b : Pl.Bt} {u u' : Value}, M[i]? = some (b, u) → (M.set i (b, u')).map (·.1) = M.map (·.1)
  | [], _, _, _, _, _ => rfl
  | m :: M, 0, b, u, u', h => by
    obtain rfl : m = (b, u) := by simpa using h
    rfl
  | m :: M, i + 1, b, u, u', h => by
    rw [List.set_cons_succ, List.map_cons, List.map_cons, map_fst_set (by simpa using h)]
set_option maxHeartbeats 4000000 in
set_option maxRecDepth 100000 in
theorem cloned_any {A : Nat → Prop} (v : Value) (L : List (Pl.Bt × Value)) (w : World) (hv : BtIn A w v L) (hf : Few (L.map (·.1))) :
    Calls Try.prog 23 #[v] w (ClonedOut w L.length (L.map (·.1))) := by
  obtain ⟨m, hm⟩ : ∃ m, L.length = m := ⟨_, rfl⟩
  have hmm : m ≤ 64 := by rw [← hm]; simpa using hf.1
  obtain ⟨a1, cap1, rfl⟩ := hv.1.form
  have hcl := cloneBt _ _ _ w hv.1 (bc6_one hv.2) (by rw [hm]; omega)
  have HCL := Lib.hid hcl
  have HALL : Hid (All (fun b => b < w.heap.size) w L) := Lib.hid fun p hp => Rds.in_size (hv.2 p hp)
  have HF := Lib.hid hf
  have HM := Lib.hid hm
  rw [hm] at HCL ⊢
  clear hcl hv hf hm
  go_enter Try.func23, Try.ntmps23
  go_wp2_with fail
  refine HCL.out.mono ?_
  rintro e w1 ⟨v', gb, rfl, hs, hgb, hb1⟩
  have HB1 := Lib.hid hb1
  have h0 : Cl w.heap.size v' gb L (fun _ => none) w1 0 0 := ⟨by rw [HM.out]; exact hs, hgb, fun j p h => absurd h (Nat.not_lt_zero _), fun j p _ h => absurd h (Nat.not_lt_zero _), fun j p _ hp => Rds.below (HALL.out p (List.mem_of_getElem? hp)) hb1, (fun j b e => by cases e), (fun j k b e => by cases e)⟩
  have H0 := Lib.hid h0
  obtain ⟨av, cv, rfl⟩ := hs.form
  clear hs hgb hb1 h0 HCL
  go_wp2_with fail
  go_loopw [3, 8] (fun _ iv wr => ∃ (i : Nat) (M : List (Pl.Bt × Value)) (G : Nat → Option Nat), i ≤ m ∧ iv = .int .i64 i ∧ Cl w.heap.size (.slice av m cv) gb M G wr 0 i ∧ Below w.heap.size w wr ∧ M.map (·.1) = L.map (·.1)) (fun _ iv _ => m - (intOf iv).toNat)
  case atStart => exact ⟨0, L, _, Nat.zero_le _, rfl, H0.out, HB1.out, rfl⟩
  case round =>
    obtain ⟨i, M, G, hi, rfl, hc, hbw, hML⟩ := hrel
    have HC := Lib.hid hc
    have HBW := Lib.hid hbw
    have HML := Lib.hid hML
    have HMN : Hid (M.length = m) := Lib.hid (by have := congrArg List.length hML; simp only [List.length_map] at this; rw [this]; exact HM.out)
    clear hML H0
    by_cases hlt : i < m
    · obtain ⟨p, hg⟩ : ∃ q, M[i]? = some q := ⟨_, List.getElem?_eq_getElem (by rw [HMN.out]; exact hlt)⟩
      obtain ⟨a2, c2, hp2⟩ := hc.value hg
      have hrin := hc.old i p (Nat.le_refl _) hg
      have hln : p.1.recs.length ≤ 64 := by
        have h1 : p.1 ∈ L.map (·.1) := by rw [← HML.out]; exact List.mem_map.2 ⟨p, List.mem_of_getElem? hg, rfl⟩
        exact (HF.out.2 _ h1).1
      obtain ⟨bb, o, cp, rfl, e2, hbl, hfz, hcell⟩ := hc.at hg
      rw [HMN.out] at e2
      obtain ⟨rfl, rfl⟩ : av = some ⟨bb, o, none⟩ ∧ cv = cp := by injection e2 with e3 e4 e5; exact ⟨e3, e5⟩
      obtain ⟨b0, pv⟩ := p
      simp only at hp2
      subst hp2
      have c5 : wr.cell? ⟨bb, o + i * 6 + 5, none⟩ = some (.slice a2 b0.recs.length c2) := hcell 5 _ (by decide) rfl
      have HCR := Lib.hid (cloneRc _ _ _ wr hrin (flat4_one _) (by omega))
      have HFZ := Lib.hid hfz
      have HG := Lib.hid hg
      have i0 : (0 : Int) ≤ (i : Int) := by omega
      have i1 : (i : Int) < (m : Int) := by omega
      obtain ⟨ln, hln2⟩ : ∃ ln, b0.recs.length = ln := ⟨_, rfl⟩
      have HLN := Lib.hid hln2
      rw [hln2] at c5 HCR hln
      rw [hln2] at HG
      clear hrin hcell hfz hg e2 hc hbw hln2
      go_wp2_with fail
      refine HCR.out.mono ?_
      rintro e w2 ⟨v2, gb2, rfl, hs2, hgb2, hb2⟩
      have HB2 := Lib.hid hb2
      obtain ⟨a3, c3, rfl⟩ := hs2.form
      have HNX := Lib.hid (HC.out.clone (Nat.zero_le _) HG.out rfl rfl HBW.out.size hb2 (by rw [HLN.out]; exact hs2) hgb2)
      have f5 : w2.cell? ⟨bb, o + i * 6 + 5, none⟩ = some (.slice a2 ln c2) := (hb2.cell (p := ⟨bb, _, none⟩) hbl).trans c5
      have fz : ∀ x, w2.frozen? ⟨bb, x, none⟩ = false := fun x => (hb2.frozen (p := ⟨bb, x, none⟩) hbl).trans (HFZ.out x)
      have HZB : Hid (w.heap.size ≤ bb) := Lib.hid (HC.out.zb bb rfl)
      have HBX := Lib.hid ((HBW.out.trans (hb2.mono HBW.out.size)).setCell (p := ⟨bb, o + i * 6 + 5, none⟩) HZB.out (.slice a3 ln c3))
      clear hs2 hgb2 hb2 c5
      go_wp2_with fail
      go_roundw
      case rel => exact ⟨i + 1, _, _, by omega, by go_num, HNX.out, HBX.out, by rw [← HML.out]; exact map_fst_set HG.out⟩
      case measure => simp [intOf]; omega
    · obtain rfl : i = m := by omega
      clear hc hbw
      go_wp2_with fail
      go_ret
      exact ⟨_, gb, M, G, rfl, HC.out, HML.out, HBW.out⟩

theorem isTime_any (n : Int) (w : World) : Calls Try.prog 24 #[.int .i64 n] w fun e w' => e = .returned (.bool (decide (0 ≤ n ∧ n ≤ 1099511627776))) ∧ w = w' := by
  by_cases h1 : 0 ≤ n
  · obtain ⟨q, hq⟩ : ∃ q, decide (n ≤ 1099511627776) = q := ⟨_, rfl⟩
    have hr : decide (0 ≤ n ∧ n ≤ 1099511627776) = q := by rw [← hq]; simp [h1]
    rw [hr]
    have hd : decide (0 ≤ n) = true := by simpa using h1
    clear h1 hr
    go_enter Try.func24, Try.ntmps24
    go_wp2_with fail
    go_ret
    exact ⟨rfl, rfl⟩
  · have hr : decide (0 ≤ n ∧ n ≤ 1099511627776) = false := by simp [h1]
    rw [hr]
    have hd : decide (0 ≤ n) = false := by simpa using h1
    clear h1 hr
    go_enter Try.func24, Try.ntmps24
    go_wp2_with fail
    go_ret
    exact ⟨rfl, rfl⟩
theorem first_rc (o : Int) (k u : ByteArray) (g : Bool) (w : World) : (Instr.field 44 (.agg #[.int .i64 o, .string k, .string u, .bool g]) 0).run Try.prog w = .ok (.int .i64 o) w := by kernel_rfl
/-- What Thin's closure says: kp, what stays. -/
def Wd.staysB (S : List Pl.Rc) (high : Int) (ago : Bool) (x : Pl.Rc) : Bool :=
  !(decide (x.key ≠ []) && decide (x.off < high) && ((match Wd.lk S x.key with | none => false | some y => decide (x.off < y.off)) || (x.gone && ago)))

set_option maxHeartbeats 4000000 in
set_option maxRecDepth 100000 in
theorem clos_any (bh bm bt b : Nat) (S : List Pl.Rc) (high : Int) (ago : Bool) (x : Pl.Rc) (w : World) (hbh : Blk w bh #[.int .i64 high] 3) (hbm : Blk w bm #[.map (some b)] 52) (hbt : Blk w bt #[.bool ago] 4) (hS : Wd.Srt S) (hm : VMap w b S) (hk : x.key.length ≤ maxLen)
    (hin : Wd.under high x = true → ∃ y, Wd.lk S x.key = some y) :
    Calls Try.prog 27 #[.agg #[.int .i64 x.off, .string ⟨x.key.toArray⟩, .string ⟨x.val.toArray⟩, .bool x.gone], .pointer (some ⟨bh, 0, none⟩), .pointer (some ⟨bm, 0, none⟩), .pointer (some ⟨bt, 0, none⟩)] w fun e w' => e = .returned (.bool (!Wd.staysB S high ago x)) ∧ Below w.heap.size w w' := by
  obtain ⟨W1, hW1⟩ : ∃ W1, w.alloc (oRc x) = W1 := ⟨_, rfl⟩
  have hb1 : Below w.heap.size w W1 := by rw [← hW1]; exact (Below.refl _ _).alloc (Nat.le_refl _) _
  have HBK : Hid (Blk W1 w.heap.size #[.int .i64 x.off, .string ⟨x.key.toArray⟩, .string ⟨x.val.toArray⟩, .bool x.gone] 44) := Lib.hid (by rw [← hW1]; exact Blk.new _ _ _)
  have q0 : W1.cell? ⟨w.heap.size, 0, none⟩ = some (.int .i64 x.off) := HBK.out.cell rfl
  have q1 : W1.cell? ⟨w.heap.size, 1, none⟩ = some (.string ⟨x.key.toArray⟩) := HBK.out.cell rfl
  have q3 : W1.cell? ⟨w.heap.size, 3, none⟩ = some (.bool x.gone) := HBK.out.cell rfl
  have r0 : W1.cell? ⟨bh, 0, none⟩ = some (.int .i64 high) := (hbh.below hb1).cell rfl
  have r1 : W1.cell? ⟨bm, 0, none⟩ = some (.map (some b)) := (hbm.below hb1).cell rfl
  have r2 : W1.cell? ⟨bt, 0, none⟩ = some (.bool ago) := (hbt.below hb1).cell rfl
  have HB1 := Lib.hid hb1
  have HW1 := Lib.hid hW1
  have HM1 := Lib.hid (hm.below hb1)
  have HST : Hid (∀ q, (decide (x.key ≠ []) && decide (x.off < high) && ((match Wd.lk S x.key with | none => false | some y => decide (x.off < y.off)) || (x.gone && ago))) = q → (!Wd.staysB S high ago x) = q) := Lib.hid fun q h => by unfold Wd.staysB; rw [Bool.not_not]; exact h
  obtain ⟨r, hr⟩ : ∃ r, (!Wd.staysB S high ago x) = r := ⟨_, rfl⟩
  have HR := Lib.hid hr
  have HIN := Lib.hid hin
  rw [hr]
  clear hW1 hb1 hbh hbm hbt hm hin hr
  obtain ⟨off, key, val, gone⟩ := x
  simp only at q0 q1 q3 hk
  go_enter Try.func27, Try.ntmps27
  go_upto_region 1 with fail
  rw [HW1.out]
  by_cases h1 : key = []
  · have HE : Hid (r = false) := Lib.hid (HR.out.symm.trans (HST.out false (by simp [h1])))
    subst h1
    go_wp2_with fail
    go_ret
    exact ⟨by rw [HE.out]; rfl, HB1.out⟩
  have hne : key.isEmpty = false := by cases key with
    | nil => exact absurd rfl h1
    | cons => rfl
  by_cases h2 : high ≤ off
  · have HE : Hid (r = false) := Lib.hid (HR.out.symm.trans (HST.out false (by have h9 : ¬ off < high := Int.not_lt.2 h2; simp [h9])))
    have hd : decide (high ≤ off) = true := by simpa using h2
    go_wp2_with fail
    go_ret
    exact ⟨by rw [HE.out]; rfl, HB1.out⟩
  have hd : decide (high ≤ off) = false := by simpa using h2
  obtain ⟨⟨yoff, ykey, yval, ygone⟩, hy⟩ := HIN.out (by simp [Wd.under, h1]; omega)
  have hlook := HM1.out.look hS hk hy
  have hlt : off < high := by omega
  have HE : Hid (∀ q, (decide (off < yoff) || (gone && ago)) = q → r = q) := Lib.hid fun q h => HR.out.symm.trans (HST.out q (by simp only at hy; rw [hy]; simp [h1, hlt]; simpa using h))
  have hfd := first_rc
  clear hy h1 h2 hlt
  by_cases h3 : off < yoff
  · have hd3 : decide (off < yoff) = true := by simpa using h3
    have HQ : Hid (r = true) := Lib.hid (HE.out true (by simp [h3]))
    clear h3
    go_wp2_with fail
    go_ret
    exact ⟨by rw [HQ.out]; rfl, HB1.out⟩
  have hd3 : decide (off < yoff) = false := by simpa using h3
  cases gone with
  | false =>
    have HQ : Hid (r = false) := Lib.hid (HE.out false (by simp [h3]))
    clear h3
    go_wp2_with fail
    go_ret
    exact ⟨by rw [HQ.out]; rfl, HB1.out⟩
  | true =>
    have HQ : Hid (r = ago) := Lib.hid (HE.out ago (by simp [h3]))
    clear h3
    go_wp2_with fail
    go_ret
    exact ⟨by rw [HQ.out]; rfl, HB1.out⟩
end Go.Proofs.Ytfapigccdbpepaa
