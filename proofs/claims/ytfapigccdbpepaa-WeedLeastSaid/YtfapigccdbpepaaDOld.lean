/- THE CONTRACTS OF the program's rowOf, safe, Old. -/
import Derived.Test.YtfapigccdbpepaaHBig
import Derived.Test.YtfapigccdbpepaaHWalk
import Derived.Test.YtfapigccdbpepaaROld
import Derived.Test.YtfapigccdbpepaaDFew
namespace Go.Proofs.Ytfapigccdbpepaa
open Go.RowKit

/-- Bytes that a row can be made of. -/
def RowOk (bytes : List Int) : Prop := bytes.length ≤ 4096 ∧ ∀ b ∈ bytes, 0 ≤ b ∧ b ≤ 1099511627776
def prs (bytes : List Int) : List P2 := bytes.map fun b => ((0, b) : P2)
theorem prs_next {bytes : List Int} {i : Nat} {b : Int} (h : bytes[i]? = some b) : prs (bytes.take (i + 1)) = prs (bytes.take i) ++ [(0, b)] := take_pairs h
def RowOut (w : World) (bytes : List Int) (e : Ending) (w' : World) : Prop :=
  Below w.heap.size w w' ∧ ((RowOk bytes ∧ ∃ g gb, e = .returned (.tuple #[.pointer (some ⟨g, 0, none⟩), .bool true]) ∧ Rw w' g gb (prs bytes)) ∨ (¬ RowOk bytes ∧ e = .returned (.tuple #[.pointer none, .bool false])))

set_option maxHeartbeats 4000000 in
set_option maxRecDepth 100000 in
theorem rowOf_any {A : Nat → Prop} (v : Value) (bytes : List Int) (w : World) (hv : Nm A w v bytes) (hl : bytes.length ≤ 5000) :
    Calls Try.prog 35 #[v] w (RowOut w bytes) := by
  obtain ⟨a1, cap1, rfl⟩ := hv.form
  obtain ⟨n, hn⟩ : ∃ n, bytes.length = n := ⟨_, rfl⟩
  have HV := Lib.hid hv
  have HN := Lib.hid hn
  have HNW := Lib.hid (new_any w)
  rw [hn] at hl HV ⊢
  clear hv hn
  go_enter Try.func35, Try.ntmps35
  go_wp2_with fail
  refine HNW.out.mono ?_
  rintro e w1 ⟨rfl, hb1, hr1⟩
  have H1 := Lib.hid (And.intro hb1 hr1)
  obtain ⟨G, hG⟩ : ∃ G, w.heap.size = G := ⟨_, rfl⟩
  have HG := Lib.hid hG
  rw [hG] at H1 ⊢
  clear hb1 hr1 hG HNW
  go_wp2_with fail
  go_loopw [6, 10] (fun _ iv wr => ∃ (i : Nat) (gb : Option Nat), i ≤ n ∧ iv = .int .i64 i ∧ Rw wr G gb (prs (bytes.take i)) ∧ Below G w wr ∧ (∀ k, gb = some k → G ≤ k) ∧ ∀ b ∈ bytes.take i, 0 ≤ b ∧ b ≤ 1099511627776) (fun _ iv _ => n - (intOf iv).toNat)
  case atStart => exact ⟨0, none, Nat.zero_le _, rfl, H1.out.2, H1.out.1, (fun k e => by cases e), fun b hb => by cases hb⟩
  case round =>
    obtain ⟨i, gb, hi, rfl, hr, hbw, hgb, hall⟩ := hrel
    have HR := Lib.hid hr
    have HBW := Lib.hid hbw
    have HGB := Lib.hid hgb
    have HAL := Lib.hid hall
    have hi4 : i ≤ 4096 := by have := hr.few; unfold prs at this; rw [List.length_map, List.length_take, HN.out] at this; omega
    clear hr hgb hall H1
    by_cases hlt : i < n
    · obtain ⟨x, hx⟩ : ∃ x, bytes[i]? = some x := ⟨_, List.getElem?_eq_getElem (by rw [HN.out]; exact hlt)⟩
      obtain ⟨b, o, cap, e, c0⟩ := (HV.out.below (by rw [HG.out]; exact hbw)).at hx
      obtain rfl : a1 = some ⟨b, o, none⟩ := by injection e
      have HX := Lib.hid hx
      obtain ⟨y, hy⟩ : ∃ y, floatOfInt .f64 x = y := ⟨_, rfl⟩
      have HY := Lib.hid hy
      have hlen : (prs (bytes.take i)).length = i := by unfold prs; rw [List.length_map, List.length_take, HN.out]; omega
      have HP0 : Hid (Fl.part 0 = some 0) := Lib.hid (Fl.is_part is_zero (by decide) (by decide))
      have hdi : decide ((i : Int) < (n : Int)) = true := by simp; omega
      have i0 : (0 : Int) ≤ (i : Int) := by omega
      have i1 : (i : Int) < (n : Int) := by omega
      by_cases hok : (0 ≤ x ∧ x ≤ 1099511627776) ∧ i < 4096
      · obtain ⟨⟨hx0, hx1⟩, hi5⟩ := hok
        have HPU := Lib.hid (push_ok 0 y 0 x.toNat wr G gb _ HR.out HP0.out (by rw [← hy]; exact Fl.ofInt_part hx0 hx1) (by rw [hlen]; exact hi5))
        have HXN : Hid ((x.toNat : Int) = x) := Lib.hid (by omega)
        have HX01 := Lib.hid (And.intro hx0 hx1)
        clear e hx hlen hbw hx0 hx1 hi5
        go_wp2_with (first | (rw [hy]) | fail)
        refine HPU.out.mono ?_
        rintro e w2 ⟨rfl, gb2, hr2, hk2, hg2⟩
        rw [HXN.out] at hr2
        have HR2 := Lib.hid hr2
        have HG2 : Hid (∀ k, gb2 = some k → G ≤ k) := Lib.hid fun k e => by
          rcases hg2 with h | ⟨k', h, hk'⟩
          · exact HGB.out k (h ▸ e)
          · rw [h] at e; cases e
            have h1 := HR.out.lt
            omega
        have HB2 := Lib.hid (HBW.out.trans (hk2.below (by have := HR.out.lt; omega) (fun k e => by cases e; exact Nat.le_refl _) HGB.out))
        clear hr2 hk2 hg2
        go_wp2_with fail
        go_roundw
        case rel => exact ⟨i + 1, gb2, by omega, by go_num, by rw [prs_next HX.out]; exact HR2.out, HB2.out, HG2.out, fun b hb => by
          rw [List.take_add_one, HX.out] at hb
          rcases List.mem_append.1 hb with hb | hb
          · exact HAL.out b hb
          · obtain rfl : b = x := by simpa using hb
            exact HX01.out⟩
        case measure => simp [intOf]; omega
      · have HPU := Lib.hid (push_no 0 y wr G gb _ HR.out (by
          by_cases h4 : i < 4096
          · exact .inr (.inl (by rw [← hy]; exact Fl.ofInt_no_part (by
              have : ¬ (0 ≤ x ∧ x ≤ 1099511627776) := fun h => hok ⟨h, h4⟩
              omega)))
          · exact .inr (.inr (by rw [hlen]; omega))))
        have HBAD : Hid (¬ RowOk bytes) := Lib.hid fun h => hok ⟨h.2 x (List.mem_of_getElem? HX.out), by have := h.1; rw [HN.out] at this; omega⟩
        clear e hx hlen hbw hok
        go_wp2_with (first | (rw [hy]) | fail)
        refine HPU.out.mono ?_
        rintro e w2 ⟨rfl, rfl⟩
        go_wp2_with fail
        go_ret2
        exact ⟨by rw [HG.out]; exact HBW.out, .inr ⟨HBAD.out, rfl⟩⟩
    · have hdi : decide ((i : Int) < (n : Int)) = false := by simp; omega
      have hT : bytes.take i = bytes := List.take_of_length_le (by rw [HN.out]; omega)
      have HOK : Hid (RowOk bytes) := Lib.hid ⟨by rw [HN.out]; omega, fun b hb => HAL.out b (by rw [hT]; exact hb)⟩
      have HR2 : Hid (Rw wr G gb (prs bytes)) := Lib.hid (by have := HR.out; rwa [hT] at this)
      clear hbw hT
      go_wp2_with fail
      go_ret2
      exact ⟨by rw [HG.out]; exact HBW.out, .inl ⟨HOK.out, G, gb, rfl, HR2.out⟩⟩
/-- The first end above the watermark. -/
def FirstN (ends : List Int) (high i : Int) : Prop := (i = -1 ∧ ∀ x ∈ ends, x ≤ high) ∨ ∃ k : Nat, i = k ∧ k < ends.length ∧ (∀ j y, j < k → ends[j]? = some y → y ≤ high) ∧ ∀ y, ends[k]? = some y → high < y
theorem above_any (bh : Nat) (high n : Int) (w : World) (hb : Blk w bh #[.int .i64 high] 3) :
    Calls Try.prog 49 #[.int .i64 n, .pointer (some ⟨bh, 0, none⟩)] w fun e w' => e = .returned (.bool (decide (high < n))) ∧ w = w' := by
  have c0 : w.cell? ⟨bh, 0, none⟩ = some (.int .i64 high) := hb.cell rfl
  obtain ⟨q, hq⟩ : ∃ q, decide (high < n) = q := ⟨_, rfl⟩
  rw [hq]
  clear hb
  go_enter Try.func49, Try.ntmps49
  go_wp2_with fail
  go_ret
  exact ⟨rfl, rfl⟩
set_option maxHeartbeats 1000000 in
set_option maxRecDepth 100000 in
theorem ixN_any {A : Nat → Prop} (bh : Nat) (high : Int) (v : Value) (ends : List Int) (w : World) (hb : Blk w bh #[.int .i64 high] 3) (hv : Nm A w v ends) (hl : ends.length ≤ 5000) :
    Calls Try.prog 48 #[v, .func (.func 49) #[] #[.pointer (some ⟨bh, 0, none⟩)]] w fun e w' => ∃ i : Int, e = .returned (.int .i64 i) ∧ FirstN ends high i ∧ w = w' := by
  obtain ⟨a1, c1, rfl⟩ := hv.form
  obtain ⟨m, hm⟩ : ∃ m, ends.length = m := ⟨_, rfl⟩
  have HM := Lib.hid hm
  have HV := Lib.hid hv
  have HC : Hid (∀ n, Calls Try.prog 49 #[.int .i64 n, .pointer (some ⟨bh, 0, none⟩)] w fun e w' => e = .returned (.bool (decide (high < n))) ∧ w = w') := Lib.hid fun n => above_any bh high n w hb
  rw [hm] at hl HV ⊢
  clear hb hv hm
  go_enter Try.func48, Try.ntmps48
  go_wp2_with fail
  go_loopw [5, 8] (fun _ iv wr => ∃ k : Nat, k ≤ m ∧ iv = .int .i64 k ∧ (∀ j y, j < k → ends[j]? = some y → y ≤ high) ∧ wr = w) (fun _ iv _ => m - (intOf iv).toNat)
  case atStart => exact ⟨0, Nat.zero_le _, rfl, fun j y h => absurd h (Nat.not_lt_zero _), rfl⟩
  case round =>
    obtain ⟨k, hk, rfl, hno, rfl⟩ := hrel
    have HNO := Lib.hid hno
    clear hno
    by_cases hlt : k < m
    · have hdk : decide ((k : Int) < (m : Int)) = true := by simp; omega
      obtain ⟨y, hg⟩ : ∃ y, ends[k]? = some y := ⟨_, List.getElem?_eq_getElem (by rw [HM.out]; exact hlt)⟩
      obtain ⟨b, o, cap, e, c0⟩ := HV.out.at hg
      obtain rfl : a1 = some ⟨b, o, none⟩ := by injection e
      have HG := Lib.hid hg
      obtain ⟨q, hq⟩ : ∃ q, decide (high < y) = q := ⟨_, rfl⟩
      have HQ := Lib.hid hq
      have HCM := Lib.hid (HC.out y)
      rw [hq] at HCM
      have k0 : (0 : Int) ≤ (k : Int) := by omega
      have k1 : (k : Int) < (m : Int) := by omega
      clear hg e hq
      go_wp2_with fail
      refine HCM.out.mono ?_
      rintro e w2 ⟨rfl, rfl⟩
      cases q with
      | true =>
        have hy : high < y := of_decide_eq_true HQ.out
        have HF : Hid (FirstN ends high k) := Lib.hid (.inr ⟨k, rfl, by rw [HM.out]; exact hlt, HNO.out, fun z hz => by rw [HG.out] at hz; cases hz; exact hy⟩)
        clear hy
        go_wp2_with fail
        go_ret
        exact ⟨_, rfl, HF.out, rfl⟩
      | false =>
        have hy : ¬ high < y := of_decide_eq_false HQ.out
        have HF : Hid (∀ j z, j < k + 1 → ends[j]? = some z → z ≤ high) := Lib.hid fun j z hj hz => by
          by_cases hjk : j = k
          · subst hjk
            rw [HG.out] at hz
            cases hz
            omega
          · exact HNO.out j z (by omega) hz
        clear hy
        go_wp2_with fail
        go_roundw
        case rel => exact ⟨k + 1, by omega, by go_num, HF.out, trivial⟩
        case measure => simp [intOf]; omega
    · have hdk : decide ((k : Int) < (m : Int)) = false := by simp; omega
      have HF : Hid (FirstN ends high (-1)) := Lib.hid (.inl ⟨rfl, fun x hx => by
        obtain ⟨j, hj⟩ := List.getElem?_of_mem hx
        have hjl := (List.getElem?_eq_some_iff.1 hj).1
        exact HNO.out j x (by rw [HM.out] at hjl; omega) hj⟩)
      go_wp2_with fail
      go_ret
      exact ⟨_, rfl, HF.out, rfl⟩
/-- As many of the first ends as are at most high. -/
def SafeN (ends : List Int) (high : Int) (k : Nat) : Prop := k ≤ ends.length ∧ (∀ j y, j < k → ends[j]? = some y → y ≤ high) ∧ (k = ends.length ∨ ∃ y, ends[k]? = some y ∧ high < y)
set_option maxHeartbeats 1000000 in
theorem safe_any {A : Nat → Prop} (v : Value) (ends : List Int) (high : Int) (w : World) (hv : Nm A w v ends) (hl : ends.length ≤ 5000) :
    Calls Try.prog 37 #[v, .int .i64 high] w fun e w' => ∃ k : Nat, e = .returned (.int .i64 k) ∧ SafeN ends high k ∧ Below w.heap.size w w' := by
  obtain ⟨a1, c1, rfl⟩ := hv.form
  obtain ⟨W0, hW0⟩ : ∃ W0, w.alloc (.cells #[.int .i64 high] 3) = W0 := ⟨_, rfl⟩
  have hb0 : Below w.heap.size w W0 := by rw [← hW0]; exact (Below.refl _ _).alloc (Nat.le_refl _) _
  have HIX := Lib.hid (ixN_any w.heap.size high _ ends W0 (by rw [← hW0]; exact Blk.new _ _ _) (hv.below hb0) hl)
  have HB0 := Lib.hid hb0
  have HW0 := Lib.hid hW0
  obtain ⟨m, hm⟩ : ∃ m, ends.length = m := ⟨_, rfl⟩
  have HM := Lib.hid hm
  rw [hm] at HIX hl ⊢
  clear hv hW0 hb0 hm
  go_enter Try.func37, Try.ntmps37
  go_upto_region 1 with fail
  rw [HW0.out]
  go_wp2_with fail
  refine HIX.out.mono ?_
  rintro e w1 ⟨i, rfl, hf, rfl⟩
  rcases hf with ⟨rfl, hall⟩ | ⟨k, rfl, hk, hbef, hat⟩
  · have HS : Hid (SafeN ends high m) := Lib.hid ⟨by rw [HM.out]; exact Nat.le_refl _, fun j y _ hy => hall y (List.mem_of_getElem? hy), .inl HM.out.symm⟩
    clear hall
    go_wp2_with fail
    go_ret
    exact ⟨m, rfl, HS.out, HB0.out⟩
  · have HS : Hid (SafeN ends high k) := Lib.hid ⟨Nat.le_of_lt hk, hbef, .inr ⟨_, List.getElem?_eq_getElem hk, hat _ (List.getElem?_eq_getElem hk)⟩⟩
    have hd : decide ((k : Int) < 0) = false := by simp
    clear hbef hat hk
    go_wp2_with fail
    go_ret
    exact ⟨k, rfl, HS.out, HB0.out⟩

theorem old_min {ends bytes : List Int} {high keep : Int} {n s : Nat} (hl : ends.length = bytes.length) (hr : RowOk bytes) (hn : OverSays (prs bytes) keep n) (hs : SafeN ends high s) : OldSays ends bytes high keep (min n s) := by
  obtain ⟨s1, s2, s3⟩ := hs
  refine ⟨fun h => ?_, fun _ => ⟨n, hn, Nat.min_le_left _ _, fun j e hj he => s2 j e (by omega) he, ?_⟩⟩
  · rcases h with h | h | ⟨b, hb, h⟩
    · exact absurd hl h
    · have := hr.1; omega
    · have := hr.2 b hb; omega
  · rcases Nat.le_total n s with h | h
    · exact .inl (Nat.min_eq_left h)
    · rw [Nat.min_eq_right h]
      rcases Nat.eq_or_lt_of_le h with h2 | h2
      · exact .inl h2
      · rcases s3 with s3 | s3
        · have hlen : (prs bytes).length = bytes.length := by simp [prs]
          by_cases h0 : prs bytes = []
          · have := hn.1 h0; omega
          · have := (hn.2.1 h0).1; omega
        · exact .inr s3
theorem old_zero {ends bytes : List Int} {high keep : Int} (h : ¬ RowOk bytes ∨ ends.length ≠ bytes.length) : OldSays ends bytes high keep 0 := by
  refine ⟨fun _ => rfl, fun hb => absurd ?_ hb⟩
  rcases h with h | h
  · by_cases hl : ends.length = bytes.length
    · by_cases h4 : bytes.length ≤ 4096
      · refine .inr (.inr (Classical.byContradiction fun hno => h ⟨h4, fun b hb => ?_⟩))
        have : ¬ (b < 0 ∨ 1099511627776 < b) := fun h => hno ⟨b, hb, h⟩
        omega
      · exact .inr (.inl (by omega))
    · exact .inl hl
  · exact .inl h

set_option maxHeartbeats 4000000 in
set_option maxRecDepth 100000 in
theorem dold {A A' : Nat → Prop} (ev bv : Value) (ends bytes : List Int) (high keep : Int) (w : World) (he : Nm A w ev ends) (hb : Nm A' w bv bytes) (hle : ends.length ≤ 5000) (hlb : bytes.length ≤ 5000) :
    Calls Try.prog 18 #[ev, bv, .int .i64 high, .int .i64 keep] w fun e w' => ∃ k : Nat, e = .returned (.int .i64 k) ∧ OldSays ends bytes high keep k ∧ Below w.heap.size w w' := by
  have HRO := Lib.hid (rowOf_any bv bytes w hb hlb)
  have HSA : Hid (∀ wx, Below w.heap.size w wx → Calls Try.prog 37 #[ev, .int .i64 high] wx fun e w' => ∃ k : Nat, e = .returned (.int .i64 k) ∧ SafeN ends high k ∧ Below wx.heap.size wx w') := Lib.hid fun wx h => safe_any ev ends high wx (he.below h) hle
  obtain ⟨a1, c1, rfl⟩ := he.form
  obtain ⟨a2, c2, rfl⟩ := hb.form
  obtain ⟨en, hen⟩ : ∃ n, ends.length = n := ⟨_, rfl⟩
  obtain ⟨bn, hbn⟩ : ∃ n, bytes.length = n := ⟨_, rfl⟩
  have HEN := Lib.hid hen
  have HBN := Lib.hid hbn
  rw [hen] at HSA ⊢
  rw [hbn] at HRO ⊢
  clear he hb hle hlb hen hbn
  go_enter Try.func18, Try.ntmps18
  go_wp2_with fail
  refine HRO.out.mono ?_
  rintro e w1 ⟨hb1, ⟨hok, g, gb, rfl, hrw⟩ | ⟨hno, rfl⟩⟩
  · have HB1 := Lib.hid hb1
    by_cases hlen : en = bn
    · have hd : ((en : Int) != (bn : Int)) = false := by simp [hlen]
      have HOV := Lib.hid (over_any keep w1 g gb _ hrw)
      have HRK := Lib.hid hok
      have HLE : Hid (ends.length = bytes.length) := Lib.hid (by rw [HEN.out, HBN.out, hlen])
      clear hrw hok hb1 hlen
      go_wp2_with fail
      refine HOV.out.mono ?_
      rintro e w2 ⟨⟨n, rfl, hn⟩, rfl⟩
      have HOS := Lib.hid hn
      clear hn
      go_wp2_with fail
      refine (HSA.out _ HB1.out).mono ?_
      rintro e w2 ⟨k, rfl, hs, hb2⟩
      have HF := Lib.hid (old_min HLE.out HRK.out HOS.out hs)
      have HB2 := Lib.hid (HB1.out.trans (hb2.mono HB1.out.size))
      clear hs hb2
      rcases Nat.lt_or_ge k n with h | h
      · rw [Nat.min_eq_right (Nat.le_of_lt h)] at HF
        go_wp2_with fail
        go_ret
        exact ⟨k, by first | rfl | (simp; omega), HF.out, HB2.out⟩
      · rw [Nat.min_eq_left h] at HF
        go_wp2_with fail
        go_ret
        exact ⟨n, by first | rfl | (simp; omega), HF.out, HB2.out⟩
    · have hd : ((en : Int) != (bn : Int)) = true := by simp; omega
      have HF : Hid (OldSays ends bytes high keep 0) := Lib.hid (old_zero (.inr (by rw [HEN.out, HBN.out]; exact hlen)))
      clear hrw hok hb1
      go_wp2_with fail
      go_ret
      exact ⟨0, rfl, HF.out, HB1.out⟩
  · have HB1 := Lib.hid hb1
    have HF : Hid (OldSays ends bytes high keep 0) := Lib.hid (old_zero (.inl hno))
    clear hno hb1
    go_wp2_with fail
    go_ret
    exact ⟨0, rfl, HF.out, HB1.out⟩
end Go.Proofs.Ytfapigccdbpepaa
