/- THE CONTRACT OF share's Good. -/
import Derived.Test.YtaefcbgmljaleaaShN
namespace Go.Proofs.Ytaefcbgmljaleaa
open Go.RowKit

theorem getD_of {L : List ByteArray} {k : Nat} {x : ByteArray} (h : L[k]? = some x) : L.getD k default = x := by rw [List.getD_eq_getElem?_getD, h]; rfl
set_option maxHeartbeats 1000000 in
theorem good_any {A : Nat → Prop} (v : Value) (L : List ByteArray) (w : World) (h : Nms A w v L) :
    Calls Try.prog 8 #[v] w fun e w' => e = .returned (.bool (Sh.goodB L)) ∧ Below w.heap.size w w' := by
  obtain ⟨a, cap, rfl⟩ := h.form
  obtain ⟨n, hn⟩ : ∃ n, L.length = n := ⟨_, rfl⟩
  have HV := Lib.hid h
  have HN := Lib.hid hn
  rw [hn]
  clear h hn
  by_cases h4 : (n : Int) ≤ 4
  · have HG : Hid (Sh.goodB L = Sh.goodTo L n) := Lib.hid (by unfold Sh.goodB; rw [HN.out, decide_eq_true (by omega)]; rfl)
    go_enter Try.func8, Try.ntmps8
    go_wp2_with fail
    have HR := Lib.hid (Below.refl w.heap.size w)
    go_loopw [3, 4, 10] (fun _ _ i wr => ∃ k : Nat, k ≤ n ∧ i = .int .i64 k ∧ Sh.goodTo L k = true ∧ Below w.heap.size w wr) (fun _ _ i _ => n - (intOf i).toNat)
    case atStart => exact ⟨0, Nat.zero_le _, rfl, rfl, HR.out⟩
    case round =>
      obtain ⟨k, hk, rfl, hok, hb⟩ := hrel
      have HOK := Lib.hid hok
      have HB := Lib.hid hb
      clear hok hb
      by_cases hlt : k < n
      · obtain ⟨x, hx⟩ : ∃ x, L[k]? = some x := ⟨_, List.getElem?_eq_getElem (by rw [HN.out]; exact hlt)⟩
        obtain ⟨b, p, cap', e, -, hbl, c0⟩ := (HV.out.below HB.out).at hx
        obtain rfl : a = some ⟨b, p, none⟩ := by injection e
        have HX := Lib.hid (getD_of hx)
        clear e hx
        have HBAD : Hid (Sh.atB L k = false → Sh.goodB L = false) := Lib.hid fun hb => by rw [HG.out]; exact Sh.goodTo_bad hlt hb
        have HNX : Hid (Sh.atB L k = true → Sh.goodTo L (k + 1) = true) := Lib.hid fun hb => by rw [Sh.goodTo_succ, HOK.out, hb]; rfl
        have HAT : Hid (Sh.atB L k = (Sh.nameB x && !(decide (0 < k) && Sh.leB x (L.getD (k - 1) default)))) := Lib.hid (by unfold Sh.atB; rw [HX.out])
        by_cases hN : Sh.nameB x = true
        · by_cases h0 : 0 < k
          · obtain ⟨y, hy⟩ : ∃ y, L[k - 1]? = some y := ⟨_, List.getElem?_eq_getElem (by rw [HN.out]; omega)⟩
            obtain ⟨b', p', cap'', e, -, -, c1⟩ := (HV.out.below HB.out).at hy
            obtain ⟨rfl, rfl⟩ : b = b' ∧ p = p' := by injection e with e _ _; injection e with e; injection e with e1 e2; exact ⟨e1, e2⟩
            have HY := Lib.hid (getD_of hy)
            clear e hy
            have hk1 : (1 : Int) ≤ (k : Int) := by omega
            have hk2 : (k : Int) - 1 < (n : Int) := by omega
            rcases hl : Op.bytesLess x.toList y.toList with _ | _
            · rcases he : (x.toList == y.toList) with _ | _
              · have HT : Hid (Sh.atB L k = true) := Lib.hid (by rw [HAT.out, HY.out, hN]; unfold Sh.leB; rw [hl, he]; simp)
                go_wp2_with (go_at_call 13; refine (isName_any x _).mono ?_; rintro e w1 ⟨rfl, hb1⟩; have HB1 := Lib.hid hb1; have c2 := (hb1.cell (p := ⟨b, p + (k - 1), none⟩) hbl).trans c1; clear hb1)
                go_roundw
                case rel => exact ⟨k + 1, by omega, by go_num, HNX.out HT.out, HB.out.trans (HB1.out.mono HB.out.size)⟩
                case measure => simp [intOf]; omega
              · have HT : Hid (Sh.atB L k = false) := Lib.hid (by rw [HAT.out, HY.out, hN]; unfold Sh.leB; rw [hl, he]; simp [h0])
                go_wp2_with (go_at_call 13; refine (isName_any x _).mono ?_; rintro e w1 ⟨rfl, hb1⟩; have HB1 := Lib.hid hb1; have c2 := (hb1.cell (p := ⟨b, p + (k - 1), none⟩) hbl).trans c1; clear hb1)
                go_ret
                exact ⟨by rw [HBAD.out HT.out]; rfl, HB.out.trans (HB1.out.mono HB.out.size)⟩
            · have HT : Hid (Sh.atB L k = false) := Lib.hid (by rw [HAT.out, HY.out, hN]; unfold Sh.leB; rw [hl]; simp [h0])
              go_wp2_with (go_at_call 13; refine (isName_any x _).mono ?_; rintro e w1 ⟨rfl, hb1⟩; have HB1 := Lib.hid hb1; have c2 := (hb1.cell (p := ⟨b, p + (k - 1), none⟩) hbl).trans c1; clear hb1)
              go_ret
              exact ⟨by rw [HBAD.out HT.out]; rfl, HB.out.trans (HB1.out.mono HB.out.size)⟩
          · have HT : Hid (Sh.atB L k = true) := Lib.hid (by rw [HAT.out, hN, decide_eq_false h0]; rfl)
            go_wp2_with (go_at_call 13; refine (isName_any x _).mono ?_; rintro e w1 ⟨rfl, hb1⟩; have HB1 := Lib.hid hb1; clear hb1)
            go_roundw
            case rel => exact ⟨k + 1, by omega, by go_num, HNX.out HT.out, HB.out.trans (HB1.out.mono HB.out.size)⟩
            case measure => simp [intOf]; omega
        · have hN : Sh.nameB x = false := by simpa using hN
          have HT : Hid (Sh.atB L k = false) := Lib.hid (by rw [HAT.out, hN]; rfl)
          go_wp2_with (go_at_call 13; refine (isName_any x _).mono ?_; rintro e w1 ⟨rfl, hb1⟩; have HB1 := Lib.hid hb1; clear hb1)
          go_ret
          exact ⟨by rw [HBAD.out HT.out]; rfl, HB.out.trans (HB1.out.mono HB.out.size)⟩
      · have HF : Hid (Sh.goodB L = true) := Lib.hid (by rw [HG.out, show n = k by omega]; exact HOK.out)
        go_wp2_with fail
        go_ret
        exact ⟨by rw [HF.out]; rfl, HB.out⟩
  · have hd : Sh.goodB L = false := by unfold Sh.goodB; rw [HN.out, decide_eq_false (by omega)]; rfl
    rw [hd]
    clear hd
    go_enter Try.func8, Try.ntmps8
    go_wp2_with fail
    go_ret
    exact ⟨rfl, Below.refl _ _⟩
end Go.Proofs.Ytaefcbgmljaleaa
