/- The walk of the law GaugeShifts. -/
import Derived.Test.YtdkngocinimjdaaOverWalk
namespace Go.Proofs.Ytdkngocinimjdaa
open Go.RowKit
attribute [local go_sem] run_store_complex

theorem my_shift {B : Nat} {w0 w : World} {g : Nat} {gb : Option Nat} {p : P2} {L : List P2} (h : Mine B w0 w g gb (p :: L)) :
    Calls Try.prog 13 #[.pointer (some ⟨g, 0, none⟩)] w fun e w' => (∃ v, e = .returned (.tuple #[v, .bool true]) ∧ CV v p) ∧ Mine B w0 w' g gb L :=
  (shift_some w g gb p L h.row).mono fun _ _ ⟨he, hr, hk⟩ => ⟨he, h.turn hr hk (.inl rfl)⟩

theorem drop_small (zs : List P2) (k : Nat) : ∀ p ∈ (rowOf zs).drop k, 0 ≤ p.1 ∧ p.1 < 1048576 ∧ 0 ≤ p.2 ∧ p.2 < 1048576 := fun p hp => rowOf_small zs p (List.mem_of_mem_drop hp)

set_option maxHeartbeats 4000000 in
theorem shifts_law (v : Value) (zs : List P2) (w : World) (h : Pairs w w.heap.size v zs) :
    Calls Try.prog 5 #[v] w fun e w' => e = .returned (.bool true) ∧ Below w.heap.size w w' := by
  have HP := Lib.hid h
  clear h
  go_enter Try.func5, Try.ntmps5
  go_wp2_with fail
  refine (awake_any _).mono ?_
  rintro e w1 ⟨rfl, b1⟩
  have HB1 := Lib.hid b1
  clear b1
  go_wp2_with fail
  refine (filled_any v zs w1 (HP.out.later HB1.out)).mono ?_
  rintro e w2 ⟨g, gb, rfl, M⟩
  have M2 := Lib.hid (M.back HB1.out)
  clear M
  obtain ⟨q, hq⟩ : ∃ q, (rowOf zs).length = q := ⟨_, rfl⟩
  have HQ := Lib.hid hq
  have HL : Hid (Calls Try.prog 22 #[.pointer (some ⟨g, 0, none⟩)] w2 fun e w' => e = .returned (.int .i64 q) ∧ w2 = w') := by
    rw [← hq]; exact Lib.hid (len_any _ _ _ _ M2.out.row)
  have hq60 : q ≤ 60 := by rw [← hq]; exact rowOf_len zs
  clear hq
  go_wp2_with fail
  refine HL.out.mono ?_
  rintro e w' ⟨rfl, rfl⟩
  go_wp2_with fail
  go_loopw [5] (fun iv wr => ∃ k : Nat, k ≤ q ∧ iv = .int .i64 k ∧ Mine w.heap.size w wr g gb ((rowOf zs).drop k)) (fun iv _ => q - (intOf iv).toNat)
  case atStart => exact ⟨0, Nat.zero_le _, rfl, M2.out⟩
  case round =>
    obtain ⟨k, hk, rfl, hM⟩ := hrel
    by_cases hlt : k < q
    · have hkl : k < (rowOf zs).length := by rw [HQ.out]; exact hlt
      obtain ⟨p, hp⟩ : ∃ p, (rowOf zs)[k]? = some p := ⟨_, List.getElem?_eq_getElem hkl⟩
      have hd : (rowOf zs).drop k = p :: (rowOf zs).drop (k + 1) := by
        rw [List.drop_eq_getElem_cons hkl]; congr 1; exact Option.some.inj ((List.getElem?_eq_getElem hkl).symm.trans hp)
      rw [hd] at hM
      have HM := Lib.hid hM
      obtain ⟨T, hT⟩ : ∃ T, (rowOf zs).drop (k + 1) = T := ⟨_, rfl⟩
      rw [hT] at HM
      have HT := Lib.hid hT
      have hTl : T.length + 1 + k = q := by rw [← hT, List.length_drop, HQ.out]; omega
      have HTL := Lib.hid hTl
      have hTs := rowOf_drop zs (k + 1)
      rw [hT] at hTs
      have hps := rowOf_small zs p (List.mem_of_getElem? hp)
      have HTS := Lib.hid hTs
      have HPS := Lib.hid hps
      clear hM hkl hp hd hT hTl hTs hps
      go_wp2_with fail
      refine (ahead_any _ _ _ _ _ HM.out.row).mono ?_
      rintro e w3 ⟨⟨v1, rfl, hcv⟩, b3⟩
      have hcv' : CV v1 p := by
        have e : tot ((p :: T).take (Int.toNat 1)) = p := tot_one p
        rwa [e] at hcv
      obtain ⟨x1, y1, rfl, hx1, hy1⟩ := hcv'
      have M3 := Lib.hid (HM.out.step b3)
      have HF := Lib.hid (And.intro hx1 hy1)
      clear hcv b3 hx1 hy1
      go_wp2_with fail
      refine (sum_any _ _ _ _ M3.out.row).mono ?_
      rintro e w' ⟨⟨v1, rfl, hcv⟩, rfl⟩
      obtain ⟨a, b, rfl, ha, hb⟩ := hcv
      have HA := Lib.hid (And.intro ha hb)
      clear ha hb
      go_wp2_with fail
      refine (my_shift M3.out).mono ?_
      rintro e w4 ⟨⟨v1, rfl, hcv⟩, M⟩
      have M4 := Lib.hid M
      obtain ⟨x2, y2, rfl, hx2, hy2⟩ := hcv
      have o1 := ord_is hx2 HF.out.1
      have o2 := ord_is hy2 HF.out.2
      have hT1 := HTS.out
      have hP1 := HPS.out
      obtain ⟨r, s, hsub, ir, is⟩ := complex_sub HA.out.1 HA.out.2 hx2 hy2 (by simp only [tot, add2]; omega) (by simp only [tot, add2]; omega)
      have e2 : sub2 (tot (p :: T)) p = tot T := by simp only [tot, sub2, add2]; ext <;> simp <;> omega
      rw [e2] at ir is
      have HI := Lib.hid (And.intro ir is)
      clear M hx2 hy2 ir is hT1 hP1 e2
      go_wp2_with fail
      refine (sum_any _ _ _ _ M4.out.row).mono ?_
      rintro e w' ⟨⟨v1, rfl, hcv⟩, rfl⟩
      obtain ⟨a2, b2, rfl, ha2, hb2⟩ := hcv
      have o3 := ord_is ha2 HI.out.1
      have o4 := ord_is hb2 HI.out.2
      have HL4 : Hid (Calls Try.prog 22 #[.pointer (some ⟨g, 0, none⟩)] w4 fun e w' => e = .returned (.int .i64 ((q - k - 1 : Nat) : Int)) ∧ w4 = w') := by
        have := len_any _ _ _ _ M4.out.row
        rw [show T.length = q - k - 1 by have := HTL.out; omega] at this
        exact Lib.hid this
      have ec : ((q - k - 1 : Nat) : Int) = (q : Int) - k - 1 := by omega
      rw [ec] at HL4
      clear ha2 hb2 ec
      go_wp2_with fail
      refine HL4.out.mono ?_
      rintro e w' ⟨rfl, rfl⟩
      go_wp2_with fail
      go_roundw
      case rel => exact ⟨k + 1, by omega, by go_num, by rw [HT.out]; exact M4.out⟩
      case measure => simp [intOf]; omega
    · obtain rfl : k = q := by omega
      have hend : (rowOf zs).drop k = [] := List.drop_of_length_le (by rw [HQ.out]; exact Nat.le_refl _)
      rw [hend] at hM
      have HM := Lib.hid hM
      clear hM hend
      go_wp2_with fail
      refine (shift_none _ _ _ HM.out.row).mono ?_
      rintro e w' ⟨rfl, rfl⟩
      go_wp2_with fail
      refine (shift_nil _).mono ?_
      rintro e w' ⟨rfl, rfl⟩
      go_wp2_with fail
      refine (sum_any _ _ _ _ HM.out.row).mono ?_
      rintro e w' ⟨⟨v1, rfl, hcv⟩, rfl⟩
      obtain ⟨a, b, rfl, ha, hb⟩ := hcv
      have o1 := ord_is (show Fl.Is a 0 from ha) is_zero
      have o2 := ord_is (show Fl.Is b 0 from hb) is_zero
      have o3 : FloatKind.f64.format.order 0 0 = some .eq := by decide
      clear ha hb
      go_wp2_with fail
      refine (push_nil _ _ _).mono ?_
      rintro e w' ⟨rfl, rfl⟩
      go_wp2_with fail
      refine (set_nil _ _ _ _).mono ?_
      rintro e w' ⟨rfl, rfl⟩
      go_wp2_with fail
      refine (len_nil _).mono ?_
      rintro e w' ⟨rfl, rfl⟩
      go_wp2_with fail
      refine (sum_nil _).mono ?_
      rintro e w' ⟨rfl, rfl⟩
      go_wp2_with fail
      refine (ahead_nil _ _).mono ?_
      rintro e w' ⟨rfl, rfl⟩
      go_wp2_with fail
      refine (over_nil _ _).mono ?_
      rintro e w' ⟨rfl, rfl⟩
      go_wp2_with fail
      go_ret
      exact ⟨rfl, HM.out.low⟩
end Go.Proofs.Ytdkngocinimjdaa
