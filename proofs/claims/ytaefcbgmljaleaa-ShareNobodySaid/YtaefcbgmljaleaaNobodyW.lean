/- THE WALK of ShareNobody. -/
import Derived.Test.YtaefcbgmljaleaaAwk10
import Derived.Deep.CutBlock
import Derived.Deep.CutRange
namespace Go.Proofs.Ytaefcbgmljaleaa
open Go.RowKit

theorem msOf_none {parts : Int} : Sh.msOf parts [] = [] := by
  unfold Sh.msOf
  split <;> rfl
theorem owner_some {parts q : Int} {L : List ByteArray} {x : ByteArray} (h : Sh.ownerOf (Sh.msOf parts L) q = some x) : Sh.goodB L = true ∧ 1 ≤ q ∧ q < parts := by
  unfold Sh.ownerOf at h
  split at h
  · rename_i h1
    have hlt := (List.getElem?_eq_some_iff.1 h).1
    unfold Sh.msOf at hlt
    split at hlt
    · rename_i hg
      have h4 := Sh.good_len hg.1
      rw [Sh.msTo_len] at hlt
      refine ⟨hg.1, h1, ?_⟩
      by_cases hm : 0 < L.length
      · rw [Sh.cnt_all _ (by omega) _ (by omega) hm] at hlt
        omega
      · rw [show L.length = 0 by omega] at hlt
        exact absurd hlt (Nat.not_lt_zero _)
    · exact absurd hlt (Nat.not_lt_zero _)
  · cases h
theorem not_mem_of {L : List ByteArray} {m : Nat} {s : ByteArray} (hm : L.length = m) (h : ∀ (j : Nat) (x : ByteArray), j < m → L[j]? = some x → x ≠ s) (parts : Int) : Sh.pOf 0 (Sh.msOf parts L) s = [] := by
  refine Sh.pOf_none _ _ _ fun x hx e => ?_
  obtain ⟨j, hj, e2⟩ := List.getElem_of_mem (Sh.msOf_mem hx)
  exact h j x (by omega) (by rw [List.getElem?_eq_getElem hj, e2]) e
set_option maxRecDepth 100000 in
set_option maxHeartbeats 8000000 in
theorem nobody_walk {A : Nat → Prop} (parts : Int) (v : Value) (L : List ByteArray) (q : Int) (s : ByteArray) (w0 : World) (h : Nms A w0 v L) :
    Calls Try.prog 4 #[.int .i64 parts, v, .agg #[.int .i64 q, .string s]] w0 fun e w' => e = .returned (.bool true) ∧ Below w0.heap.size w0 w' := by
  obtain ⟨w, hw⟩ : ∃ w, w0.alloc (.cells #[.int .i64 q, .string s] 31) = w := ⟨_, rfl⟩
  obtain ⟨z, hz⟩ : ∃ z, w0.heap.size = z := ⟨_, rfl⟩
  have HW : Hid (Below z w0 w) := Lib.hid (by rw [← hw, ← hz]; exact (Below.refl _ _).alloc (Nat.le_refl _) _)
  have HK : Hid (Blk w z #[.int .i64 q, .string s] 31) := Lib.hid (by rw [← hw, ← hz]; exact Blk.new _ _ _)
  have HZW : Hid (z ≤ w.heap.size) := Lib.hid (by rw [← hz]; have := HW.out.size; exact this)
  have h : Nms A w v L := h.below (by rw [hz]; exact HW.out)
  have HAW := Lib.hid (awake_any w)
  have HGR := Lib.hid (fun wx (hb : Below w.heap.size w wx) => great_any v L wx (h.below hb))
  have HGD := Lib.hid (fun wx (hb : Below w.heap.size w wx) => good_any v L wx (h.below hb))
  have HOW := Lib.hid (fun wx (hb : Below w.heap.size w wx) => owner_any parts v L q wx (h.below hb))
  have HPA := Lib.hid (fun wx (hb : Below w.heap.size w wx) => parts_any parts v L s wx (h.below hb))
  have HAS := Lib.hid (fun wx => assign_any parts (.slice none 0 0) [] wx (Nms.nil (fun _ => True) wx))
  rw [msOf_none] at HAS
  have HCL : Hid (∀ wx, Below w.heap.size w wx → wx.cell? ⟨z, 0, none⟩ = some (.int .i64 q) ∧ wx.cell? ⟨z, 1, none⟩ = some (.string s)) := Lib.hid fun wx hb => ⟨(HK.out.below hb).cell rfl, (HK.out.below hb).cell rfl⟩
  have HFIN : Hid (∀ wx, Below w.heap.size w wx → Below z w0 wx) := Lib.hid fun wx hb => HW.out.trans (hb.mono HZW.out)
  obtain ⟨a, cap, rfl⟩ := h.form
  obtain ⟨m, hm⟩ : ∃ m, L.length = m := ⟨_, rfl⟩
  have HV := Lib.hid h
  have HM := Lib.hid hm
  rw [hm] at HGR HGD HOW HPA ⊢
  clear h hm
  go_enter Try.func4, Try.ntmps4
  go_wp2_with fail
  have HZZ := Lib.hid hz
  clear hw hz
  refine HAW.out.mono ?_
  rintro e w1 ⟨rfl, hb1⟩
  have HB1 := Lib.hid hb1
  clear hb1
  go_wp2_with fail
  refine (HGR.out _ HB1.out).mono ?_
  rintro e _ ⟨g, rfl, rfl, hg50⟩
  cases g with
  | true =>
    clear hg50
    go_wp2_with fail
    go_ret
    exact ⟨rfl, by rw [HZZ.out]; exact HFIN.out _ HB1.out⟩
  | false =>
    have hm50 : m ≤ 50 := hg50 rfl
    clear hg50
    go_wp2_with fail
    go_loopw [7, 8] (fun bv iv wr => ∃ (i n : Nat) (is : Bool), i ≤ m ∧ bv = .bool is ∧ iv = .int .i64 i ∧ wr = w1.drewN n ∧ (is = false → ∀ (j : Nat) (x : ByteArray), j < i → L[j]? = some x → x ≠ s)) (fun _ iv _ => m - (intOf iv).toNat)
    case atStart => exact ⟨0, 0, false, Nat.zero_le _, rfl, rfl, rfl, fun _ j x hj => by omega⟩
    case round =>
      obtain ⟨i, n, is, hi, rfl, rfl, rfl, hno⟩ := hrel
      have HNO := Lib.hid hno
      clear hno
      by_cases hlt : i < m
      · obtain ⟨x, hx⟩ : ∃ x, L[i]? = some x := ⟨_, List.getElem?_eq_getElem (by rw [HM.out]; exact hlt)⟩
        obtain ⟨b, p, cap', e, -, hbl, c0⟩ := (HV.out.below HB1.out).at hx
        obtain rfl : a = some ⟨b, p, none⟩ := by injection e
        obtain ⟨-, c1⟩ := HCL.out _ HB1.out
        have HX := Lib.hid hx
        have i0 : (0 : Int) ≤ (i : Int) := by omega
        have i1 : (i : Int) < (m : Int) := by omega
        clear e hx
        cases is with
        | true =>
          go_wp2_with fail
          go_quiet (fail)
          go_wp2_with fail
          go_roundw
          case rel => exact ⟨i + 1, _, true, by omega, rfl, by go_num, rfl, fun h => by cases h⟩
          case measure => simp [intOf]; omega
        | false =>
          cases hd : (x.toList == s.toList) with
          | true =>
            go_wp2_with fail
            go_quiet (fail)
            go_wp2_with fail
            go_roundw
            case rel => exact ⟨i + 1, _, true, by omega, rfl, by go_num, rfl, fun h => by cases h⟩
            case measure => simp [intOf]; omega
          | false =>
            have HNX : Hid (∀ (j : Nat) (y : ByteArray), j < i + 1 → L[j]? = some y → y ≠ s) := Lib.hid fun j y hj hy e => by
              by_cases hji : j = i
              · subst hji
                rw [HX.out] at hy
                obtain rfl := Option.some.inj hy
                rw [e] at hd
                simp at hd
              · exact HNO.out rfl j y (by omega) hy e
            go_wp2_with fail
            go_quiet (fail)
            go_wp2_with fail
            go_roundw
            case rel => exact ⟨i + 1, _, false, by omega, rfl, by go_num, rfl, fun _ => HNX.out⟩
            case measure => simp [intOf]; omega
      · have him : i = m := by omega
        have HBD := Lib.hid (HB1.out.trans (below_drewN (B := w.heap.size) w1 n))
        obtain ⟨wd, hwd⟩ : ∃ wd, w1.drewN n = wd := ⟨_, rfl⟩
        rw [hwd] at HBD ⊢
        clear hwd
        have HNI : Hid (is = false → Sh.pOf 0 (Sh.msOf parts L) s = []) := Lib.hid fun h => not_mem_of HM.out (fun j x hj => HNO.out h j x (by omega)) parts
        obtain ⟨c0, c1⟩ := HCL.out _ HBD.out
        clear him
        go_upto_region 10 with fail
        go_cut [41] (fun t wx => t = .bool false ∧ Below w.heap.size w wx)
        case first =>
          cases is with
          | true =>
            go_wp2_with fail
            go_meet
            case rel => exact ⟨rfl, HBD.out⟩
          | false =>
            have HPC := HPA.out _ HBD.out
            rw [HNI.out rfl] at HPC
            have HPD := Lib.hid HPC
            clear HPC
            go_wp2_with fail
            refine HPD.out.mono ?_
            rintro e w3 ⟨hb3, v3, g3, rfl, hz3⟩
            obtain ⟨a3, c3, rfl⟩ := hz3.form
            have HB3 := Lib.hid (HBD.out.trans (hb3.mono HBD.out.size))
            have hz0 : ((((([] : List Int).length : Nat)) : Int) != 0) = false := rfl
            clear hb3 hz3
            go_wp2_with fail
            go_meet
            case rel => exact ⟨rfl, HB3.out⟩
        case rest =>
          obtain ⟨rfl, hb4⟩ := hcut
          have HB4 := Lib.hid hb4
          obtain ⟨c0, c1⟩ := HCL.out _ hb4
          have HOC := Lib.hid (HOW.out _ hb4)
          clear hb4
          go_wp2_with fail
          refine HOC.out.mono ?_
          rintro e w5 ⟨hb5, rfl⟩
          have HB5 := Lib.hid (HB4.out.trans (hb5.mono HB4.out.size))
          obtain ⟨c0, c1⟩ := HCL.out _ HB5.out
          have HGC := HGD.out _ HB5.out
          clear hb5
          cases ho : Sh.ownerOf (Sh.msOf parts L) q with
          | none =>
            have hre : (Value.tuple #[.string ((none : Option ByteArray).getD ⟨#[]⟩), .bool (none : Option ByteArray).isSome]) = .tuple #[.string ⟨#[]⟩, .bool false] := rfl
            rw [hre]
            clear hre ho HGC
            go_wp2_with fail
            refine (HAS.out _).mono ?_
            rintro e w6 ⟨hb6, v6, g6, rfl, hz6⟩
            obtain ⟨a6, c6, rfl⟩ := hz6.form
            have HB6 := Lib.hid (HB5.out.trans (hb6.mono HB5.out.size))
            clear hb6 hz6
            go_wp2_with fail
            go_ret
            exact ⟨rfl, by rw [HZZ.out]; exact HFIN.out _ HB6.out⟩
          | some x =>
            have hre : (Value.tuple #[.string ((some x).getD ⟨#[]⟩), .bool (some x).isSome]) = .tuple #[.string x, .bool true] := rfl
            rw [hre]
            obtain ⟨hg, q1, q2⟩ := owner_some ho
            rw [hg] at HGC
            have HGE := Lib.hid HGC
            clear hre ho HGC hg
            go_wp2_with fail
            refine HGE.out.mono ?_
            rintro e w7 ⟨rfl, hb7⟩
            have HB7 := Lib.hid (HB5.out.trans (hb7.mono HB5.out.size))
            clear hb7
            go_wp2_with fail
            refine (HAS.out _).mono ?_
            rintro e w6 ⟨hb6, v6, g6, rfl, hz6⟩
            obtain ⟨a6, c6, rfl⟩ := hz6.form
            have HB6 := Lib.hid (HB7.out.trans (hb6.mono HB7.out.size))
            clear hb6 hz6
            go_wp2_with fail
            go_ret
            exact ⟨rfl, by rw [HZZ.out]; exact HFIN.out _ HB6.out⟩
end Go.Proofs.Ytaefcbgmljaleaa
