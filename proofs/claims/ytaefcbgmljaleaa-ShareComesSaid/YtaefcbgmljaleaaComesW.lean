/- THE WALK of ShareComes. -/
import Derived.Test.YtaefcbgmljaleaaAwk10
import Derived.Deep.RegionHeld3
import Derived.Deep.CutBlock
import Derived.Deep.CutRange
namespace Go.Proofs.Ytaefcbgmljaleaa
open Go.RowKit

theorem infoStr : Info Try.prog 9 1 16 (.string ByteArray.empty) := Info.of (by kernel_rfl) rfl
/-- The first i names with y among them, once it is done. -/
def InsTo (L : List ByteArray) (y : ByteArray) (i : Nat) (M : List ByteArray) (d : Bool) : Prop := (d = false ∧ M = L.take i) ∨ (d = true ∧ ∃ k, k ≤ i ∧ M = L.take k ++ y :: (L.take i).drop k)
theorem InsTo.next {L M : List ByteArray} {y x : ByteArray} {i : Nat} {d : Bool} (h : InsTo L y i M d) (hx : L[i]? = some x) : InsTo L y (i + 1) (M ++ [x]) d := by
  have e : L.take (i + 1) = L.take i ++ [x] := by rw [List.take_add_one, hx]; rfl
  have hi : i < L.length := (List.getElem?_eq_some_iff.1 hx).1
  rcases h with ⟨h1, rfl⟩ | ⟨h1, k, hk, rfl⟩
  · exact .inl ⟨h1, e.symm⟩
  · refine .inr ⟨h1, k, by omega, ?_⟩
    rw [e, List.drop_append_of_le_length (by rw [List.length_take]; omega), List.append_assoc]
    rfl
theorem InsTo.put {L M : List ByteArray} {y : ByteArray} {i : Nat} (h : InsTo L y i M false) : InsTo L y i (M ++ [y]) true := by
  rcases h with ⟨-, rfl⟩ | ⟨h1, -⟩
  · refine .inr ⟨rfl, i, Nat.le_refl _, ?_⟩
    rw [List.drop_of_length_le (by rw [List.length_take]; omega)]
  · cases h1
theorem InsTo.len {L M : List ByteArray} {y : ByteArray} {i : Nat} {d : Bool} (h : InsTo L y i M d) (hi : i ≤ L.length) : M.length ≤ i + 1 := by
  rcases h with ⟨-, rfl⟩ | ⟨-, k, hk, rfl⟩
  · rw [List.length_take]; omega
  · simp; omega
theorem ins_at {L M : List ByteArray} {y : ByteArray} (h : InsTo L y L.length M true) {i : Nat} {x : ByteArray} (hx : L[i]? = some x) : M.length = L.length + 1 ∧ ∃ j, (j = i ∨ j = i + 1) ∧ M[j]? = some x := by
  have hi : i < L.length := (List.getElem?_eq_some_iff.1 hx).1
  rcases h with ⟨h1, -⟩ | ⟨-, k, hk, rfl⟩
  · cases h1
  · refine ⟨by simp; omega, ?_⟩
    rw [List.take_of_length_le (Nat.le_refl L.length)]
    by_cases hik : i < k
    · refine ⟨i, .inl rfl, ?_⟩
      rw [List.getElem?_append_left (by rw [List.length_take]; omega), List.getElem?_take_of_lt hik, hx]
    · refine ⟨i + 1, .inr rfl, ?_⟩
      rw [List.getElem?_append_right (by rw [List.length_take]; omega), List.length_take, Nat.min_eq_left hk, show i + 1 - k = (i - k) + 1 by omega, List.getElem?_cons_succ, List.getElem?_drop, show k + (i - k) = i by omega, hx]
theorem comes_le {L M : List ByteArray} {y : ByteArray} (h : InsTo L y L.length M true) (hg : Sh.goodB L = true) (hm : Sh.goodB M = true) (parts : Int) {i : Nat} {x : ByteArray} (hx : L[i]? = some x) :
    (Sh.pOf 0 (Sh.msOf parts M) x).length ≤ (Sh.pOf 0 (Sh.msOf parts L) x).length := by
  obtain ⟨hl, j, hj, hjx⟩ := ins_at h hx
  have hi : i < L.length := (List.getElem?_eq_some_iff.1 hx).1
  have hj2 : j < M.length := (List.getElem?_eq_some_iff.1 hjx).1
  have hM4 := Sh.good_len hm
  by_cases hp : 0 ≤ parts ∧ parts ≤ 4
  · have e1 := Sh.parts_of hg hp.1 hp.2 hi
    have e2 := Sh.parts_of hm hp.1 hp.2 hj2
    rw [getD_of hx] at e1
    rw [getD_of hjx] at e2
    rw [e1, e2, hl]
    simp only [Sh.fromN, List.length_map, List.length_range]
    have := Sh.shar_more (parts - 1).toNat (by omega) L.length (by omega) i (by omega) hi
    rcases hj with rfl | rfl
    · exact this.1
    · exact this.2
  · have e : Sh.msOf parts M = [] := by unfold Sh.msOf; rw [if_neg (fun h => hp h.2)]
    rw [e]
    exact Nat.zero_le _
def LenOut (w : World) (n : Nat) (e : Ending) (w' : World) : Prop := Below w.heap.size w.drew w' ∧ ∃ a c, e = .returned (.slice a n c)
set_option maxRecDepth 100000 in
set_option maxHeartbeats 8000000 in
theorem comes_walk {A : Nat → Prop} (parts : Int) (v : Value) (L : List ByteArray) (y : ByteArray) (w : World) (h : Nms A w v L) :
    Calls Try.prog 5 #[.int .i64 parts, v, .string y] w fun e w' => e = .returned (.bool true) ∧ Below w.heap.size w w' := by
  have HAW := Lib.hid (awake_any w)
  have HGR := Lib.hid (fun wx (hb : Below w.heap.size w wx) => great_any v L wx (h.below hb))
  have HGD := Lib.hid (fun wx (hb : Below w.heap.size w wx) => good_any v L wx (h.below hb))
  have HPA := Lib.hid (fun x wx (hb : Below w.heap.size w wx) => parts_any parts v L x wx (h.below hb))
  obtain ⟨a, cap, rfl⟩ := h.form
  obtain ⟨m, hm⟩ : ∃ m, L.length = m := ⟨_, rfl⟩
  have HV := Lib.hid h
  have HM := Lib.hid hm
  rw [hm] at HGR HGD HPA ⊢
  clear h hm
  go_enter Try.func5, Try.ntmps5
  go_wp2_with fail
  refine HAW.out.mono ?_
  rintro e w1 ⟨rfl, hb1⟩
  have HB1 := Lib.hid hb1
  clear hb1
  go_wp2_with fail
  refine (HGR.out _ HB1.out).mono ?_
  rintro e _ ⟨g, rfl, rfl, hg50⟩
  clear hg50
  obtain ⟨yl, hyl⟩ : ∃ yl, y.size = yl := ⟨_, rfl⟩
  cases g with
  | true =>
    go_wp2_with fail
    go_ret
    exact ⟨rfl, HB1.out⟩
  | false =>
    by_cases hy1 : 1000 < yl
    · have hd : decide ((1000 : Int) < (yl : Int)) = true := by simp; omega
      go_wp2_with fail
      go_ret
      exact ⟨rfl, HB1.out⟩
    have hd : decide ((1000 : Int) < (yl : Int)) = false := by simp; omega
    go_wp2_with fail
    refine (HGD.out _ HB1.out).mono ?_
    rintro e w2 ⟨rfl, hb2⟩
    have HB2 := Lib.hid (HB1.out.trans (hb2.mono HB1.out.size))
    clear hb2 hd hyl
    by_cases hg : Sh.goodB L = true
    · have hm4 : m ≤ 4 := by have := Sh.good_len hg; rw [HM.out] at this; omega
      obtain ⟨W3, hW3⟩ : ∃ W3, w2.alloc (.cells #[] 9) = W3 := ⟨_, rfl⟩
      have HB3 : Hid (Below w.heap.size w W3) := Lib.hid (by rw [← hW3]; exact HB2.out.alloc HB2.out.size _)
      have HZ3 : Hid (Wz w.heap.size W3 (.slice (some ⟨w2.heap.size, 0, none⟩) 0 0) (some w2.heap.size) 9 1 0 []) := Lib.hid (by rw [← hW3]; exact Wz.empty _ _ _ HB2.out.size)
      go_wp2_with fail
      clear hW3
      go_loopw [7, 8, 9] (fun ov dv iv wr => ∃ (i : Nat) (d : Bool) (gb : Option Nat) (M : List ByteArray), i ≤ m ∧ dv = .bool d ∧ iv = .int .i64 i ∧ Below w.heap.size w wr ∧ Wz w.heap.size wr ov gb 9 1 M.length (M.map Value.string) ∧ InsTo L y i M d) (fun _ _ iv _ => m - (intOf iv).toNat)
      case atStart => exact ⟨0, false, _, [], Nat.zero_le _, rfl, rfl, HB3.out, HZ3.out, .inl ⟨rfl, rfl⟩⟩
      case round =>
        obtain ⟨i, d, gb, M, hi, rfl, rfl, hb, hz, hin⟩ := hrel
        have HB := Lib.hid hb
        have HIN := Lib.hid hin
        have HMQ : Hid (M.length ≤ 6) := Lib.hid (by have := hin.len (by rw [HM.out]; exact hi); omega)
        by_cases hlt : i < m
        · obtain ⟨x, hx⟩ : ∃ x, L[i]? = some x := ⟨_, List.getElem?_eq_getElem (by rw [HM.out]; exact hlt)⟩
          obtain ⟨b, p, cap', e, -, hbl, c0⟩ := (HV.out.below HB.out).at hx
          obtain rfl : a = some ⟨b, p, none⟩ := by injection e
          have HX := Lib.hid hx
          have HZ := Lib.hid hz
          have i0 : (0 : Int) ≤ (i : Int) := by omega
          have i1 : (i : Int) < (m : Int) := by omega
          clear e hx hb hz hin
          cases d with
          | true =>
            obtain ⟨W5, hW5⟩ : ∃ W5, wr.alloc (.cells #[.string x] 9) = W5 := ⟨_, rfl⟩
            obtain ⟨ao5, co5, rfl⟩ := HZ.out.form
            obtain ⟨N5, hN5⟩ : ∃ N5, (M).length = N5 := ⟨_, rfl⟩
            have hz5 := HZ.out
            rw [hN5] at hz5
            have HZ5 : Hid (Wz w.heap.size W5 (.slice ao5 N5 co5) gb 9 1 N5 ((M).map Value.string)) := Lib.hid (by rw [← hW5]; exact hz5.below ((Below.refl _ _).alloc (Nat.le_refl _) _))
            have HNW5 : Hid (∀ j u, ([.string x] : List Value)[j]? = some u → W5.cell? ((⟨wr.heap.size, 0, none⟩ : Addr).add j) = some u) := Lib.hid (by rw [← hW5]; exact built_cells wr _ _)
            have HBW5 : Hid (Below w.heap.size w W5) := Lib.hid (by rw [← hW5]; exact HB.out.alloc HB.out.size _)
            have HNN5 : Hid (N5 ≤ 1048576) := Lib.hid (by have := HMQ.out; omega)
            have HNE5 : Hid (N5 + 1 = (M ++ [x]).length) := Lib.hid (by rw [← hN5]; simp)
            rw [hN5]
            clear hz5 hN5
            go_wp2_with (at_builtin; refine wp_add infoStr Try.underlying22 (by rfl) _ _ (by rfl) (by rfl) HZ5.out ⟨wr.heap.size, 0, none⟩ 1 [.string x] (by rfl) rfl HNW5.out (by simp [Value.oneCell']) HNN5.out (by decide) HBW5.out.size ?_)
            intro v5 g5 w5 hz5 hg5 _
            have HY5 : Hid (Wz w.heap.size w5 v5 g5 9 1 (M ++ [x]).length ((M ++ [x]).map Value.string)) := Lib.hid (by rw [← HNE5.out]; simpa using hz5)
            have HBA5 := Lib.hid (Below.appended HBW5.out hg5 HZ5.out.2 HBW5.out.size)
            clear hz5 hg5

            go_wp2_with fail
            go_roundw
            case rel => exact ⟨i + 1, true, g5, M ++ [x], by omega, rfl, by go_num, HBA5.out, HY5.out, HIN.out.next HX.out⟩
            case measure => simp [intOf]; omega
          | false =>
            cases hd : Op.bytesLess y.toList x.toList with
            | true =>
              obtain ⟨W5, hW5⟩ : ∃ W5, wr.alloc (.cells #[.string y] 9) = W5 := ⟨_, rfl⟩
              obtain ⟨ao5, co5, rfl⟩ := HZ.out.form
              obtain ⟨N5, hN5⟩ : ∃ N5, (M).length = N5 := ⟨_, rfl⟩
              have hz5 := HZ.out
              rw [hN5] at hz5
              have HZ5 : Hid (Wz w.heap.size W5 (.slice ao5 N5 co5) gb 9 1 N5 ((M).map Value.string)) := Lib.hid (by rw [← hW5]; exact hz5.below ((Below.refl _ _).alloc (Nat.le_refl _) _))
              have HNW5 : Hid (∀ j u, ([.string y] : List Value)[j]? = some u → W5.cell? ((⟨wr.heap.size, 0, none⟩ : Addr).add j) = some u) := Lib.hid (by rw [← hW5]; exact built_cells wr _ _)
              have HBW5 : Hid (Below w.heap.size w W5) := Lib.hid (by rw [← hW5]; exact HB.out.alloc HB.out.size _)
              have HNN5 : Hid (N5 ≤ 1048576) := Lib.hid (by have := HMQ.out; omega)
              have HNE5 : Hid (N5 + 1 = (M ++ [y]).length) := Lib.hid (by rw [← hN5]; simp)
              rw [hN5]
              clear hz5 hN5
              go_wp2_with (at_builtin; refine wp_add infoStr Try.underlying22 (by rfl) _ _ (by rfl) (by rfl) HZ5.out ⟨wr.heap.size, 0, none⟩ 1 [.string y] (by rfl) rfl HNW5.out (by simp [Value.oneCell']) HNN5.out (by decide) HBW5.out.size ?_)
              intro v5 g5 w5 hz5 hg5 _
              have HY5 : Hid (Wz w.heap.size w5 v5 g5 9 1 (M ++ [y]).length ((M ++ [y]).map Value.string)) := Lib.hid (by rw [← HNE5.out]; simpa using hz5)
              have HBA5 := Lib.hid (Below.appended HBW5.out hg5 HZ5.out.2 HBW5.out.size)
              clear hz5 hg5
              have HMR : Hid ((M ++ [y]).length ≤ 7) := Lib.hid (by have := HMQ.out; rw [List.length_append]; show _ + 1 ≤ 7; omega)
              have c0 : w5.cell? ⟨b, p + i, none⟩ = some (.string x) := by
                obtain ⟨b', p', cap2, e, -, -, c2⟩ := (HV.out.below HBA5.out).at HX.out
                obtain ⟨rfl, rfl⟩ : b = b' ∧ p = p' := by injection e with e _ _; injection e with e; injection e with e1 e2; exact ⟨e1, e2⟩
                exact c2
              obtain ⟨W6, hW6⟩ : ∃ W6, w5.alloc (.cells #[.string x] 9) = W6 := ⟨_, rfl⟩
              obtain ⟨ao6, co6, rfl⟩ := HY5.out.form
              obtain ⟨N6, hN6⟩ : ∃ N6, (M ++ [y]).length = N6 := ⟨_, rfl⟩
              have hz6 := HY5.out
              rw [hN6] at hz6
              have HZ6 : Hid (Wz w.heap.size W6 (.slice ao6 N6 co6) g5 9 1 N6 ((M ++ [y]).map Value.string)) := Lib.hid (by rw [← hW6]; exact hz6.below ((Below.refl _ _).alloc (Nat.le_refl _) _))
              have HNW6 : Hid (∀ j u, ([.string x] : List Value)[j]? = some u → W6.cell? ((⟨w5.heap.size, 0, none⟩ : Addr).add j) = some u) := Lib.hid (by rw [← hW6]; exact built_cells w5 _ _)
              have HBW6 : Hid (Below w.heap.size w W6) := Lib.hid (by rw [← hW6]; exact HBA5.out.alloc HBA5.out.size _)
              have HNN6 : Hid (N6 ≤ 1048576) := Lib.hid (by have := HMR.out; omega)
              have HNE6 : Hid (N6 + 1 = (M ++ [y] ++ [x]).length) := Lib.hid (by rw [← hN6]; simp)
              rw [hN6]
              clear hz6 hN6
              go_wp2_with (at_builtin; refine wp_add infoStr Try.underlying22 (by rfl) _ _ (by rfl) (by rfl) HZ6.out ⟨w5.heap.size, 0, none⟩ 1 [.string x] (by rfl) rfl HNW6.out (by simp [Value.oneCell']) HNN6.out (by decide) HBW6.out.size ?_)
              intro v6 g6 w6 hz6 hg6 _
              have HY6 : Hid (Wz w.heap.size w6 v6 g6 9 1 (M ++ [y] ++ [x]).length ((M ++ [y] ++ [x]).map Value.string)) := Lib.hid (by rw [← HNE6.out]; simpa using hz6)
              have HBA6 := Lib.hid (Below.appended HBW6.out hg6 HZ6.out.2 HBW6.out.size)
              clear hz6 hg6

              go_wp2_with fail
              go_roundw
              case rel => exact ⟨i + 1, true, g6, M ++ [y] ++ [x], by omega, rfl, by go_num, HBA6.out, HY6.out, HIN.out.put.next HX.out⟩
              case measure => simp [intOf]; omega
            | false =>
              obtain ⟨W5, hW5⟩ : ∃ W5, wr.alloc (.cells #[.string x] 9) = W5 := ⟨_, rfl⟩
              obtain ⟨ao5, co5, rfl⟩ := HZ.out.form
              obtain ⟨N5, hN5⟩ : ∃ N5, (M).length = N5 := ⟨_, rfl⟩
              have hz5 := HZ.out
              rw [hN5] at hz5
              have HZ5 : Hid (Wz w.heap.size W5 (.slice ao5 N5 co5) gb 9 1 N5 ((M).map Value.string)) := Lib.hid (by rw [← hW5]; exact hz5.below ((Below.refl _ _).alloc (Nat.le_refl _) _))
              have HNW5 : Hid (∀ j u, ([.string x] : List Value)[j]? = some u → W5.cell? ((⟨wr.heap.size, 0, none⟩ : Addr).add j) = some u) := Lib.hid (by rw [← hW5]; exact built_cells wr _ _)
              have HBW5 : Hid (Below w.heap.size w W5) := Lib.hid (by rw [← hW5]; exact HB.out.alloc HB.out.size _)
              have HNN5 : Hid (N5 ≤ 1048576) := Lib.hid (by have := HMQ.out; omega)
              have HNE5 : Hid (N5 + 1 = (M ++ [x]).length) := Lib.hid (by rw [← hN5]; simp)
              rw [hN5]
              clear hz5 hN5
              go_wp2_with (at_builtin; refine wp_add infoStr Try.underlying22 (by rfl) _ _ (by rfl) (by rfl) HZ5.out ⟨wr.heap.size, 0, none⟩ 1 [.string x] (by rfl) rfl HNW5.out (by simp [Value.oneCell']) HNN5.out (by decide) HBW5.out.size ?_)
              intro v5 g5 w5 hz5 hg5 _
              have HY5 : Hid (Wz w.heap.size w5 v5 g5 9 1 (M ++ [x]).length ((M ++ [x]).map Value.string)) := Lib.hid (by rw [← HNE5.out]; simpa using hz5)
              have HBA5 := Lib.hid (Below.appended HBW5.out hg5 HZ5.out.2 HBW5.out.size)
              clear hz5 hg5

              go_wp2_with fail
              go_roundw
              case rel => exact ⟨i + 1, false, g5, M ++ [x], by omega, rfl, by go_num, HBA5.out, HY5.out, HIN.out.next HX.out⟩
              case measure => simp [intOf]; omega
        · have him : i = m := by omega
          have HIN2 : Hid (InsTo L y L.length M d) := Lib.hid (by rw [HM.out, ← him]; exact HIN.out)
          have HZ := Lib.hid hz
          clear hz hin hb him
          go_upto_if 54 with fail
          go_cut [7] (fun ov wx => ∃ gb M, Below w.heap.size w wx ∧ Wz w.heap.size wx ov gb 9 1 M.length (M.map Value.string) ∧ InsTo L y L.length M true)
          case first =>
            cases d with
            | true =>
              go_wp2_with fail
              go_meet
              case rel => exact ⟨gb, M, HB.out, HZ.out, HIN2.out⟩
            | false =>
              obtain ⟨W5, hW5⟩ : ∃ W5, wr.alloc (.cells #[.string y] 9) = W5 := ⟨_, rfl⟩
              obtain ⟨ao5, co5, rfl⟩ := HZ.out.form
              obtain ⟨N5, hN5⟩ : ∃ N5, (M).length = N5 := ⟨_, rfl⟩
              have hz5 := HZ.out
              rw [hN5] at hz5
              have HZ5 : Hid (Wz w.heap.size W5 (.slice ao5 N5 co5) gb 9 1 N5 ((M).map Value.string)) := Lib.hid (by rw [← hW5]; exact hz5.below ((Below.refl _ _).alloc (Nat.le_refl _) _))
              have HNW5 : Hid (∀ j u, ([.string y] : List Value)[j]? = some u → W5.cell? ((⟨wr.heap.size, 0, none⟩ : Addr).add j) = some u) := Lib.hid (by rw [← hW5]; exact built_cells wr _ _)
              have HBW5 : Hid (Below w.heap.size w W5) := Lib.hid (by rw [← hW5]; exact HB.out.alloc HB.out.size _)
              have HNN5 : Hid (N5 ≤ 1048576) := Lib.hid (by have := HMQ.out; omega)
              have HNE5 : Hid (N5 + 1 = (M ++ [y]).length) := Lib.hid (by rw [← hN5]; simp)
              rw [hN5]
              clear hz5 hN5
              go_wp2_with (at_builtin; refine wp_add infoStr Try.underlying22 (by rfl) _ _ (by rfl) (by rfl) HZ5.out ⟨wr.heap.size, 0, none⟩ 1 [.string y] (by rfl) rfl HNW5.out (by simp [Value.oneCell']) HNN5.out (by decide) HBW5.out.size ?_)
              intro v5 g5 w5 hz5 hg5 _
              have HY5 : Hid (Wz w.heap.size w5 v5 g5 9 1 (M ++ [y]).length ((M ++ [y]).map Value.string)) := Lib.hid (by rw [← HNE5.out]; simpa using hz5)
              have HBA5 := Lib.hid (Below.appended HBW5.out hg5 HZ5.out.2 HBW5.out.size)
              clear hz5 hg5

              go_wp2_with fail
              go_meet
              case rel => exact ⟨g5, M ++ [y], HBA5.out, HY5.out, HIN2.out.put⟩
          case rest =>
            obtain ⟨gm, M', hb, hz, hin⟩ := hcut
            have HB9 := Lib.hid hb
            have HI9 := Lib.hid hin
            have HN9 : Hid (Nms (fun b => w.heap.size ≤ b) wc u7 M') := Lib.hid hz.rd
            obtain ⟨am, cm, rfl⟩ := hz.form
            have HMG := Lib.hid (good_any _ M' wc HN9.out)
            clear hb hz hin HB HZ HIN HIN2 HMQ
            go_wp2_with fail
            refine HMG.out.mono ?_
            rintro e w9 ⟨rfl, hb9⟩
            have HBX := Lib.hid (HB9.out.trans (hb9.mono HB9.out.size))
            have HN10 : Hid (Nms (fun b => w.heap.size ≤ b) w9 (.slice am M'.length cm) M') := Lib.hid (HN9.out.below hb9)
            clear hb9 HMG HN9
            by_cases hgm : Sh.goodB M' = true
            · have HPM := Lib.hid (fun x wx (hb : Below w9.heap.size w9 wx) => parts_any parts _ M' x wx (HN10.out.below hb))
              obtain ⟨ml, hml⟩ : ∃ ml, M'.length = ml := ⟨_, rfl⟩
              rw [hml] at HPM ⊢
              have HGMM := Lib.hid hgm
              have HGLL := Lib.hid hg
              have HR9 := Lib.hid (Below.refl w9.heap.size w9)
              clear hml
              rw [hgm]
              clear hgm
              go_wp2_with fail
              go_loopw [10] (fun iv wr => ∃ i : Nat, i ≤ m ∧ iv = .int .i64 i ∧ Below w9.heap.size w9 wr) (fun iv _ => m - (intOf iv).toNat)
              case atStart => exact ⟨0, Nat.zero_le _, rfl, HR9.out⟩
              case round =>
                obtain ⟨i, hi, rfl, hb⟩ := hrel
                have HBI := Lib.hid (HBX.out.trans (hb.mono HBX.out.size))
                have HB9I := Lib.hid hb
                clear hb
                by_cases hlt : i < m
                · obtain ⟨x, hx⟩ : ∃ x, L[i]? = some x := ⟨_, List.getElem?_eq_getElem (by rw [HM.out]; exact hlt)⟩
                  obtain ⟨b, p, cap', e, -, hbl, c0⟩ := (HV.out.below HBI.out).at hx
                  obtain rfl : a = some ⟨b, p, none⟩ := by injection e
                  have hle := comes_le HI9.out HGLL.out HGMM.out parts hx
                  obtain ⟨n1, hn1⟩ : ∃ n1, (Sh.pOf 0 (Sh.msOf parts M') x).length = n1 := ⟨_, rfl⟩
                  obtain ⟨n2, hn2⟩ : ∃ n2, (Sh.pOf 0 (Sh.msOf parts L) x).length = n2 := ⟨_, rfl⟩
                  rw [hn1, hn2] at hle
                  have HC1 : Hid (∀ wx, Below wr.heap.size wr.drew wx → Calls Try.prog 9 #[.int .i64 parts, .slice am ml cm, .string x] wx fun e w' => LenOut wr n1 e w') := Lib.hid fun wx hx => (HPM.out x wx (HB9I.out.trans ((of_drew hx).mono HB9I.out.size))).mono fun e w' ⟨h1, v, g, h2, h3⟩ => by
                    obtain ⟨a, c, rfl⟩ := h3.form
                    exact ⟨drew_trans hx h1, a, c, by rw [h2, hn1]⟩
                  have HC2 : Hid (∀ wx, Below wr.heap.size wr.drew wx → Calls Try.prog 9 #[.int .i64 parts, .slice (some ⟨b, p, none⟩) m cap, .string x] wx fun e w' => LenOut wr n2 e w') := Lib.hid fun wx hx => (HPA.out x wx (HBI.out.trans ((of_drew hx).mono HBI.out.size))).mono fun e w' ⟨h1, v, g, h2, h3⟩ => by
                    obtain ⟨a, c, rfl⟩ := h3.form
                    exact ⟨drew_trans hx h1, a, c, by rw [h2, hn2]⟩
                  have i0 : (0 : Int) ≤ (i : Int) := by omega
                  have i1 : (i : Int) < (m : Int) := by omega
                  have HD0 := Lib.hid (drew_refl wr)
                  have hdl : decide ((n2 : Int) < (n1 : Int)) = false := by simp; omega
                  clear e hx hn1 hn2 hbl
                  go_upto_region 21 with fail
                  have hB := HD0.out
                  go_region_held3 (fun w' => w'.cell? ⟨b, p + i, none⟩ = some (.string x)) (first | go_keep | with_reducible exact dcell hB c0 | fail)
                    (first
                      | (go_at_call 9; ((with_reducible refine (HC1.out _ hB).mono ?_); rintro e w5 ⟨hB, a5, c5, rfl⟩))
                      | (go_at_call 9; ((with_reducible refine (HC2.out _ hB).mono ?_); rintro e w6 ⟨hB, a6, c6, rfl⟩))
                      | fail)
                  all_goals
                    have HF := Lib.hid (HB9I.out.trans ((of_drew hB).mono HB9I.out.size))
                    clear hB
                    go_wp2_with fail
                    go_roundw
                    case rel => exact ⟨i + 1, by omega, by go_num, HF.out⟩
                    case measure => simp [intOf]; omega
                · go_wp2_with fail
                  go_ret
                  exact ⟨rfl, HBI.out⟩
            · have hgm : Sh.goodB M' = false := by simpa using hgm
              rw [hgm]
              go_wp2_with fail
              go_ret
              exact ⟨rfl, HBX.out⟩
    · have hg : Sh.goodB L = false := by simpa using hg
      go_wp2_with fail
      go_ret
      exact ⟨rfl, HB2.out⟩
end Go.Proofs.Ytaefcbgmljaleaa
