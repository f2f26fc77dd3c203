/- THE CONTRACT OF the program's Next. -/
import Derived.Test.YtddlkagcdlgllaaRes
namespace Go.Proofs.Ytddlkagcdlgllaa
open Go.RowKit

/-- first, from whatever world above W. -/
theorem first_b {W : World} {B : Nat} (s : ByteArray) {a b c d : UInt8} {t : List UInt8} (h : s.data.toList = a :: b :: c :: d :: t) (w : World) (hW : B ≤ W.heap.size) (hb : Below B W w) :
    Calls Try.prog 22 #[.string s] w fun e w' => e = .returned (.agg #[.int .u8 (a.toNat : Int), .int .u8 (b.toNat : Int), .int .u8 (c.toNat : Int), .int .u8 (d.toNat : Int)]) ∧ Below B W w' := by
  obtain ⟨hs, e0, e1, e2, e3⟩ := bytes4 h
  have C := first_any s w hs
  rw [e0, e1, e2, e3] at C
  exact C.mono fun _ _ ⟨he, hb'⟩ => ⟨he, hb.trans (hb'.mono (Nat.le_trans hW hb.size))⟩
theorem number_b {W : World} {B : Nat} (a b c d : UInt8) (w : World) (hW : B ≤ W.heap.size) (hb : Below B W w) :
    Calls Try.prog 23 #[.agg #[.int .u8 (a.toNat : Int), .int .u8 (b.toNat : Int), .int .u8 (c.toNat : Int), .int .u8 (d.toNat : Int)]] w fun e w' => e = .returned (.int .u32 ((Pl.num a.toNat b.toNat c.toNat d.toNat : Nat) : Int)) ∧ Below B W w' := by
  rw [U_of _ (Pl.num_lt a b c d)]
  exact (number_any a b c d w).mono fun _ _ ⟨he, hb'⟩ => ⟨he, hb.trans (hb'.mono (Nat.le_trans hW hb.size))⟩

set_option maxHeartbeats 1000000 in
theorem next_out (s : ByteArray) (z : Int) (w : World) (hz : z < 0 ∨ (s.size : Int) < z) :
    Calls Try.prog 15 #[.string s, .int .i64 z] w fun e w' => e = .returned (.tuple #[.string ⟨#[]⟩, .int .i64 0, .int .i64 1]) ∧ w = w' := by
  by_cases h0 : z < 0
  · go_enter Try.func15, Try.ntmps15
    go_wp2
    go_ret3
    exact ⟨rfl, rfl⟩
  · have h1 : (s.size : Int) < z := by omega
    clear hz
    go_enter Try.func15, Try.ntmps15
    go_wp2
    go_ret3
    exact ⟨rfl, rfl⟩
set_option maxHeartbeats 1000000 in
theorem next_few (s : ByteArray) (a : Nat) (w : World) (ha : a ≤ s.size) (h8 : s.size - a < 8) (_hs : s.size ≤ 1048576) :
    Calls Try.prog 15 #[.string s, .int .i64 a] w fun e w' => e = .returned (.tuple #[.string ⟨#[]⟩, .int .i64 0, .int .i64 5]) ∧ w = w' := by
  go_enter Try.func15, Try.ntmps15
  go_wp2
  go_ret3
  exact ⟨rfl, rfl⟩

set_option maxHeartbeats 4000000 in
theorem next_many (s : ByteArray) (p : Nat) (w : World) (hp : p + 8 ≤ s.size) (hs : s.size ≤ 1048576) {a b c d e f g i : UInt8} {t : List UInt8} (hl : s.data.toList.drop p = a :: b :: c :: d :: e :: f :: g :: i :: t) :
    Calls Try.prog 15 #[.string s, .int .i64 p] w fun e w' => e = Res s p ∧ Below w.heap.size w w' := by
  have e1 : (s.extract p s.size).data.toList = a :: b :: c :: d :: e :: f :: g :: i :: t := by
    rw [Lib.extract_data, List.take_of_length_le (by rw [List.length_drop]; have := Lib.size_eq s; omega), hl]
  have e0 : (s.extract p s.size).size = s.size - p := by rw [ByteArray.size_extract]; omega
  obtain ⟨r, hr⟩ : ∃ r, s.extract p s.size = r := ⟨_, rfl⟩
  rw [hr] at e0 e1
  have hr8 : 8 ≤ r.size := by omega
  have hr9 : r.size ≤ 1048576 := by omega
  have e2 : (r.extract 4 r.size).data.toList = e :: f :: g :: i :: t := by
    rw [Lib.extract_data, e1, List.take_of_length_le (by
      have h1 := congrArg List.length e1
      have := Lib.size_eq r
      simp only [List.drop_succ_cons, List.drop_zero]
      simp at h1 ⊢
      omega)]
    rfl
  have F1 := fun w' (hb : Below w.heap.size w w') => first_b _ e1 w' (Nat.le_refl _) hb
  have F2 := fun w' (hb : Below w.heap.size w w') => first_b _ e2 w' (Nat.le_refl _) hb
  have N1 := fun w' (hb : Below w.heap.size w w') => number_b a b c d w' (Nat.le_refl _) hb
  have N2 := fun w' (hb : Below w.heap.size w w') => number_b e f g i w' (Nat.le_refl _) hb
  obtain ⟨n, hn⟩ : ∃ n, Pl.num a.toNat b.toNat c.toNat d.toNat = n := ⟨_, rfl⟩
  obtain ⟨m, hm⟩ : ∃ m, Pl.num e.toNat f.toNat g.toNat i.toNat = m := ⟨_, rfl⟩
  rw [hn] at N1
  rw [hm] at N2
  have HF1 := Lib.hid F1
  have HF2 := Lib.hid F2
  have HN1 := Lib.hid N1
  have HN2 := Lib.hid N2
  have HN := Lib.hid hn
  have HM := Lib.hid hm
  have H1 := Lib.hid hl
  have H2 := Lib.hid e1
  have H3 := Lib.hid e2
  have HE := Lib.hid e0
  have HT : Hid (t.length = r.size - 8) := by
    have h1 := congrArg List.length e1
    have := Lib.size_eq r
    simp at h1
    show t.length = _
    omega
  have hb0 : Below w.heap.size w w.drew := below_drewN w 1
  clear hl e1 e2 e0 F1 F2 N1 N2 hn hm
  go_enter Try.func15, Try.ntmps15
  go_wp2_with fail
  have HR := Lib.hid hr
  clear hr
  go_region_with (first | (go_at_call 22; ((with_reducible refine (HF1.out _ ?_).mono ?_); assumption; rintro e w' ⟨rfl, hb1⟩)) | (go_at_call 22; ((with_reducible refine (HF2.out _ ?_).mono ?_); assumption; rintro e w' ⟨rfl, hb1⟩)) | (go_at_call 23; ((with_reducible refine (HN1.out _ ?_).mono ?_); assumption; rintro e w' ⟨rfl, hb1⟩)) | (go_at_call 23; ((with_reducible refine (HN2.out _ ?_).mono ?_); assumption; rintro e w' ⟨rfl, hb1⟩)))
  all_goals
    by_cases h1 : 16384 < n
    · go_wp2_with fail
      go_ret3
      exact ⟨res_of (Pl.nx_long H1.out HN.out h1) (by omega) rfl, ‹Below _ _ _›⟩
    · by_cases h2 : r.size - 8 < n
      · go_wp2_with fail
        go_ret3
        exact ⟨res_of (Pl.nx_short H1.out HN.out h1 (by rw [HT.out]; exact h2)) (by omega) rfl, ‹Below _ _ _›⟩
      · obtain ⟨y, hy⟩ : ∃ y, (r.extract 8 r.size).extract 0 n = y := ⟨_, rfl⟩
        have hy1 := Lib.hid hy
        have hyl : Hid (y.data.toList = t.take n) := by
          have e : (r.extract 8 r.size).data.toList = t := by
            rw [Lib.extract_data, H2.out, List.take_of_length_le (by
              have h1 := HT.out
              simp only [List.drop_succ_cons, List.drop_zero]
              omega)]
            rfl
          show y.data.toList = _
          rw [← hy, Lib.extract_data, e, List.drop_zero, Nat.sub_zero]
        have hys : y.size = n := by
          have h1 := HT.out
          have h3 := congrArg List.length hyl.out
          rw [List.length_take] at h3
          have := Lib.size_eq y
          omega
        have HYS := Lib.hid hys
        have hyb : y.size ≤ 140737488355328 := by omega
        have C1 := fun w => sum_any y w hyb
        rw [hyl.out] at C1
        obtain ⟨v, hv⟩ : ∃ v, U (Pl.sum (t.take n)) = v := ⟨_, rfl⟩
        have HV := Lib.hid hv
        rw [hv] at C1
        clear hv hys
        by_cases h3 : v = (m : Int)
        · have h4 : (v != (m : Int)) = false := by rw [h3]; exact bne_self_eq_false _
          have H3' := Lib.hid h3
          clear h3
          go_wp2_with (go_at_call 13; ((with_reducible refine (C1 _).mono ?_); rintro e w' ⟨rfl, rfl⟩))
          go_ret3
          exact ⟨res_good (ofList_eq y _ hyl.out.symm) HYS.out (Pl.nx_good H1.out HN.out HM.out h1 (by rw [HT.out]; exact h2) (by rw [HV.out]; exact H3'.out)) (by omega) (by have h1 := HT.out; rw [List.length_take]; omega), ‹Below _ _ _›⟩
        · have h4 : (v != (m : Int)) = true := by rw [bne_iff_ne]; exact h3
          have H3' := Lib.hid h3
          clear h3
          go_wp2_with (go_at_call 13; ((with_reducible refine (C1 _).mono ?_); rintro e w' ⟨rfl, rfl⟩))
          go_ret3
          exact ⟨res_of (Pl.nx_wrong H1.out HN.out HM.out h1 (by rw [HT.out]; exact h2) (by rw [HV.out]; exact H3'.out)) (by omega) rfl, ‹Below _ _ _›⟩
end Go.Proofs.Ytddlkagcdlgllaa
