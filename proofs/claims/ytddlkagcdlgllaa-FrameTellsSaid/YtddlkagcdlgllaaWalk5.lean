/- THE CONTRACT OF the document's Next. -/
import Derived.Test.YtddlkagcdlgllaaRes
namespace Go.Proofs.Ytddlkagcdlgllaa
open Go.RowKit

theorem rread_l (s : ByteArray) {a b c d : UInt8} {t : List UInt8} (h : s.data.toList = a :: b :: c :: d :: t) (w : World) :
    Calls Try.prog 24 #[.string s] w fun e w' => e = .returned (.int .u32 ((Pl.num a.toNat b.toNat c.toNat d.toNat : Nat) : Int)) ∧ ∃ n, w' = w.drewN n := by
  obtain ⟨hs, e0, e1, e2, e3⟩ := bytes4 h
  have C := read_any s w hs
  rw [e0, e1, e2, e3] at C
  rw [U_of _ (Pl.num_lt a b c d)]
  exact C

set_option maxHeartbeats 1000000 in
theorem rnext_out (s : ByteArray) (z : Int) (w : World) (hz : z < 0 ∨ (s.size : Int) < z) :
    Calls Try.prog 16 #[.string s, .int .i64 z] w fun e w' => e = .returned (.tuple #[.string ⟨#[]⟩, .int .i64 0, .int .i64 1]) ∧ w = w' := by
  by_cases h0 : z < 0
  · go_enter Try.func16, Try.ntmps16
    go_wp2
    go_ret3
    exact ⟨rfl, rfl⟩
  · have h1 : (s.size : Int) < z := by omega
    clear hz
    go_enter Try.func16, Try.ntmps16
    go_wp2
    go_ret3
    exact ⟨rfl, rfl⟩
set_option maxHeartbeats 1000000 in
theorem rnext_few (s : ByteArray) (a : Nat) (w : World) (ha : a ≤ s.size) (h8 : s.size - a < 8) (hs : s.size ≤ 1048576) :
    Calls Try.prog 16 #[.string s, .int .i64 a] w fun e w' => e = .returned (.tuple #[.string ⟨#[]⟩, .int .i64 0, .int .i64 5]) ∧ w = w' := by
  go_enter Try.func16, Try.ntmps16
  go_wp2
  go_ret3
  exact ⟨rfl, rfl⟩

set_option maxHeartbeats 4000000 in
theorem rnext_many (s : ByteArray) (p : Nat) (w : World) (hp : p + 8 ≤ s.size) (hs : s.size ≤ 1048576) {a b c d e f g i : UInt8} {t : List UInt8} (hl : s.data.toList.drop p = a :: b :: c :: d :: e :: f :: g :: i :: t) :
    Calls Try.prog 16 #[.string s, .int .i64 p] w fun e w' => e = Res s p ∧ Below w.heap.size w w' := by
  have hss := Lib.size_eq s
  have htl : t.length = s.size - p - 8 := by
    have h1 := congrArg List.length hl
    rw [List.length_drop] at h1
    simp at h1
    omega
  have e1 : (s.extract p s.size).data.toList = a :: b :: c :: d :: e :: f :: g :: i :: t := by
    rw [Lib.extract_data, List.take_of_length_le (by rw [List.length_drop]; omega), hl]
  have hl4 : s.data.toList.drop (p + 4) = e :: f :: g :: i :: t := by rw [← List.drop_drop, hl]; rfl
  have hl8 : s.data.toList.drop (p + 8) = t := by rw [← List.drop_drop, hl]; rfl
  have e2 : (s.extract (p + 4) s.size).data.toList = e :: f :: g :: i :: t := by
    rw [Lib.extract_data, List.take_of_length_le (by rw [List.length_drop]; omega), hl4]
  obtain ⟨r, hr⟩ : ∃ r, s.extract p s.size = r := ⟨_, rfl⟩
  obtain ⟨r4, hr4⟩ : ∃ r, s.extract (p + 4) s.size = r := ⟨_, rfl⟩
  rw [hr] at e1
  rw [hr4] at e2
  have N1 := fun w => rread_l r e1 w
  have N2 := fun w => rread_l r4 e2 w
  obtain ⟨n, hn⟩ : ∃ n, Pl.num a.toNat b.toNat c.toNat d.toNat = n := ⟨_, rfl⟩
  obtain ⟨m, hm⟩ : ∃ m, Pl.num e.toNat f.toNat g.toNat i.toNat = m := ⟨_, rfl⟩
  rw [hn] at N1
  rw [hm] at N2
  obtain ⟨y, hy⟩ : ∃ y, s.extract (p + 8) (p + 8 + n) = y := ⟨_, rfl⟩
  have hyl : y.data.toList = t.take n := by
    rw [← hy, Lib.extract_data, hl8, show p + 8 + n - (p + 8) = n by omega]
  have HN1 : Hid (∀ w', Calls Try.prog 24 #[.string r] w' fun e w'' => e = .returned (.int .u32 (n : Int)) ∧ Below w'.heap.size w' w'') := fun w' => (N1 w').mono fun _ _ ⟨he, k, hk⟩ => ⟨he, hk ▸ below_drewN _ _⟩
  have HN2 := Lib.hid N2
  have HN := Lib.hid hn
  have HM := Lib.hid hm
  have H1 := Lib.hid hl
  have HT := Lib.hid htl
  have HYL := Lib.hid hyl
  clear hl e1 e2 N1 N2 hn hm htl hss hyl hl4 hl8
  by_cases h1 : 16384 < n
  · clear hy hr4
    go_enter Try.func16, Try.ntmps16
    go_wp2_with (go_at_call 24; ((with_reducible refine (HN1.out _).mono ?_); rintro e w1 ⟨rfl, b1⟩))
    go_ret3
    exact ⟨res_of (Pl.nx_long H1.out HN.out h1) (by omega) rfl, b1⟩
  · by_cases h2 : s.size < p + 8 + n
    · clear hy hr4
      go_enter Try.func16, Try.ntmps16
      go_wp2_with (go_at_call 24; ((with_reducible refine (HN1.out _).mono ?_); rintro e w1 ⟨rfl, b1⟩))
      go_ret3
      exact ⟨res_of (Pl.nx_short H1.out HN.out h1 (by rw [HT.out]; omega)) (by omega) rfl, b1⟩
    · have hys : y.size = n := by
        have h1 := HT.out
        have h3 := congrArg List.length HYL.out
        rw [List.length_take] at h3
        have := Lib.size_eq y
        omega
      have HYS := Lib.hid hys
      have hyb : y.size ≤ 140737488355328 := by omega
      have C1 := fun w => (rsum_any y w hyb).mono (R' := fun e w' => e = .returned (.int .u32 (U (Pl.sum y.data.toList))) ∧ w' = w) fun _ _ ⟨he, hw⟩ => ⟨he, hw.symm⟩
      rw [HYL.out] at C1
      obtain ⟨v, hv⟩ : ∃ v, U (Pl.sum (t.take n)) = v := ⟨_, rfl⟩
      have HV := Lib.hid hv
      rw [hv] at C1
      have HC1 := Lib.hid C1
      clear hv hys C1 hyb
      by_cases h3 : v = (m : Int)
      · have h4 : (v != (m : Int)) = false := by rw [h3]; exact bne_self_eq_false _
        have H3' := Lib.hid h3
        clear h3
        go_enter Try.func16, Try.ntmps16
        go_wp2_with (go_at_call 24; ((with_reducible refine (HN1.out _).mono ?_); rintro e w1 ⟨rfl, b1⟩))
        go_quiet (first | (go_at_call 14; exact Calls.quiet_of_same (HC1.out _)) | (go_at_call 24; exact Calls.quiet_of (HN2.out _)))
        go_wp2_with fail
        go_ret3
        exact ⟨res_rgood (hy.trans (ofList_eq y _ HYL.out.symm)) (Pl.nx_good H1.out HN.out HM.out h1 (by rw [HT.out]; omega) (by rw [HV.out]; exact H3'.out)) (by omega) (by have h1 := HT.out; rw [List.length_take]; omega), b1.trans (below_drewN _ _)⟩
      · have h4 : (v != (m : Int)) = true := by rw [bne_iff_ne]; exact h3
        have H3' := Lib.hid h3
        clear h3
        go_enter Try.func16, Try.ntmps16
        go_wp2_with (go_at_call 24; ((with_reducible refine (HN1.out _).mono ?_); rintro e w1 ⟨rfl, b1⟩))
        go_quiet (first | (go_at_call 14; exact Calls.quiet_of_same (HC1.out _)) | (go_at_call 24; exact Calls.quiet_of (HN2.out _)))
        go_wp2_with fail
        go_ret3
        exact ⟨res_of (Pl.nx_wrong H1.out HN.out HM.out h1 (by rw [HT.out]; omega) (by rw [HV.out]; exact H3'.out)) (by omega) rfl, b1.trans (below_drewN _ _)⟩
end Go.Proofs.Ytddlkagcdlgllaa
