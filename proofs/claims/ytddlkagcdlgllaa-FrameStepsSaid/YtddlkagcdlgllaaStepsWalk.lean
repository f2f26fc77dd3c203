/- The walk of the law FrameSteps. -/
import Derived.Test.YtddlkagcdlgllaaReadsWalk
namespace Go.Proofs.Ytddlkagcdlgllaa
open Go.RowKit

/-- The next text of the list is the next frame's. -/
theorem step_more {M : List UInt8} {ts : List (List UInt8)} {k : Nat} (hk : k < ts.length) (h : ts.drop k = (Pl.scan M).1) :
    (Pl.nx M).2 = 0 ∧ ts[k]? = some (Pl.nx M).1 ∧ ts.drop (k + 1) = (Pl.scan (M.drop (8 + (Pl.nx M).1.length))).1 ∧ (Pl.scan M).2 = 8 + (Pl.nx M).1.length + (Pl.scan (M.drop (8 + (Pl.nx M).1.length))).2 := by
  by_cases hz : (Pl.nx M).2 = 0
  · have hs := Pl.scan_step hz
    rw [hs] at h ⊢
    refine ⟨hz, ?_, ?_, rfl⟩
    · have e := congrArg (fun l => l[0]?) h
      simpa using e
    · have e := congrArg (List.drop 1) h
      rw [List.drop_drop] at e
      exact e
  · rw [Pl.scan_stop hz] at h
    have := congrArg List.length h
    rw [List.length_drop] at this
    simp at this
    omega
theorem step_last {M : List UInt8} {ts : List (List UInt8)} {k : Nat} (hk : ts.length ≤ k) (h : ts.drop k = (Pl.scan M).1) : (Pl.nx M).2 ≠ 0 := by
  intro hz
  rw [Pl.scan_step hz, List.drop_of_length_le hk] at h
  cases h

set_option maxHeartbeats 1000000 in
theorem steps_any (s : ByteArray) (w : World) :
    Calls Try.prog 9 #[.string s] w fun e w' => e = .returned (.bool true) ∧ Below w.heap.size w w' := by
  by_cases hs : 8192 < s.size
  · go_enter Try.func9, Try.ntmps9
    go_wp2_with fail
    refine (awake_any _).mono ?_
    rintro e w1 ⟨rfl, b1⟩
    go_wp2_with fail
    go_ret
    exact ⟨rfl, b1⟩
  · have hl : s.data.toList.length = s.size := (Lib.size_eq s).symm
    have HL := Lib.hid hl
    have HS1 := Lib.hid (fun w => scan_any s w (by omega))
    have HTL := scan_len s
    clear hl
    go_enter Try.func9, Try.ntmps9
    go_wp2_with fail
    refine (awake_any _).mono ?_
    rintro e w1 ⟨rfl, b1⟩
    go_wp2_with fail
    refine (HS1.out _).mono ?_
    rintro e w2 ⟨v, rfl, o2, b2⟩
    have b12 := b1.trans (b2.mono b1.size)
    have R2 := readable_own o2
    clear b1 b2 o2
    generalize hT : Pl.scan s.data.toList = T at *
    obtain ⟨ts, E⟩ := T
    obtain ⟨a, cap, rfl, hc⟩ := R2
    have HC := Lib.hid hc
    have HT := Lib.hid hT
    obtain ⟨m, hm⟩ : ∃ m, ts.length = m := ⟨_, rfl⟩
    rw [hm] at HTL ⊢
    have HM := Lib.hid hm
    have HB := Lib.hid b12
    have hB := b12.size
    clear hT hc hm b12
    go_wp2_with fail
    go_loopw [5, 6] (fun av iv wr => ∃ k p : Nat, k ≤ m ∧ iv = .int .i64 k ∧ av = .int .i64 p ∧ p ≤ s.size ∧ ts.drop k = (Pl.scan (s.data.toList.drop p)).1 ∧ E = p + (Pl.scan (s.data.toList.drop p)).2 ∧ Below w2.heap.size w2 wr) (fun _ iv _ => m - (intOf iv).toNat)
    case atStart => exact ⟨0, 0, Nat.zero_le _, rfl, rfl, Nat.zero_le _, by rw [List.drop_zero, List.drop_zero, HT.out], by rw [List.drop_zero, HT.out, Nat.zero_add], Below.refl _ _⟩
    case round =>
      obtain ⟨k, p, hk, rfl, rfl, hp, hd, hE, hb⟩ := hrel
      have HE := Lib.hid hE
      have HWB := Lib.hid hb
      have N := fun wx => next_at s p wx hp (by omega)
      by_cases hlt : k < m
      · obtain ⟨hz, hg, hd2, hsz⟩ := step_more (by rw [HM.out]; exact hlt) hd
        obtain ⟨b, off, rfl, hbl, hcell⟩ := HC.out k _ hg
        have hcell2 : wr.cell? ⟨b, off + k, none⟩ = some (.string ⟨(Pl.nx (s.data.toList.drop p)).1.toArray⟩) := (hb.cell (p := ⟨b, off + k, none⟩) hbl).trans hcell
        have hcell3 : ∀ w3, Below wr.heap.size wr w3 → w3.cell? ⟨b, off + k, none⟩ = some (.string ⟨(Pl.nx (s.data.toList.drop p)).1.toArray⟩) := fun w3 h3 => (h3.cell (p := ⟨b, off + k, none⟩) (Nat.lt_of_lt_of_le hbl hb.size)).trans hcell2
        have hroom : p + 8 + (Pl.nx (s.data.toList.drop p)).1.length ≤ s.size := by
          obtain ⟨-, r, hr⟩ := Pl.nx_ok hz
          have hlen := congrArg List.length hr
          rw [List.length_append, Pl.frame_length, List.length_drop, HL.out] at hlen
          omega
        rw [res_ok hp hz] at N
        rw [List.drop_drop, ← Nat.add_assoc] at hd2 hsz
        obtain ⟨y, hy⟩ : ∃ y, (Pl.nx (s.data.toList.drop p)).1 = y := ⟨_, rfl⟩
        rw [hy] at N hcell3 hroom hd2 hsz
        obtain ⟨q, hq⟩ : ∃ q, y.length = q := ⟨_, rfl⟩
        rw [hq] at N hroom hd2 hsz
        obtain ⟨Y, hY⟩ : ∃ Y : ByteArray, (⟨y.toArray⟩ : ByteArray) = Y := ⟨_, rfl⟩
        rw [hY] at N hcell3
        have hYs : Y.size = q := by rw [← hY, ← hq]; show y.toArray.size = _; simp
        have HN := Lib.hid N
        have HC3 := Lib.hid hcell3
        have HD2 := Lib.hid hd2
        have HSZ := Lib.hid hsz
        clear hd hE hb hz hg hd2 hsz hbl hcell hcell2 hcell3 N hy hq hY
        go_wp2_with fail
        refine (HN.out _).mono ?_
        rintro e w3 ⟨rfl, b3⟩
        have hc3 := HC3.out w3 b3
        have HB3 := Lib.hid (HWB.out.trans (b3.mono HWB.out.size))
        clear b3
        go_wp2_with fail
        go_roundw
        case rel => exact ⟨k + 1, p + 8 + q, by omega, by go_num, by go_num, hroom, HD2.out, by have h1 := HE.out; have h2 := HSZ.out; omega, HB3.out⟩
        case measure => simp [intOf]; omega
      · obtain rfl : k = m := by omega
        have hz := step_last (by rw [HM.out]; exact Nat.le_refl _) hd
        rw [res_no hp hz] at N
        obtain ⟨z, hz'⟩ : ∃ z : Nat, (Pl.nx (s.data.toList.drop p)).2 = z := ⟨_, rfl⟩
        rw [Pl.scan_stop hz, Nat.add_zero] at hE
        rw [hz'] at N hz
        have hz2 : ((z : Int) != 0) = true := by rw [bne_iff_ne]; omega
        have HN := Lib.hid N
        subst hE
        clear HE hd hb N hz hz'
        go_wp2_with fail
        refine (HN.out _).mono ?_
        rintro e w3 ⟨rfl, b3⟩
        have HB3 := Lib.hid (HB.out.trans ((HWB.out.trans (b3.mono HWB.out.size)).mono hB))
        clear b3
        go_wp2_with fail
        go_ret
        exact ⟨rfl, HB3.out⟩
end Go.Proofs.Ytddlkagcdlgllaa
