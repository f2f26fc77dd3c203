/- The document's Reader.Text: what it answers, and where it stands then. -/
import Derived.Test.YthhlegfmikidpaaDoorRefInt
namespace Go.Proofs.YthhlegfmikidpaaDoor
open Go.RowKit

theorem st_text_none {us L : List UInt8} {most : Int} (h : us = L) (hr : Pl.rText most L = none) : St.text most ⟨us, false⟩ = ([], ⟨L, true⟩) := by
  subst h
  simp [St.text, hr]
theorem st_text_some {us L t r : List UInt8} {most : Int} (h : us = L) (hr : Pl.rText most L = some (t, r)) : St.text most ⟨us, false⟩ = (t, ⟨r, false⟩) := by
  subst h
  simp [St.text, hr]

set_option maxHeartbeats 4000000 in
set_option maxRecDepth 100000 in
theorem rf_text_go (c : Nat) (s : ByteArray) (most : Int) (hm : most ≤ 9223372036854775807) (a : Nat) (us : List UInt8) (w : World) (ha : a ≤ s.size) (hus : us = s.data.toList.drop a) (hr : Rf c w s a false) (hs : s.size ≤ 281474976710656) :
    Calls Tryd.prog 49 #[.pointer (some ⟨c, 0, none⟩), .int .i64 most] w fun e w' => e = .returned (.string ⟨(St.text most ⟨us, false⟩).1.toArray⟩) ∧ Rs c w' s (St.text most ⟨us, false⟩).2 ∧ Kb c w w' := by
  have c0 := hr.c0
  have c1 := hr.c1
  have c2 := hr.c2
  have f1 := hr.f1
  have f2 := hr.f2
  have C := fun w => (number_any s a ha hs w).mono (R' := fun e w' => e = .returned (.tuple #[.int .i64 (Pl.num (s.data.toList.drop a)).1, .int .u64 (Pl.num (s.data.toList.drop a)).2]) ∧ w' = w) fun _ _ ⟨he, hw⟩ => ⟨he, hw.symm⟩
  obtain ⟨k, hk⟩ : ∃ k, (Pl.num (s.data.toList.drop a)).1 = k := ⟨_, rfl⟩
  obtain ⟨v, hv⟩ : ∃ v, (Pl.num (s.data.toList.drop a)).2 = v := ⟨_, rfl⟩
  have hnum : Pl.num (s.data.toList.drop a) = (k, v) := Prod.ext hk hv
  obtain ⟨z, hz⟩ : ∃ z : Int, (v : Int) = z := ⟨_, rfl⟩
  rw [hk, hv] at C
  simp only [hz] at C
  have hz0 : 0 ≤ z := by omega
  have HZ := Lib.hid hz
  have hroom := num_room hnum
  rw [List.length_drop, ← Lib.size_eq] at hroom
  have hkb : a + k ≤ s.size := by omega
  have HC := Lib.hid C
  have hnext : ∀ x, ((s.data.toList.drop a).drop k)[0]? = some x → ∃ h : a + k < s.size, x = s[a + k]'h := by
    intro x hx
    by_cases h : a + k < s.size
    · refine ⟨h, ?_⟩
      rw [List.drop_drop, drop_cons h] at hx
      injection hx with hx
      exact hx.symm
    · rw [List.drop_drop, drop_end h] at hx
      cases hx
  clear C hk hv hz
  by_cases hk0 : 0 < k
  · by_cases ht : a + k < s.size
    · obtain ⟨y, hy⟩ : ∃ y, (s[a + k]'ht).toNat = y := ⟨_, rfl⟩
      by_cases hy1 : y = 58
      · subst hy1
        have h58 : ((s.data.toList.drop a).drop k)[0]? = some 58 := by
          rw [List.drop_drop, drop_cons ht, show (s[a + k]'ht) = 58 from UInt8.toNat_inj.1 hy]
          rfl
        by_cases hm0 : 0 ≤ most
        · by_cases hzm : z ≤ most
          · by_cases hzl : z ≤ (s.size : Int) - (a + k : Nat) - 1
            · obtain ⟨n, rfl⟩ : ∃ n : Nat, z = n := ⟨z.toNat, by omega⟩
              obtain rfl : v = n := by have := HZ.out; omega
              have hd : Hid (St.text most ⟨us, false⟩ = ((s.data.toList.drop (a + k + 1)).take v, ⟨s.data.toList.drop (a + k + 1 + v), false⟩)) := by
                refine st_text_some hus ?_
                rw [Pl.refText_pos hnum hm ⟨hk0, h58, hm0, hzm, by rw [List.length_drop, List.length_drop, ← Lib.size_eq]; omega⟩, List.drop_drop, List.drop_drop]
                rw [show a + (k + 1) = a + k + 1 by omega]
              have hzl2 : a + k + 1 + v ≤ s.size := by omega
              clear hus hnum hnext h58
              go_enter Tryd.func49, Tryd.ntmps49
              go_wp2_with fail
              go_quiet ((go_at_call 61; refine Calls.quiet_of_same (HC.out _)))
              go_wp2_with fail
              go_quiet (fail)
              go_wp2_with fail
              go_ret
              rw [hd.out]
              refine ⟨?_, ⟨a + k + 1 + v, by omega, rfl, ?_⟩, ?_⟩
              · refine congrArg (fun x => Ending.returned (.string x)) (show s.extract (a + k + 1) (a + k + 1 + v) = _ from ?_)
                apply ofList_eq
                rw [Lib.extract_data, show a + k + 1 + v - (a + k + 1) = v by omega]
              · exact ((hr.drewN _).set1 (a + k + 1 + v) _ (by omega)).drewN nq
              · exact (((Kb.refl c w).drewN _).trans (Kb.setCell _ _)).drewN nq
            · have hd : Hid (St.text most ⟨us, false⟩ = ([], ⟨s.data.toList.drop a, true⟩)) := by
                refine st_text_none hus (Pl.refText_no ?_)
                rw [hnum]
                rintro ⟨-, -, -, -, h⟩
                rw [List.length_drop, List.length_drop, ← Lib.size_eq] at h
                have := HZ.out
                omega
              clear hus hnum hnext h58
              go_enter Tryd.func49, Tryd.ntmps49
              go_wp2_with fail
              go_quiet ((go_at_call 61; refine Calls.quiet_of_same (HC.out _)))
              go_wp2_with fail
              go_ret
              rw [hd.out]
              exact ⟨rfl, ⟨a, ha, rfl, (hr.drewN nq).set2 true⟩, ((Kb.refl c w).drewN nq).trans (Kb.setCell _ _)⟩
          · have hd : Hid (St.text most ⟨us, false⟩ = ([], ⟨s.data.toList.drop a, true⟩)) := by
              refine st_text_none hus (Pl.refText_no ?_)
              rw [hnum]
              rintro ⟨-, -, -, h, -⟩
              have := HZ.out
              omega
            clear hus hnum hnext h58
            go_enter Tryd.func49, Tryd.ntmps49
            go_wp2_with fail
            go_quiet ((go_at_call 61; refine Calls.quiet_of_same (HC.out _)))
            go_wp2_with fail
            go_ret
            rw [hd.out]
            exact ⟨rfl, ⟨a, ha, rfl, (hr.drewN nq).set2 true⟩, ((Kb.refl c w).drewN nq).trans (Kb.setCell _ _)⟩
        · have hd : Hid (St.text most ⟨us, false⟩ = ([], ⟨s.data.toList.drop a, true⟩)) := by
            refine st_text_none hus (Pl.refText_no ?_)
            rw [hnum]
            rintro ⟨-, -, h, -⟩
            exact hm0 h
          clear hus hnum hnext h58
          go_enter Tryd.func49, Tryd.ntmps49
          go_wp2_with fail
          go_quiet ((go_at_call 61; refine Calls.quiet_of_same (HC.out _)))
          go_wp2_with fail
          go_ret
          rw [hd.out]
          exact ⟨rfl, ⟨a, ha, rfl, (hr.drewN nq).set2 true⟩, ((Kb.refl c w).drewN nq).trans (Kb.setCell _ _)⟩
      · have hyb : ((y : Int) == 58) = false := by rw [beq_eq_false_iff_ne]; omega
        have hd : Hid (St.text most ⟨us, false⟩ = ([], ⟨s.data.toList.drop a, true⟩)) := by
          refine st_text_none hus (Pl.refText_no ?_)
          rw [hnum]
          rintro ⟨-, h, -⟩
          obtain ⟨_, e⟩ := hnext _ h
          rw [← e] at hy
          exact hy1 hy.symm
        clear hus hnum hnext 
        go_enter Tryd.func49, Tryd.ntmps49
        go_wp2_with fail
        go_quiet ((go_at_call 61; refine Calls.quiet_of_same (HC.out _)))
        go_wp2_with fail
        go_ret
        rw [hd.out]
        exact ⟨rfl, ⟨a, ha, rfl, (hr.drewN nq).set2 true⟩, ((Kb.refl c w).drewN nq).trans (Kb.setCell _ _)⟩
    · skip
      have hd : Hid (St.text most ⟨us, false⟩ = ([], ⟨s.data.toList.drop a, true⟩)) := by
        refine st_text_none hus (Pl.refText_no ?_)
        rw [hnum]
        rintro ⟨-, h, -⟩
        obtain ⟨h2, -⟩ := hnext _ h
        exact ht h2
      clear hus hnum hnext 
      go_enter Tryd.func49, Tryd.ntmps49
      go_wp2_with fail
      go_quiet ((go_at_call 61; refine Calls.quiet_of_same (HC.out _)))
      go_wp2_with fail
      go_ret
      rw [hd.out]
      exact ⟨rfl, ⟨a, ha, rfl, (hr.drewN nq).set2 true⟩, ((Kb.refl c w).drewN nq).trans (Kb.setCell _ _)⟩
  · skip
    have hd : Hid (St.text most ⟨us, false⟩ = ([], ⟨s.data.toList.drop a, true⟩)) := by
      refine st_text_none hus (Pl.refText_no ?_)
      rw [hnum]
      rintro ⟨h, -⟩
      exact hk0 h
    obtain rfl : k = 0 := by omega
    clear hus hnum hnext 
    go_enter Tryd.func49, Tryd.ntmps49
    go_wp2_with fail
    go_quiet ((go_at_call 61; refine Calls.quiet_of_same (HC.out _)))
    go_wp2_with fail
    go_ret
    rw [hd.out]
    exact ⟨rfl, ⟨a, ha, rfl, (hr.drewN nq).set2 true⟩, ((Kb.refl c w).drewN nq).trans (Kb.setCell _ _)⟩

set_option maxHeartbeats 1000000 in
theorem rf_text_bad (c : Nat) (s : ByteArray) (a : Nat) (most : Int) (w : World) (hr : Rf c w s a true) : Calls Tryd.prog 49 #[.pointer (some ⟨c, 0, none⟩), .int .i64 most] w fun e w' => e = .returned (.string ⟨#[]⟩) ∧ w = w' := by
  have c2 := hr.c2
  go_enter Tryd.func49, Tryd.ntmps49
  go_wp2_with fail
  go_ret
  exact ⟨rfl, rfl⟩

theorem rf_text (c : Nat) (s : ByteArray) (u : St) (most : Int) (hm : most ≤ 9223372036854775807) (w : World) (h : Rs c w s u) (hs : s.size ≤ 281474976710656) :
    Calls Tryd.prog 49 #[.pointer (some ⟨c, 0, none⟩), .int .i64 most] w fun e w' => e = .returned (.string ⟨(u.text most).1.toArray⟩) ∧ Rs c w' s (u.text most).2 ∧ Kb c w w' := by
  obtain ⟨a, ha, hus, hr⟩ := h
  obtain ⟨us, bad⟩ := u
  simp only at hus hr
  cases bad with
  | true => exact (rf_text_bad c s a most w hr).mono fun _ _ ⟨he, hw⟩ => ⟨he, hw ▸ ⟨a, ha, hus, hr⟩, hw ▸ Kb.refl _ _⟩
  | false => exact rf_text_go c s most hm a us w ha hus hr hs
end Go.Proofs.YthhlegfmikidpaaDoor
