/- The document's Reader.Int: what it answers, and where it stands then. -/
import Derived.Test.YtmkinnheoejphaaGreatDoorRefRd
namespace Go.Proofs.YtmkinnheoejphaaGreatDoor
open Go.RowKit

theorem st_int_none {us L : List UInt8} (h : us = L) (hr : Pl.rInt L = none) : St.int ⟨us, false⟩ = (0, ⟨L, true⟩) := by
  subst h
  simp [St.int, hr]
theorem st_int_some {us L r : List UInt8} {n : Int} (h : us = L) (hr : Pl.rInt L = some (n, r)) : St.int ⟨us, false⟩ = (n, ⟨r, false⟩) := by
  subst h
  simp [St.int, hr]
theorem num_room {l : List UInt8} {k v : Nat} (h : Pl.num l = (k, v)) : k ≤ l.length := by
  rcases Nat.eq_zero_or_pos k with h0 | h0
  · omega
  · obtain ⟨e, hk, -, -⟩ := Pl.num_some h h0
    rw [e, List.length_append, ← hk]
    omega
/-- Where the bytes behind an i aren't a number's. -/
theorem int_plain_no {M : List UInt8} {k v : Nat} (hn : Pl.num M = (k, v)) (hM : ∀ M2, M ≠ 45 :: M2) (hno : ¬ Pl.IntOk false M k v) : Pl.rInt (105 :: M) = none := by
  refine Pl.refInt_no (fun M' e _ => ?_) (fun M' e => ?_)
  · obtain rfl := (List.cons.inj e).2
    rw [hn]
    exact hno
  · exact absurd (List.cons.inj e).2 (hM M')
theorem int_minus_no {M : List UInt8} {k v : Nat} (hn : Pl.num M = (k, v)) (hno : ¬ Pl.IntOk true M k v) : Pl.rInt (105 :: 45 :: M) = none := by
  refine Pl.refInt_no (fun M' e h => ?_) (fun M' e => ?_)
  · obtain rfl := (List.cons.inj e).2
    exact absurd rfl (h M)
  · obtain rfl := (List.cons.inj (List.cons.inj e).2).2
    rw [hn]
    exact hno
theorem head_no {L : List UInt8} (h : ∀ M, L ≠ 105 :: M) : Pl.rInt L = none := Pl.refInt_no (fun M e => absurd e (h M)) (fun _ e => absurd e (h _))

set_option maxHeartbeats 4000000 in
set_option maxRecDepth 100000 in
set_option maxRecDepth 100000 in
theorem rf_int_x (c : Nat) (s : ByteArray) (a : Nat) (us : List UInt8) (w : World) (ha : a ≤ s.size) (hus : us = s.data.toList.drop a) (hr : Rf c w s a false) (_hs : s.size ≤ 281474976710656) (hx : ∀ M, s.data.toList.drop a ≠ 105 :: M) :
    Calls Tryz.prog 52 #[.pointer (some ⟨c, 0, none⟩)] w fun e w' => e = .returned (.int .i64 (St.int ⟨us, false⟩).1) ∧ Rs c w' s (St.int ⟨us, false⟩).2 ∧ Kb c w w' := by
  have c0 := hr.c0
  have c1 := hr.c1
  have c2 := hr.c2
  have f1 := hr.f1
  have f2 := hr.f2
  have hd : Hid (St.int ⟨us, false⟩ = (0, ⟨s.data.toList.drop a, true⟩)) := st_int_none hus (head_no hx)
  by_cases hlt : a < s.size
  · obtain ⟨x, hxx⟩ : ∃ x, (s[a]'hlt).toNat = x := ⟨_, rfl⟩
    have hne : ((x : Int) == 105) = false := by
      rw [beq_eq_false_iff_ne]
      intro e
      have e1 : (s[a]'hlt) = 105 := UInt8.toNat_inj.1 (hxx.trans (by have : (105 : UInt8).toNat = 105 := rfl; omega))
      exact hx _ (by rw [drop_cons hlt, e1])
    clear hus hx
    go_enter Tryz.func52, Tryz.ntmps52
    go_wp2_with fail
    go_ret
    rw [hd.out]
    exact ⟨rfl, ⟨a, ha, rfl, hr.set2 true⟩, Kb.setCell _ _⟩
  · clear hx
    clear hus 
    go_enter Tryz.func52, Tryz.ntmps52
    go_wp2_with fail
    go_ret
    rw [hd.out]
    exact ⟨rfl, ⟨a, ha, rfl, hr.set2 true⟩, Kb.setCell _ _⟩

set_option maxHeartbeats 4000000 in
set_option maxRecDepth 100000 in
set_option maxRecDepth 100000 in
theorem rf_int_n (c : Nat) (s : ByteArray) (a : Nat) (us : List UInt8) (w : World) (ha : a ≤ s.size) (hus : us = s.data.toList.drop a) (hr : Rf c w s a false) (hs : s.size ≤ 281474976710656) (hlt : a < s.size) (hx : (s[a]'hlt).toNat = 105) (hM : ∀ M2, s.data.toList.drop (a + 1) ≠ 45 :: M2) :
    Calls Tryz.prog 52 #[.pointer (some ⟨c, 0, none⟩)] w fun e w' => e = .returned (.int .i64 (St.int ⟨us, false⟩).1) ∧ Rs c w' s (St.int ⟨us, false⟩).2 ∧ Kb c w w' := by
  have c0 := hr.c0
  have c1 := hr.c1
  have c2 := hr.c2
  have f1 := hr.f1
  have f2 := hr.f2
  have hL : s.data.toList.drop a = 105 :: s.data.toList.drop (a + 1) := by rw [drop_cons hlt, show (s[a]'hlt) = 105 from UInt8.toNat_inj.1 hx]
  by_cases hlt1 : a + 1 < s.size
  · obtain ⟨x1, hx1⟩ : ∃ x1, (s[a + 1]'hlt1).toNat = x1 := ⟨_, rfl⟩
    have hne : ((x1 : Int) == 45) = false := by
      rw [beq_eq_false_iff_ne]
      intro e
      have e1 : (s[a + 1]'hlt1) = 45 := UInt8.toNat_inj.1 (hx1.trans (by have : (45 : UInt8).toNat = 45 := rfl; omega))
      exact hM _ (by rw [drop_cons hlt1, e1])
    have C := fun w => number_any s (a + 1) (by omega) hs w
    rw [show ((a + 1 : Nat) : Int) = (a : Int) + 1 by omega] at C
    obtain ⟨k, hk⟩ : ∃ k, (Pl.num (s.data.toList.drop (a + 1))).1 = k := ⟨_, rfl⟩
    obtain ⟨v, hv⟩ : ∃ v, (Pl.num (s.data.toList.drop (a + 1))).2 = v := ⟨_, rfl⟩
    rw [hk, hv] at C
    have hnum : Pl.num (s.data.toList.drop (a + 1)) = (k, v) := Prod.ext hk hv
    have hroom := num_room hnum
    rw [List.length_drop, ← Lib.size_eq] at hroom
    have hkb : a + 1 + k ≤ s.size := by omega
    have HC := Lib.hid C
    have hnext : ∀ x, ((s.data.toList.drop (a + 1)).drop k)[0]? = some x → ∃ h : a + 1 + k < s.size, x = s[a + 1 + k]'h := by
      intro x hx
      by_cases h : a + 1 + k < s.size
      · refine ⟨h, ?_⟩
        rw [List.drop_drop, drop_cons h] at hx
        injection hx with hx
        exact hx.symm
      · rw [List.drop_drop, drop_end h] at hx
        cases hx
    clear C hk hv
    by_cases hk0 : 0 < k
    · by_cases ht : a + 1 + k < s.size
      · obtain ⟨y, hy⟩ : ∃ y, (s[a + 1 + k]'ht).toNat = y := ⟨_, rfl⟩
        by_cases hy1 : y = 101
        · subst hy1
          have h101 : ((s.data.toList.drop (a + 1)).drop k)[0]? = some 101 := by
            rw [List.drop_drop, drop_cons ht, show (s[a + 1 + k]'ht) = 101 from UInt8.toNat_inj.1 hy]
            rfl
          by_cases hr1 : (v : Int) < 9223372036854775808
          · have hd : Hid (St.int ⟨us, false⟩ = ((v : Int), ⟨s.data.toList.drop (a + 1 + k + 1), false⟩)) := by
              refine st_int_some (hus.trans (hL)) ?_
              rw [Pl.refInt_pos hnum ⟨hk0, h101, Or.inl ⟨rfl, by omega⟩⟩, List.drop_drop]
              rfl
            obtain ⟨z, hz⟩ : ∃ z : Int, (v : Int) = z := ⟨_, rfl⟩
            have C := HC.out
            simp only [hz] at C
            rw [hz] at hr1
            have hz0 : 0 ≤ z := by omega
            clear HC
            have HC := Lib.hid C
            have hzh := Lib.hid hz
            clear hz C
            clear hus hnum hnext h101 hL hM
            go_enter Tryz.func52, Tryz.ntmps52
            go_wp2_with (go_at_call 69; refine (HC.out _).mono ?_; rintro e w' ⟨rfl, rfl⟩)
            go_ret
            rw [hd.out]
            exact ⟨congrArg (fun x => Ending.returned (.int .i64 x)) hzh.out.symm, ⟨a + 1 + k + 1, by omega, rfl, hr.set1 (a + 1 + k + 1) _ (by omega)⟩, Kb.setCell _ _⟩
          · have hd : Hid (St.int ⟨us, false⟩ = (0, ⟨s.data.toList.drop a, true⟩)) := by
              refine st_int_none hus ?_
              rw [hL]
              refine int_plain_no hnum hM ?_
              rintro ⟨-, -, ⟨-, h⟩ | ⟨h, -⟩⟩
              · exact hr1 (by omega)
              · cases h
            obtain ⟨z, hz⟩ : ∃ z : Int, (v : Int) = z := ⟨_, rfl⟩
            have C := HC.out
            simp only [hz] at C
            rw [hz] at hr1
            have hz0 : 0 ≤ z := by omega
            clear HC
            have HC := Lib.hid C
            have hzh := Lib.hid hz
            clear hz C hzh
            clear hus hnum hnext h101 hL hM
            go_enter Tryz.func52, Tryz.ntmps52
            go_wp2_with (go_at_call 69; refine (HC.out _).mono ?_; rintro e w' ⟨rfl, rfl⟩)
            go_ret
            rw [hd.out]
            exact ⟨rfl, ⟨a, ha, rfl, hr.set2 true⟩, Kb.setCell _ _⟩
        · have hyb : ((y : Int) == 101) = false := by rw [beq_eq_false_iff_ne]; omega
          have hd : Hid (St.int ⟨us, false⟩ = (0, ⟨s.data.toList.drop a, true⟩)) := by
            refine st_int_none hus ?_
            rw [hL]
            refine int_plain_no hnum hM ?_
            rintro ⟨-, h, -⟩
            obtain ⟨_, e⟩ := hnext _ h
            rw [← e] at hy
            exact hy1 hy.symm
          clear hus hnum hnext hL hM
          go_enter Tryz.func52, Tryz.ntmps52
          go_wp2_with (go_at_call 69; refine (HC.out _).mono ?_; rintro e w' ⟨rfl, rfl⟩)
          go_ret
          rw [hd.out]
          exact ⟨rfl, ⟨a, ha, rfl, hr.set2 true⟩, Kb.setCell _ _⟩
      · have hd : Hid (St.int ⟨us, false⟩ = (0, ⟨s.data.toList.drop a, true⟩)) := by
          refine st_int_none hus ?_
          rw [hL]
          refine int_plain_no hnum hM ?_
          rintro ⟨-, h, -⟩
          obtain ⟨h2, -⟩ := hnext _ h
          exact ht h2
        clear hus hnum hnext hL hM
        go_enter Tryz.func52, Tryz.ntmps52
        go_wp2_with (go_at_call 69; refine (HC.out _).mono ?_; rintro e w' ⟨rfl, rfl⟩)
        go_ret
        rw [hd.out]
        exact ⟨rfl, ⟨a, ha, rfl, hr.set2 true⟩, Kb.setCell _ _⟩
    · have hd : Hid (St.int ⟨us, false⟩ = (0, ⟨s.data.toList.drop a, true⟩)) := by
        refine st_int_none hus ?_
        rw [hL]
        refine int_plain_no hnum hM ?_
        rintro ⟨h, -⟩
        exact hk0 h
      obtain rfl : k = 0 := by omega
      clear hus hnum hnext hroom hL hM
      go_enter Tryz.func52, Tryz.ntmps52
      go_wp2_with (go_at_call 69; refine (HC.out _).mono ?_; rintro e w' ⟨rfl, rfl⟩)
      go_ret
      rw [hd.out]
      exact ⟨rfl, ⟨a, ha, rfl, hr.set2 true⟩, Kb.setCell _ _⟩
  · have hroom0 : s.data.toList.drop (a + 1) = [] := drop_end hlt1
    have hd : Hid (St.int ⟨us, false⟩ = (0, ⟨s.data.toList.drop a, true⟩)) := by
      refine st_int_none hus ?_
      rw [hL]
      have hnum : Pl.num (s.data.toList.drop (a + 1)) = (0, 0) := by
        rw [hroom0]
        refine Pl.num_good (Pl.scan_nil 0 0) ?_
        rintro (⟨h, -⟩ | ⟨x, h, -⟩)
        · omega
        · cases h
      refine int_plain_no hnum hM ?_
      rintro ⟨h, -⟩
      omega
    have C := fun w => number_any s (a + 1) (by omega) hs w
    rw [show ((a + 1 : Nat) : Int) = (a : Int) + 1 by omega] at C
    have e0 : Pl.num (s.data.toList.drop (a + 1)) = (0, 0) := by
      rw [hroom0]
      refine Pl.num_good (Pl.scan_nil 0 0) ?_
      rintro (⟨h, -⟩ | ⟨x, h, -⟩)
      · omega
      · cases h
    rw [e0] at C
    have HC := Lib.hid C
    clear hus C e0 hroom0 hL hM
    go_enter Tryz.func52, Tryz.ntmps52
    go_wp2_with (go_at_call 69; refine (HC.out _).mono ?_; rintro e w' ⟨rfl, rfl⟩)
    go_ret
    rw [hd.out]
    exact ⟨rfl, ⟨a, ha, rfl, hr.set2 true⟩, Kb.setCell _ _⟩

set_option maxHeartbeats 4000000 in
set_option maxRecDepth 100000 in
set_option maxRecDepth 100000 in
theorem rf_int_m (c : Nat) (s : ByteArray) (a : Nat) (us : List UInt8) (w : World) (ha : a ≤ s.size) (hus : us = s.data.toList.drop a) (hr : Rf c w s a false) (hs : s.size ≤ 281474976710656) (hlt : a < s.size) (hx : (s[a]'hlt).toNat = 105) (hlt1 : a + 1 < s.size) (hx1 : (s[a + 1]'hlt1).toNat = 45) :
    Calls Tryz.prog 52 #[.pointer (some ⟨c, 0, none⟩)] w fun e w' => e = .returned (.int .i64 (St.int ⟨us, false⟩).1) ∧ Rs c w' s (St.int ⟨us, false⟩).2 ∧ Kb c w w' := by
  have c0 := hr.c0
  have c1 := hr.c1
  have c2 := hr.c2
  have f1 := hr.f1
  have f2 := hr.f2
  have hL : s.data.toList.drop a = 105 :: 45 :: s.data.toList.drop (a + 1 + 1) := by rw [drop_cons hlt, drop_cons hlt1, show (s[a]'hlt) = 105 from UInt8.toNat_inj.1 hx, show (s[a + 1]'hlt1) = 45 from UInt8.toNat_inj.1 hx1]
  have C := fun w => number_any s (a + 1 + 1) (by omega) hs w
  rw [show ((a + 1 + 1 : Nat) : Int) = (a : Int) + 1 + 1 by omega] at C
  obtain ⟨k, hk⟩ : ∃ k, (Pl.num (s.data.toList.drop (a + 1 + 1))).1 = k := ⟨_, rfl⟩
  obtain ⟨v, hv⟩ : ∃ v, (Pl.num (s.data.toList.drop (a + 1 + 1))).2 = v := ⟨_, rfl⟩
  rw [hk, hv] at C
  have hnum : Pl.num (s.data.toList.drop (a + 1 + 1)) = (k, v) := Prod.ext hk hv
  have hroom := num_room hnum
  rw [List.length_drop, ← Lib.size_eq] at hroom
  have hkb : a + 1 + 1 + k ≤ s.size := by omega
  have HC := Lib.hid C
  have hnext : ∀ x, ((s.data.toList.drop (a + 1 + 1)).drop k)[0]? = some x → ∃ h : a + 1 + 1 + k < s.size, x = s[a + 1 + 1 + k]'h := by
    intro x hx
    by_cases h : a + 1 + 1 + k < s.size
    · refine ⟨h, ?_⟩
      rw [List.drop_drop, drop_cons h] at hx
      injection hx with hx
      exact hx.symm
    · rw [List.drop_drop, drop_end h] at hx
      cases hx
  clear C hk hv
  by_cases hk0 : 0 < k
  · by_cases ht : a + 1 + 1 + k < s.size
    · obtain ⟨y, hy⟩ : ∃ y, (s[a + 1 + 1 + k]'ht).toNat = y := ⟨_, rfl⟩
      by_cases hy1 : y = 101
      · subst hy1
        have h101 : ((s.data.toList.drop (a + 1 + 1)).drop k)[0]? = some 101 := by
          rw [List.drop_drop, drop_cons ht, show (s[a + 1 + 1 + k]'ht) = 101 from UInt8.toNat_inj.1 hy]
          rfl
        by_cases hr1 : 0 < v
        · by_cases hr2 : (v : Int) ≤ 9223372036854775808
          · have hd : Hid (St.int ⟨us, false⟩ = (-(v : Int), ⟨s.data.toList.drop (a + 1 + 1 + k + 1), false⟩)) := by
              refine st_int_some (hus.trans (hL)) ?_
              rw [Pl.refInt_neg hnum ⟨hk0, h101, Or.inr ⟨rfl, hr1, by omega⟩⟩, List.drop_drop]
              rfl
            clear hus hnum hnext h101 hL
            go_enter Tryz.func52, Tryz.ntmps52
            go_wp2_with (go_at_call 69; refine (HC.out _).mono ?_; rintro e w' ⟨rfl, rfl⟩)
            go_ret
            rw [hd.out]
            exact ⟨congrArg (fun x => Ending.returned (.int .i64 x)) (by omega), ⟨a + 1 + 1 + k + 1, by omega, rfl, hr.set1 (a + 1 + 1 + k + 1) _ (by omega)⟩, Kb.setCell _ _⟩
          · have hd : Hid (St.int ⟨us, false⟩ = (0, ⟨s.data.toList.drop a, true⟩)) := by
              refine st_int_none hus ?_
              rw [hL]
              refine int_minus_no hnum ?_
              rintro ⟨-, -, ⟨h, -⟩ | ⟨-, -, h⟩⟩
              · cases h
              · exact hr2 (by omega)
            clear hus hnum hnext h101 hL
            go_enter Tryz.func52, Tryz.ntmps52
            go_wp2_with (go_at_call 69; refine (HC.out _).mono ?_; rintro e w' ⟨rfl, rfl⟩)
            go_ret
            rw [hd.out]
            exact ⟨rfl, ⟨a, ha, rfl, hr.set2 true⟩, Kb.setCell _ _⟩
        · have hd : Hid (St.int ⟨us, false⟩ = (0, ⟨s.data.toList.drop a, true⟩)) := by
            refine st_int_none hus ?_
            rw [hL]
            refine int_minus_no hnum ?_
            rintro ⟨-, -, ⟨h, -⟩ | ⟨-, h, -⟩⟩
            · cases h
            · exact hr1 h
          obtain rfl : v = 0 := by omega
          clear hus hnum hnext h101 hL
          go_enter Tryz.func52, Tryz.ntmps52
          go_wp2_with (go_at_call 69; refine (HC.out _).mono ?_; rintro e w' ⟨rfl, rfl⟩)
          go_ret
          rw [hd.out]
          exact ⟨rfl, ⟨a, ha, rfl, hr.set2 true⟩, Kb.setCell _ _⟩
      · have hyb : ((y : Int) == 101) = false := by rw [beq_eq_false_iff_ne]; omega
        have hd : Hid (St.int ⟨us, false⟩ = (0, ⟨s.data.toList.drop a, true⟩)) := by
          refine st_int_none hus ?_
          rw [hL]
          refine int_minus_no hnum ?_
          rintro ⟨-, h, -⟩
          obtain ⟨_, e⟩ := hnext _ h
          rw [← e] at hy
          exact hy1 hy.symm
        clear hus hnum hnext hL
        go_enter Tryz.func52, Tryz.ntmps52
        go_wp2_with (go_at_call 69; refine (HC.out _).mono ?_; rintro e w' ⟨rfl, rfl⟩)
        go_ret
        rw [hd.out]
        exact ⟨rfl, ⟨a, ha, rfl, hr.set2 true⟩, Kb.setCell _ _⟩
    · have hd : Hid (St.int ⟨us, false⟩ = (0, ⟨s.data.toList.drop a, true⟩)) := by
        refine st_int_none hus ?_
        rw [hL]
        refine int_minus_no hnum ?_
        rintro ⟨-, h, -⟩
        obtain ⟨h2, -⟩ := hnext _ h
        exact ht h2
      clear hus hnum hnext hL
      go_enter Tryz.func52, Tryz.ntmps52
      go_wp2_with (go_at_call 69; refine (HC.out _).mono ?_; rintro e w' ⟨rfl, rfl⟩)
      go_ret
      rw [hd.out]
      exact ⟨rfl, ⟨a, ha, rfl, hr.set2 true⟩, Kb.setCell _ _⟩
  · have hd : Hid (St.int ⟨us, false⟩ = (0, ⟨s.data.toList.drop a, true⟩)) := by
      refine st_int_none hus ?_
      rw [hL]
      refine int_minus_no hnum ?_
      rintro ⟨h, -⟩
      exact hk0 h
    obtain rfl : k = 0 := by omega
    clear hus hnum hnext hroom hL
    go_enter Tryz.func52, Tryz.ntmps52
    go_wp2_with (go_at_call 69; refine (HC.out _).mono ?_; rintro e w' ⟨rfl, rfl⟩)
    go_ret
    rw [hd.out]
    exact ⟨rfl, ⟨a, ha, rfl, hr.set2 true⟩, Kb.setCell _ _⟩


set_option maxHeartbeats 1000000 in
set_option maxRecDepth 100000 in
theorem rf_int_bad (c : Nat) (s : ByteArray) (a : Nat) (w : World) (hr : Rf c w s a true) : Calls Tryz.prog 52 #[.pointer (some ⟨c, 0, none⟩)] w fun e w' => e = .returned (.int .i64 0) ∧ w = w' := by
  have c2 := hr.c2
  go_enter Tryz.func52, Tryz.ntmps52
  go_wp2_with fail
  go_ret
  exact ⟨rfl, rfl⟩

theorem rf_int (c : Nat) (s : ByteArray) (u : St) (w : World) (h : Rs c w s u) (hs : s.size ≤ 281474976710656) :
    Calls Tryz.prog 52 #[.pointer (some ⟨c, 0, none⟩)] w fun e w' => e = .returned (.int .i64 u.int.1) ∧ Rs c w' s u.int.2 ∧ Kb c w w' := by
  obtain ⟨a, ha, hus, hr⟩ := h
  obtain ⟨us, bad⟩ := u
  simp only at hus hr
  cases bad with
  | true => exact (rf_int_bad c s a w hr).mono fun _ _ ⟨he, hw⟩ => ⟨he, hw ▸ ⟨a, ha, hus, hr⟩, hw ▸ Kb.refl _ _⟩
  | false =>
    by_cases hx : ∀ M, s.data.toList.drop a ≠ 105 :: M
    · exact rf_int_x c s a us w ha hus hr hs hx
    · have hlt : a < s.size := by
        rcases Nat.lt_or_ge a s.size with h | h
        · exact h
        · exact absurd (fun M e => by rw [drop_end (by omega)] at e; cases e) hx
      have hx0 : (s[a]'hlt) = 105 := by
        by_cases e : (s[a]'hlt) = 105
        · exact e
        · exact absurd (fun M e2 => by rw [drop_cons hlt] at e2; exact e (List.cons.inj e2).1) hx
      have hx1 : (s[a]'hlt).toNat = 105 := by rw [hx0]; rfl
      by_cases hM : ∀ M2, s.data.toList.drop (a + 1) ≠ 45 :: M2
      · exact rf_int_n c s a us w ha hus hr hs hlt hx1 hM
      · have hlt1 : a + 1 < s.size := by
          rcases Nat.lt_or_ge (a + 1) s.size with h | h
          · exact h
          · exact absurd (fun M e => by rw [drop_end (by omega)] at e; cases e) hM
        have hy0 : (s[a + 1]'hlt1) = 45 := by
          by_cases e : (s[a + 1]'hlt1) = 45
          · exact e
          · exact absurd (fun M e2 => by rw [drop_cons hlt1] at e2; exact e (List.cons.inj e2).1) hM
        exact rf_int_m c s a us w ha hus hr hs hlt hx1 hlt1 (by rw [hy0]; rfl)
end Go.Proofs.YtmkinnheoejphaaGreatDoor
