/- The document's own reader (heliographref01.Reader): what each of its methods answers, and where it stands then. -/
import Derived.Test.YtmkinnheoejphaaGreatDoorRefNum
import Derived.Test.YtmkinnheoejphaaGreatDoorWalk4
import Derived.Deep.QuietTactic
import Derived.BigQuiet
namespace Go.Proofs.YtmkinnheoejphaaGreatDoor
open Go.RowKit

/-- The document's reader in block c: its bytes, its place, whether it is wrong. -/
def Rf (c : Nat) (w : World) (s : ByteArray) (a : Nat) (bad : Bool) : Prop := w.heap[c]? = some (.cells #[.string s, .int .i64 a, .bool bad] 76 (0, 0))
theorem Rf.lt {c : Nat} {w : World} {s : ByteArray} {a : Nat} {bad : Bool} (h : Rf c w s a bad) : c < w.heap.size := lt_of_block h
theorem Rf.c0 {c : Nat} {w : World} {s : ByteArray} {a : Nat} {bad : Bool} (h : Rf c w s a bad) : w.cell? ⟨c, 0, none⟩ = some (.string s) := by unfold Rf at h; simp [World.cell?, h]
theorem Rf.c1 {c : Nat} {w : World} {s : ByteArray} {a : Nat} {bad : Bool} (h : Rf c w s a bad) : w.cell? ⟨c, 1, none⟩ = some (.int .i64 a) := by unfold Rf at h; simp [World.cell?, h]
theorem Rf.c2 {c : Nat} {w : World} {s : ByteArray} {a : Nat} {bad : Bool} (h : Rf c w s a bad) : w.cell? ⟨c, 2, none⟩ = some (.bool bad) := by unfold Rf at h; simp [World.cell?, h]
theorem Rf.f1 {c : Nat} {w : World} {s : ByteArray} {a : Nat} {bad : Bool} (h : Rf c w s a bad) : w.frozen? ⟨c, 1, none⟩ = false := by unfold Rf at h; simp [World.frozen?, h]
theorem Rf.f2 {c : Nat} {w : World} {s : ByteArray} {a : Nat} {bad : Bool} (h : Rf c w s a bad) : w.frozen? ⟨c, 2, none⟩ = false := by unfold Rf at h; simp [World.frozen?, h]
theorem Rf.same {c : Nat} {w w' : World} {s : ByteArray} {a : Nat} {bad : Bool} (h : Rf c w s a bad) (hb : Below w.heap.size w w') : Rf c w' s a bad := by
  unfold Rf at h ⊢
  rw [hb.block c (lt_of_block h)]
  exact h
theorem Rf.other {b c : Nat} {w w' : World} {s : ByteArray} {a : Nat} {bad : Bool} (h : Rf c w s a bad) (hk : Kb b w w') (hn : c ≠ b) : Rf c w' s a bad := by
  unfold Rf at h ⊢
  rw [hk.block c (lt_of_block h) hn]
  exact h
theorem Rf.set1 {c : Nat} {w : World} {s : ByteArray} {a : Nat} {bad : Bool} (h : Rf c w s a bad) (a' : Nat) (v : Int) (hv : v = a') : Rf c (w.setCell ⟨c, 1, none⟩ (.int .i64 v)) s a' bad := by
  subst hv
  have hlt := h.lt
  unfold Rf at h ⊢
  have h' : w.heap[c] = .cells #[.string s, .int .i64 a, .bool bad] 76 (0, 0) := by simpa [Array.getElem?_eq_getElem hlt] using h
  show (w.heap.modify c _)[c]? = _
  rw [Array.getElem?_eq_getElem (by simpa using hlt), Array.getElem_modify_self, h']
  rfl
theorem Rf.set2 {c : Nat} {w : World} {s : ByteArray} {a : Nat} {bad : Bool} (h : Rf c w s a bad) (bad' : Bool) : Rf c (w.setCell ⟨c, 2, none⟩ (.bool bad')) s a bad' := by
  have hlt := h.lt
  unfold Rf at h ⊢
  have h' : w.heap[c] = .cells #[.string s, .int .i64 a, .bool bad] 76 (0, 0) := by simpa [Array.getElem?_eq_getElem hlt] using h
  show (w.heap.modify c _)[c]? = _
  rw [Array.getElem?_eq_getElem (by simpa using hlt), Array.getElem_modify_self, h']
  rfl
theorem Rf.drewN {c : Nat} {w : World} {s : ByteArray} {a : Nat} {bad : Bool} (h : Rf c w s a bad) (n : Nat) : Rf c (w.drewN n) s a bad := h

/-- It stands where u does. -/
def Rs (c : Nat) (w : World) (s : ByteArray) (u : St) : Prop := ∃ a, a ≤ s.size ∧ u.s = s.data.toList.drop a ∧ Rf c w s a u.bad
theorem Rs.same {c : Nat} {w w' : World} {s : ByteArray} {u : St} (h : Rs c w s u) (hb : Below w.heap.size w w') : Rs c w' s u := let ⟨a, h1, h2, h3⟩ := h; ⟨a, h1, h2, h3.same hb⟩
theorem Rs.other {b c : Nat} {w w' : World} {s : ByteArray} {u : St} (h : Rs c w s u) (hk : Kb b w w') (hn : c ≠ b) : Rs c w' s u := let ⟨a, h1, h2, h3⟩ := h; ⟨a, h1, h2, h3.other hk hn⟩
theorem Rs.lt {c : Nat} {w : World} {s : ByteArray} {u : St} (h : Rs c w s u) : c < w.heap.size := let ⟨_, _, _, h3⟩ := h; h3.lt

theorem drop_cons {s : ByteArray} {a : Nat} (h : a < s.size) : s.data.toList.drop a = s[a] :: s.data.toList.drop (a + 1) := by
  have h1 := drop_at (s := s) (a := a) (K := 0) rfl (by omega)
  rw [List.drop_zero, List.drop_drop] at h1
  exact h1
theorem drop_end {s : ByteArray} {a : Nat} (h : ¬ a < s.size) : s.data.toList.drop a = [] := by
  rw [List.drop_eq_nil_iff, ← Lib.size_eq]
  omega
theorem more_bool (x : Nat) (y : UInt8) (h : y.toNat = x) : (((x : Nat) : Int) != 101) = (y != 101) := by
  subst h
  by_cases h : y = 101
  · subst h; rfl
  · have h1 : y.toNat ≠ 101 := fun e => h (UInt8.toNat_inj.1 e)
    have h2 : ((y.toNat : Nat) : Int) ≠ 101 := by omega
    rw [bne_iff_ne.2 h2, bne_iff_ne.2 h]

set_option maxHeartbeats 1000000 in
set_option maxRecDepth 100000 in
theorem rf_done (c : Nat) (s : ByteArray) (u : St) (w : World) (h : Rs c w s u) (_hs : s.size ≤ 281474976710656) :
    Calls Tryz.prog 54 #[.pointer (some ⟨c, 0, none⟩)] w fun e w' => e = .returned (.int .i64 u.done) ∧ Below w.heap.size w w' := by
  obtain ⟨a, ha, hus, hr⟩ := h
  obtain ⟨us, bad⟩ := u
  simp only at hus hr
  have c0 := hr.c0
  have c1 := hr.c1
  have c2 := hr.c2
  cases bad with
  | true =>
    clear hus
    go_enter Tryz.func54, Tryz.ntmps54
    go_wp2_with fail
    go_quiet (fail)
    go_wp2_with fail
    go_ret
    exact ⟨rfl, below_drewN w nq⟩
  | false =>
    by_cases hlt : a < s.size
    · have hd : Hid (us ≠ []) := by rw [hus, drop_cons hlt]; exact fun h => by cases h
      clear hus
      go_enter Tryz.func54, Tryz.ntmps54
      go_wp2_with fail
      go_quiet (fail)
      go_wp2_with fail
      go_ret
      refine ⟨congrArg (fun x => Ending.returned (.int .i64 x)) ?_, below_drewN w nq⟩
      have hd := hd.out
      cases us with
      | nil => exact absurd rfl hd
      | cons x r => rfl
    · have hd : Hid (us = []) := by rw [hus, drop_end hlt]; rfl
      clear hus
      go_enter Tryz.func54, Tryz.ntmps54
      go_wp2_with fail
      go_quiet (fail)
      go_wp2_with fail
      go_ret
      refine ⟨congrArg (fun x => Ending.returned (.int .i64 x)) ?_, below_drewN w nq⟩
      rw [hd.out]
      rfl

set_option maxHeartbeats 1000000 in
set_option maxRecDepth 100000 in
theorem rf_sign (c : Nat) (s : ByteArray) (u : St) (y : UInt8) (w : World) (h : Rs c w s u) (hs : s.size ≤ 281474976710656) :
    Calls Tryz.prog 68 #[.pointer (some ⟨c, 0, none⟩), .int .u8 y.toNat] w fun e w' => e = .returned (.tuple #[]) ∧ Rs c w' s (u.byte y) ∧ Kb c w w' := by
  obtain ⟨a, ha, hus, hr⟩ := h
  obtain ⟨us, bad⟩ := u
  simp only at hus hr
  have c0 := hr.c0
  have c1 := hr.c1
  have c2 := hr.c2
  have f1 := hr.f1
  have f2 := hr.f2
  cases bad with
  | true =>
    have H := Lib.hid hus
    clear hus
    go_enter Tryz.func68, Tryz.ntmps68
    go_wp2_with fail
    (first | go_end0 | refine bodyPost_ret (results_none rfl _ _ _) rfl ?_)
    exact ⟨rfl, ⟨a, ha, H.out, hr⟩, Kb.refl _ _⟩
  | false =>
    by_cases hlt : a < s.size
    · obtain ⟨x, hx⟩ : ∃ x, (s[a]'hlt).toNat = x := ⟨_, rfl⟩
      have hdc := drop_cons hlt
      by_cases hxy : x = y.toNat
      · subst hxy
        have hy : (s[a]'hlt) = y := UInt8.toNat_inj.1 hx
        have hd : Hid (St.byte y ⟨us, false⟩ = ⟨s.data.toList.drop (a + 1), false⟩) := by
          show St.byte y ⟨us, false⟩ = _
          rw [hus, hdc, hy]
          simp [St.byte, Pl.rByte]
        clear hus hdc hy
        go_enter Tryz.func68, Tryz.ntmps68
        go_wp2_with fail
        go_quiet (fail)
        go_wp2_with fail
        (first | go_end0 | refine bodyPost_ret (results_none rfl _ _ _) rfl ?_)
        rw [hd.out]
        exact ⟨rfl, ⟨a + 1, by omega, rfl, (hr.drewN nq).set1 (a + 1) _ (by omega)⟩, ((Kb.refl c w).drewN nq).trans (Kb.setCell _ _)⟩
      · have hne : ((x : Int) == (y.toNat : Int)) = false := by rw [beq_eq_false_iff_ne]; omega
        have hy : (s[a]'hlt) ≠ y := fun e => hxy (by rw [← hx, e])
        have hd : Hid (St.byte y ⟨us, false⟩ = ⟨s.data.toList.drop a, true⟩) := by
          show St.byte y ⟨us, false⟩ = _
          rw [hus, hdc]
          simp [St.byte, Pl.rByte, hy]
        clear hus hdc hy
        go_enter Tryz.func68, Tryz.ntmps68
        go_wp2_with fail
        go_quiet (fail)
        go_wp2_with fail
        (first | go_end0 | refine bodyPost_ret (results_none rfl _ _ _) rfl ?_)
        rw [hd.out]
        exact ⟨rfl, ⟨a, ha, rfl, (hr.drewN nq).set2 true⟩, ((Kb.refl c w).drewN nq).trans (Kb.setCell _ _)⟩
    · have hd : Hid (St.byte y ⟨us, false⟩ = ⟨s.data.toList.drop a, true⟩) := by
        show St.byte y ⟨us, false⟩ = _
        rw [hus, drop_end hlt]
        simp [St.byte, Pl.rByte]
      clear hus
      go_enter Tryz.func68, Tryz.ntmps68
      go_wp2_with fail
      go_quiet (fail)
      go_wp2_with fail
      (first | go_end0 | refine bodyPost_ret (results_none rfl _ _ _) rfl ?_)
      rw [hd.out]
      exact ⟨rfl, ⟨a, ha, rfl, (hr.drewN nq).set2 true⟩, ((Kb.refl c w).drewN nq).trans (Kb.setCell _ _)⟩

set_option maxHeartbeats 400000 in
set_option maxRecDepth 100000 in
theorem rf_open (c : Nat) (s : ByteArray) (u : St) (w : World) (h : Rs c w s u) (hs : s.size ≤ 281474976710656) :
    Calls Tryz.prog 51 #[.pointer (some ⟨c, 0, none⟩)] w fun e w' => e = .returned (.tuple #[]) ∧ Rs c w' s (u.byte 108) ∧ Kb c w w' := by
  go_enter Tryz.func51, Tryz.ntmps51
  go_wp2_with fail
  refine (rf_sign c s u 108 _ h hs).mono ?_
  rintro e w1 ⟨rfl, h1, h2⟩
  go_wp2_with fail
  go_end0
  exact ⟨rfl, h1, h2⟩

set_option maxHeartbeats 400000 in
set_option maxRecDepth 100000 in
theorem rf_close (c : Nat) (s : ByteArray) (u : St) (w : World) (h : Rs c w s u) (hs : s.size ≤ 281474976710656) :
    Calls Tryz.prog 53 #[.pointer (some ⟨c, 0, none⟩)] w fun e w' => e = .returned (.tuple #[]) ∧ Rs c w' s (u.byte 101) ∧ Kb c w w' := by
  go_enter Tryz.func53, Tryz.ntmps53
  go_wp2_with fail
  refine (rf_sign c s u 101 _ h hs).mono ?_
  rintro e w1 ⟨rfl, h1, h2⟩
  go_wp2_with fail
  go_end0
  exact ⟨rfl, h1, h2⟩

end Go.Proofs.YtmkinnheoejphaaGreatDoor
