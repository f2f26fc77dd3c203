/- THE CONTRACTS OF tape's New, ready, isName, find, Off, act, Arm, Down, Acts, Life. -/
import Derived.Test.YtnenpcbofbcllaaRep
import Derived.ScopeJumps
import Derived.WalkSpells
import Derived.WalkLawsBesides
import Derived.Handy
import Derived.Outline
import Derived.Carry
namespace Go.Proofs.Ytnenpcbofbcllaa
open Go.RowKit

/-- Only block t has changed. -/
abbrev Kt (t : Nat) (w w' : World) : Prop := Moved (fun b => b = t) (fun b => b = t) w w'
theorem Kt.refl (t : Nat) (w : World) : Kt t w w := Moved.refl _ w
theorem Kt.set (t i : Nat) (w : World) (v : Value) : Kt t w (w.setCell ⟨t, i, none⟩ v) := Moved.setCell w _ v rfl

theorem ready_nil (w : World) : Calls Try.prog 22 #[.pointer none] w fun e w' => e = .returned (.int .i64 2) ∧ w = w' := by
  go_enter Try.func22, Try.ntmps22
  go_wp2_with fail
  go_ret
  exact ⟨rfl, rfl⟩
def rdy (s : Sc) : Int := if s.down then 10 else 0
theorem ready_any (w : World) (t m : Nat) (s : Sc) (h : Hd w t m s) : Calls Try.prog 22 #[.pointer (some ⟨t, 0, none⟩)] w fun e w' => e = .returned (.int .i64 (rdy s)) ∧ w = w' := by
  obtain ⟨room, down, armed, acts, life⟩ := s
  have c2 : w.cell? ⟨t, 2, none⟩ = some (.bool down) := Blk.cell h rfl
  unfold rdy
  clear h
  cases down
  · go_enter Try.func22, Try.ntmps22
    go_wp2_with fail
    go_ret
    exact ⟨rfl, rfl⟩
  · go_enter Try.func22, Try.ntmps22
    go_wp2_with fail
    go_ret
    exact ⟨rfl, rfl⟩

def okName (k : Key) : Bool := decide (1 ≤ k.length ∧ k.length ≤ 32)
theorem isName_any (k : Key) (w : World) : Calls Try.prog 23 #[.string ⟨k.toArray⟩] w fun e w' => e = .returned (.bool (okName k)) ∧ w = w' := by
  obtain ⟨S, hS⟩ : ∃ S : ByteArray, (⟨k.toArray⟩ : ByteArray) = S := ⟨_, rfl⟩
  have hz : S.size = k.length := by rw [← hS, size_list]
  have HK : okName k = decide ((1 : Int) ≤ S.size ∧ (S.size : Int) ≤ 32) := by
    unfold okName
    rw [hz]
    congr 1
    simp only [eq_iff_iff]
    omega
  rw [hS, HK]
  clear HK hS hz
  by_cases h1 : (1 : Int) ≤ S.size
  · by_cases h2 : (S.size : Int) ≤ 32
    · go_enter Try.func23, Try.ntmps23
      go_wp2_with fail
      go_ret
      exact ⟨by simp [h1, h2], rfl⟩
    · go_enter Try.func23, Try.ntmps23
      go_wp2_with fail
      go_ret
      exact ⟨by simp [h2], rfl⟩
  · go_enter Try.func23, Try.ntmps23
    go_wp2_with fail
    go_ret
    exact ⟨by simp; omega, rfl⟩

/-- Off: the power goes, if it is on. -/
def offS (s : Sc) : Sc := if s.down then { s with armed := 0 } else { s with armed := 0, down := true, life := s.life + 1 }
theorem off_any (w : World) (t m : Nat) (s : Sc) (h : Hd w t m s) (hl : s.life ≤ 1099511627776) : Calls Try.prog 13 #[.pointer (some ⟨t, 0, none⟩)] w fun e w' => (∃ v, e = .returned v) ∧ Hd w' t m (offS s) ∧ Kt t w w' := by
  obtain ⟨room, down, armed, acts, life⟩ := s
  try simp only at hl
  have f3 := Blk.free (i := 3) h
  have c3 : w.cell? ⟨t, 3, none⟩ = some (.int .i64 armed) := Blk.cell h rfl
  have s1 := Blk.set (i := 3) h (.int .i64 0)
  have c2 : (w.setCell ⟨t, 3, none⟩ (.int .i64 0)).cell? ⟨t, 2, none⟩ = some (.bool down) := Blk.cell s1 rfl
  have HB := Lib.hid h
  have H1 := Lib.hid s1
  unfold offS
  clear h s1
  cases down
  · have f2 := Blk.free (i := 2) H1.out
    have s2 := Blk.set (i := 2) H1.out (.bool true)
    have c5 : ((w.setCell ⟨t, 3, none⟩ (.int .i64 0)).setCell ⟨t, 2, none⟩ (.bool true)).cell? ⟨t, 5, none⟩ = some (.int .i64 life) := Blk.cell s2 rfl
    have f5 := Blk.free (i := 5) s2
    have H2 := Lib.hid s2
    clear s2
    go_enter Try.func13, Try.ntmps13
    go_wp2_with fail
    go_end0
    refine ⟨⟨_, rfl⟩, ?_, (Kt.set t 3 w _).trans ((Kt.set t 2 _ _).trans (Kt.set t 5 _ _))⟩
    have := Blk.set (i := 5) H2.out (.int .i64 ((life : Int) + 1))
    simpa [Hd, scv] using this
  · go_enter Try.func13, Try.ntmps13
    go_wp2_with fail
    go_end0
    exact ⟨⟨_, rfl⟩, by simpa [Hd, scv] using H1.out, Kt.set t 3 w _⟩

/-- An act is counted; the power goes in it, if it was armed. -/
def actS (s : Sc) : Sc := if s.armed = 0 then { s with acts := s.acts + 1 } else if s.armed = 1 then { s with acts := s.acts + 1, armed := 0, down := true, life := s.life + 1 } else { s with acts := s.acts + 1, armed := s.armed - 1 }
def actR (s : Sc) : Int := if s.armed = 1 then 10 else 0
theorem act_any (w : World) (t m : Nat) (s : Sc) (h : Hd w t m s) (hd : s.down = false) (ha : s.acts ≤ 1099511627776) (hl : s.life ≤ 1099511627776) (h0 : 0 ≤ s.armed) (h1 : s.armed ≤ 9223372036854775807) :
    Calls Try.prog 24 #[.pointer (some ⟨t, 0, none⟩)] w fun e w' => e = .returned (.int .i64 (actR s)) ∧ Hd w' t m (actS s) ∧ Kt t w w' := by
  obtain ⟨room, down, armed, acts, life⟩ := s
  try simp only at hd ha hl h0 h1
  subst hd
  have c4 : w.cell? ⟨t, 4, none⟩ = some (.int .i64 acts) := Blk.cell h rfl
  have f4 := Blk.free (i := 4) h
  have s1 := Blk.set (i := 4) h (.int .i64 ((acts : Int) + 1))
  have c3 : (w.setCell ⟨t, 4, none⟩ (.int .i64 ((acts : Int) + 1))).cell? ⟨t, 3, none⟩ = some (.int .i64 armed) := Blk.cell s1 rfl
  have f3 := Blk.free (i := 3) s1
  have H1 := Lib.hid s1
  unfold actS actR
  clear h s1
  by_cases ha0 : armed = 0
  · subst ha0
    go_enter Try.func24, Try.ntmps24
    go_wp2_with fail
    go_ret
    exact ⟨rfl, by simpa [Hd, scv] using H1.out, Kt.set t 4 w _⟩
  · have hne : (armed == 0) = false := by simpa using ha0
    have s2 := Blk.set (i := 3) H1.out (.int .i64 (armed - 1))
    have c3' : ((w.setCell ⟨t, 4, none⟩ (.int .i64 ((acts : Int) + 1))).setCell ⟨t, 3, none⟩ (.int .i64 (armed - 1))).cell? ⟨t, 3, none⟩ = some (.int .i64 (armed - 1)) := Blk.cell s2 rfl
    have H2 := Lib.hid s2
    clear s2
    by_cases ha1 : armed = 1
    · subst ha1
      have HO := fun (w : World) (h : Hd w t m ⟨room, false, 0, acts + 1, life⟩) => off_any w t m ⟨room, false, 0, acts + 1, life⟩ h hl
      have HOF := Lib.hid HO
      clear HO
      go_enter Try.func24, Try.ntmps24
      go_wp2_with fail
      refine (HOF.out _ (by simpa [Hd, scv] using H2.out)).mono ?_
      rintro e w' ⟨⟨v, rfl⟩, h1, h2⟩
      have HH := Lib.hid h1
      have HK := Lib.hid h2
      clear h1 h2
      go_wp2_with fail
      go_ret
      exact ⟨by simp, by simpa [offS] using HH.out, ((Kt.set t 4 w _).trans (Kt.set t 3 _ _)).trans HK.out⟩
    · have hgt : 0 < armed - 1 := by omega
      go_enter Try.func24, Try.ntmps24
      go_wp2_with fail
      go_ret
      exact ⟨by simp, by simpa [Hd, scv, ha0, ha1] using H2.out, (Kt.set t 4 w _).trans (Kt.set t 3 _ _)⟩

theorem arm_any (n : Int) (w : World) (t m : Nat) (s : Sc) (h : Hd w t m s) :
    Calls Try.prog 10 #[.pointer (some ⟨t, 0, none⟩), .int .i64 n] w fun e w' => (∃ v, e = .returned v) ∧ Hd w' t m { s with armed := max n 0 } ∧ Kt t w w' := by
  obtain ⟨room, down, armed, acts, life⟩ := s
  have f3 := Blk.free (i := 3) h
  have c3 : w.cell? ⟨t, 3, none⟩ = some (.int .i64 armed) := Blk.cell h rfl
  have HB := Lib.hid h
  clear h
  go_enter Try.func10, Try.ntmps10
  go_wp2_with fail
  all_goals go_end0
  · rw [show max n 0 = 0 by omega]
    exact ⟨⟨_, rfl⟩, by simpa [Hd, scv] using Blk.set (i := 3) HB.out (.int .i64 0), Kt.set t 3 w _⟩
  · rw [show max n 0 = n by omega]
    exact ⟨⟨_, rfl⟩, by simpa [Hd, scv] using Blk.set (i := 3) HB.out (.int .i64 n), Kt.set t 3 w _⟩

theorem down_nil (w : World) : Calls Try.prog 16 #[.pointer none] w fun e w' => e = .returned (.bool true) ∧ w = w' := by
  go_enter Try.func16, Try.ntmps16
  go_wp2_with fail
  go_ret
  exact ⟨rfl, rfl⟩
theorem down_any (w : World) (t m : Nat) (s : Sc) (h : Hd w t m s) : Calls Try.prog 16 #[.pointer (some ⟨t, 0, none⟩)] w fun e w' => e = .returned (.bool s.down) ∧ w = w' := by
  have c2 : w.cell? ⟨t, 2, none⟩ = some (.bool s.down) := Blk.cell h rfl
  clear h
  go_enter Try.func16, Try.ntmps16
  go_wp2_with fail
  go_ret
  exact ⟨rfl, rfl⟩
theorem acts_any (w : World) (t m : Nat) (s : Sc) (h : Hd w t m s) : Calls Try.prog 20 #[.pointer (some ⟨t, 0, none⟩)] w fun e w' => e = .returned (.int .i64 s.acts) ∧ w = w' := by
  have c2 : w.cell? ⟨t, 4, none⟩ = some (.int .i64 s.acts) := Blk.cell h rfl
  clear h
  go_enter Try.func20, Try.ntmps20
  go_wp2_with fail
  go_ret
  exact ⟨rfl, rfl⟩
theorem life_any (w : World) (t m : Nat) (s : Sc) (h : Hd w t m s) : Calls Try.prog 21 #[.pointer (some ⟨t, 0, none⟩)] w fun e w' => e = .returned (.int .i64 s.life) ∧ w = w' := by
  have c2 : w.cell? ⟨t, 5, none⟩ = some (.int .i64 s.life) := Blk.cell h rfl
  clear h
  go_enter Try.func21, Try.ntmps21
  go_wp2_with fail
  go_ret
  exact ⟨rfl, rfl⟩

/-- find: the file of a name, if there is one. -/
theorem find_nil (k : Key) (w : World) : Calls Try.prog 25 #[.pointer none, .string ⟨k.toArray⟩] w fun e w' => e = .returned (.tuple #[.pointer none, .int .i64 2]) ∧ w = w' := by
  have HR := Lib.hid ready_nil
  go_enter Try.func25, Try.ntmps25
  go_wp2_with fail
  refine (HR.out _).mono ?_
  rintro e w' ⟨rfl, rfl⟩
  go_wp2_with fail
  go_ret2
  exact ⟨rfl, rfl⟩
theorem find_down (k : Key) (w : World) (t m : Nat) (s : Sc) (h : Hd w t m s) (hd : s.down = true) : Calls Try.prog 25 #[.pointer (some ⟨t, 0, none⟩), .string ⟨k.toArray⟩] w fun e w' => e = .returned (.tuple #[.pointer none, .int .i64 10]) ∧ w = w' := by
  have hr := ready_any w t m s h
  rw [show rdy s = 10 by simp [rdy, hd]] at hr
  have HR := Lib.hid hr
  clear hr h
  go_enter Try.func25, Try.ntmps25
  go_wp2_with fail
  refine HR.out.mono ?_
  rintro e w' ⟨rfl, rfl⟩
  go_wp2_with fail
  go_ret2
  exact ⟨rfl, rfl⟩
theorem find_none' (k : Key) (w : World) (t m : Nat) (E : List Ent) (s : Sc) (h : Tp w t m E s) (hd : s.down = false) (hk : k.length ≤ 1048576) (hm : k ∉ E.map (·.key)) :
    Calls Try.prog 25 #[.pointer (some ⟨t, 0, none⟩), .string ⟨k.toArray⟩] w fun e w' => e = .returned (.tuple #[.pointer none, .int .i64 12]) ∧ w = w' := by
  have hr := ready_any w t m s h.head
  rw [show rdy s = 0 by simp [rdy, hd]] at hr
  have HR := Lib.hid hr
  have c0 : w.cell? ⟨t, 0, none⟩ = some (.map (some m)) := Blk.cell h.head rfl
  have hlk := h.map.look_none (k := k) (by unfold maxLen; omega) (by rw [prs_keys]; exact hm)
  clear hr h hm hk
  go_enter Try.func25, Try.ntmps25
  go_wp2_with fail
  refine HR.out.mono ?_
  rintro e w' ⟨rfl, rfl⟩
  go_wp2_with fail
  go_ret2
  exact ⟨rfl, rfl⟩
theorem find_some (w : World) (t m : Nat) (e : Ent) (R : List Ent) (s : Sc) (h : Tp w t m (e :: R) s) (hd : s.down = false) :
    Calls Try.prog 25 #[.pointer (some ⟨t, 0, none⟩), .string ⟨e.key.toArray⟩] w fun x w' => x = .returned (.tuple #[.pointer (some ⟨e.j, 0, none⟩), .int .i64 0]) ∧ w = w' := by
  have hr := ready_any w t m s h.head
  rw [show rdy s = 0 by simp [rdy, hd]] at hr
  have HR := Lib.hid hr
  have c0 : w.cell? ⟨t, 0, none⟩ = some (.map (some m)) := Blk.cell h.head rfl
  have hk := (h.names e (by simp)).2
  have hlk := h.map.look (k := e.key) (j := e.j) (by rw [prs_keys]; exact h.keys) (by unfold maxLen; omega) (by simp [prs])
  generalize e.key = k at *
  generalize e.j = j at *
  clear hr h hk
  go_enter Try.func25, Try.ntmps25
  go_wp2_with fail
  refine HR.out.mono ?_
  rintro e w' ⟨rfl, rfl⟩
  go_wp2_with fail
  go_ret2
  exact ⟨rfl, rfl⟩
end Go.Proofs.Ytnenpcbofbcllaa
