/- THE CONTRACT OF the document's Scan. -/
import Derived.Test.YtddlkagcdlgllaaScan
namespace Go.Proofs.Ytddlkagcdlgllaa
open Go.RowKit

theorem known_below {s : ByteArray} {w w' w1 : World} {p : Nat} {ts : List (List UInt8)} {v : Value} (h : Known s w p ts v w') (b1 : Below w'.heap.size w' w1) : Known s w p ts v w1 :=
  ⟨h.1, h.2.1, h.2.2.1, own_below h.2.2.2.1 b1, h.2.2.2.2.trans (b1.mono h.2.2.2.2.size)⟩
theorem known_made (s : ByteArray) (w : World) : Known s w 0 [] (.slice (some ⟨w.heap.size, 0, none⟩) 0 0) (w.alloc (.cells #[] 9)) :=
  ⟨Nat.zero_le _, Nat.zero_le _, by simp, ⟨by simp [strs], .inr ⟨w.heap.size, 0, #[], rfl, Nat.le_refl _, heap_alloc_new w _, Nat.le_refl _, Nat.zero_le _, by simp, by simp [strs]⟩⟩, (Below.refl _ _).alloc (Nat.le_refl _) _⟩
/-- What holds ahead of each round. -/
def Ahead (s : ByteArray) (w : World) (v a b n e : Value) (wr : World) : Prop :=
  ∃ (p : Nat) (ts : List (List UInt8)), Known s w p ts v wr ∧ a = .int .i64 p ∧ b = .string ⟨(Pl.nx (s.data.toList.drop p)).1.toArray⟩ ∧ n = .int .i64 (Pl.next s.data.toList p).2.1 ∧ e = .int .i64 ((Pl.nx (s.data.toList.drop p)).2 : Nat)
theorem rnext_told (s : ByteArray) (p : Nat) (w : World) (hp : p ≤ s.size) (hs : s.size ≤ 1048576) :
    Calls Try.prog 16 #[.string s, .int .i64 p] w fun e w' => e = .returned (.tuple #[.string ⟨(Pl.nx (s.data.toList.drop p)).1.toArray⟩, .int .i64 (Pl.next s.data.toList p).2.1, .int .i64 ((Pl.nx (s.data.toList.drop p)).2 : Nat)]) ∧ Below w.heap.size w w' :=
  rnext_at s p w hp hs

set_option maxHeartbeats 1000000 in
set_option maxRecDepth 100000 in
theorem rscan_any (s : ByteArray) (w : World) (hs : s.size ≤ 1048576) :
    Calls Try.prog 18 #[.string s] w (Scanned s w) := by
  have N := fun wx => rnext_told s 0 wx (Nat.zero_le _) hs
  have HN := Lib.hid N
  obtain ⟨y0, hy0⟩ : ∃ y, (⟨(Pl.nx (s.data.toList.drop 0)).1.toArray⟩ : ByteArray) = y := ⟨_, rfl⟩
  obtain ⟨n0, hn0⟩ : ∃ n, (Pl.next s.data.toList (0 : Nat)).2.1 = n := ⟨_, rfl⟩
  obtain ⟨k0, hk0⟩ : ∃ k, (Pl.nx (s.data.toList.drop 0)).2 = k := ⟨_, rfl⟩
  rw [hy0, hn0, hk0] at N
  have HY0 := Lib.hid hy0
  have HN0 := Lib.hid hn0
  have HK0 := Lib.hid hk0
  have HC := Lib.hid N
  clear N hy0 hn0 hk0
  go_enter Try.func18, Try.ntmps18
  go_wp2_with fail
  refine (HC.out _).mono ?_
  rintro e w1 ⟨rfl, b1⟩
  have HK := Lib.hid (known_below (known_made s w) b1)
  clear b1
  go_wp2_with fail
  go_loopw [4, 5, 6, 7, 8] (fun v a b n e wr => Ahead s w v a b n e wr) (fun _ a _ _ _ _ => s.size - (intOf a).toNat)
  case atStart => exact ⟨0, [], HK.out, rfl, by rw [← HY0.out], by rw [← HN0.out], by rw [← HK0.out]⟩
  case round =>
    obtain ⟨p, ts, hK, rfl, rfl, rfl, rfl⟩ := hrel
    have HK' := Lib.hid hK
    clear hK HK HC HY0 HN0 HK0
    by_cases hz : (Pl.nx (s.data.toList.drop p)).2 = 0
    · have hq := known_room HK'.out hz
      have hpl := next_place (s := s) HK'.out.1
      rw [if_pos hz] at hpl
      rw [hz, hpl]
      obtain ⟨y, hy⟩ : ∃ y, (Pl.nx (s.data.toList.drop p)).1 = y := ⟨_, rfl⟩
      rw [hy] at hq ⊢
      have ep : (p : Int) + 8 + (y.length : Int) = ((p + 8 + y.length : Nat) : Int) := by omega
      rw [ep]
      obtain ⟨p', hp'⟩ : ∃ p', p + 8 + y.length = p' := ⟨_, rfl⟩
      rw [hp'] at hq ⊢
      have HP := Lib.hid hp'
      have HY := Lib.hid hy
      have HZ := Lib.hid hz
      obtain ⟨i0, hi, hz0, hz1, hz2⟩ := infoStr
      have HO := Lib.hid HK'.out.2.2.2.1
      have hB := HK'.out.2.2.2.2.size
      have HN' := Lib.hid (fun wx => rnext_told s p' wx hq hs)
      clear hy hz hpl ep hp'
      go_wp2_with (at_builtin; refine wpList_append_own _ rfl _ _ 31 rfl w.heap.size 9 i0 (.string ByteArray.empty) 1 16 Try.underlying31 hi hz0 hz1 hz2 rfl (by decide) _ _ _ rfl (HO.out.alloc _) ⟨wr.heap.size, 0, none⟩ 1 1 [.string ⟨y.toArray⟩] rfl rfl ?c1 ?c2 ?c3 ?c4 ?c5 ?_)
      case c1 =>
        intro j u hj
        match j, hj with
        | 0, hj => simp at hj; subst hj; simp [Addr.add]
      case c2 => intro u hu; simp at hu; subst hu; rfl
      case c3 => unfold maxLen; have := HK'.out.2.1; have := HP.out; omega
      case c4 => have := HK'.out.2.1; have := HP.out; omega
      case c5 => simp; omega
      intro v' w2 hown2 hgrow _
      have HS := Lib.hid (known_step HK'.out HY.out HZ.out (Below.refl _ _) _ hown2 hgrow)
      clear hown2 hgrow hi hz0 hz1 hz2
      go_wp2_with fail
      refine (HN'.out _).mono ?_
      rintro e w3 ⟨rfl, b3⟩
      have HK3 := Lib.hid (known_below HS.out b3)
      clear b3
      go_wp2_with fail
      go_roundw
      case rel => exact ⟨p', _, by rw [← HP.out]; exact HK3.out, rfl, rfl, rfl, rfl⟩
      case measure => simp [intOf]; have := HP.out; omega
    · obtain ⟨k, hk⟩ : ∃ k : Nat, (Pl.nx (s.data.toList.drop p)).2 = k := ⟨_, rfl⟩
      have HZ := Lib.hid hz
      rw [hk] at hz ⊢
      have hz2 : ((k : Int) == 0) = false := by rw [beq_eq_false_iff_ne]; omega
      clear hk hz
      go_wp2_with fail
      go_ret2
      exact known_end HK'.out HZ.out (Below.refl _ _)
end Go.Proofs.Ytddlkagcdlgllaa
