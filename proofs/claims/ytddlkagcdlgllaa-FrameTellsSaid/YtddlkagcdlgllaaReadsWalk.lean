/- The walk of the law FrameReads. -/
import Derived.Test.YtddlkagcdlgllaaAwake
namespace Go.Proofs.Ytddlkagcdlgllaa
open Go.RowKit

/-- At every place both Nexts answer the same. -/
theorem nexts (s : ByteArray) (z : Int) (hs : s.size ≤ 1048576) : ∃ (Y : ByteArray) (Z E : Int),
    (∀ w, Calls Try.prog 15 #[.string s, .int .i64 z] w fun e w' => e = .returned (.tuple #[.string Y, .int .i64 Z, .int .i64 E]) ∧ Below w.heap.size w w') ∧
    (∀ w, Calls Try.prog 16 #[.string s, .int .i64 z] w fun e w' => e = .returned (.tuple #[.string Y, .int .i64 Z, .int .i64 E]) ∧ Below w.heap.size w w') := by
  by_cases hz : z < 0 ∨ (s.size : Int) < z
  · exact ⟨_, _, _, fun w => (next_out s z w hz).mono fun _ _ ⟨he, hw⟩ => ⟨he, hw ▸ Below.refl _ _⟩, fun w => (rnext_out s z w hz).mono fun _ _ ⟨he, hw⟩ => ⟨he, hw ▸ Below.refl _ _⟩⟩
  · obtain ⟨p, rfl⟩ : ∃ p : Nat, z = p := ⟨z.toNat, by omega⟩
    exact ⟨_, _, _, fun w => next_at s p w (by omega) hs, fun w => rnext_at s p w (by omega) hs⟩

theorem scan_few (n : Nat) (l : List UInt8) : (Pl.scanF n l).1.length ≤ n := by
  induction n generalizing l with
  | zero => simp [Pl.scanF]
  | succ n ih =>
    simp only [Pl.scanF]
    split
    · have := ih (l.drop (8 + (Pl.nx l).1.length))
      simp
      omega
    · simp
theorem scan_len (s : ByteArray) : (Pl.scan s.data.toList).1.length ≤ s.size + 1 := by
  have h := scan_few (s.data.toList.length + 1) s.data.toList
  rw [← Lib.size_eq] at h
  exact h

set_option maxHeartbeats 1000000 in
theorem reads_any (s : ByteArray) (z : Int) (w : World) :
    Calls Try.prog 4 #[.string s, .int .i64 z] w fun e w' => e = .returned (.bool true) ∧ Below w.heap.size w w' := by
  by_cases hs : 65536 < s.size
  · go_enter Try.func4, Try.ntmps4
    go_wp2_with fail
    refine (awake_any _).mono ?_
    rintro e w1 ⟨rfl, b1⟩
    go_wp2_with fail
    go_ret
    exact ⟨rfl, b1⟩
  · obtain ⟨Y, Z, E, N1, N2⟩ := nexts s z (by omega)
    have HN1 := Lib.hid N1
    have HN2 := Lib.hid N2
    have HS1 := Lib.hid (fun w => scan_any s w (by omega))
    have HS2 := Lib.hid (fun w => rscan_any s w (by omega))
    have HL := Lib.hid (show (Pl.scan s.data.toList).1.length ≤ 1099511627776 from Nat.le_trans (scan_len s) (by omega))
    clear N1 N2
    go_enter Try.func4, Try.ntmps4
    go_wp2_with fail
    refine (awake_any _).mono ?_
    rintro e w1 ⟨rfl, b1⟩
    go_wp2_with fail
    refine (HN1.out _).mono ?_
    rintro e w2 ⟨rfl, b2⟩
    have b12 := b1.trans (b2.mono b1.size)
    clear b1 b2
    go_wp2_with fail
    refine (HN2.out _).mono ?_
    rintro e w3 ⟨rfl, b3⟩
    have b13 := b12.trans (b3.mono b12.size)
    clear b12 b3
    go_wp2_with fail
    refine (HS1.out _).mono ?_
    rintro e w4 ⟨v1, rfl, o4, b4⟩
    have b14 := b13.trans (b4.mono b13.size)
    have R4 := readable_own o4
    clear b13 b4 o4
    generalize hT : Pl.scan s.data.toList = T at *
    obtain ⟨ts, k⟩ := T
    have HR4 := Lib.hid R4
    have HT := Lib.hid hT
    clear R4 hT
    go_wp2_with fail
    refine (HS2.out _).mono ?_
    rintro e w5 ⟨v2, rfl, o5, b5⟩
    rw [HT.out] at o5 ⊢
    have R5 := readable_own o5
    have HR5 := Lib.hid R5
    have HR6 := Lib.hid (HR4.out.below b5)
    have b15 := b14.trans (b5.mono b14.size)
    clear R5 o5 b5 b14
    go_wp2_with fail
    refine (same_true _ _ ts _ HR6.out HR5.out HL.out).mono ?_
    rintro e w6 ⟨rfl, b6⟩
    have b16 := b15.trans (b6.mono b15.size)
    clear b15 b6
    go_wp2_with fail
    go_ret
    exact ⟨rfl, b16⟩
end Go.Proofs.Ytddlkagcdlgllaa
