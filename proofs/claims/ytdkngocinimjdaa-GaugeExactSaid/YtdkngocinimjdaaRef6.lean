/- THE CONTRACT OF the document's Over. -/
import Derived.Test.YtdkngocinimjdaaRef5
namespace Go.Proofs.Ytdkngocinimjdaa
open Go.RowKit

theorem second_of (a b : Int) (w : World) : (Instr.field 39 (.agg #[.int .i64 a, .int .i64 b]) 1).run Try.prog w = .ok (.int .i64 b) w := by kernel_rfl

set_option maxHeartbeats 1000000 in
set_option maxRecDepth 100000 in
theorem rover_any (most : Int) (w : World) (g : Nat) (gb : Option Nat) (L : List P2) (h : Ru w g gb L) (hok : ∀ p ∈ L, Ok p) (hl : L.length ≤ 4096) :
    Calls Try.prog 19 #[.pointer (some ⟨g, 0, none⟩), .int .i64 most] w fun e w' => (∃ n : Nat, e = .returned (.int .i64 n) ∧ OverSays L most n) ∧ Below w.heap.size w w' := by
  obtain ⟨v, h1, h2⟩ := h.lies
  obtain ⟨ao, cap, rfl, hc, -⟩ := h2.make
  obtain ⟨N, hN⟩ : ∃ N, L.length = N := ⟨_, rfl⟩
  have HC := Lib.hid (fun (i : Int) (wx : World) (hx : Below w.heap.size w wx) => rahead_any i wx g gb L (h.below hx) hok hl)
  have C1 := HC.out N w (Below.refl _ _)
  have C2 := fun (k : Nat) (wx : World) (hx : Below w.heap.size w wx) => HC.out k wx hx
  simp only [Int.toNat_natCast] at C1 C2
  rw [List.take_of_length_le (by omega)] at C1
  have hT := tot_drop_le L 0 hok hl
  rw [List.drop_zero] at hT
  have hbk := fun k => tot_take_le L k hok hl
  have hsp := fun k => tot_split L k
  rw [hN] at h1 h2 hc hl
  have c0 := h1.cell (i := 0) rfl
  obtain ⟨T, hTe⟩ : ∃ T, (tot L).2 = T := ⟨_, rfl⟩
  rw [hTe] at hT C1
  have H1 := Lib.hid h1
  have HN := Lib.hid hN
  have HBK := Lib.hid hbk
  have HSP := Lib.hid hsp
  have HT := Lib.hid hTe
  have HC1 := Lib.hid C1
  have HC2 := Lib.hid C2
  clear h h1 h2 hN hok hbk hsp hTe C1 C2 HC
  have hfd := second_of
  go_enter Try.func19, Try.ntmps19
  go_wp2_with fail
  refine HC1.out.mono ?_
  rintro e w1 ⟨rfl, b1⟩
  have HW1 := Lib.hid b1
  clear b1 c0 HC1
  go_wp2_with fail
  go_loopw [6] (fun iv wr => ∃ k : Nat, (k < N ∨ (N = 0 ∧ k = 0)) ∧ iv = .int .i64 k ∧ Below w.heap.size w wr ∧ ∀ j, j < k → most < (tot (L.drop j)).2) (fun iv _ => N - (intOf iv).toNat)
  case atStart => exact ⟨0, by omega, rfl, HW1.out, fun j hj => absurd hj (by omega)⟩
  case round =>
    obtain ⟨k, hk, rfl, hlow, hall⟩ := hrel
    have HA := Lib.hid hall
    have HL := Lib.hid hlow
    have c0 := (H1.out.below hlow).cell (i := 0) rfl
    clear hall hlow
    by_cases hlt : k < N
    · have C := HC2.out k _ HL.out
      have hb := HBK.out k
      have hs := HSP.out k
      obtain ⟨b, hbe⟩ : ∃ a, (tot (L.take k)).2 = a := ⟨_, rfl⟩
      rw [hbe] at C hb
      have hd : (tot (L.drop k)).2 = T - b := by
        have := congrArg Prod.snd hs
        rw [HT.out] at this
        simp only [add2] at this
        rw [hbe] at this
        omega
      have HD := Lib.hid hd
      have HCC := Lib.hid C
      clear C hs hbe hd
      go_wp2_with fail
      refine HCC.out.mono ?_
      rintro e w2 ⟨rfl, b2⟩
      have HL2 := Lib.hid (HL.out.trans (b2.mono HL.out.size))
      have c0' := (H1.out.below HL2.out).cell (i := 0) rfl
      clear b2 HCC c0
      by_cases hle : T - b ≤ most
      · go_wp2_with fail
        go_ret
        refine ⟨⟨k, rfl, fun hL => ?_, fun _ => ⟨by rw [HN.out]; exact hlt, .inl (by rw [HD.out]; exact hle)⟩, HA.out⟩, HL2.out⟩
        have := HN.out
        rw [hL] at this
        simp at this
        omega
      · by_cases hke : k + 1 = N
        · have hke' : ((k : Int) == (N : Int) - 1) = true := by simp; omega
          go_wp2_with fail
          go_ret
          refine ⟨⟨k, rfl, fun hL => ?_, fun _ => ⟨by rw [HN.out]; exact hlt, .inr (by rw [HN.out]; exact hke)⟩, HA.out⟩, HL2.out⟩
          have := HN.out
          rw [hL] at this
          simp at this
          omega
        · have hke' : ((k : Int) == (N : Int) - 1) = false := by simp; omega
          go_wp2_with fail
          go_roundw
          case rel =>
            refine ⟨k + 1, by omega, by go_num, HL2.out, fun j hj => ?_⟩
            rcases Nat.lt_or_ge j k with h | h
            · exact HA.out j h
            · obtain rfl : j = k := by omega
              rw [HD.out]; omega
          case measure => simp [intOf]; omega
    · obtain ⟨rfl, rfl⟩ : N = 0 ∧ k = 0 := by omega
      go_wp2_with fail
      go_ret
      exact ⟨⟨0, rfl, fun _ => rfl, fun hL => absurd (List.length_eq_zero_iff.1 HN.out) hL, fun j hj => absurd hj (by omega)⟩, HL.out⟩

/-- What Over answers is one number. -/
theorem over_one {L : List P2} {most : Int} {n m : Nat} (h1 : OverSays L most n) (h2 : OverSays L most m) : n = m := by
  by_cases hL : L = []
  · rw [h1.1 hL, h2.1 hL]
  · obtain ⟨a1, a2⟩ := h1.2.1 hL
    obtain ⟨b1, b2⟩ := h2.2.1 hL
    rcases Nat.lt_trichotomy n m with h | h | h
    · have := h2.2.2 n h
      rcases a2 with a2 | a2
      · omega
      · omega
    · exact h
    · have := h1.2.2 m h
      rcases b2 with b2 | b2
      · omega
      · omega
end Go.Proofs.Ytdkngocinimjdaa
