/- What Ahead, Sum, Len answer, word for word, and that they only read. -/
import Derived.Test.YtdkngocinimjdaaGoing
import Derived.Test.YtdkngocinimjdaaQTail
namespace Go.Proofs.Ytdkngocinimjdaa
open Go.RowKit
attribute [local go_sem] run_store_complex

set_option maxHeartbeats 1000000 in
theorem exact_mid (w : World) (g : Nat) (gb : Option Nat) (N : Nat) (v : Value) (a b : Nat) (xs : List Value) (cs : Nat → Nat × Nat) (h1 : Blk w g #[v, .complex .f64 a b] 64) (h2 : Sl w v gb 33 1 N xs) (hx : ∀ j, j < N → xs[j]? = some (.complex .f64 (cs j).1 (cs j).2))
    (ha : ∀ k w, (binOp .add 33 (.complex .f64 (sums cs k).1 (sums cs k).2) (.complex .f64 (cs k).1 (cs k).2)).run Try.prog w = .ok (.complex .f64 (sums cs (k + 1)).1 (sums cs (k + 1)).2) w) (hfew : N ≤ 4096) (m : Nat) (hm : m ≤ N) :
    Calls Try.prog 25 #[.pointer (some ⟨g, 0, none⟩), .int .i64 m] w fun e w' => e = .returned (.complex .f64 (sums cs m).1 (sums cs m).2) ∧ w' = w.drew := by
  obtain ⟨ao, cap, rfl, hc, hsome⟩ := h2.make
  have c0 := h1.cell (i := 0) rfl
  have HS := Lib.hid h2
  have HX := Lib.hid hx
  have HA := Lib.hid ha
  have HM := Lib.hid hsome
  clear h1 h2 hx ha hsome
  go_enter Try.func25, Try.ntmps25
  go_wp2_with fail
  go_region
  go_wp2_with fail
  go_loop [5, 24] (fun sv iv => ∃ k : Nat, k ≤ m ∧ iv = .int .i64 k ∧ sv = .complex .f64 (sums cs k).1 (sums cs k).2) (fun _ iv => m - (intOf iv).toNat)
  case atStart => exact ⟨0, Nat.zero_le _, rfl, rfl⟩
  case round =>
    obtain ⟨k, hk, rfl, rfl⟩ := hrel
    by_cases hlt : k < m
    · obtain ⟨B, q, rfl, -⟩ := HM.out (by omega)
      have cx := HS.out.cell rfl k _ (HX.out k (by omega))
      have hadd := HA.out k
      obtain ⟨s1, hs1⟩ : ∃ s, (sums cs (k + 1)).1 = s := ⟨_, rfl⟩
      obtain ⟨s2, hs2⟩ : ∃ s, (sums cs (k + 1)).2 = s := ⟨_, rfl⟩
      rw [hs1, hs2] at hadd
      have HS12 := Lib.hid (And.intro hs1 hs2)
      clear hs1 hs2
      go_wp2_with fail
      go_round
      case rel => exact ⟨k + 1, by omega, by go_num, by rw [HS12.out.1, HS12.out.2]⟩
      case measure => simp [intOf]; omega
    · obtain rfl : k = m := by omega
      go_wp2_with fail
      go_ret
      exact ⟨rfl, rfl⟩

set_option maxHeartbeats 1000000 in
theorem exact_low (w : World) (g : Nat) (gb : Option Nat) (N : Nat) (v : Value) (a b : Nat) (xs : List Value) (cs : Nat → Nat × Nat) (h1 : Blk w g #[v, .complex .f64 a b] 64) (h2 : Sl w v gb 33 1 N xs) (hx : ∀ j, j < N → xs[j]? = some (.complex .f64 (cs j).1 (cs j).2))
    (ha : ∀ k w, (binOp .add 33 (.complex .f64 (sums cs k).1 (sums cs k).2) (.complex .f64 (cs k).1 (cs k).2)).run Try.prog w = .ok (.complex .f64 (sums cs (k + 1)).1 (sums cs (k + 1)).2) w) (hfew : N ≤ 4096) (i : Int) (hi : i < 0) :
    Calls Try.prog 25 #[.pointer (some ⟨g, 0, none⟩), .int .i64 i] w fun e w' => e = .returned (.complex .f64 (sums cs 0).1 (sums cs 0).2) ∧ w' = w.drew := by
  obtain ⟨ao, cap, rfl, hc, hsome⟩ := h2.make
  have c0 := h1.cell (i := 0) rfl
  have HS := Lib.hid h2
  have HX := Lib.hid hx
  have HA := Lib.hid ha
  have HM := Lib.hid hsome
  clear h1 h2 hx ha hsome
  go_enter Try.func25, Try.ntmps25
  go_wp2_with fail
  go_region
  go_wp2_with fail
  go_loop [5, 24] (fun sv iv => ∃ k : Nat, k ≤ 0 ∧ iv = .int .i64 k ∧ sv = .complex .f64 (sums cs k).1 (sums cs k).2) (fun _ iv => 0 - (intOf iv).toNat)
  case atStart => exact ⟨0, Nat.zero_le _, rfl, rfl⟩
  case round =>
    obtain ⟨k, hk, rfl, rfl⟩ := hrel
    obtain rfl : k = 0 := by omega
    go_wp2_with fail
    go_ret
    exact ⟨rfl, rfl⟩

set_option maxHeartbeats 1000000 in
theorem exact_high (w : World) (g : Nat) (gb : Option Nat) (N : Nat) (v : Value) (a b : Nat) (xs : List Value) (cs : Nat → Nat × Nat) (h1 : Blk w g #[v, .complex .f64 a b] 64) (h2 : Sl w v gb 33 1 N xs) (hx : ∀ j, j < N → xs[j]? = some (.complex .f64 (cs j).1 (cs j).2))
    (ha : ∀ k w, (binOp .add 33 (.complex .f64 (sums cs k).1 (sums cs k).2) (.complex .f64 (cs k).1 (cs k).2)).run Try.prog w = .ok (.complex .f64 (sums cs (k + 1)).1 (sums cs (k + 1)).2) w) (hfew : N ≤ 4096) (i : Int) (hi : (N : Int) < i) :
    Calls Try.prog 25 #[.pointer (some ⟨g, 0, none⟩), .int .i64 i] w fun e w' => e = .returned (.complex .f64 (sums cs N).1 (sums cs N).2) ∧ w' = w.drew := by
  obtain ⟨ao, cap, rfl, hc, hsome⟩ := h2.make
  have c0 := h1.cell (i := 0) rfl
  have HS := Lib.hid h2
  have HX := Lib.hid hx
  have HA := Lib.hid ha
  have HM := Lib.hid hsome
  clear h1 h2 hx ha hsome
  go_enter Try.func25, Try.ntmps25
  go_wp2_with fail
  go_region
  go_wp2_with fail
  go_loop [5, 24] (fun sv iv => ∃ k : Nat, k ≤ N ∧ iv = .int .i64 k ∧ sv = .complex .f64 (sums cs k).1 (sums cs k).2) (fun _ iv => N - (intOf iv).toNat)
  case atStart => exact ⟨0, Nat.zero_le _, rfl, rfl⟩
  case round =>
    obtain ⟨k, hk, rfl, rfl⟩ := hrel
    by_cases hlt : k < N
    · obtain ⟨B, q, rfl, -⟩ := HM.out (by omega)
      have cx := HS.out.cell rfl k _ (HX.out k (by omega))
      have hadd := HA.out k
      obtain ⟨s1, hs1⟩ : ∃ s, (sums cs (k + 1)).1 = s := ⟨_, rfl⟩
      obtain ⟨s2, hs2⟩ : ∃ s, (sums cs (k + 1)).2 = s := ⟨_, rfl⟩
      rw [hs1, hs2] at hadd
      have HS12 := Lib.hid (And.intro hs1 hs2)
      clear hs1 hs2
      go_wp2_with fail
      go_round
      case rel => exact ⟨k + 1, by omega, by go_num, by rw [HS12.out.1, HS12.out.2]⟩
      case measure => simp [intOf]; omega
    · obtain rfl : k = N := by omega
      go_wp2_with fail
      go_ret
      exact ⟨rfl, rfl⟩

/-- **Ahead, word for word.** -/
theorem ahead_exact (w : World) (g : Nat) (gb : Option Nat) (L : List P2) (h : Rw w g gb L) :
    ∃ cs, Words cs L ∧ ∀ (i : Int) (wx : World), wx.heap = w.heap → Calls Try.prog 25 #[.pointer (some ⟨g, 0, none⟩), .int .i64 i] wx fun e w' => e = .returned (.complex .f64 (sums cs (min i.toNat L.length)).1 (sums cs (min i.toNat L.length)).2) ∧ w' = wx.drew := by
  obtain ⟨v, a, b, xs, h1, h2, -, -, h5⟩ := h.lies
  have hw : Words (wordsOf xs) L := by
    intro k
    unfold wordsOf
    rcases hk : L[k]? with _ | p
    · have hx : xs[k]? = none := by
        rw [List.getElem?_eq_none_iff] at hk ⊢
        have := h2.1
        omega
      rw [hx]
      exact ⟨is_zero, is_zero⟩
    · obtain ⟨x, hx, c, d, rfl, hc, hd⟩ := h5 k p hk
      rw [hx]
      exact ⟨hc, hd⟩
  have hx : ∀ j, j < L.length → xs[j]? = some (.complex .f64 (wordsOf xs j).1 (wordsOf xs j).2) := by
    intro j hj
    obtain ⟨p, hp⟩ : ∃ p, L[j]? = some p := ⟨_, List.getElem?_eq_getElem hj⟩
    obtain ⟨x, hx, c, d, rfl, -, -⟩ := h5 j p hp
    unfold wordsOf
    rw [hx]
  have ha := fun k w => sums_add hw h.ok h.few k w
  refine ⟨wordsOf xs, hw, fun i wx hwx => ?_⟩
  have h1' : Blk wx g #[v, .complex .f64 a b] 64 := by unfold Blk at h1 ⊢; rw [hwx]; exact h1
  have h2' : Sl wx v gb 33 1 L.length xs := h2.same (fun k _ => by rw [hwx])
  by_cases h0 : i < 0
  · have := exact_low wx g gb L.length v a b xs _ h1' h2' hx ha h.few i h0
    rwa [show min i.toNat L.length = 0 by omega]
  · by_cases h3 : (L.length : Int) < i
    · have := exact_high wx g gb L.length v a b xs _ h1' h2' hx ha h.few i h3
      rwa [show min i.toNat L.length = L.length by omega]
    · have := exact_mid wx g gb L.length v a b xs _ h1' h2' hx ha h.few i.toNat (by omega)
      rwa [show ((i.toNat : Nat) : Int) = i by omega, show i.toNat = min i.toNat L.length by omega] at this
/-- Sum, word for word. -/
theorem sum_exact (w : World) (g : Nat) (gb : Option Nat) (L : List P2) (h : Rw w g gb L) :
    ∃ a b, Fl.Is a (tot L).1 ∧ Fl.Is b (tot L).2 ∧ ∀ wx : World, wx.heap = w.heap → Calls Try.prog 23 #[.pointer (some ⟨g, 0, none⟩)] wx fun e w' => e = .returned (.complex .f64 a b) ∧ w' = wx := by
  obtain ⟨v, a, b, xs, h1, h2, h3, h4, h5⟩ := h.lies
  refine ⟨a, b, h3, h4, fun wx hwx => ?_⟩
  have h1' : Blk wx g #[v, .complex .f64 a b] 64 := by unfold Blk at h1 ⊢; rw [hwx]; exact h1
  have c1 := h1'.cell (i := 1) rfl
  clear h h1 h2 h3 h4 h5 h1' hwx
  go_enter Try.func23, Try.ntmps23
  go_wp2
  go_ret
  exact ⟨rfl, rfl⟩
theorem len_exact (w : World) (g : Nat) (gb : Option Nat) (L : List P2) (h : Rw w g gb L) (wx : World) (hwx : wx.heap = w.heap) : Calls Try.prog 22 #[.pointer (some ⟨g, 0, none⟩)] wx fun e w' => e = .returned (.int .i64 L.length) ∧ w' = wx :=
  (len_any wx g gb L (h.same (by rw [hwx]) (fun k _ => by rw [hwx]))).mono fun _ _ ⟨he, hw⟩ => ⟨he, hw.symm⟩
end Go.Proofs.Ytdkngocinimjdaa
