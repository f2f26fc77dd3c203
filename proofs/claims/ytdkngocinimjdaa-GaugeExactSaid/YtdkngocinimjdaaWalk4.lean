/- THE CONTRACTS OF gauge's Ahead, Over. -/
import Derived.Test.YtdkngocinimjdaaWalk3
namespace Go.Proofs.Ytdkngocinimjdaa
open Go.RowKit
attribute [local go_sem] run_store_complex

theorem ahead_nil (i : Int) (w : World) :
    Calls Try.prog 25 #[.pointer none, .int .i64 i] w fun e w' => e = .returned (.complex .f64 0 0) ∧ w = w' := by
  go_enter Try.func25, Try.ntmps25
  go_wp2
  go_ret
  exact ⟨rfl, rfl⟩
theorem over_nil (i : Int) (w : World) :
    Calls Try.prog 18 #[.pointer none, .int .i64 i] w fun e w' => e = .returned (.int .i64 0) ∧ w = w' := by
  go_enter Try.func18, Try.ntmps18
  go_wp2
  go_ret
  exact ⟨rfl, rfl⟩

theorem tot_take_succ {L : List P2} {k : Nat} {p : P2} (h : L[k]? = some p) : tot (L.take (k + 1)) = add2 (tot (L.take k)) p := by
  rw [List.take_add_one, h]
  exact tot_snoc _ _
theorem tot_take_le (L : List P2) (k : Nat) (h : ∀ p ∈ L, Ok p) (hl : L.length ≤ 4096) : 0 ≤ (tot (L.take k)).1 ∧ (tot (L.take k)).1 ≤ 4503599627370496 ∧ 0 ≤ (tot (L.take k)).2 ∧ (tot (L.take k)).2 ≤ 4503599627370496 := by
  have := tot_bound (L.take k) (fun p hp => h p (List.mem_of_mem_take hp))
  have hk : (L.take k).length ≤ 4096 := by rw [List.length_take]; omega
  omega
theorem tot_drop_le (L : List P2) (k : Nat) (h : ∀ p ∈ L, Ok p) (hl : L.length ≤ 4096) : 0 ≤ (tot (L.drop k)).1 ∧ (tot (L.drop k)).1 ≤ 4503599627370496 ∧ 0 ≤ (tot (L.drop k)).2 ∧ (tot (L.drop k)).2 ≤ 4503599627370496 := by
  have := tot_bound (L.drop k) (fun p hp => h p (List.mem_of_mem_drop hp))
  have hk : (L.drop k).length ≤ 4096 := by rw [List.length_drop]; omega
  omega
theorem tot_split (L : List P2) (k : Nat) : tot L = add2 (tot (L.take k)) (tot (L.drop k)) := by
  rw [← tot_append, List.take_append_drop]
theorem tot_drop {L : List P2} {k : Nat} {p : P2} (h : L[k]? = some p) : tot (L.drop k) = add2 p (tot (L.drop (k + 1))) := by
  obtain ⟨hk, hp⟩ := List.getElem?_eq_some_iff.1 h
  rw [List.drop_eq_getElem_cons hk, hp]; rfl

/-- Two complex numbers whose parts stand for whole numbers, added. -/
theorem complex_add {a b x y : Nat} {p q : P2} (ha : Fl.Is a p.1) (hb : Fl.Is b p.2) (hx : Fl.Is x q.1) (hy : Fl.Is y q.2) (h1 : (p.1 + q.1).natAbs < 2 ^ 53) (h2 : (p.2 + q.2).natAbs < 2 ^ 53) :
    ∃ r s, (∀ w, (binOp .add 33 (.complex .f64 a b) (.complex .f64 x y)).run Try.prog w = .ok (.complex .f64 r s) w) ∧ Fl.Is r (add2 p q).1 ∧ Fl.Is s (add2 p q).2 := by
  obtain ⟨r, hr, ir⟩ := Fl.add_is ha hx h1
  obtain ⟨s, hs, is⟩ := Fl.add_is hb hy h2
  exact ⟨r, s, fun w => run_complex_sum w .add (.inl rfl) _ _ _ _ _ _ _ _ (by unfold cSumBits; simp only [floatBits]; rw [show FloatKind.f64.format = Ieee.double from rfl, hr, hs]; rfl), ir, is⟩
theorem complex_sub {a b x y : Nat} {p q : P2} (ha : Fl.Is a p.1) (hb : Fl.Is b p.2) (hx : Fl.Is x q.1) (hy : Fl.Is y q.2) (h1 : (p.1 - q.1).natAbs < 2 ^ 53) (h2 : (p.2 - q.2).natAbs < 2 ^ 53) :
    ∃ r s, (∀ w, (binOp .sub 33 (.complex .f64 a b) (.complex .f64 x y)).run Try.prog w = .ok (.complex .f64 r s) w) ∧ Fl.Is r (sub2 p q).1 ∧ Fl.Is s (sub2 p q).2 := by
  obtain ⟨r, hr, ir⟩ := Fl.sub_is ha hx h1
  obtain ⟨s, hs, is⟩ := Fl.sub_is hb hy h2
  exact ⟨r, s, fun w => run_complex_sum w .sub (.inr rfl) _ _ _ _ _ _ _ _ (by unfold cSumBits; simp only [floatBits]; rw [show FloatKind.f64.format = Ieee.double from rfl, hr, hs]; rfl), ir, is⟩

set_option maxHeartbeats 1000000 in
theorem ahead_mid (w : World) (g : Nat) (gb : Option Nat) (L : List P2) (h : Rw w g gb L) (m : Nat) (hm : m ≤ L.length) :
    Calls Try.prog 25 #[.pointer (some ⟨g, 0, none⟩), .int .i64 m] w fun e w' => (∃ v, e = .returned v ∧ CV v (tot (L.take (m)))) ∧ Below w.heap.size w w' := by
  obtain ⟨v, a, b, xs, h1, h2, h3, h4, h5⟩ := h.lies
  obtain ⟨ao, cap, rfl, hc, hsome⟩ := h2.make
  have c0 := h1.cell (i := 0) rfl
  obtain ⟨N, hN⟩ : ∃ N, L.length = N := ⟨_, rfl⟩
  rw [hN] at c0 h2 hc hsome
  have HH := Lib.hid h
  have HS := Lib.hid h2
  have H5 := Lib.hid h5
  have HN := Lib.hid hN
  have HM := Lib.hid hsome
  have hfew : N ≤ 4096 := by have := h.few; omega
  have hmN : m ≤ N := by omega
  clear hm
  clear h h1 h2 h3 h4 h5 hsome hN
  go_enter Try.func25, Try.ntmps25
  go_wp2_with fail
  go_region
  go_wp2_with fail
  go_loop [5, 24] (fun sv iv => ∃ (k x y : Nat), k ≤ m ∧ iv = .int .i64 k ∧ sv = .complex .f64 x y ∧ Fl.Is x (tot (L.take k)).1 ∧ Fl.Is y (tot (L.take k)).2) (fun _ iv => m - (intOf iv).toNat)
  case atStart => exact ⟨0, 0, 0, Nat.zero_le _, rfl, rfl, is_zero, is_zero⟩
  case round =>
    obtain ⟨k, x, y, hk, rfl, rfl, hx, hy⟩ := hrel
    by_cases hlt : k < m
    · obtain ⟨B, q, rfl, -⟩ := HM.out (by omega)
      obtain ⟨o, ho⟩ : ∃ o, L[k]? = some o := ⟨_, List.getElem?_eq_getElem (by rw [HN.out]; omega)⟩
      obtain ⟨x0, hx0, x1, y1, rfl, ix1, iy1⟩ := H5.out k o ho
      have cx := HS.out.cell rfl k _ hx0
      have hbt := tot_take_le L k HH.out.ok HH.out.few
      have hok := HH.out.ok o (List.mem_of_getElem? ho)
      unfold Ok at hok
      obtain ⟨r, s, hadd, ir, is⟩ := complex_add hx hy ix1 iy1 (by omega) (by omega)
      rw [← tot_take_succ ho] at ir is
      have HI := Lib.hid (And.intro ir is)
      clear ho hx0 ix1 iy1 hbt hok hx hy ir is
      go_wp2_with fail
      go_round
      case rel => exact ⟨k + 1, r, s, by omega, by go_num, rfl, HI.out⟩
      case measure => simp [intOf]; omega
    · obtain rfl : k = m := by omega
      have HI := Lib.hid (And.intro hx hy)
      clear hx hy
      go_wp2_with fail
      go_ret
      exact ⟨⟨_, rfl, x, y, rfl, HI.out⟩, (Below.refl _ _).drew⟩

set_option maxHeartbeats 1000000 in
theorem ahead_low (w : World) (g : Nat) (gb : Option Nat) (L : List P2) (h : Rw w g gb L) (i : Int) (hi : i < 0) :
    Calls Try.prog 25 #[.pointer (some ⟨g, 0, none⟩), .int .i64 i] w fun e w' => (∃ v, e = .returned v ∧ CV v (tot (L.take (0)))) ∧ Below w.heap.size w w' := by
  obtain ⟨v, a, b, xs, h1, h2, h3, h4, h5⟩ := h.lies
  obtain ⟨ao, cap, rfl, hc, hsome⟩ := h2.make
  have c0 := h1.cell (i := 0) rfl
  obtain ⟨N, hN⟩ : ∃ N, L.length = N := ⟨_, rfl⟩
  rw [hN] at c0 h2 hc hsome
  have HH := Lib.hid h
  have HS := Lib.hid h2
  have H5 := Lib.hid h5
  have HN := Lib.hid hN
  have HM := Lib.hid hsome
  have hfew : N ≤ 4096 := by have := h.few; omega
  clear h h1 h2 h3 h4 h5 hsome hN
  go_enter Try.func25, Try.ntmps25
  go_wp2_with fail
  go_region
  go_wp2_with fail
  go_loop [5, 24] (fun sv iv => ∃ (k x y : Nat), k ≤ 0 ∧ iv = .int .i64 k ∧ sv = .complex .f64 x y ∧ Fl.Is x (tot (L.take k)).1 ∧ Fl.Is y (tot (L.take k)).2) (fun _ iv => 0 - (intOf iv).toNat)
  case atStart => exact ⟨0, 0, 0, Nat.zero_le _, rfl, rfl, is_zero, is_zero⟩
  case round =>
    obtain ⟨k, x, y, hk, rfl, rfl, hx, hy⟩ := hrel
    obtain rfl : k = 0 := by omega
    have HI := Lib.hid (And.intro hx hy)
    clear hx hy
    go_wp2_with fail
    go_ret
    exact ⟨⟨_, rfl, x, y, rfl, HI.out⟩, (Below.refl _ _).drew⟩

set_option maxHeartbeats 1000000 in
theorem ahead_high (w : World) (g : Nat) (gb : Option Nat) (L : List P2) (h : Rw w g gb L) (i : Int) (hi : (L.length : Int) < i) :
    Calls Try.prog 25 #[.pointer (some ⟨g, 0, none⟩), .int .i64 i] w fun e w' => (∃ v, e = .returned v ∧ CV v (tot (L.take L.length))) ∧ Below w.heap.size w w' := by
  obtain ⟨v, a, b, xs, h1, h2, h3, h4, h5⟩ := h.lies
  obtain ⟨ao, cap, rfl, hc, hsome⟩ := h2.make
  have c0 := h1.cell (i := 0) rfl
  obtain ⟨N, hN⟩ : ∃ N, L.length = N := ⟨_, rfl⟩
  rw [hN] at c0 h2 hc hsome
  have HH := Lib.hid h
  have HS := Lib.hid h2
  have H5 := Lib.hid h5
  have HN := Lib.hid hN
  have HM := Lib.hid hsome
  have hfew : N ≤ 4096 := by have := h.few; omega
  rw [hN] at hi
  clear h h1 h2 h3 h4 h5 hsome hN
  go_enter Try.func25, Try.ntmps25
  go_wp2_with fail
  go_region
  go_wp2_with fail
  go_loop [5, 24] (fun sv iv => ∃ (k x y : Nat), k ≤ N ∧ iv = .int .i64 k ∧ sv = .complex .f64 x y ∧ Fl.Is x (tot (L.take k)).1 ∧ Fl.Is y (tot (L.take k)).2) (fun _ iv => N - (intOf iv).toNat)
  case atStart => exact ⟨0, 0, 0, Nat.zero_le _, rfl, rfl, is_zero, is_zero⟩
  case round =>
    obtain ⟨k, x, y, hk, rfl, rfl, hx, hy⟩ := hrel
    by_cases hlt : k < N
    · obtain ⟨B, q, rfl, -⟩ := HM.out (by omega)
      obtain ⟨o, ho⟩ : ∃ o, L[k]? = some o := ⟨_, List.getElem?_eq_getElem (by rw [HN.out]; omega)⟩
      obtain ⟨x0, hx0, x1, y1, rfl, ix1, iy1⟩ := H5.out k o ho
      have cx := HS.out.cell rfl k _ hx0
      have hbt := tot_take_le L k HH.out.ok HH.out.few
      have hok := HH.out.ok o (List.mem_of_getElem? ho)
      unfold Ok at hok
      obtain ⟨r, s, hadd, ir, is⟩ := complex_add hx hy ix1 iy1 (by omega) (by omega)
      rw [← tot_take_succ ho] at ir is
      have HI := Lib.hid (And.intro ir is)
      clear ho hx0 ix1 iy1 hbt hok hx hy ir is
      go_wp2_with fail
      go_round
      case rel => exact ⟨k + 1, r, s, by omega, by go_num, rfl, HI.out⟩
      case measure => simp [intOf]; omega
    · obtain rfl : k = N := by omega
      have HI := Lib.hid (And.intro hx hy)
      clear hx hy
      go_wp2_with fail
      go_ret
      exact ⟨⟨_, rfl, x, y, rfl, by have h := HI.out; rw [List.take_of_length_le (by rw [HN.out]; omega)] at h; simpa using h⟩, (Below.refl _ _).drew⟩

theorem ahead_any (i : Int) (w : World) (g : Nat) (gb : Option Nat) (L : List P2) (h : Rw w g gb L) :
    Calls Try.prog 25 #[.pointer (some ⟨g, 0, none⟩), .int .i64 i] w fun e w' => (∃ v, e = .returned v ∧ CV v (tot (L.take i.toNat))) ∧ Below w.heap.size w w' := by
  by_cases h0 : i < 0
  · have := ahead_low w g gb L h i h0
    rwa [show i.toNat = 0 by omega]
  · by_cases h1 : (L.length : Int) < i
    · have := ahead_high w g gb L h i h1
      rw [List.take_of_length_le (Nat.le_refl _)] at this
      rwa [List.take_of_length_le (by omega)]
    · have := ahead_mid w g gb L h i.toNat (by omega)
      rwa [show ((i.toNat : Nat) : Int) = i by omega] at this

/-- What Over answers. -/
def OverSays (L : List P2) (most : Int) (n : Nat) : Prop := (L = [] → n = 0) ∧ (L ≠ [] → n < L.length ∧ ((tot (L.drop n)).2 ≤ most ∨ n + 1 = L.length)) ∧ ∀ j, j < n → most < (tot (L.drop j)).2

set_option maxHeartbeats 1000000 in
theorem over_any (most : Int) (w : World) (g : Nat) (gb : Option Nat) (L : List P2) (h : Rw w g gb L) :
    Calls Try.prog 18 #[.pointer (some ⟨g, 0, none⟩), .int .i64 most] w fun e w' => (∃ n : Nat, e = .returned (.int .i64 n) ∧ OverSays L most n) ∧ w = w' := by
  obtain ⟨v, a, b, xs, h1, h2, h3, h4, h5⟩ := h.lies
  obtain ⟨ao, cap, rfl, hc, hsome⟩ := h2.make
  have c0 := h1.cell (i := 0) rfl
  have c1 := h1.cell (i := 1) rfl
  obtain ⟨N, hN⟩ : ∃ N, L.length = N := ⟨_, rfl⟩
  rw [hN] at c0 h2 hc hsome
  have HH := Lib.hid h
  have HS := Lib.hid h2
  have H5 := Lib.hid h5
  have HN := Lib.hid hN
  have HM := Lib.hid hsome
  have H34 := Lib.hid (And.intro h3 h4)
  have hfew : N ≤ 4096 := by have := h.few; omega
  clear h h1 h2 h3 h4 h5 hsome hN
  go_enter Try.func18, Try.ntmps18
  go_wp2_with fail
  go_loop [5, 19] (fun sv iv => ∃ (k x y : Nat), k ≤ N ∧ iv = .int .i64 k ∧ sv = .complex .f64 x y ∧ Fl.Is x (tot (L.drop k)).1 ∧ Fl.Is y (tot (L.drop k)).2 ∧ ∀ j, j < k → most < (tot (L.drop j)).2) (fun _ iv => N - (intOf iv).toNat)
  case atStart => exact ⟨0, a, b, Nat.zero_le _, rfl, rfl, H34.out.1, H34.out.2, fun j hj => absurd hj (by omega)⟩
  case round =>
    obtain ⟨k, x, y, hk, rfl, rfl, hx, hy, hall⟩ := hrel
    have HA := Lib.hid hall
    clear hall
    by_cases hlt : k < N
    · obtain ⟨B, q, rfl, -⟩ := HM.out (by omega)
      obtain ⟨o, ho⟩ : ∃ o, L[k]? = some o := ⟨_, List.getElem?_eq_getElem (by rw [HN.out]; omega)⟩
      obtain ⟨x0, hx0, x1, y1, rfl, ix1, iy1⟩ := H5.out k o ho
      have cx := HS.out.cell rfl k _ hx0
      have hbt := tot_drop_le L k HH.out.ok HH.out.few
      have hok := HH.out.ok o (List.mem_of_getElem? ho)
      unfold Ok at hok
      obtain ⟨r, s, hsub, ir, is⟩ := complex_sub hx hy ix1 iy1 (by omega) (by omega)
      have hd := tot_drop ho
      have e1 : sub2 (tot (L.drop k)) o = tot (L.drop (k + 1)) := by rw [hd]; simp only [sub2, add2]; ext <;> simp <;> omega
      rw [e1] at ir is
      obtain ⟨z, hz⟩ : ∃ z, (tot (L.drop k)).2 = z := ⟨_, rfl⟩
      rw [hz] at hy hbt
      have hcv : ∀ w, (convert 30 3 (.float .f64 y)).run Try.prog w = .ok (.int .i64 z) w := fun w => run_convert_float_int w _ _ _ _ _ _ (by rw [Try.underlying30]; rfl) Try.underlying3 (Fl.toIntVal_is hy (by omega))
      have HI := Lib.hid (And.intro ir is)
      have HZ := Lib.hid hz
      clear ho hx0 ix1 iy1 hbt hok hx hy ir is hd e1 hz
      by_cases hm : z ≤ most
      · go_wp2_with fail
        go_ret
        refine ⟨⟨k, rfl, fun hL => ?_, fun _ => ⟨by rw [HN.out]; exact hlt, .inl (by rw [HZ.out]; exact hm)⟩, HA.out⟩, rfl⟩
        have := HN.out
        rw [hL] at this
        simp at this
        omega
      · go_wp2_with fail
        go_round
        case rel =>
          refine ⟨k + 1, r, s, by omega, by go_num, rfl, HI.out.1, HI.out.2, fun j hj => ?_⟩
          rcases Nat.lt_or_ge j k with h | h
          · exact HA.out j h
          · obtain rfl : j = k := by omega
            rw [HZ.out]; omega
        case measure => simp [intOf]; omega
    · obtain rfl : k = N := by omega
      clear hx hy
      by_cases h0 : k = 0
      · subst h0
        go_wp2_with fail
        go_ret
        refine ⟨⟨0, rfl, fun _ => rfl, fun hL => absurd (List.length_eq_zero_iff.1 HN.out) hL, fun j hj => absurd hj (by omega)⟩, rfl⟩
      · obtain ⟨m, rfl⟩ : ∃ m, k = m + 1 := ⟨k - 1, by omega⟩
        go_wp2_with fail
        go_ret
        refine ⟨⟨m, rfl, fun hL => ?_, fun _ => ⟨by rw [HN.out]; omega, .inr (by rw [HN.out])⟩, fun j hj => HA.out j (by omega)⟩, rfl⟩
        have := HN.out
        rw [hL] at this
        simp at this
end Go.Proofs.Ytdkngocinimjdaa
