/- What the rows answer in every world that holds them. -/
import Derived.Test.YtdkngocinimjdaaRef7
namespace Go.Proofs.Ytdkngocinimjdaa
open Go.RowKit
attribute [local go_sem] run_store_complex

theorem sum_wide (w : World) (g : Nat) (gb : Option Nat) (L : List P2) (h : Rw w g gb L) :
    ∃ a b, Fl.Is a (tot L).1 ∧ Fl.Is b (tot L).2 ∧ ∀ wx : World, Below w.heap.size w wx → Calls Try.prog 23 #[.pointer (some ⟨g, 0, none⟩)] wx fun e w' => e = .returned (.complex .f64 a b) ∧ Below wx.heap.size wx w' := by
  obtain ⟨v, a, b, xs, h1, h2, h3, h4, h5⟩ := h.lies
  refine ⟨a, b, h3, h4, fun wx hwx => ?_⟩
  have c1 := (h1.below hwx).cell (i := 1) rfl
  clear h h1 h2 h3 h4 h5 hwx
  go_enter Try.func23, Try.ntmps23
  go_wp2
  go_ret
  exact ⟨rfl, Below.refl _ _⟩
theorem ahead_wide (w : World) (g : Nat) (gb : Option Nat) (L : List P2) (h : Rw w g gb L) (i : Int) :
    ∃ a b, Fl.Is a (tot (L.take i.toNat)).1 ∧ Fl.Is b (tot (L.take i.toNat)).2 ∧ ∀ wx : World, Below w.heap.size w wx → Calls Try.prog 25 #[.pointer (some ⟨g, 0, none⟩), .int .i64 i] wx fun e w' => e = .returned (.complex .f64 a b) ∧ Below wx.heap.size wx w' := by
  obtain ⟨v, a, b, xs, h1, h2, -, -, h5⟩ := h.lies
  have hw : Words (wordsOf xs) L := by
    intro k
    unfold wordsOf
    rcases hk : L[k]? with _ | p
    · have hx : xs[k]? = none := by
        rw [List.getElem?_eq_none_iff] at hk ⊢
        have := h2.1
        omega
      rw [hx]
      exact ⟨is_zero, is_zero⟩
    · obtain ⟨x, hx, c, d, rfl, hc, hd⟩ := h5 k p hk
      rw [hx]
      exact ⟨hc, hd⟩
  have hx : ∀ j, j < L.length → xs[j]? = some (.complex .f64 (wordsOf xs j).1 (wordsOf xs j).2) := by
    intro j hj
    obtain ⟨p, hp⟩ : ∃ p, L[j]? = some p := ⟨_, List.getElem?_eq_getElem hj⟩
    obtain ⟨x, hx, c, d, rfl, -, -⟩ := h5 j p hp
    unfold wordsOf
    rw [hx]
  have ha := fun k w => sums_add hw h.ok h.few k w
  have hs := sums_is hw h.ok h.few (min i.toNat L.length)
  have e1 : L.take (min i.toNat L.length) = L.take i.toNat := by
    rcases Nat.le_total i.toNat L.length with h | h
    · rw [Nat.min_eq_left h]
    · rw [Nat.min_eq_right h, List.take_of_length_le (Nat.le_refl _), List.take_of_length_le h]
  rw [e1] at hs
  refine ⟨_, _, hs.1, hs.2, fun wx hwx => ?_⟩
  have h1' := h1.below hwx
  have h2' : Sl wx v gb 33 1 L.length xs := h2.same (fun k hk => hwx.block k (h2.lt k hk))
  by_cases h0 : i < 0
  · rw [show min i.toNat L.length = 0 by omega]
    exact (exact_low wx g gb L.length v a b xs _ h1' h2' hx ha h.few i h0).mono fun _ _ ⟨he, hw⟩ => ⟨he, hw ▸ below_drew _⟩
  · by_cases h3 : (L.length : Int) < i
    · rw [show min i.toNat L.length = L.length by omega]
      exact (exact_high wx g gb L.length v a b xs _ h1' h2' hx ha h.few i h3).mono fun _ _ ⟨he, hw⟩ => ⟨he, hw ▸ below_drew _⟩
    · have := exact_mid wx g gb L.length v a b xs _ h1' h2' hx ha h.few i.toNat (by omega)
      rw [show ((i.toNat : Nat) : Int) = i by omega, show i.toNat = min i.toNat L.length by omega] at this
      exact this.mono fun _ _ ⟨he, hw⟩ => ⟨he, hw ▸ below_drew _⟩

/-- What the last lines of a round ask. -/
structure Asks (W : World) (g h : Nat) (N : Nat) (pl : Int) (a1 b1 a2 b2 : Nat) (T1 T2 U1 U2 : Int) : Prop where
  len : ∀ d os, Calls Try.prog 22 #[.pointer (some ⟨g, 0, none⟩)] (Sort.grow (redrawn W d) os) fun e w'' => e = .returned (.int .i64 N) ∧ ∃ p : Regrown, w'' = Sort.grow (redrawn W p.d) p.os
  sum : ∀ d os, Calls Try.prog 23 #[.pointer (some ⟨g, 0, none⟩)] (Sort.grow (redrawn W d) os) fun e w'' => e = .returned (.complex .f64 a1 b1) ∧ ∃ p : Regrown, w'' = Sort.grow (redrawn W p.d) p.os
  ahead : ∀ d os, Calls Try.prog 25 #[.pointer (some ⟨g, 0, none⟩), .int .i64 pl] (Sort.grow (redrawn W d) os) fun e w'' => e = .returned (.complex .f64 a2 b2) ∧ ∃ p : Regrown, w'' = Sort.grow (redrawn W p.d) p.os
  all : ∀ d os, Calls Try.prog 24 #[.pointer (some ⟨h, 0, none⟩), .int .i64 N] (Sort.grow (redrawn W d) os) fun e w'' => e = .returned (.agg #[.int .i64 T1, .int .i64 T2]) ∧ ∃ p : Regrown, w'' = Sort.grow (redrawn W p.d) p.os
  some_ : ∀ d os, Calls Try.prog 24 #[.pointer (some ⟨h, 0, none⟩), .int .i64 pl] (Sort.grow (redrawn W d) os) fun e w'' => e = .returned (.agg #[.int .i64 U1, .int .i64 U2]) ∧ ∃ p : Regrown, w'' = Sort.grow (redrawn W p.d) p.os
  cx : ∀ m n d os, Calls Try.prog 15 #[.agg #[.int .i64 m, .int .i64 n]] (Sort.grow (redrawn W d) os) fun e w'' => e = .returned (.complex .f64 (floatOfInt .f64 m) (floatOfInt .f64 n)) ∧ ∃ p : Regrown, w'' = Sort.grow (redrawn W p.d) p.os
  o1 : FloatKind.f64.format.order a1 (floatOfInt .f64 T1) = some .eq
  o2 : FloatKind.f64.format.order b1 (floatOfInt .f64 T2) = some .eq
  o3 : FloatKind.f64.format.order a2 (floatOfInt .f64 U1) = some .eq
  o4 : FloatKind.f64.format.order b2 (floatOfInt .f64 U2) = some .eq
theorem asks_of {w0 W : World} {g h : Nat} {gb hb xb : Option Nat} {cs : Array Value} {L : List P2} (s : St w0 W g gb h hb xb cs L L) (pl : Int) : ∃ a1 b1 a2 b2 T1 T2 U1 U2, Asks W g h L.length pl a1 b1 a2 b2 T1 T2 U1 U2 := by
  obtain ⟨a1, b1, i1, i2, hs⟩ := sum_wide W g gb L s.r
  obtain ⟨a2, b2, i3, i4, ha⟩ := ahead_wide W g gb L s.r pl
  have q := tot_take_le L L.length s.r.ok s.r.few
  rw [List.take_of_length_le (Nat.le_refl _)] at q
  have q2 := tot_take_le L pl.toNat s.r.ok s.r.few
  have hN := fun wx (hx : Below W.heap.size W wx) => rahead_any L.length wx h hb L (s.u.below hx) s.okM s.fewM
  simp only [Int.toNat_natCast, List.take_of_length_le (Nat.le_refl _)] at hN
  exact ⟨a1, b1, a2, b2, _, _, _, _,
    fun d os => Calls.regrown_of ((len_any _ g gb L (s.r.below (below_regrown W d os))).mono fun _ _ ⟨he, hw⟩ => ⟨he, hw ▸ Below.refl _ _⟩),
    fun d os => Calls.regrown_of (hs _ (below_regrown W d os)), fun d os => Calls.regrown_of (ha _ (below_regrown W d os)),
    fun d os => Calls.regrown_of (hN _ (below_regrown W d os)),
    fun d os => Calls.regrown_of (rahead_any pl _ h hb L (s.u.below (below_regrown W d os)) s.okM s.fewM),
    fun m n d os => Calls.regrown_of (rcomplex_any m n _),
    ord_is i1 (Fl.ofInt_is (by omega)), ord_is i2 (Fl.ofInt_is (by omega)), ord_is i3 (Fl.ofInt_is (by omega)), ord_is i4 (Fl.ofInt_is (by omega))⟩
end Go.Proofs.Ytdkngocinimjdaa
