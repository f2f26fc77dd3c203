/- Both rows beside each other; what each call does to them. -/
import Derived.Test.YtdkngocinimjdaaRef6
import Derived.Test.YtdkngocinimjdaaExact
import Derived.Lib.QuietBelow
namespace Go.Proofs.Ytdkngocinimjdaa
open Go.RowKit

/-- The program's row (g, gb) and the document's (h, hb), in blocks of the call's own; the box xb, if there is one. -/
structure St (w0 w : World) (g : Nat) (gb : Option Nat) (h : Nat) (hb : Option Nat) (xb : Option Nat) (cs : Array Value) (L M : List P2) : Prop where
  r : Rw w g gb L
  u : Ru w h hb M
  okM : ∀ p ∈ M, Ok p
  fewM : M.length ≤ 4096
  low : Below w0.heap.size w0 w
  g0 : w0.heap.size ≤ g
  h0 : w0.heap.size ≤ h
  gb0 : ∀ k, gb = some k → w0.heap.size ≤ k ∧ k ≠ h
  hb0 : ∀ k, hb = some k → w0.heap.size ≤ k ∧ k ≠ g ∧ gb ≠ some k
  gh : g ≠ h
  box : ∀ x, xb = some x → Blk w x cs 32 ∧ x ≠ g ∧ x ≠ h ∧ gb ≠ some x ∧ hb ≠ some x

theorem St.below {w0 w w' : World} {g h : Nat} {gb hb xb : Option Nat} {cs : Array Value} {L M : List P2} (s : St w0 w g gb h hb xb cs L M) (b : Below w.heap.size w w') : St w0 w' g gb h hb xb cs L M :=
  ⟨s.r.below b, s.u.below b, s.okM, s.fewM, s.low.trans (b.mono s.low.size), s.g0, s.h0, s.gb0, s.hb0, s.gh, fun x hx => let ⟨a, c⟩ := s.box x hx; ⟨a.below b, c⟩⟩
theorem St.nobox {w0 w : World} {g h : Nat} {gb hb xb : Option Nat} {cs cs' : Array Value} {L M : List P2} (s : St w0 w g gb h hb xb cs L M) : St w0 w g gb h hb none cs' L M :=
  ⟨s.r, s.u, s.okM, s.fewM, s.low, s.g0, s.h0, s.gb0, s.hb0, s.gh, fun x hx => by cases hx⟩
theorem St.newbox {w0 w : World} {g h : Nat} {gb hb xb : Option Nat} {cs cs' : Array Value} {L M : List P2} (s : St w0 w g gb h hb xb cs' L M) : St w0 (w.alloc (.cells cs 32)) g gb h hb (some w.heap.size) cs L M :=
  let s' := s.below (w' := w.alloc (.cells cs 32)) ((Below.refl _ _).alloc (Nat.le_refl _) _)
  ⟨s'.r, s'.u, s'.okM, s'.fewM, s'.low, s'.g0, s'.h0, s'.gb0, s'.hb0, s'.gh, fun x hx => by
    cases hx
    have h1 := s.r.lt
    have h2 := s.u.lt
    exact ⟨Blk.new w cs _, by omega, by omega, fun e => by have := s.r.ltb _ e; omega, fun e => by have := s.u.ltb _ e; omega⟩⟩
/-- The program's row has changed. -/
theorem St.turnR {w0 w w' : World} {g h : Nat} {gb gb' hb xb : Option Nat} {cs : Array Value} {L L' M : List P2} (s : St w0 w g gb h hb xb cs L M) (hr : Rw w' g gb' L') (hk : Kb2 (some g) gb w w') (hg : gb' = gb ∨ ∃ k, gb' = some k ∧ w.heap.size ≤ k) : St w0 w' g gb' h hb xb cs L' M := by
  have h1 := s.u.lt
  have h0 := s.low.size
  refine ⟨hr, s.u.kb hk (by intro e; cases e; exact s.gh rfl) (fun e => (s.gb0 h e.symm).2 rfl) (fun k e => ⟨by intro e'; cases e'; exact (s.hb0 g e).2.1 rfl, fun e' => (s.hb0 k e).2.2 e'.symm⟩), s.okM, s.fewM,
    s.low.trans (hk.below s.low.size (fun k e => by cases e; exact s.g0) (fun k e => (s.gb0 k e).1)), s.g0, s.h0, ?_, ?_, s.gh, ?_⟩
  · intro k e
    rcases hg with rfl | ⟨j, rfl, hj⟩
    · exact s.gb0 k e
    · cases e; exact ⟨by omega, by omega⟩
  · intro k e
    obtain ⟨a, b, c⟩ := s.hb0 k e
    have hl := s.u.ltb k e
    refine ⟨a, b, ?_⟩
    rcases hg with rfl | ⟨j, rfl, hj⟩
    · exact c
    · intro e'; cases e'; omega
  · intro x hx
    obtain ⟨a, b, c, d, e⟩ := s.box x hx
    refine ⟨a.kb hk (by intro e; cases e; exact b rfl) (fun e => d e.symm), b, c, ?_, e⟩
    rcases hg with rfl | ⟨j, rfl, hj⟩
    · exact d
    · have := a.lt
      intro e'; cases e'; omega
/-- The document's row has changed. -/
theorem St.turnU {w0 w w' : World} {g h : Nat} {gb hb hb' xb : Option Nat} {cs : Array Value} {L M M' : List P2} (s : St w0 w g gb h hb xb cs L M) (hu : Ru w' h hb' M') (hok : ∀ p ∈ M', Ok p) (hfew : M'.length ≤ 4096) (hk : Kb2 (some h) hb w w') (hg : hb' = hb ∨ ∃ k, hb' = some k ∧ w.heap.size ≤ k) : St w0 w' g gb h hb' xb cs L M' := by
  have h1 := s.r.lt
  have h0 := s.low.size
  refine ⟨s.r.kb hk (by intro e; cases e; exact s.gh rfl) (fun e => (s.hb0 g e.symm).2.1 rfl) (fun k e => ⟨by intro e'; cases e'; exact (s.gb0 _ e).2 rfl, fun e' => (s.hb0 k e'.symm).2.2 e⟩), hu, hok, hfew,
    s.low.trans (hk.below s.low.size (fun k e => by cases e; exact s.h0) (fun k e => (s.hb0 k e).1)), s.g0, s.h0, s.gb0, ?_, s.gh, ?_⟩
  · intro k e
    rcases hg with rfl | ⟨j, rfl, hj⟩
    · exact s.hb0 k e
    · cases e; exact ⟨by omega, by omega, fun e' => by have := s.r.ltb _ e'; omega⟩
  · intro x hx
    obtain ⟨a, b, c, d, e⟩ := s.box x hx
    refine ⟨a.kb hk (by intro e; cases e; exact c rfl) (fun e' => e e'.symm), b, c, d, ?_⟩
    rcases hg with rfl | ⟨j, rfl, hj⟩
    · exact e
    · have := a.lt
      intro e'; cases e'; omega

def pushed (x y : Nat) (L : List P2) : Int × List P2 := match Fl.part x, Fl.part y with
  | some m, some n => if L.length < 4096 then (0, L ++ [((m : Int), (n : Int))]) else (1, L)
  | _, _ => (1, L)
def putAt (i : Int) (x y : Nat) (L : List P2) : Int × List P2 := match Fl.part x, Fl.part y with
  | some m, some n => if 0 ≤ i ∧ i < L.length then (0, L.set i.toNat ((m : Int), (n : Int))) else (1, L)
  | _, _ => (1, L)
theorem ok_part {x y m n : Nat} (hx : Fl.part x = some m) (hy : Fl.part y = some n) : Ok ((m : Int), (n : Int)) := by
  obtain ⟨-, bx⟩ := Fl.part_is hx
  obtain ⟨-, bY⟩ := Fl.part_is hy
  exact ⟨by simp, by simp; omega, by simp, by simp; omega⟩

theorem pushR {w0 w : World} {g h : Nat} {gb hb xb : Option Nat} {cs : Array Value} {L M : List P2} (s : St w0 w g gb h hb xb cs L M) (x y : Nat) :
    Calls Try.prog 11 #[.pointer (some ⟨g, 0, none⟩), .complex .f64 x y] w fun e w' => e = .returned (.int .i64 (pushed x y L).1) ∧ ∃ gb', St w0 w' g gb' h hb xb cs (pushed x y L).2 M := by
  have no : (Fl.part x = none ∨ Fl.part y = none ∨ L.length = 4096) → Calls Try.prog 11 #[.pointer (some ⟨g, 0, none⟩), .complex .f64 x y] w fun e w' => e = .returned (.int .i64 1) ∧ ∃ gb', St w0 w' g gb' h hb xb cs L M := fun hno =>
    (push_no x y w g gb L s.r hno).mono fun _ _ ⟨he, hw⟩ => ⟨he, gb, hw ▸ s⟩
  unfold pushed
  rcases hx : Fl.part x with _ | m
  · exact no (.inl hx)
  · rcases hy : Fl.part y with _ | n
    · exact no (.inr (.inl hy))
    · by_cases hl : L.length < 4096
      · simp only [if_pos hl]
        exact (push_ok x y m n w g gb L s.r hx hy hl).mono fun _ _ ⟨he, gb', hr, hk, hg⟩ => ⟨he, gb', s.turnR hr hk hg⟩
      · simp only [if_neg hl]
        exact no (.inr (.inr (by have := s.r.few; omega)))
theorem pushU {w0 w : World} {g h : Nat} {gb hb xb : Option Nat} {cs : Array Value} {L M : List P2} (s : St w0 w g gb h hb xb cs L M) (x y : Nat) :
    Calls Try.prog 12 #[.pointer (some ⟨h, 0, none⟩), .complex .f64 x y] w fun e w' => e = .returned (.int .i64 (pushed x y M).1) ∧ ∃ hb', St w0 w' g gb h hb' xb cs L (pushed x y M).2 := by
  have no : (Fl.part x = none ∨ Fl.part y = none ∨ M.length = 4096) → Calls Try.prog 12 #[.pointer (some ⟨h, 0, none⟩), .complex .f64 x y] w fun e w' => e = .returned (.int .i64 1) ∧ ∃ hb', St w0 w' g gb h hb' xb cs L M := fun hno =>
    (rpush_no x y w h hb M s.u hno).mono fun _ _ ⟨he, hw⟩ => ⟨he, hb, s.below hw⟩
  unfold pushed
  rcases hx : Fl.part x with _ | m
  · exact no (.inl hx)
  · rcases hy : Fl.part y with _ | n
    · exact no (.inr (.inl hy))
    · by_cases hl : M.length < 4096
      · simp only [if_pos hl]
        refine (rpush_ok x y m n w h hb M s.u hx hy hl).mono fun _ _ ⟨he, hb', hr, hk, hg⟩ => ⟨he, hb', s.turnU hr ?_ ?_ hk hg⟩
        · intro p hp
          rcases List.mem_append.1 hp with hp | hp
          · exact s.okM p hp
          · simp at hp; subst hp; exact ok_part hx hy
        · simp; omega
      · simp only [if_neg hl]
        exact no (.inr (.inr (by have := s.fewM; omega)))

theorem setR {w0 w : World} {g h : Nat} {gb hb xb : Option Nat} {cs : Array Value} {L M : List P2} (s : St w0 w g gb h hb xb cs L M) (i : Int) (x y : Nat) :
    Calls Try.prog 16 #[.pointer (some ⟨g, 0, none⟩), .int .i64 i, .complex .f64 x y] w fun e w' => e = .returned (.int .i64 (putAt i x y L).1) ∧ St w0 w' g gb h hb xb cs (putAt i x y L).2 M := by
  have no : (i < 0 ∨ (L.length : Int) ≤ i ∨ Fl.part x = none ∨ Fl.part y = none) → Calls Try.prog 16 #[.pointer (some ⟨g, 0, none⟩), .int .i64 i, .complex .f64 x y] w fun e w' => e = .returned (.int .i64 1) ∧ St w0 w' g gb h hb xb cs L M := fun hno =>
    (set_no i x y w g gb L s.r hno).mono fun _ _ ⟨he, hw⟩ => ⟨he, hw ▸ s⟩
  unfold putAt
  rcases hx : Fl.part x with _ | m
  · exact no (.inr (.inr (.inl hx)))
  · rcases hy : Fl.part y with _ | n
    · exact no (.inr (.inr (.inr hy)))
    · by_cases hl : 0 ≤ i ∧ i < L.length
      · simp only [if_pos hl]
        have := set_ok i.toNat x y m n w g gb L s.r (by omega) hx hy
        rw [show ((i.toNat : Nat) : Int) = i by omega] at this
        exact this.mono fun _ _ ⟨he, hr, hk⟩ => ⟨he, s.turnR hr hk (.inl rfl)⟩
      · simp only [if_neg hl]
        exact no (by omega)
theorem setU {w0 w : World} {g h : Nat} {gb hb xb : Option Nat} {cs : Array Value} {L M : List P2} (s : St w0 w g gb h hb xb cs L M) (i : Int) (x y : Nat) :
    Calls Try.prog 17 #[.pointer (some ⟨h, 0, none⟩), .int .i64 i, .complex .f64 x y] w fun e w' => e = .returned (.int .i64 (putAt i x y M).1) ∧ St w0 w' g gb h hb xb cs L (putAt i x y M).2 := by
  have no : (i < 0 ∨ (M.length : Int) ≤ i ∨ Fl.part x = none ∨ Fl.part y = none) → Calls Try.prog 17 #[.pointer (some ⟨h, 0, none⟩), .int .i64 i, .complex .f64 x y] w fun e w' => e = .returned (.int .i64 1) ∧ St w0 w' g gb h hb xb cs L M := fun hno =>
    (rset_no i x y w h hb M s.u hno).mono fun _ _ ⟨he, hw⟩ => ⟨he, s.below hw⟩
  unfold putAt
  rcases hx : Fl.part x with _ | m
  · exact no (.inr (.inr (.inl hx)))
  · rcases hy : Fl.part y with _ | n
    · exact no (.inr (.inr (.inr hy)))
    · by_cases hl : 0 ≤ i ∧ i < M.length
      · simp only [if_pos hl]
        have := rset_ok i.toNat x y m n w h hb M s.u s.fewM (by omega) hx hy
        rw [show ((i.toNat : Nat) : Int) = i by omega] at this
        refine this.mono fun _ _ ⟨he, hr, hk⟩ => ⟨he, s.turnU hr ?_ ?_ hk (.inl rfl)⟩
        · intro p hp
          rcases List.mem_or_eq_of_mem_set hp with hp | rfl
          · exact s.okM p hp
          · exact ok_part hx hy
        · rw [List.length_set]; exact s.fewM
      · simp only [if_neg hl]
        exact no (by omega)

/-- There is such a number. -/
theorem over_is (L : List P2) (most : Int) : ∃ n, OverSays L most n := by
  by_cases hL : L = []
  · exact ⟨0, fun _ => rfl, fun h => absurd hL h, fun j hj => absurd hj (by omega)⟩
  · have hpos : 0 < L.length := List.length_pos_iff.2 hL
    have key : ∀ d k, k + d + 1 = L.length → (∀ j, j < k → most < (tot (L.drop j)).2) → ∃ n, OverSays L most n := by
      intro d
      induction d with
      | zero => intro k hk hj; exact ⟨k, fun h => absurd h hL, fun _ => ⟨by omega, .inr (by omega)⟩, hj⟩
      | succ d ih =>
        intro k hk hj
        by_cases hle : (tot (L.drop k)).2 ≤ most
        · exact ⟨k, fun h => absurd h hL, fun _ => ⟨by omega, .inl hle⟩, hj⟩
        · refine ih (k + 1) (by omega) (fun j hjk => ?_)
          rcases Nat.lt_or_ge j k with h | h
          · exact hj j h
          · obtain rfl : j = k := by omega
            omega
    exact key (L.length - 1) 0 (by omega) (fun j hj => absurd hj (by omega))
theorem overR {w0 w : World} {g h : Nat} {gb hb xb : Option Nat} {cs : Array Value} {L M : List P2} (s : St w0 w g gb h hb xb cs L M) {most : Int} {n : Nat} (hn : OverSays L most n) :
    Calls Try.prog 18 #[.pointer (some ⟨g, 0, none⟩), .int .i64 most] w fun e w' => e = .returned (.int .i64 n) ∧ Below w.heap.size w w' :=
  (over_any most w g gb L s.r).mono fun _ _ ⟨⟨_, he, hm⟩, hw⟩ => ⟨by rw [he, over_one hm hn], hw ▸ Below.refl _ _⟩
theorem overU {w0 w : World} {g h : Nat} {gb hb xb : Option Nat} {cs : Array Value} {L M : List P2} (s : St w0 w g gb h hb xb cs L M) {most : Int} {n : Nat} (hn : OverSays M most n) :
    Calls Try.prog 19 #[.pointer (some ⟨h, 0, none⟩), .int .i64 most] w fun e w' => e = .returned (.int .i64 n) ∧ Below w.heap.size w w' :=
  (rover_any most w h hb M s.u s.okM s.fewM).mono fun _ _ ⟨⟨_, he, hm⟩, hw⟩ => ⟨by rw [he, over_one hm hn], hw⟩

theorem shiftR {w0 w : World} {g h : Nat} {gb hb xb : Option Nat} {cs : Array Value} {L M : List P2} (s : St w0 w g gb h hb xb cs L M) :
    Calls Try.prog 13 #[.pointer (some ⟨g, 0, none⟩)] w fun e w' => (∃ v, e = .returned (.tuple #[v, .bool (!L.isEmpty)]) ∧ CV v (L.headD (0, 0))) ∧ St w0 w' g gb h hb xb cs L.tail M := by
  cases L with
  | nil => exact (shift_none w g gb s.r).mono fun _ _ ⟨he, hw⟩ => ⟨⟨_, he, 0, 0, rfl, is_zero, is_zero⟩, hw ▸ s⟩
  | cons p L => exact (shift_some w g gb p L s.r).mono fun _ _ ⟨⟨v, he, hv⟩, hr, hk⟩ => ⟨⟨v, he, hv⟩, s.turnR hr hk (.inl rfl)⟩
theorem shiftU {w0 w : World} {g h : Nat} {gb hb xb : Option Nat} {cs : Array Value} {L M : List P2} (s : St w0 w g gb h hb xb cs L M) :
    Calls Try.prog 14 #[.pointer (some ⟨h, 0, none⟩)] w fun e w' => e = .returned (.tuple #[.agg #[.int .i64 (M.headD (0, 0)).1, .int .i64 (M.headD (0, 0)).2], .bool (!M.isEmpty)]) ∧ St w0 w' g gb h hb xb cs L M.tail := by
  cases M with
  | nil => exact (rshift_none w h hb s.u).mono fun _ _ ⟨he, hw⟩ => ⟨he, s.below hw⟩
  | cons p M => exact (rshift_some w h hb p M s.u (by have := s.fewM; simp at this; omega)).mono fun _ _ ⟨he, hr, hk⟩ => ⟨he, s.turnU hr (fun q hq => s.okM q (List.mem_cons_of_mem _ hq)) (by have := s.fewM; simp at this; simp; omega) hk (.inl rfl)⟩

/-- An act. -/
structure Ac where
  kind : Int
  re : Nat
  im : Nat
  pl : Int
/-- A slice of acts, as it came in. -/
def Acts (w : World) (B : Nat) (sv : Value) (ac : List Ac) : Prop :=
  ∃ a cap, sv = .slice a ac.length cap ∧ ∀ j x, ac[j]? = some x → ∃ b off, a = some ⟨b, off, none⟩ ∧ b < B ∧
    w.cell? ⟨b, off + j * 4, none⟩ = some (.int .i64 x.kind) ∧ w.cell? ⟨b, off + j * 4 + 1, none⟩ = some (.float .f64 x.re) ∧ w.cell? ⟨b, off + j * 4 + 2, none⟩ = some (.float .f64 x.im) ∧ w.cell? ⟨b, off + j * 4 + 3, none⟩ = some (.int .i64 x.pl)
end Go.Proofs.Ytdkngocinimjdaa
