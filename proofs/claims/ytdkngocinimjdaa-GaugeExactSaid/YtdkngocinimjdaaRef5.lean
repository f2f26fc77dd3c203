/- THE CONTRACTS OF the document's Ahead, Over. -/
import Derived.Test.YtdkngocinimjdaaRef4
namespace Go.Proofs.Ytdkngocinimjdaa
open Go.RowKit

theorem ahead_ret {W : World} {rb : Nat} {a0 a1 : Value} {tmps : Array Value} (hb : Blk W rb #[a0, a1] 39) (h2 : tmps.getD 4 undef = .pointer (some ⟨rb, 0, none⟩)) :
    (results Try.f24 tmps).run Try.prog W = .ok (.agg #[a0, a1]) W := by
  have hl := load_size hb
  simp only [results, Try.results24]
  rw [Array.getD_eq_getD_getElem?] at h2
  simp [asAddr, hl, h2]

/-- Where the document's Ahead stands. -/
structure Going2 (w wr : World) (B : Nat) (a b : Int) : Prop where
  low : Below w.heap.size w wr
  res : Blk wr w.heap.size #[.int .i64 0, .int .i64 0] 39
  sum : Blk wr B #[.int .i64 a, .int .i64 b] 39
  far : w.heap.size < B
theorem Going2.first {w wr : World} {B : Nat} {a b : Int} (h : Going2 w wr B a b) (z : Int) : Going2 w (wr.setCell ⟨B, 0, none⟩ (.int .i64 z)).drew B z b :=
  ⟨(h.low.setCell (p := ⟨B, 0, none⟩) (Nat.le_of_lt h.far) _).trans (below_drew _),
   (h.res.kb (a := some B) (c := none) (Kb2.setCell _ ⟨B, 0, none⟩ _ (.inl rfl)) (by have := h.far; intro e; cases e; omega) (by simp)).below (below_drew _),
   (h.sum.set (i := 0) _).below (below_drew _), h.far⟩
theorem Going2.second {w wr : World} {B : Nat} {a b : Int} (h : Going2 w wr B a b) (z : Int) : Going2 w (wr.setCell ⟨B, 1, none⟩ (.int .i64 z)).drew B a z :=
  ⟨(h.low.setCell (p := ⟨B, 1, none⟩) (Nat.le_of_lt h.far) _).trans (below_drew _),
   (h.res.kb (a := some B) (c := none) (Kb2.setCell _ ⟨B, 1, none⟩ _ (.inl rfl)) (by have := h.far; intro e; cases e; omega) (by simp)).below (below_drew _),
   (h.sum.set (i := 1) _).below (below_drew _), h.far⟩

set_option maxHeartbeats 1000000 in
set_option maxRecDepth 100000 in
theorem rahead_any (i : Int) (w : World) (g : Nat) (gb : Option Nat) (L : List P2) (h : Ru w g gb L) (hok : ∀ p ∈ L, Ok p) (hl : L.length ≤ 4096) :
    Calls Try.prog 24 #[.pointer (some ⟨g, 0, none⟩), .int .i64 i] w fun e w' => e = .returned (.agg #[.int .i64 (tot (L.take i.toNat)).1, .int .i64 (tot (L.take i.toNat)).2]) ∧ Below w.heap.size w w' := by
  obtain ⟨v, h1, h2⟩ := h.lies
  obtain ⟨ao, cap, rfl, hc, hsome⟩ := h2.make
  obtain ⟨N, hN⟩ : ∃ N, L.length = N := ⟨_, rfl⟩
  rw [hN] at h1 h2 hc hl hsome
  have hw0 : Below w.heap.size w (w.alloc (.cells #[.int .i64 0, .int .i64 0] 39)) := (Below.refl _ _).alloc (Nat.le_refl _) _
  have hr0 := Blk.new w #[.int .i64 0, .int .i64 0] 39
  have hs0 : (w.alloc (.cells #[.int .i64 0, .int .i64 0] 39)).heap.size = w.heap.size + 1 := by simp
  obtain ⟨W0, hW0⟩ : ∃ W, w.alloc (.cells #[.int .i64 0, .int .i64 0] 39) = W := ⟨_, rfl⟩
  rw [hW0] at hw0 hr0 hs0
  have hal : Below W0.heap.size W0 (W0.alloc (.cells #[.int .i64 0, .int .i64 0] 39)) := (Below.refl _ _).alloc (Nat.le_refl _) _
  have hg0 : Going2 w (W0.alloc (.cells #[.int .i64 0, .int .i64 0] 39)) W0.heap.size 0 0 := ⟨hw0.trans (hal.mono hw0.size), hr0.below hal, Blk.new _ _ _, by omega⟩
  obtain ⟨B, hB⟩ : ∃ B, W0.heap.size = B := ⟨_, rfl⟩
  rw [hB] at hg0
  have H0 := Lib.hid hg0
  have H1 := Lib.hid h1
  have H2 := Lib.hid h2
  have HN := Lib.hid hN
  have HM := Lib.hid hsome
  have HOK := Lib.hid hok
  clear h h1 h2 hN hsome hok hw0 hr0 hs0 hal hg0
  go_enter Try.func24, Try.ntmps24
  go_wp2_with fail
  go_loopw [6] (fun iv wr => ∃ k : Nat, k ≤ N ∧ k ≤ i.toNat ∧ iv = .int .i64 k ∧ Going2 w wr B (tot (L.take k)).1 (tot (L.take k)).2) (fun iv _ => N - (intOf iv).toNat)
  case atStart => exact ⟨0, Nat.zero_le _, Nat.zero_le _, rfl, H0.out⟩
  case round =>
    obtain ⟨k, hk, hki, rfl, hgo⟩ := hrel
    have hlim := tot_take_le L k HOK.out (by rw [HN.out]; exact hl)
    obtain ⟨a, ha⟩ : ∃ a, (tot (L.take k)).1 = a := ⟨_, rfl⟩
    obtain ⟨b, hb⟩ : ∃ a, (tot (L.take k)).2 = a := ⟨_, rfl⟩
    rw [ha, hb] at hgo hlim
    have HG := Lib.hid hgo
    have c0 := (H1.out.below hgo.low).cell (i := 0) rfl
    have s0 := hgo.sum.cell (i := 0) rfl
    have s1 := hgo.sum.cell (i := 1) rfl
    have f0 := hgo.sum.free (i := 0)
    have f1 := hgo.sum.free (i := 1)
    have HA := Lib.hid (And.intro ha hb)
    clear hgo ha hb
    by_cases hlt : (k : Int) < i
    · by_cases hlN : k < N
      · obtain ⟨p, hp⟩ : ∃ p, L[k]? = some p := ⟨_, List.getElem?_eq_getElem (by rw [HN.out]; exact hlN)⟩
        obtain ⟨t, q, rfl, rfl⟩ := HM.out (by omega)
        have htk := tot_take_succ hp
        have hsl := H2.out.same (fun x hx => HG.out.low.block x (H2.out.lt x hx))
        have e0 := hsl.cell rfl (k * 2) _ (two_at hp).1
        have e1 := hsl.cell rfl (k * 2 + 1) _ (two_at hp).2
        have hpo := HOK.out p (List.mem_of_getElem? hp)
        unfold Ok at hpo
        obtain ⟨p1, p2⟩ := p
        simp only at e0 e1 hpo
        rw [← Nat.add_assoc] at e1
        have hg1 := HG.out.first (a + p1)
        obtain ⟨V1, hV1⟩ : ∃ V, (wr.setCell ⟨B, 0, none⟩ (.int .i64 (a + p1))).drew = V := ⟨_, rfl⟩
        rw [hV1] at hg1
        have hg2 := hg1.second (b + p2)
        have c0' := (H1.out.below hg1.low).cell (i := 0) rfl
        have s1' := hg1.sum.cell (i := 1) rfl
        have f1' := hg1.sum.free (i := 1)
        have hsl1 := H2.out.same (fun x hx => hg1.low.block x (H2.out.lt x hx))
        have e1' := hsl1.cell rfl (k * 2 + 1) _ (two_at hp).2
        simp only at e1'
        rw [← Nat.add_assoc] at e1'
        have HG2 := Lib.hid hg2
        have HTK := Lib.hid htk
        clear hg1 hg2 htk hsl hsl1 hp
        go_wp2_with fail
        go_region
        go_wp2_with fail
        go_region
        go_wp2_with fail
        go_roundw
        case rel => exact ⟨k + 1, by omega, by omega, by go_num, by rw [HTK.out]; simp only [add2, HA.out.1, HA.out.2]; exact HG2.out⟩
        case measure => simp [intOf]; omega
      · obtain rfl : k = N := by omega
        have r0 := HG.out.res.cell (i := 0) rfl
        have r1 := HG.out.res.cell (i := 1) rfl
        have g0 := HG.out.res.free (i := 0)
        have g1 := HG.out.res.free (i := 1)
        go_wp2_with fail
        refine bodyPost_ret (ahead_ret ((HG.out.res.set (i := 0) (.int .i64 a)).set (i := 1) (.int .i64 b)) rfl) rfl ⟨?_, (HG.out.low.setCell (p := ⟨w.heap.size, 0, none⟩) (Nat.le_refl _) _).setCell (p := ⟨w.heap.size, 1, none⟩) (Nat.le_refl _) _⟩
        have e1 : L.take i.toNat = L.take k := by rw [List.take_of_length_le (by rw [HN.out]; omega), List.take_of_length_le (by rw [HN.out]; omega)]
        rw [e1, HA.out.1, HA.out.2]
    · obtain rfl : k = i.toNat := by omega
      have r0 := HG.out.res.cell (i := 0) rfl
      have r1 := HG.out.res.cell (i := 1) rfl
      have g0 := HG.out.res.free (i := 0)
      have g1 := HG.out.res.free (i := 1)
      go_wp2_with fail
      refine bodyPost_ret (ahead_ret ((HG.out.res.set (i := 0) (.int .i64 a)).set (i := 1) (.int .i64 b)) rfl) rfl ⟨?_, (HG.out.low.setCell (p := ⟨w.heap.size, 0, none⟩) (Nat.le_refl _) _).setCell (p := ⟨w.heap.size, 1, none⟩) (Nat.le_refl _) _⟩
      rw [HA.out.1, HA.out.2]
end Go.Proofs.Ytdkngocinimjdaa
