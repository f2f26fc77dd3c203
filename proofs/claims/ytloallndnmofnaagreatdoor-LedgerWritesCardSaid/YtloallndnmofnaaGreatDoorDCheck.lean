/- THE CONTRACT OF ledger's Check. -/
import Derived.Test.YtloallndnmofnaaGreatDoorScope
namespace Go.Proofs.YtloallndnmofnaaGreatDoor
open Go.RowKit

theorem dchk_ret {W : World} {rb : Nat} {a0 a1 a2 n : Value} {tmps : Array Value} (hb : Blk W rb #[a0, a1, a2] 40) (h2 : tmps.getD 6 undef = .pointer (some ⟨rb, 0, none⟩)) (h3 : tmps.getD 7 undef = n) :
    (results Tryz.f14 tmps).run Tryz.prog W = .ok (.tuple #[.agg #[a0, a1, a2], n]) W := by
  rw [results_cell_tmp (p := 6) (u := 7) (ty := 40) rfl, h2, h3]
  have hl := load_slot hb
  simp [asAddr, hl]
/-- A block of zeros: the result's. -/
abbrev z1 (w : World) : World := w.alloc (.cells #[.int .i64 0, .int .i64 0, .int .i64 0] 40)
theorem z1_blk (w : World) : Blk (z1 w) w.heap.size #[.int .i64 0, .int .i64 0, .int .i64 0] 40 := Blk.new w _ _
theorem z1_low (w : World) : RowKit.Below w.heap.size w (z1 w) := (Below.refl _ _).alloc (Nat.le_refl _) _
/-- The result's block, stored into. -/
theorem z1_end {w w1 : World} {a0 a1 a2 : Value} (x y z : Value) (hb : Blk w1 w.heap.size #[a0, a1, a2] 40) (hw : RowKit.Below w.heap.size w w1) :
    Blk (((w1.setCell ⟨w.heap.size, 0, none⟩ x).setCell ⟨w.heap.size, 1, none⟩ y).setCell ⟨w.heap.size, 2, none⟩ z) w.heap.size #[x, y, z] 40 ∧ RowKit.Below w.heap.size w (((w1.setCell ⟨w.heap.size, 0, none⟩ x).setCell ⟨w.heap.size, 1, none⟩ y).setCell ⟨w.heap.size, 2, none⟩ z) :=
  ⟨((hb.set (i := 0) x).set (i := 1) y).set (i := 2) z, ((hw.setCell (p := ⟨w.heap.size, 0, none⟩) (Nat.le_refl _) _).setCell (p := ⟨w.heap.size, 1, none⟩) (Nat.le_refl _) _).setCell (p := ⟨w.heap.size, 2, none⟩) (Nat.le_refl _) _⟩

theorem dcheck_nil (prod seq : Int) (w : World) :
    Calls Tryz.prog 14 #[.pointer none, .int .i64 prod, .int .i64 seq] w fun e w' => e = .returned (.tuple #[slV Ld.zeroS, .int .i64 2]) ∧ RowKit.Below w.heap.size w w' := by
  go_enter Tryz.func14, Tryz.ntmps14
  go_wp2_with fail
  refine fwd6 0 rfl ?_
  go_wp2_with fail
  rw [jump_ret6]
  exact bodyPost_ret (dchk_ret (z1_blk w) rfl rfl) rfl ⟨rfl, z1_low w⟩
set_option maxHeartbeats 1000000 in
theorem dcheck_bad (rb : Nat) (prod seq : Int) (w : World) (hb : (Ld.numB prod && Ld.numB seq) = false) :
    Calls Tryz.prog 14 #[.pointer (some ⟨rb, 0, none⟩), .int .i64 prod, .int .i64 seq] w fun e w' => e = .returned (.tuple #[slV Ld.zeroS, .int .i64 1]) ∧ RowKit.Below w.heap.size w w' := by
  have H1 := Lib.hid (dwithin prod)
  have H2 := Lib.hid (dwithin seq)
  cases h1 : Ld.numB prod with
  | false =>
    rw [h1] at H1
    clear hb h1
    go_enter Tryz.func14, Tryz.ntmps14
    go_wp2_with fail
    refine fwd6 0 rfl ?_
    go_wp2_with fail
    refine (H1.out _).mono ?_
    rintro e w' ⟨rfl, rfl⟩
    go_wp2_with fail
    rw [jump_ret6]
    exact bodyPost_ret (dchk_ret (z1_blk w) rfl rfl) rfl ⟨rfl, z1_low w⟩
  | true =>
    have h2 : Ld.numB seq = false := by rw [h1] at hb; simpa using hb
    rw [h1] at H1
    rw [h2] at H2
    clear hb h1 h2
    go_enter Tryz.func14, Tryz.ntmps14
    go_wp2_with fail
    refine fwd6 0 rfl ?_
    go_wp2_with fail
    refine (H1.out _).mono ?_
    rintro e w' ⟨rfl, rfl⟩
    go_wp2_with fail
    refine (H2.out _).mono ?_
    rintro e w' ⟨rfl, rfl⟩
    go_wp2_with fail
    rw [jump_ret6]
    exact bodyPost_ret (dchk_ret (z1_blk w) rfl rfl) rfl ⟨rfl, z1_low w⟩
set_option maxHeartbeats 2000000 in
theorem dcheck_none (P : Nat → Prop) (rb : Nat) (v : Value) (T : Ld.Tb) (prod seq : Int) (w : World) (hb : Blk w rb #[v] 59) (h : TabAt P v T w) (hG : Ld.goodB T = true)
    (h1 : Ld.numB prod = true) (h2 : Ld.numB seq = true) (ha : Ld.at_ T prod = none) :
    Calls Tryz.prog 14 #[.pointer (some ⟨rb, 0, none⟩), .int .i64 prod, .int .i64 seq] w fun e w' => e = .returned (.tuple #[slV Ld.zeroS, .int .i64 (if seq = 0 then 0 else 20)]) ∧ RowKit.Below w.heap.size w w' := by
  have H1 := Lib.hid (dwithin prod)
  have H2 := Lib.hid (dwithin seq)
  rw [h1] at H1
  rw [h2] at H2
  have HS := Lib.hid (dslots_none P rb v T prod (z1 w) (hb.below (z1_low w)) (h.below (z1_low w)) hG ha)
  have HZB := Lib.hid (z1_blk w)
  have HZL := Lib.hid (z1_low w)
  clear h1 h2 hb h hG ha
  by_cases h0 : seq = 0
  · rw [if_pos h0]
    subst h0
    go_enter Tryz.func14, Tryz.ntmps14
    go_wp2_with fail
    refine fwd6 0 rfl ?_
    go_wp2_with fail
    refine (H1.out _).mono ?_
    rintro e w' ⟨rfl, rfl⟩
    go_wp2_with fail
    refine (H2.out _).mono ?_
    rintro e w' ⟨rfl, rfl⟩
    go_wp2_with fail
    refine HS.out.mono ?_
    rintro e w1 ⟨rfl, hb1⟩
    have HZ := Lib.hid (z1_end (.int .i64 0) (.int .i64 0) (.int .i64 0) (HZB.out.below hb1) (HZL.out.trans (hb1.mono HZL.out.size)))
    have q0 := (HZB.out.below hb1).cell (i := 0) rfl
    have q1 := (HZB.out.below hb1).cell (i := 1) rfl
    have q2 := (HZB.out.below hb1).cell (i := 2) rfl
    have f0 := (HZB.out.below hb1).free (i := 0)
    have f1 := (HZB.out.below hb1).free (i := 1)
    have f2 := (HZB.out.below hb1).free (i := 2)
    clear hb1
    go_wp2_with fail
    go_step3
    refine And.intro rfl ?_
    go_wp2_with fail
    rw [Exit.noGoto_ret]
    exact bodyPost_ret (dchk_ret HZ.out.1 rfl rfl) rfl ⟨rfl, HZ.out.2⟩
  · rw [if_neg h0]
    have hne : (seq != 0) = true := by simpa using h0
    go_enter Tryz.func14, Tryz.ntmps14
    go_wp2_with fail
    refine fwd6 0 rfl ?_
    go_wp2_with fail
    refine (H1.out _).mono ?_
    rintro e w' ⟨rfl, rfl⟩
    go_wp2_with fail
    refine (H2.out _).mono ?_
    rintro e w' ⟨rfl, rfl⟩
    go_wp2_with fail
    refine HS.out.mono ?_
    rintro e w1 ⟨rfl, hb1⟩
    have HZ := Lib.hid (z1_end (.int .i64 0) (.int .i64 0) (.int .i64 0) (HZB.out.below hb1) (HZL.out.trans (hb1.mono HZL.out.size)))
    have q0 := (HZB.out.below hb1).cell (i := 0) rfl
    have q1 := (HZB.out.below hb1).cell (i := 1) rfl
    have q2 := (HZB.out.below hb1).cell (i := 2) rfl
    have f0 := (HZB.out.below hb1).free (i := 0)
    have f1 := (HZB.out.below hb1).free (i := 1)
    have f2 := (HZB.out.below hb1).free (i := 2)
    clear hb1
    go_wp2_with fail
    go_step3
    refine And.intro rfl ?_
    go_wp2_with fail
    rw [Exit.noGoto_ret]
    exact bodyPost_ret (dchk_ret HZ.out.1 rfl rfl) rfl ⟨rfl, HZ.out.2⟩

def slotI (L : List Ld.Sl) (k : Nat) : Ld.Sl := L.getD k Ld.zeroS
set_option maxHeartbeats 4000000 in
theorem dcheck_some (P : Nat → Prop) (rb : Nat) (v : Value) (T : Ld.Tb) (prod seq : Int) (w : World) (hb : Blk w rb #[v] 59) (h : TabAt P v T w) (hG : Ld.goodB T = true)
    (h1 : Ld.numB prod = true) (h2 : Ld.numB seq = true) (i : Nat) (L : List Ld.Sl) (ha : Ld.at_ T prod = some i) (hL : T[i]? = some (prod, L)) :
    Calls Tryz.prog 14 #[.pointer (some ⟨rb, 0, none⟩), .int .i64 prod, .int .i64 seq] w fun e w' => e = .returned (.tuple #[slV (Ld.look L seq).1, .int .i64 (Ld.look L seq).2]) ∧ RowKit.Below w.heap.size w w' := by
  have H1 := Lib.hid (dwithin prod)
  have H2 := Lib.hid (dwithin seq)
  rw [h1] at H1
  rw [h2] at H2
  obtain ⟨hn, hlen1, hlen5, hsl⟩ := Ld.rowOk_iff.1 ((Ld.good_iff.1 hG).2.1 _ (List.mem_of_getElem? hL))
  simp only at hlen1 hlen5 hsl
  have hsq : 0 ≤ seq ∧ seq ≤ 1099511627776 := Ld.numB_iff.1 h2
  obtain ⟨a, cap, hv, hc⟩ := h.below (z1_low w)
  obtain ⟨b, off, sv, rfl, -, -, c1, a2, cap2, rfl, hs⟩ := hc i _ hL
  subst hv
  have HS := Lib.hid (dslots_some P rb b off _ _ i _ T prod (z1 w) (hb.below (z1_low w)) (h.below (z1_low w)) hG ha c1)
  obtain ⟨s0, hs0⟩ : ∃ s0, L[0]? = some s0 := ⟨_, List.getElem?_eq_getElem (by omega)⟩
  have hok := okS_iff (slots_mem hsl s0 (List.mem_of_getElem? hs0))
  obtain ⟨b2, off2, rfl, -, e0, -, -⟩ := hs 0 s0 hs0
  obtain ⟨p, hp⟩ : ∃ p, s0.seq = p := ⟨_, rfl⟩
  rw [hp] at e0 hok
  obtain ⟨⟨hp0, hp1⟩, -⟩ := hok
  obtain ⟨hq0, hq1⟩ := hsq
  have HOLD : Hid (seq < p → Ld.look L seq = (Ld.zeroS, 21)) := fun hlt => Ld.look_old hsl hs0 (by rw [hp]; exact hlt)
  have HNEXT : Hid (p + L.length ≤ seq → Ld.look L seq = if seq = p + L.length then (Ld.zeroS, 0) else (Ld.zeroS, 20)) := fun hlt => by
    have := Ld.look_next hsl hs0 (n := seq) (by rw [hp]; exact hlt)
    rw [hp] at this
    exact this
  have HTW : Hid (p ≤ seq → seq - p < L.length → ∃ s, L[(seq - p).toNat]? = some s ∧ s.seq = seq ∧ Ld.look L seq = (s, 13)) := fun hle hlt => by
    obtain ⟨s, hs'⟩ : ∃ s, L[(seq - p).toNat]? = some s := ⟨_, List.getElem?_eq_getElem (by omega)⟩
    have e := Ld.slots_seq hsl hs0 hs'
    have e2 : s.seq = seq := by rw [e, hp]; omega
    refine ⟨s, hs', e2, ?_⟩
    rw [← e2]
    exact Ld.look_twice hsl hs'
  have HSC := Lib.hid hs
  have HZB := Lib.hid (z1_blk w)
  have HZL := Lib.hid (z1_low w)
  rw [Nat.zero_mul, Nat.add_zero] at e0
  have HE0 := Lib.hid e0
  obtain ⟨A, hA⟩ : ∃ A, Ld.look L seq = A := ⟨_, rfl⟩
  rw [hA]
  have HA := Lib.hid hA
  obtain ⟨n, hnn⟩ : ∃ n, L.length = n := ⟨_, rfl⟩
  rw [hnn] at HS HNEXT HTW hlen1 hlen5
  clear h1 h2 hb h hG ha hL hsl hc c1 hs hs0 hp e0 hA hnn hn
  by_cases hA1 : seq < p
  · have HR := Lib.hid (HA.out.symm.trans (HOLD.out hA1))
    clear HTW HNEXT HOLD HSC
    go_enter Tryz.func14, Tryz.ntmps14
    go_wp2_with fail
    refine fwd6 0 rfl ?_
    go_wp2_with fail
    refine (H1.out _).mono ?_
    rintro e w' ⟨rfl, rfl⟩
    go_wp2_with fail
    refine (H2.out _).mono ?_
    rintro e w' ⟨rfl, rfl⟩
    go_wp2_with fail
    refine HS.out.mono ?_
    rintro e w1 ⟨rfl, hb1⟩
    have e0 := bcell6 hb1 HE0.out
    have HZB1 := Lib.hid (HZB.out.below hb1)
    have HZL1 := Lib.hid (HZL.out.trans (hb1.mono HZL.out.size))
    have q0 := HZB1.out.cell (i := 0) rfl
    have q1 := HZB1.out.cell (i := 1) rfl
    have q2 := HZB1.out.cell (i := 2) rfl
    have f0 := HZB1.out.free (i := 0)
    have f1 := HZB1.out.free (i := 1)
    have f2 := HZB1.out.free (i := 2)
    clear hb1
    go_wp2_with fail
    rw [jump_ret6]
    have HZ := z1_end (.int .i64 0) (.int .i64 0) (.int .i64 0) HZB1.out HZL1.out
    exact bodyPost_ret (dchk_ret HZ.1 rfl rfl) rfl ⟨by rw [HR.out]; rfl, HZ.2⟩
  · have hA1' : p ≤ seq := by omega
    by_cases hA2 : seq - p < (n : Int)
    · obtain ⟨s, hs', hseq, hR⟩ := HTW.out hA1' hA2
      have HR := Lib.hid (HA.out.symm.trans hR)
      obtain ⟨b3, off3, hb3, -, g0, g1, g2⟩ := HSC.out _ s hs'
      injection hb3 with hb3
      injection hb3 with hb4 hb5
      subst hb4 hb5
      obtain ⟨s0', s1', s2'⟩ := s
      simp only at g0 g1 g2 hseq
      subst hseq
      have HG0 := Lib.hid g0
      have HG1 := Lib.hid g1
      have HG2 := Lib.hid g2
      clear HTW HNEXT HOLD HSC hR hs' g0 g1 g2
      go_enter Tryz.func14, Tryz.ntmps14
      go_wp2_with fail
      refine fwd6 0 rfl ?_
      go_wp2_with fail
      refine (H1.out _).mono ?_
      rintro e w' ⟨rfl, rfl⟩
      go_wp2_with fail
      refine (H2.out _).mono ?_
      rintro e w' ⟨rfl, rfl⟩
      go_wp2_with fail
      refine HS.out.mono ?_
      rintro e w1 ⟨rfl, hb1⟩
      have e0 := bcell6 hb1 HE0.out
      have HZB1 := Lib.hid (HZB.out.below hb1)
      have HZL1 := Lib.hid (HZL.out.trans (hb1.mono HZL.out.size))
      have q0 := HZB1.out.cell (i := 0) rfl
      have q1 := HZB1.out.cell (i := 1) rfl
      have q2 := HZB1.out.cell (i := 2) rfl
      have f0 := HZB1.out.free (i := 0)
      have f1 := HZB1.out.free (i := 1)
      have f2 := HZB1.out.free (i := 2)
      have g0 := bcell6 hb1 HG0.out
      have g1 := bcell6 hb1 HG1.out
      have g2 := bcell6 hb1 HG2.out
      clear hb1
      go_wp2_with fail
      rw [jump_ret6]
      have HZ := z1_end (.int .i64 s0') (.int .i64 s1') (.int .i64 s2') HZB1.out HZL1.out
      exact bodyPost_ret (dchk_ret HZ.1 rfl rfl) rfl ⟨by rw [HR.out]; rfl, HZ.2⟩
    · have hA3 : p + (n : Int) ≤ seq := by omega
      have HN := Lib.hid (HNEXT.out hA3)
      by_cases he : seq = p + (n : Int)
      · have HR : Hid (A = (Ld.zeroS, 0)) := by have := HN.out; rw [if_pos he] at this; exact HA.out.symm.trans this
        have hne : (seq != p + (n : Int)) = false := by simp [he]
        clear HTW HNEXT HOLD HSC HN he
        go_enter Tryz.func14, Tryz.ntmps14
        go_wp2_with fail
        refine fwd6 0 rfl ?_
        go_wp2_with fail
        refine (H1.out _).mono ?_
        rintro e w' ⟨rfl, rfl⟩
        go_wp2_with fail
        refine (H2.out _).mono ?_
        rintro e w' ⟨rfl, rfl⟩
        go_wp2_with fail
        refine HS.out.mono ?_
        rintro e w1 ⟨rfl, hb1⟩
        have e0 := bcell6 hb1 HE0.out
        have HZB1 := Lib.hid (HZB.out.below hb1)
        have HZL1 := Lib.hid (HZL.out.trans (hb1.mono HZL.out.size))
        have q0 := HZB1.out.cell (i := 0) rfl
        have q1 := HZB1.out.cell (i := 1) rfl
        have q2 := HZB1.out.cell (i := 2) rfl
        have f0 := HZB1.out.free (i := 0)
        have f1 := HZB1.out.free (i := 1)
        have f2 := HZB1.out.free (i := 2)
        clear hb1
        go_wp2_with fail
        all_goals (
          go_step3
          go_wp2_with fail
          rw [jump_ret6]
          have HZ := z1_end (.int .i64 0) (.int .i64 0) (.int .i64 0) HZB1.out HZL1.out
          exact bodyPost_ret (dchk_ret HZ.1 rfl rfl) rfl ⟨by rw [HR.out]; rfl, HZ.2⟩)
      · have HR : Hid (A = (Ld.zeroS, 20)) := by have := HN.out; rw [if_neg he] at this; exact HA.out.symm.trans this
        have hne : (seq != p + (n : Int)) = true := by simpa using he
        clear HTW HNEXT HOLD HSC HN he
        go_enter Tryz.func14, Tryz.ntmps14
        go_wp2_with fail
        refine fwd6 0 rfl ?_
        go_wp2_with fail
        refine (H1.out _).mono ?_
        rintro e w' ⟨rfl, rfl⟩
        go_wp2_with fail
        refine (H2.out _).mono ?_
        rintro e w' ⟨rfl, rfl⟩
        go_wp2_with fail
        refine HS.out.mono ?_
        rintro e w1 ⟨rfl, hb1⟩
        have e0 := bcell6 hb1 HE0.out
        have HZB1 := Lib.hid (HZB.out.below hb1)
        have HZL1 := Lib.hid (HZL.out.trans (hb1.mono HZL.out.size))
        have q0 := HZB1.out.cell (i := 0) rfl
        have q1 := HZB1.out.cell (i := 1) rfl
        have q2 := HZB1.out.cell (i := 2) rfl
        have f0 := HZB1.out.free (i := 0)
        have f1 := HZB1.out.free (i := 1)
        have f2 := HZB1.out.free (i := 2)
        clear hb1
        go_wp2_with fail
        all_goals (
          go_step3
          go_wp2_with fail
          rw [jump_ret6]
          have HZ := z1_end (.int .i64 0) (.int .i64 0) (.int .i64 0) HZB1.out HZL1.out
          exact bodyPost_ret (dchk_ret HZ.1 rfl rfl) rfl ⟨by rw [HR.out]; rfl, HZ.2⟩)
end Go.Proofs.YtloallndnmofnaaGreatDoor
