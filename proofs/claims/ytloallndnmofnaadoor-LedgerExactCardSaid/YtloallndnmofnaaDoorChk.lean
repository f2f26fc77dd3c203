/- THE CONTRACT OF the document's Check. -/
import Derived.Test.YtloallndnmofnaaDoorSlots
import Derived.Laws.ResultCell
import Derived.OneCell
namespace Go.Proofs.YtloallndnmofnaaDoor
open Go.RowKit

theorem chk_ret {W : World} {rb : Nat} {a0 a1 a2 n : Value} {tmps : Array Value} (hb : Blk W rb #[a0, a1, a2] 41) (h2 : tmps.getD 6 undef = .pointer (some ⟨rb, 0, none⟩)) (h3 : tmps.getD 7 undef = n) :
    (results Tryd.f16 tmps).run Tryd.prog W = .ok (.tuple #[.agg #[a0, a1, a2], n]) W := by
  rw [results_cell_tmp (p := 6) (u := 7) (ty := 41) rfl, h2, h3]
  have hl := load_slot hb
  simp [asAddr, hl]
/-- Two blocks of zeros: the result's and the zero slot's. -/
abbrev zz (w : World) : World := (w.alloc (.cells #[.int .i64 0, .int .i64 0, .int .i64 0] 41)).alloc (.cells #[.int .i64 0, .int .i64 0, .int .i64 0] 41)
theorem zz_blk (w : World) : Blk (zz w) w.heap.size #[.int .i64 0, .int .i64 0, .int .i64 0] 41 := (Blk.new w _ _).alloc _
theorem zz_low (w : World) : RowKit.Below w.heap.size w (zz w) := ((Below.refl _ _).alloc (Nat.le_refl _) _).alloc (by simp) _

set_option maxHeartbeats 1000000 in
theorem check_bad (P : Nat → Prop) (v : Value) (T : Ld.Tb) (prod seq : Int) (w : World) (h : TabAt P v T w) (hb : (Ld.numB prod && Ld.numB seq) = false) :
    Calls Tryd.prog 16 #[v, .int .i64 prod, .int .i64 seq] w fun e w' => e = .returned (.tuple #[slV Ld.zeroS, .int .i64 1]) ∧ RowKit.Below w.heap.size w w' := by
  obtain ⟨a, cap, rfl, -⟩ := h
  have H1 := Lib.hid (rn_any prod)
  have H2 := Lib.hid (rn_any seq)
  cases h1 : Ld.numB prod with
  | false =>
    rw [h1] at H1
    clear hb h1
    go_enter Tryd.func16, Tryd.ntmps16
    go_wp2_with fail
    refine (H1.out _).mono ?_
    rintro e w' ⟨rfl, rfl⟩
    go_wp2_with fail
    exact bodyPost_ret (chk_ret (zz_blk w) rfl rfl) rfl ⟨rfl, zz_low w⟩
  | true =>
    have h2 : Ld.numB seq = false := by rw [h1] at hb; simpa using hb
    rw [h1] at H1
    rw [h2] at H2
    clear hb h1 h2
    go_enter Tryd.func16, Tryd.ntmps16
    go_wp2_with fail
    refine (H1.out _).mono ?_
    rintro e w' ⟨rfl, rfl⟩
    go_wp2_with fail
    refine (H2.out _).mono ?_
    rintro e w' ⟨rfl, rfl⟩
    go_wp2_with fail
    exact bodyPost_ret (chk_ret (zz_blk w) rfl rfl) rfl ⟨rfl, zz_low w⟩
set_option maxHeartbeats 2000000 in
theorem check_any (P : Nat → Prop) (v : Value) (T : Ld.Tb) (prod seq : Int) (w : World) (h : TabAt P v T w) (hG : Ld.goodB T = true) :
    Calls Tryd.prog 16 #[v, .int .i64 prod, .int .i64 seq] w fun e w' => e = .returned (.tuple #[slV (Ld.check T prod seq).1, .int .i64 (Ld.check T prod seq).2]) ∧ RowKit.Below w.heap.size w w' := by
  unfold Ld.goodB at hG
  simp only [Bool.and_eq_true, decide_eq_true_eq] at hG
  obtain ⟨h64, hrow⟩ := hG
  unfold Ld.check
  by_cases hn : (Ld.numB prod && Ld.numB seq) = true
  · rw [if_pos hn]
    simp only [Bool.and_eq_true] at hn
    have H1 := Lib.hid (rn_any prod)
    have H2 := Lib.hid (rn_any seq)
    rw [hn.1] at H1
    rw [hn.2] at H2
    have HA := Lib.hid (at_any P v T prod (zz w) (h.below (zz_low w)) (by omega))
    have hsq : 0 ≤ seq ∧ seq ≤ 1099511627776 := by have := hn.2; simpa [Ld.numB] using this
    have hmem := rows_mem hrow
    have HT := Lib.hid h
    obtain ⟨a, cap, rfl, hc⟩ := h
    have HC := Lib.hid hc
    clear hn hrow hc
    rcases hat : Ld.at_ T prod with _ | i
    · rw [hat] at HA
      simp only
      clear hat hmem
      by_cases h0 : seq = 0
      · subst h0
        rw [if_pos rfl]
        go_enter Tryd.func16, Tryd.ntmps16
        go_wp2_with fail
        refine (H1.out _).mono ?_
        rintro e w' ⟨rfl, rfl⟩
        go_wp2_with fail
        refine (H2.out _).mono ?_
        rintro e w' ⟨rfl, rfl⟩
        go_wp2_with fail
        refine HA.out.mono ?_
        rintro e w' ⟨rfl, rfl⟩
        simp only [atV]
        go_wp2_with fail
        exact bodyPost_ret (chk_ret (zz_blk w) rfl rfl) rfl ⟨rfl, zz_low w⟩
      · rw [if_neg h0]
        have hne : (seq != 0) = true := by simpa using h0
        go_enter Tryd.func16, Tryd.ntmps16
        go_wp2_with fail
        refine (H1.out _).mono ?_
        rintro e w' ⟨rfl, rfl⟩
        go_wp2_with fail
        refine (H2.out _).mono ?_
        rintro e w' ⟨rfl, rfl⟩
        go_wp2_with fail
        refine HA.out.mono ?_
        rintro e w' ⟨rfl, rfl⟩
        simp only [atV]
        go_wp2_with fail
        exact bodyPost_ret (chk_ret (zz_blk w) rfl rfl) rfl ⟨rfl, zz_low w⟩
    · rw [hat] at HA
      simp only
      have hi := at_lt hat
      obtain ⟨x, hx⟩ : ∃ x, T[i]? = some x := ⟨_, List.getElem?_eq_getElem hi⟩
      have hg : T.getD i (0, []) = x := by rw [List.getD_eq_getElem?_getD, hx]; rfl
      rw [hg]
      obtain ⟨hl1, hl5, hok⟩ := hmem x (List.mem_of_getElem? hx)
      obtain ⟨a2, cap2, hv2, hc2⟩ := HT.out.below (zz_low w)
      obtain ⟨b, off, sv, ha2, hP, -, c1, a', cap', hsv, hsl⟩ := hc2 i x hx
      obtain rfl : a = some ⟨b, off, none⟩ := by injection hv2 with h1; rw [h1, ha2]
      subst hsv
      obtain ⟨n, hn⟩ : ∃ n, x.2.length = n := ⟨_, rfl⟩
      obtain ⟨m, hm⟩ : ∃ m, T.length = m := ⟨_, rfl⟩
      have q0 := (zz_blk w).cell (i := 0) (x := .int .i64 0) rfl
      have q1 := (zz_blk w).cell (i := 1) (x := .int .i64 0) rfl
      have q2 := (zz_blk w).cell (i := 2) (x := .int .i64 0) rfl
      have f0 := (zz_blk w).free (i := 0)
      have f1 := (zz_blk w).free (i := 1)
      have f2 := (zz_blk w).free (i := 2)
      have z0 : (zz w).cell? ⟨w.heap.size + 1, 0, none⟩ = some (.int .i64 0) := by simp
      have z1 : (zz w).cell? ⟨w.heap.size + 1, 1, none⟩ = some (.int .i64 0) := by simp
      have z2 : (zz w).cell? ⟨w.heap.size + 1, 2, none⟩ = some (.int .i64 0) := by simp
      have HZB := Lib.hid (zz_blk w)
      have HZL := Lib.hid (zz_low w)
      have HSL := Lib.hid hsl
      have HN := Lib.hid hn
      have HOK := Lib.hid hok
      rw [hn] at hl1 hl5 c1
      rw [hm] at hi h64
      have HAT : Hid (Calls Tryd.prog 27 #[.slice (some ⟨b, off, none⟩) m cap, .int .i64 prod] (zz w) fun e w' => e = .returned (.int .i64 i) ∧ (zz w) = w') := by
        have := HA.out
        rw [hm] at this
        exact this
      rw [hm]
      clear HA HC HT hc2 hv2 ha2 hx hg hsl hok hmem hat hn hm hP
      obtain ⟨r, hr⟩ : ∃ r, Ld.slotAt x.2 seq = r := ⟨_, rfl⟩
      have HR := Lib.hid hr
      clear hr
      obtain ⟨A, hA⟩ : ∃ A, Ld.look x.2 seq = A := ⟨_, rfl⟩
      rw [hA]
      have HA := Lib.hid hA
      clear hA
      have HQ := Lib.hid (And.intro q0 (And.intro q1 (And.intro q2 (And.intro f0 (And.intro f1 (And.intro f2 (And.intro z0 (And.intro z1 z2))))))))
      have HC1 := Lib.hid c1
      clear q0 q1 q2 f0 f1 f2 z0 z1 z2 c1
      go_enter Tryd.func16, Tryd.ntmps16
      go_wp2_with fail
      refine (H1.out _).mono ?_
      rintro e w' ⟨rfl, rfl⟩
      have hzz : (w.alloc (.cells #[.int .i64 0, .int .i64 0, .int .i64 0] 41)).alloc (.cells #[.int .i64 0, .int .i64 0, .int .i64 0] 41) = zz w := rfl
      rw [hzz] at *
      clear hzz
      generalize zz w = W0 at *
      obtain ⟨q0, q1, q2, f0, f1, f2, z0, z1, z2⟩ := HQ.out
      have c1 := HC1.out
      go_wp2_with fail
      refine (H2.out _).mono ?_
      rintro e w' ⟨rfl, rfl⟩
      go_wp2_with fail
      refine HAT.out.mono ?_
      rintro e w' ⟨rfl, rfl⟩
      go_wp2_with fail
      go_loopw [11] (fun kv wr => ∃ k : Nat, k ≤ n ∧ kv = .int .i64 k ∧ wr = W0 ∧ Ld.slotAt (x.2.drop k) seq = r) (fun kv _ => n - (intOf kv).toNat)
      case atStart => exact ⟨0, Nat.zero_le _, rfl, rfl, by rw [← HR.out]; rfl⟩
      case round =>
        obtain ⟨k, hk, rfl, rfl, hrr⟩ := hrel
        by_cases hlt : k < n
        · obtain ⟨s, hs⟩ : ∃ s, x.2[k]? = some s := ⟨_, List.getElem?_eq_getElem (by rw [HN.out]; exact hlt)⟩
          obtain ⟨b', off', rfl, -, e0, e1, e2⟩ := HSL.out k s hs
          rw [slot_step hs] at hrr
          obtain ⟨s0, s1, s2⟩ := s
          simp only at e0 e1 e2 hrr
          by_cases he : s0 = seq
          · subst he
            rw [if_pos rfl] at hrr
            have HRR := Lib.hid hrr
            clear hrr hs
            go_wp2_with fail
            refine bodyPost_ret (chk_ret (((HZB.out.set (i := 0) (.int .i64 s0)).set (i := 1) (.int .i64 s1)).set (i := 2) (.int .i64 s2)) rfl rfl) rfl ⟨?_, ((HZL.out.setCell (p := ⟨w.heap.size, 0, none⟩) (Nat.le_refl _) _).setCell (p := ⟨w.heap.size, 1, none⟩) (Nat.le_refl _) _).setCell (p := ⟨w.heap.size, 2, none⟩) (Nat.le_refl _) _⟩
            have e : A = (⟨s0, s1, s2⟩, 13) := by rw [← HA.out, Ld.look, HR.out, ← HRR.out]
            rw [e]
            rfl
          · rw [if_neg he] at hrr
            have hne : (s0 == seq) = false := by simpa using he
            have HRR := Lib.hid hrr
            clear hrr hs
            go_wp2_with fail
            go_roundw
            case rel => exact ⟨k + 1, by omega, by go_num, trivial, HRR.out⟩
            case measure => simp [intOf]; omega
        · obtain rfl : k = n := by omega
          rw [List.drop_of_length_le (by rw [HN.out]; exact Nat.le_refl _)] at hrr
          have hr0 : r = none := hrr.symm
          subst hr0
          clear hrr hlt
          obtain ⟨s, hs⟩ : ∃ s, x.2[0]? = some s := ⟨_, List.getElem?_eq_getElem (by rw [HN.out]; omega)⟩
          obtain ⟨b', off', rfl, -, e0, -, -⟩ := HSL.out 0 s hs
          obtain ⟨l, hl⟩ : ∃ l, x.2[k - 1]? = some l := ⟨_, List.getElem?_eq_getElem (by rw [HN.out]; omega)⟩
          obtain ⟨b2, off2, hb2, -, e1, -, -⟩ := HSL.out (k - 1) l hl
          injection hb2 with hb2
          injection hb2 with hb3 hb4
          subst hb3 hb4
          have hseq := okS_iff (HOK.out l (List.mem_of_getElem? hl))
          have hhd : (x.2.headD Ld.zeroS) = s := by
            cases hx2 : x.2 with
            | nil => rw [hx2] at hs; cases hs
            | cons a r => rw [hx2] at hs; simpa using hs
          have hla : (x.2.getLastD Ld.zeroS) = l := by
            rw [List.getLastD_eq_getLast?, List.getLast?_eq_getElem?, HN.out, hl]
            rfl
          obtain ⟨p, hp⟩ : ∃ p, s.seq = p := ⟨_, rfl⟩
          obtain ⟨u, hu⟩ : ∃ u, l.seq = u := ⟨_, rfl⟩
          have HLK : Hid (A = if seq < p then (Ld.zeroS, 21) else if seq = u + 1 then (Ld.zeroS, 0) else (Ld.zeroS, 20)) := by
            show A = _
            rw [← HA.out, Ld.look, HR.out, hhd, hla, hp, hu]
          rw [hp] at e0
          rw [hu] at e1 hseq
          have hub := hseq.1
          have e0' : wr.cell? ⟨b', off', none⟩ = some (.int .i64 p) := by simpa using e0
          obtain ⟨k1, hk1⟩ : ∃ k1, k = k1 + 1 := ⟨k - 1, by omega⟩
          subst hk1
          rw [show k1 + 1 - 1 = k1 by omega] at e1
          clear hs hl hhd hla hp hu hseq e0
          by_cases hlt : seq < p
          · rw [if_pos hlt] at HLK
            go_wp2_with fail
            exact bodyPost_ret (chk_ret (((HZB.out.set (i := 0) (.int .i64 0)).set (i := 1) (.int .i64 0)).set (i := 2) (.int .i64 0)) rfl rfl) rfl ⟨by rw [HLK.out]; rfl, ((HZL.out.setCell (p := ⟨w.heap.size, 0, none⟩) (Nat.le_refl _) _).setCell (p := ⟨w.heap.size, 1, none⟩) (Nat.le_refl _) _).setCell (p := ⟨w.heap.size, 2, none⟩) (Nat.le_refl _) _⟩
          · rw [if_neg hlt] at HLK
            by_cases heq : seq = u + 1
            · rw [if_pos heq] at HLK
              have hne : (seq != u + 1) = false := by simp [heq]
              clear heq
              go_wp2_with fail
              exact bodyPost_ret (chk_ret (((HZB.out.set (i := 0) (.int .i64 0)).set (i := 1) (.int .i64 0)).set (i := 2) (.int .i64 0)) rfl rfl) rfl ⟨by rw [HLK.out]; rfl, ((HZL.out.setCell (p := ⟨w.heap.size, 0, none⟩) (Nat.le_refl _) _).setCell (p := ⟨w.heap.size, 1, none⟩) (Nat.le_refl _) _).setCell (p := ⟨w.heap.size, 2, none⟩) (Nat.le_refl _) _⟩
            · rw [if_neg heq] at HLK
              have hne : (seq != u + 1) = true := by simpa using heq
              clear heq
              go_wp2_with fail
              exact bodyPost_ret (chk_ret (((HZB.out.set (i := 0) (.int .i64 0)).set (i := 1) (.int .i64 0)).set (i := 2) (.int .i64 0)) rfl rfl) rfl ⟨by rw [HLK.out]; rfl, ((HZL.out.setCell (p := ⟨w.heap.size, 0, none⟩) (Nat.le_refl _) _).setCell (p := ⟨w.heap.size, 1, none⟩) (Nat.le_refl _) _).setCell (p := ⟨w.heap.size, 2, none⟩) (Nat.le_refl _) _⟩
  · rw [if_neg hn]
    exact check_bad P v T prod seq w h (by simpa using hn)
end Go.Proofs.YtloallndnmofnaaDoor
