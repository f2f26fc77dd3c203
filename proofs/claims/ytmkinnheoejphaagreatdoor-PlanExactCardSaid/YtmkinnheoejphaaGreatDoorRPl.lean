/- THE DOCUMENT'S has, Life, place. -/
import Derived.Test.YtmkinnheoejphaaGreatDoorPnL
import Derived.Test.YtmkinnheoejphaaGreatDoorLwI
namespace Go.Proofs.YtmkinnheoejphaaGreatDoor
open Go.RowKit

set_option maxHeartbeats 2000000 in
set_option maxRecDepth 100000 in
theorem rhas_any {A : Nat → Prop} (v : Value) (l : List Int) (n : Int) (w : World) (h : Ns A w v l) (hl : l.length ≤ 64) : Calls Tryz.prog 34 #[v, .int .i64 n] w fun e w' => SmeOut w (l.contains n) e w' := by
  obtain ⟨a, cap, rfl⟩ := h.form
  obtain ⟨m, hm⟩ : ∃ m, l.length = m := ⟨_, rfl⟩
  have HH := Lib.hid h
  have HM := Lib.hid hm
  rw [hm] at hl HH ⊢
  clear h hm
  go_enter Tryz.func34, Tryz.ntmps34
  go_wp2_with fail
  go_loopw [5] (fun iv wr => ∃ i : Nat, i ≤ m ∧ iv = .int .i64 i ∧ wr = w ∧ ∀ (j : Nat) (x : Int), j < i → l[j]? = some x → x ≠ n) (fun iv _ => m - (intOf iv).toNat)
  case atStart => exact ⟨0, Nat.zero_le _, rfl, rfl, fun j x hj => by omega⟩
  case round =>
    obtain ⟨i, hi, rfl, rfl, hok⟩ := hrel
    have HOK := Lib.hid hok
    clear hok
    by_cases hlt : i < m
    · obtain ⟨x, hx⟩ : ∃ x, l[i]? = some x := ⟨_, List.getElem?_eq_getElem (by rw [HM.out]; exact hlt)⟩
      have h0 := HH.out
      obtain ⟨b, p, k, e, -, -, d⟩ := nums_at (m := m) (show Rds A wr _ 1 m (l.map (Value.int .i64)) by rw [← HM.out]; rw [← HM.out] at h0; exact h0) (by omega) hx
      obtain rfl : a = some ⟨b, p, none⟩ := by injection e
      have HX := Lib.hid hx
      have i0 : (0 : Int) ≤ (i : Int) := by omega
      have i1 : (i : Int) < (m : Int) := by omega
      clear e hx h0
      by_cases hxn : x = n
      · have HC : Hid (l.contains n = true) := Lib.hid (Pn.has_at (hxn ▸ HX.out))
        subst hxn
        go_wp2_with fail
        go_ret
        exact ⟨by rw [HC.out]; rfl, rfl⟩
      · have HNX : Hid (∀ (j : Nat) (y : Int), j < i + 1 → l[j]? = some y → y ≠ n) := Lib.hid fun j y hj hy => by
          by_cases h : j = i
          · subst h; rw [HX.out] at hy; injection hy with hy; rw [← hy]; exact hxn
          · exact HOK.out j y (by omega) hy
        have hne : (x == n) = false := by simp [hxn]
        clear hxn
        go_wp2_with fail
        go_roundw
        case rel => exact ⟨i + 1, by omega, by go_num, trivial, HNX.out⟩
        case measure => simp [intOf]; omega
    · have HC : Hid (l.contains n = false) := Lib.hid (Pn.has_not fun j x hx => HOK.out j x (by have := (List.getElem?_eq_some_iff.1 hx).1; rw [HM.out] at this; omega) hx)
      go_wp2_with fail
      go_ret
      exact ⟨by rw [HC.out]; rfl, rfl⟩
/-- While place goes on. -/
structure RcS (w W1 W2 : World) (nodes part : Int) (i : Nat) (a : Option Addr) (k : Nat) (gb : Option Nat) (wr : World) : Prop where
  low : Below w.heap.size w wr
  z3 : W2.heap.size ≤ wr.heap.size
  row : NsO W2.heap.size wr (.slice a i k) gb (Pn.chI nodes part i)
  k2 : Blk wr w.heap.size #[.int .i64 0, .slice none 0 0, .int .i64 0] 49
  k3 : Blk wr W1.heap.size #[.int .i64 1, .slice a i k, .int .i64 0] 49
/-- One node more. -/
theorem RcS.step {w W1 W2 wr wA w' : World} {nodes part : Int} {i : Nat} {a : Option Addr} {k : Nat} {gb gb' : Option Nat} {v' : Value} {R : Int} (h : RcS w W1 W2 nodes part i a k gb wr) (hb : Below wr.heap.size wr wA)
    (hlt : w.heap.size < W1.heap.size ∧ W1.heap.size < W2.heap.size) (hn : Pn.chI nodes part (i + 1) = Pn.chI nodes part i ++ [R]) (h1 : Sl w' v' gb' 3 1 (i + 1) ((Pn.chI nodes part i).map (Value.int .i64) ++ [.int .i64 R])) (h2 : wA.grownBy w' gb) (h3 : gb' = gb ∨ ∃ g, gb' = some g ∧ wA.heap.size ≤ g) :
    ∃ a' k', v' = .slice a' (i + 1) k' ∧ (w'.cell? ⟨W1.heap.size, 1, none⟩ = some (.slice a i k) ∧ w'.frozen? ⟨W1.heap.size, 1, none⟩ = false) ∧ RcS w W1 W2 nodes part (i + 1) a' k' gb' (w'.setCell ⟨W1.heap.size, 1, none⟩ (.slice a' (i + 1) k')) := by
  obtain ⟨a', k', rfl⟩ := h1.form
  have hgl := fun b e => h.row.lt b e
  have hk2l := h.k2.lt
  have hk3l := h.k3.lt
  have hsz := hb.size
  have h2s := h2.size
  have k2 := (h.k2.below hb).grown h2 (fun e => by have := hgl _ e.symm; omega)
  have k3 := (h.k3.below hb).grown h2 (fun e => by have := hgl _ e.symm; omega)
  have hkb : Kb W1.heap.size w' (w'.setCell ⟨W1.heap.size, 1, none⟩ (.slice a' (i + 1) k')) := Kb.setCell _ _
  have hlow := h.low.size
  have lowA : Below w.heap.size w w' := Below.appended (h.low.trans (hb.mono hlow)) h2 (fun b e => by have := hgl b e; omega) (by omega)
  have rowz : ∀ b, gb' = some b → W2.heap.size ≤ b := fun b e => by
    rcases h3 with h3 | ⟨g, h3, h4⟩
    · rw [h3] at e; exact (hgl b e).1
    · rw [h3] at e; injection e with e; subst e
      have := h.z3
      omega
  refine ⟨a', k', rfl, ⟨k3.cell rfl, k3.free⟩, ⟨lowA.trans (hkb.below (by omega) k3.lt), Nat.le_trans h.z3 (Nat.le_trans hsz (Nat.le_trans h2s hkb.size)), Wz.kb ⟨?_, rowz⟩ hkb (fun e => by have := rowz _ e; omega), k2.setOther _ (by omega), k3.set (i := 1) _⟩⟩
  rw [hn, List.length_append, List.map_append, Pn.chI_len]
  exact h1
theorem place_ret {W : World} {rb : Nat} {a0 a1 a2 : Value} {tmps : Array Value} (hb : Blk W rb #[a0, a1, a2] 49) (h2 : tmps.getD 6 undef = .pointer (some ⟨rb, 0, none⟩)) :
    (results Tryz.f36 tmps).run Tryz.prog W = .ok (.agg #[a0, a1, a2]) W := by
  obtain ⟨d, hd, hs⟩ := undPart
  have hl := run_loadVar_row (P := Tryz.prog) W rb 49 49 #[a0, a1, a2] (0, 0) d hb hd (by cases d <;> exact hs) sizePart
  simp only [results, Tryz.results36]
  rw [Array.getD_eq_getD_getElem?] at h2
  simp [asAddr, hl, h2]
set_option maxHeartbeats 4000000 in
set_option maxRecDepth 100000 in
theorem place_any' (nodes copies : Int) (part : Int) (w : World) (hn1 : 1 ≤ nodes) (hn5 : nodes ≤ 5) (hc1 : 0 ≤ copies) (hc5 : copies ≤ 5) (hp0 : 0 ≤ part) (hp5 : part ≤ 64) :
    Calls Tryz.prog 36 #[.int .i64 part, .int .i64 nodes, .int .i64 copies] w fun e w' => FirOut w (Pn.first nodes copies part) e w' := by
  obtain ⟨c, rfl⟩ : ∃ c : Nat, copies = c := ⟨copies.toNat, by omega⟩
  have HCH : Hid (Pn.ch0 nodes (c : Int) part = Pn.chI nodes part c) := Lib.hid rfl
  obtain ⟨W1, hW1⟩ : ∃ W, w.alloc (.cells #[.int .i64 0, .slice none 0 0, .int .i64 0] 49) = W := ⟨_, rfl⟩
  obtain ⟨W2, hW2⟩ : ∃ W, W1.alloc (.cells #[.int .i64 1, .slice none 0 0, .int .i64 0] 49) = W := ⟨_, rfl⟩
  have hb1 : Below w.heap.size w W1 := by rw [← hW1]; exact (Below.refl _ _).alloc (Nat.le_refl _) _
  have hb12 : Below W1.heap.size W1 W2 := by rw [← hW2]; exact (Below.refl _ _).alloc (Nat.le_refl _) _
  have k2 : Blk W1 w.heap.size #[.int .i64 0, .slice none 0 0, .int .i64 0] 49 := by rw [← hW1]; exact Blk.new _ _ _
  have k3 : Blk W2 W1.heap.size #[.int .i64 1, .slice none 0 0, .int .i64 0] 49 := by rw [← hW2]; exact Blk.new _ _ _
  have hst : RcS w W1 W2 nodes part 0 none 0 none W2 :=
    ⟨hb1.trans (hb12.mono hb1.size), Nat.le_refl _, NsO.nil _ _, k2.below hb12, k3⟩
  have HST := Lib.hid hst
  have HLT : Hid (w.heap.size < W1.heap.size ∧ W1.heap.size < W2.heap.size) := Lib.hid ⟨k2.lt, k3.lt⟩
  have HW1 := Lib.hid hW1
  have HW2 := Lib.hid hW2
  clear hb1 hb12 k2 k3 hst hW1 hW2
  go_enter Tryz.func36, Tryz.ntmps36
  go_upto_region 1 with fail
  rw [HW1.out]
  go_upto_region 2 with fail
  rw [HW2.out]
  clear HW1 HW2
  go_wp2_with fail
  go_loopw [8] (fun s8 wx => ∃ (i : Nat) (a : Option Addr) (k : Nat) (gb : Option Nat), i ≤ c ∧ s8 = .int .i64 i ∧ RcS w W1 W2 nodes part i a k gb wx) (fun s8 _ => c - (intOf s8).toNat)
  case atStart => exact ⟨0, none, 0, none, Nat.zero_le _, rfl, HST.out⟩
  case round =>
    obtain ⟨i, a, k, gb, hi, rfl, hst⟩ := hrel
    have HS := Lib.hid hst
    by_cases hlt : i < c
    · have i1 : (i : Int) < (c : Int) := by omega
      have i0 : (0 : Int) ≤ (i : Int) := by omega
      have e1 : wr.cell? ⟨W1.heap.size, 1, none⟩ = some (.slice a i k) := hst.k3.cell rfl
      have hR0 : 0 ≤ (part + (i : Int)) % nodes := Int.emod_nonneg _ (by omega)
      have hR1 : (part + (i : Int)) % nodes < nodes := Int.emod_lt_of_pos _ (by omega)
      have hTM : (part + (i : Int)).tmod nodes = (part + (i : Int)) % nodes := Int.tmod_eq_emod_of_nonneg (by omega)
      obtain ⟨R, hR⟩ : ∃ R, (part + (i : Int)) % nodes = R := ⟨_, rfl⟩
      rw [hR] at hR0 hR1 hTM
      have HNX : Hid (Pn.chI nodes part (i + 1) = Pn.chI nodes part i ++ [R + 1]) := Lib.hid (by rw [Pn.chI_succ, hR])
      have hne : ¬ (nodes = 0) := by omega
      have hw1 : IntKind.i64.wrap (part + (i : Int)) = part + (i : Int) := by rw [IntKind.wrap_i64]; omega
      have hw2 : IntKind.i64.wrap (R + 1) = R + 1 := by rw [IntKind.wrap_i64]; omega
      obtain ⟨WA, hWA⟩ : ∃ W, (wr.alloc (.cells #[.int .i64 (R + 1)] 3)).drew = W := ⟨_, rfl⟩
      have hba : Below wr.heap.size wr WA := by rw [← hWA]; exact ((Below.refl _ _).alloc (Nat.le_refl _) _).drew
      have HSRC : Hid (Rds (fun b => b = wr.heap.size) WA (.slice (some ⟨wr.heap.size, 0, none⟩) 1 1) 1 1 [.int .i64 (R + 1)]) := Lib.hid (by
        rw [← hWA]
        exact Rds.below (Rds.lit (w := wr) (n := 1) (size := 1) (cs := [.int .i64 (R + 1)]) 3 rfl) ((Below.refl _ _).drew))
      have HROW : Hid (Sl WA (.slice a i k) gb 3 1 i ((Pn.chI nodes part i).map (Value.int .i64))) := Lib.hid (by
        have := (Wz.below hst.row hba).1
        rw [Pn.chI_len] at this
        exact this)
      have HSTEP : Hid (∀ v' w' gb', Sl w' v' gb' 3 1 (i + 1) ((Pn.chI nodes part i).map (Value.int .i64) ++ [.int .i64 (R + 1)]) → WA.grownBy w' gb → (gb' = gb ∨ ∃ g, gb' = some g ∧ WA.heap.size ≤ g) → _) := Lib.hid fun v' w' gb' h1 h2 h3 => hst.step hba HLT.out HNX.out h1 h2 h3
      obtain ⟨ii, hii, i1i, i2i, i3i, i4i⟩ := infoInt
      rw [← hWA] at HSRC HROW HSTEP
      have e1' : (wr.alloc (.cells #[.int .i64 (R + 1)] 3)).cell? ⟨W1.heap.size, 1, none⟩ = some (.slice a i k) := (Blk.alloc hst.k3 _).cell rfl
      clear hst hR hba hWA
      go_upto_region 5 with fail
      go_region_law (first
        | (refine step_append_rd (by rfl) _ _ _ (by rfl) 3 ii _ 1 8 Tryz.underlying32 hii i1i i2i i3i i4i _ gb i ((Pn.chI nodes part i).map (Value.int .i64)) (by rfl) HROW.out _ 1 [.int .i64 (R + 1)] (by rfl) HSRC.out (by simp [Value.oneCell']) (by omega) (by omega) ?_; intro v' w' gb' h1 h2 h3; obtain ⟨a', k', rfl, ⟨g1, g2⟩, hF⟩ := HSTEP.out v' w' gb' h1 h2 h3; have HF := Lib.hid hF; clear h1 h2 h3 hF)
        | fail)
      all_goals
        go_wp2_with fail
        go_roundw
        case rel => exact ⟨i + 1, a', k', gb', by omega, by go_num, HF.out⟩
        case measure => simp [intOf]; omega
    · obtain rfl : i = c := by omega
      have hF := hst.k2.three (.int .i64 1) (.slice a i k) (.int .i64 0)
      obtain ⟨x0, x1, x2⟩ : wr.cell? ⟨W1.heap.size, 0, none⟩ = some (.int .i64 1) ∧ wr.cell? ⟨W1.heap.size, 1, none⟩ = some (.slice a i k) ∧ wr.cell? ⟨W1.heap.size, 2, none⟩ = some (.int .i64 0) := ⟨hst.k3.cell rfl, hst.k3.cell rfl, hst.k3.cell rfl⟩
      obtain ⟨y0, y1, y2⟩ : wr.cell? ⟨w.heap.size, 0, none⟩ = some (.int .i64 0) ∧ wr.cell? ⟨w.heap.size, 1, none⟩ = some (.slice none 0 0) ∧ wr.cell? ⟨w.heap.size, 2, none⟩ = some (.int .i64 0) := ⟨hst.k2.cell rfl, hst.k2.cell rfl, hst.k2.cell rfl⟩
      obtain ⟨z0, z1, z2⟩ : wr.frozen? ⟨w.heap.size, 0, none⟩ = false ∧ wr.frozen? ⟨w.heap.size, 1, none⟩ = false ∧ wr.frozen? ⟨w.heap.size, 2, none⟩ = false := ⟨hst.k2.free, hst.k2.free, hst.k2.free⟩
      have HF := Lib.hid hF
      clear hst hF
      go_wp2_with fail
      refine bodyPost_ret (place_ret HF.out rfl) rfl ?_
      have hk := three_kb wr w.heap.size (.int .i64 1) (.slice a i k) (.int .i64 0)
      have hlt := HLT.out
      refine ⟨HS.out.low.trans (hk.below (by omega) HS.out.k2.lt), .slice a i k, gb, ?_, ?_⟩
      · unfold Pn.first ptv; rfl
      · show NsO w.heap.size _ (.slice a i k) gb (Pn.ch0 nodes (i : Int) part)
        rw [HCH.out]
        exact Wz.mono (Wz.kb HS.out.row hk (fun e => by have := HS.out.row.2 _ e; omega)) (by omega)
end Go.Proofs.YtmkinnheoejphaaGreatDoor
