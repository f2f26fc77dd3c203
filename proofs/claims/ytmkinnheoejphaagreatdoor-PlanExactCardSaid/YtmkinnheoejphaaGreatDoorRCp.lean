/- THE DOCUMENT'S Copy. -/
import Derived.Test.YtmkinnheoejphaaGreatDoorRLw
namespace Go.Proofs.YtmkinnheoejphaaGreatDoor
open Go.RowKit

/-- While Copy goes on. -/
structure CpS (w W1 W2 W3 : World) (n c : Int) (parts : List Pn.Pt) (i : Nat) (lab : Lab) (a : Option Addr) (k : Nat) (gb : Option Nat) (E : List PE) (pc : Array Value) (la : Option Addr) (ln lc : Nat) (wr : World) : Prop where
  low : Below w.heap.size w wr
  z3 : W3.heap.size ≤ wr.heap.size
  xs : E.map PE.x = parts.take i
  il : i ≤ parts.length
  row : PsE W3.heap.size lab wr (.slice a i k) gb E
  k1 : Blk wr w.heap.size pc 25
  k2 : Blk wr W1.heap.size #[.int .i64 0, .int .i64 0, .slice none 0 0, .slice none 0 0] 25
  k3 : Blk wr W2.heap.size #[.int .i64 n, .int .i64 c, .slice a i k, .slice la ln lc] 25
theorem CpS.step {w W1 W2 W3 wr wA wB w' : World} {n c : Int} {parts : List Pn.Pt} {x : Pn.Pt} {la : Option Addr} {ln lc : Nat} {i : Nat} {lab : Lab} {a : Option Addr} {k : Nat} {gb gb' cb : Option Nat} {E : List PE} {pc : Array Value} {v' cv : Value} (h : CpS w W1 W2 W3 n c parts i lab a k gb E pc la ln lc wr) (hx : parts[i]? = some x)
    (hlt : w.heap.size < W1.heap.size ∧ W1.heap.size < W2.heap.size ∧ W2.heap.size < W3.heap.size) (hA : Below wr.heap.size wr wA) (hc : NsO wr.heap.size wA cv cb (x).ch) (hB : Below wA.heap.size wA wB)
    (h1 : Sl w' v' gb' 49 3 (i + 1) (E.flatMap PE.cells ++ PE.cells ⟨x, cv⟩)) (h2 : wB.grownBy w' gb) (h3 : gb' = gb ∨ ∃ g, gb' = some g ∧ wB.heap.size ≤ g) :
    ∃ a' k' lab' E', v' = .slice a' (i + 1) k' ∧ (w'.cell? ⟨W2.heap.size, 2, none⟩ = some (.slice a i k) ∧ w'.frozen? ⟨W2.heap.size, 2, none⟩ = false) ∧ CpS w W1 W2 W3 n c parts (i + 1) lab' a' k' gb' E' pc la ln lc (w'.setCell ⟨W2.heap.size, 2, none⟩ (.slice a' (i + 1) k')) := by
  obtain ⟨a', k', rfl⟩ := h1.form
  have hEl : i = E.length := by have := congrArg List.length h.xs; rw [List.length_map, List.length_take] at this; have := h.il; omega
  subst hEl
  have hgl := fun b e => h.row.1.lt b e
  have hk1l := h.k1.lt
  have hk2l := h.k2.lt
  have hk3l := h.k3.lt
  have hz3 := h.z3
  have hsA := hA.size
  have hsB := hB.size
  have h2s := h2.size
  have hlow := h.low.size
  have hAB : Below wr.heap.size wr wB := hA.trans (hB.mono hsA)
  have k1 := (h.k1.below hAB).grown h2 (fun e => by have := hgl _ e.symm; omega)
  have k2 := (h.k2.below hAB).grown h2 (fun e => by have := hgl _ e.symm; omega)
  have k3 := (h.k3.below hAB).grown h2 (fun e => by have := hgl _ e.symm; omega)
  have hkb : Kb W2.heap.size w' (w'.setCell ⟨W2.heap.size, 2, none⟩ (.slice a' (E.length + 1) k')) := Kb.setCell _ _
  have lowA : Below w.heap.size w w' := Below.appended (h.low.trans (hAB.mono hlow)) h2 (fun b e => by have := hgl b e; omega) (by omega)
  have hp := h.row.push hz3 hA hc hB h1 h2 h3
  refine ⟨a', k', relab (relab lab wr.heap.size (.ch E.length)) wB.heap.size .ps, E ++ [⟨x, cv⟩], rfl, ⟨k3.cell rfl, k3.free⟩, ⟨lowA.trans (hkb.below (by omega) k3.lt), Nat.le_trans hz3 (Nat.le_trans hsA (Nat.le_trans hsB (Nat.le_trans h2s hkb.size))), ?_, ?_, ?_, k1.setOther _ (by omega), k2.setOther _ (by omega), k3.set (i := 2) _⟩⟩
  · rw [List.map_append, h.xs, List.take_add_one, hx]
    rfl
  · exact (List.getElem?_eq_some_iff.1 hx).1
  · refine hp.keep fun b hl hb _ => ⟨hkb.block b hl (by omega), rfl⟩
theorem copy_ret {W : World} {rb : Nat} {a0 a1 a2 a3 : Value} {tmps : Array Value} (hb : Blk W rb #[a0, a1, a2, a3] 25) (h2 : tmps.getD 2 undef = .pointer (some ⟨rb, 0, none⟩)) :
    (results Tryz.f33 tmps).run Tryz.prog W = .ok (.agg #[a0, a1, a2, a3]) W := by
  obtain ⟨d, hd, hs⟩ := undPlan
  have hl := run_loadVar_row (P := Tryz.prog) W rb 25 25 #[a0, a1, a2, a3] (0, 0) d hb hd (by cases d <;> exact hs) sizePlan
  simp only [results, Tryz.results33]
  rw [Array.getD_eq_getD_getElem?] at h2
  simp [asAddr, hl, h2]
set_option maxHeartbeats 4000000 in
set_option maxRecDepth 100000 in
theorem rcopy_any {A : Nat → Prop} (pv : Value) (p : Pn.P) (w : World) (h : PlR A w pv p) (hl : p.parts.length ≤ 64) (hll : p.lives.length ≤ 64) (hc : ∀ x ∈ p.parts, x.ch.length ≤ 64) : Calls Tryz.prog 33 #[pv] w fun e w' => ClpOut w p e w' := by
  obtain ⟨sv, lv, rfl, hps, hlv⟩ := h
  obtain ⟨nodes, copies, parts, lives⟩ := p
  simp only [plv] at hps hlv hl hll hc ⊢
  obtain ⟨a0, cap, rfl⟩ := hps.form
  obtain ⟨la, lcap, rfl⟩ := hlv.form
  obtain ⟨m, hm⟩ : ∃ n, parts.length = n := ⟨_, rfl⟩
  obtain ⟨ln, hln⟩ : ∃ n, lives.length = n := ⟨_, rfl⟩
  obtain ⟨W1, hW1⟩ : ∃ W, w.alloc (.cells #[.int .i64 nodes, .int .i64 copies, .slice a0 parts.length cap, .slice la lives.length lcap] 25) = W := ⟨_, rfl⟩
  obtain ⟨W2, hW2⟩ : ∃ W, W1.alloc (.cells #[.int .i64 0, .int .i64 0, .slice none 0 0, .slice none 0 0] 25) = W := ⟨_, rfl⟩
  obtain ⟨W3, hW3⟩ : ∃ W, W2.alloc (.cells #[.int .i64 nodes, .int .i64 copies, .slice a0 parts.length cap, .slice la lives.length lcap] 25) = W := ⟨_, rfl⟩
  obtain ⟨W4, hW4⟩ : ∃ W, W3.setCell ⟨W2.heap.size, 2, none⟩ (.slice none 0 0) = W := ⟨_, rfl⟩
  have hb1 : Below w.heap.size w W1 := by rw [← hW1]; exact (Below.refl _ _).alloc (Nat.le_refl _) _
  have hb12 : Below W1.heap.size W1 W2 := by rw [← hW2]; exact (Below.refl _ _).alloc (Nat.le_refl _) _
  have hb23 : Below W2.heap.size W2 W3 := by rw [← hW3]; exact (Below.refl _ _).alloc (Nat.le_refl _) _
  have k1 : Blk W1 w.heap.size #[.int .i64 nodes, .int .i64 copies, .slice a0 parts.length cap, .slice la lives.length lcap] 25 := by rw [← hW1]; exact Blk.new _ _ _
  have k2 : Blk W2 W1.heap.size #[.int .i64 0, .int .i64 0, .slice none 0 0, .slice none 0 0] 25 := by rw [← hW2]; exact Blk.new _ _ _
  have k3 : Blk W3 W2.heap.size #[.int .i64 nodes, .int .i64 copies, .slice a0 parts.length cap, .slice la lives.length lcap] 25 := by rw [← hW3]; exact Blk.new _ _ _
  have hlt : w.heap.size < W1.heap.size ∧ W1.heap.size < W2.heap.size ∧ W2.heap.size < W3.heap.size := ⟨k1.lt, k2.lt, k3.lt⟩
  have hk : Kb W2.heap.size W3 W4 := by rw [← hW4]; exact Kb.setCell _ _
  have hs4 := hk.size
  have hb3 : Below w.heap.size w W3 := (hb1.trans (hb12.mono hb1.size)).trans (hb23.mono (by omega))
  have hb4 : Below w.heap.size w W4 := hb3.trans (hk.below (by omega) k3.lt)
  have hst : CpS w W1 W2 W3 nodes copies parts 0 (fun _ => .no) none 0 none [] #[.int .i64 nodes, .int .i64 copies, .slice a0 parts.length cap, .slice la lives.length lcap] la ln lcap W4 :=
    ⟨hb4, hs4, rfl, Nat.zero_le _, ⟨Wz.nil _ _ _ _, (fun b e => by cases e), (fun k e he => by simp at he)⟩, ((k1.below hb12).below hb23).kb hk (by omega), (k2.below hb23).kb hk (by omega), by rw [← hW4, ← hln]; exact k3.set (i := 2) _⟩
  have HST := Lib.hid hst
  have HLT := Lib.hid hlt
  have HPS : Hid (∀ wx, Below w.heap.size w wx → PsR A wx (.slice a0 m cap) parts) := Lib.hid fun wx hb => by rw [← hm]; exact hps.below hb
  have HLV : Hid (∀ wx, Below w.heap.size w wx → Rds A wx (.slice la ln lcap) 2 ln (lcs lives)) := Lib.hid fun wx hb => by have := Rds.below hlv hb; rw [hln] at this; exact this
  have HC := Lib.hid hc
  have HM := Lib.hid hm
  have HLN := Lib.hid hln
  obtain ⟨y0, y1, y2, y3⟩ := k3.free4
  obtain ⟨x0, x1, x2, x3⟩ := k3.cells4
  obtain ⟨v0, v1, v2, v3⟩ := ((k1.below hb12)).cells4
  rw [hm, hln] at hW1 hW3 HST
  rw [hm] at x2 v2
  rw [hln] at x3 v3
  rw [hm, hln]
  rw [hm] at hl
  rw [hln] at hll
  have HW2 := Lib.hid hW2
  have HW3 := Lib.hid hW3
  have HW4 := Lib.hid hW4
  clear hb1 hb12 hb23 k1 k2 k3 hlt hk hs4 hb3 hb4 hst hps hlv hc hm hln hW2 hW3 hW4
  go_enter Tryz.func33, Tryz.ntmps33
  go_upto_region 1 with fail
  rw [HW2.out]
  clear hW1
  go_upto_region 2 with fail
  rw [HW3.out]
  clear v0 v1 v2 v3
  go_upto_region 3 with fail
  rw [HW4.out]
  clear x0 x1 x2 x3 y0 y1 y2 y3 HW2 HW3 HW4
  obtain ⟨PC, hPC⟩ : ∃ PC : Array Value, #[Value.int .i64 nodes, .int .i64 copies, .slice a0 m cap, .slice la ln lcap] = PC := ⟨_, rfl⟩
  have HPC := Lib.hid hPC
  rw [hPC] at HST
  clear hPC
  go_wp2_with fail
  go_loopw [4, 5] (fun s4 _ wx => ∃ (i : Nat) (lab : Lab) (a : Option Addr) (k : Nat) (gb : Option Nat) (E : List PE), i ≤ m ∧ s4 = .int .i64 i ∧ CpS w W1 W2 W3 nodes copies parts i lab a k gb E PC la ln lcap wx) (fun s4 _ _ => m - (intOf s4).toNat)
  case atStart => exact ⟨0, _, none, 0, none, [], Nat.zero_le _, rfl, HST.out⟩
  case round =>
    clear HST
    obtain ⟨i, lab, a, k, gb, E, hi, rfl, hst⟩ := hrel
    have HS := Lib.hid hst
    have hk1 := hst.k1
    rw [← HPC.out] at hk1
    obtain ⟨c0, c1, c2, c3⟩ := hk1.cells4
    have HK1 := Lib.hid hk1
    clear hk1
    by_cases hlt : i < m
    · obtain ⟨x, hx⟩ : ∃ x, parts[i]? = some x := ⟨_, List.getElem?_eq_getElem (by rw [HM.out]; exact hlt)⟩
      have hv := HPS.out wr hst.low
      rw [← HM.out] at hv
      obtain ⟨b, p, cap', cv, ev, -, hbl, hns, e0, e1, e2⟩ := hv.at hx
      rw [HM.out] at ev
      obtain rfl : a0 = some ⟨b, p, none⟩ := by injection ev
      have hc64 := HC.out x (List.mem_of_getElem? hx)
      have HX := Lib.hid hx
      obtain ⟨xe, xc, xl⟩ := x
      simp only at e0 e1 e2 hns hc64
      obtain ⟨ca, cc, rfl⟩ := hns.form
      obtain ⟨cn, hcn⟩ : ∃ n, xc.length = n := ⟨_, rfl⟩
      have HCN := Lib.hid hcn
      obtain ⟨W5, hW5⟩ : ∃ W, wr.alloc (.cells #[.int .i64 xe, .slice ca xc.length cc, .int .i64 xl] 49) = W := ⟨_, rfl⟩
      have hb5 : Below wr.heap.size wr W5 := by rw [← hW5]; exact (Below.refl _ _).alloc (Nat.le_refl _) _
      have hk5 : Blk W5 wr.heap.size #[.int .i64 xe, .slice ca xc.length cc, .int .i64 xl] 49 := by rw [← hW5]; exact Blk.new _ _ _
      obtain ⟨W6, hW6⟩ : ∃ W, W5.alloc (.cells #[] 3) = W := ⟨_, rfl⟩
      have hb6 : Below W5.heap.size W5 W6 := by rw [← hW6]; exact (Below.refl _ _).alloc (Nat.le_refl _) _
      have HE : Hid (Wz W5.heap.size W6 (.slice (some ⟨W5.heap.size, 0, none⟩) 0 0) (some W5.heap.size) 3 1 0 []) := Lib.hid (by rw [← hW6]; exact Wz.empty _ _ _ (Nat.le_refl _))
      have HSRC := Lib.hid (show Rds _ W6 (.slice ca xc.length cc) 1 xc.length (xc.map (Value.int .i64)) from (hns.below hb5).below hb6)
      have HONE := Lib.hid (ns_one xc)
      rw [hcn] at hW5 hk5 e1 HSRC hc64
      have HK6 := Lib.hid (hk5.below hb6)
      have HB5 := Lib.hid hb5
      have HB6 := Lib.hid hb6
      have HSZ : Hid (wr.heap.size < W5.heap.size) := Lib.hid hk5.lt
      have i0 : (0 : Int) ≤ (i : Int) := by omega
      have i1 : (i : Int) < (m : Int) := by omega
      have HW5 := Lib.hid hW5
      obtain ⟨ii, hii, i1i, i2i, i3i, i4i⟩ := infoInt
      obtain ⟨ip, hip, i1p, i2p, i3p, i4p⟩ := infoPart
      have hm64 : i ≤ 64 := by omega
      clear hst hv ev hx hns hcn hb5 hb6 hk5 hW5 hbl
      go_upto_region 7 with fail
      rw [HW5.out]
      clear HW5 e0 e1 e2 c0 c1 c2 c3
      obtain ⟨b5, hb5⟩ : ∃ n, wr.heap.size = n := ⟨_, rfl⟩
      rw [hb5] at HK6 ⊢
      have HB5E := Lib.hid hb5
      clear hb5
      obtain ⟨d0, d1, d2⟩ := HK6.out.cells3
      go_wp2_with (at_builtin; refine wpList_append_rd (by rfl) _ _ _ (by rfl) 3 ii _ 1 8 Tryz.underlying32 hii i1i i2i i3i i4i _ (some W5.heap.size) 0 [] (by rfl) HE.out.1 _ cn (xc.map (Value.int .i64)) (by rfl) HSRC.out HONE.out (by omega) (by omega) ?_)
      intro v' w' gb' q1 q2 q3
      have hwz : Wz W5.heap.size w' v' gb' 3 1 cn (xc.map (Value.int .i64)) := ⟨by simpa using q1, fun b e => by
        rcases q3 with q3 | ⟨g, q3, q4⟩
        · rw [q3] at e; cases e; exact Nat.le_refl _
        · rw [q3] at e; cases e; have := HB6.out.size; omega⟩
      have hbk : Below W5.heap.size W5 w' := Below.appended HB6.out q2 (fun b e => by cases e; exact Nat.le_refl _) HB6.out.size
      obtain ⟨a7, k7, rfl⟩ := hwz.form
      have hk7 : Blk w' b5 #[.int .i64 xe, .slice ca cn cc, .int .i64 xl] 49 := HK6.out.grown q2 (fun e => by cases e; have := HSZ.out; have := HB5E.out; omega)
      obtain ⟨W7, hW7⟩ : ∃ W, w'.setCell ⟨b5, 1, none⟩ (.slice a7 cn k7) = W := ⟨_, rfl⟩
      have hk : Kb b5 w' W7 := by rw [← hW7]; exact Kb.setCell _ _
      have HK7 : Hid (Blk W7 b5 #[.int .i64 xe, .slice a7 cn k7, .int .i64 xl] 49) := Lib.hid (by rw [← hW7]; exact hk7.set (i := 1) _)
      have HCH : Hid (NsO wr.heap.size W7 (.slice a7 cn k7) gb' xc) := Lib.hid (by
        have := (hwz.kb hk (fun e => by have := hwz.2 _ e; have := HSZ.out; have := HB5E.out; omega)).mono (z' := wr.heap.size) (by have := HSZ.out; omega)
        unfold NsO
        rw [HCN.out]
        exact this)
      have HB7 : Hid (Below wr.heap.size wr W7) := Lib.hid ((HB5.out.trans (hbk.mono HB5.out.size)).trans (hk.below (by have := HB5E.out; omega) hk7.lt))
      obtain ⟨g0, g1, g2⟩ := hk7.cells3
      have f1 : w'.frozen? ⟨b5, 1, none⟩ = false := hk7.free
      have HW7 := Lib.hid hW7
      clear q1 q2 q3 hwz hbk hk7 hk hW7 d0 d1 d2 hW6 HE HSRC
      go_upto_region 8 with fail
      rw [HW7.out]
      clear HW7 g0 g1 g2 f1
      obtain ⟨W8, hW8⟩ : ∃ W, W7.alloc (.cells #[.int .i64 xe, .slice a7 cn k7, .int .i64 xl] 49) = W := ⟨_, rfl⟩
      have hb8 : Below W7.heap.size W7 W8 := by rw [← hW8]; exact (Below.refl _ _).alloc (Nat.le_refl _) _
      have HS8 : Hid (Rds (fun b => b = W7.heap.size) W8 (.slice (some ⟨W7.heap.size, 0, none⟩) 1 1) 3 1 [.int .i64 xe, .slice a7 cn k7, .int .i64 xl]) := Lib.hid (by rw [← hW8]; exact Rds.lit (w := W7) (n := 1) (size := 3) (cs := [.int .i64 xe, .slice a7 cn k7, .int .i64 xl]) 49 rfl)
      have HEL : Hid (E.length = i) := Lib.hid (by have := congrArg List.length HS.out.xs; rw [List.length_map, List.length_take] at this; have := HS.out.il; omega)
      have HROW : Hid (Sl W8 (.slice a i k) gb 49 3 i (E.flatMap PE.cells)) := Lib.hid (by
        have := ((HS.out.row.1.below HB7.out).below hb8).1
        rw [HEL.out] at this
        exact this)
      have HSTEP : Hid (∀ v' w' gb'', Sl w' v' gb'' 49 3 (i + 1) (E.flatMap PE.cells ++ [.int .i64 xe, .slice a7 cn k7, .int .i64 xl]) → W8.grownBy w' gb → (gb'' = gb ∨ ∃ g, gb'' = some g ∧ W8.heap.size ≤ g) → _) := Lib.hid fun v' w' gb'' h1 h2 h3 => HS.out.step (x := ⟨xe, xc, xl⟩) (cv := .slice a7 cn k7) HX.out HLT.out HB7.out HCH.out hb8 h1 h2 h3
      have r2 : W7.cell? ⟨W2.heap.size, 2, none⟩ = some (.slice a i k) := (HS.out.k3.below HB7.out).cell rfl
      obtain ⟨d0, d1, d2⟩ := HK7.out.cells3
      clear hb8
      go_wp2_with (at_builtin; refine wpList_append_rd (by rfl) _ _ _ (by rfl) 49 ip _ 3 40 Tryz.underlying22 hip i1p i2p i3p i4p _ gb i (E.flatMap PE.cells) (by rfl) HROW.out _ 1 [.int .i64 xe, .slice a7 cn k7, .int .i64 xl] (by rfl) HS8.out (by simp [Value.oneCell']) (by omega) (by omega) ?_)
      intro v'' w'' gb'' h1 h2 h3
      obtain ⟨a', k', lab', E', rfl, ⟨g1, g2⟩, hF⟩ := HSTEP.out v'' w'' gb'' h1 h2 h3
      have HF := Lib.hid hF
      clear h1 h2 h3 hF HSTEP HROW HS8 d0 d1 d2 r2 hW8
      go_wp2_with fail
      go_roundw
      case rel => exact ⟨i + 1, lab', a', k', gb'', E', by omega, by go_num, HF.out⟩
      case measure => simp [intOf]; omega
    · have HI : Hid (i = m) := Lib.hid (by omega)
      obtain ⟨il, hil, i1l, i2l, i3l, i4l⟩ := infoLife
      obtain ⟨W6, hW6⟩ : ∃ W, wr.alloc (.cells #[] 55) = W := ⟨_, rfl⟩
      have hb6 : Below wr.heap.size wr W6 := by rw [← hW6]; exact (Below.refl _ _).alloc (Nat.le_refl _) _
      have HE : Hid (Wz wr.heap.size W6 (.slice (some ⟨wr.heap.size, 0, none⟩) 0 0) (some wr.heap.size) 55 2 0 []) := Lib.hid (by rw [← hW6]; exact Wz.empty _ _ _ (Nat.le_refl _))
      have HSRC := Lib.hid (HLV.out W6 (HS.out.low.trans (hb6.mono HS.out.low.size)))
      have HONE := Lib.hid (lcs_one lives)
      have HB6 := Lib.hid hb6
      have n3 : W6.cell? ⟨w.heap.size, 3, none⟩ = some (.slice la ln lcap) := (HK1.out.below hb6).cell rfl
      have im : ¬ ((i : Int) < (m : Int)) := by omega
      clear hst hb6 c0 c1 c3
      go_wp2_with (at_builtin; refine wpList_append_rd (by rfl) _ _ _ (by rfl) 55 il _ 2 16 Tryz.underlying23 hil i1l i2l i3l i4l _ (some wr.heap.size) 0 [] (by rfl) HE.out.1 _ ln (lcs lives) (by rfl) HSRC.out HONE.out (by omega) (by omega) ?_)
      intro v' w' gb' q1 q2 q3
      have hwz : Wz wr.heap.size w' v' gb' 55 2 ln (lcs lives) := ⟨by simpa using q1, fun b e => by
        rcases q3 with q3 | ⟨g, q3, q4⟩
        · rw [q3] at e; cases e; exact Nat.le_refl _
        · rw [q3] at e; cases e; have := HB6.out.size; omega⟩
      have hbk : Below wr.heap.size wr w' := Below.appended HB6.out q2 (fun b e => by cases e; exact Nat.le_refl _) HB6.out.size
      obtain ⟨a9, k9, rfl⟩ := hwz.form
      have hk3 := HS.out.k3.below hbk
      obtain ⟨W9, hW9⟩ : ∃ W, w'.setCell ⟨W2.heap.size, 3, none⟩ (.slice a9 ln k9) = W := ⟨_, rfl⟩
      have hk : Kb W2.heap.size w' W9 := by rw [← hW9]; exact Kb.setCell _ _
      have HK9 : Hid (Blk W9 W2.heap.size #[.int .i64 nodes, .int .i64 copies, .slice a i k, .slice a9 ln k9] 25) := Lib.hid (by rw [← hW9]; exact hk3.set (i := 3) _)
      have HR9 : Hid (Blk W9 W1.heap.size #[.int .i64 0, .int .i64 0, .slice none 0 0, .slice none 0 0] 25) := Lib.hid ((HS.out.k2.below hbk).kb hk (by have := HLT.out; omega))
      have HKB : Hid (Kb W2.heap.size w' W9) := Lib.hid hk
      have HWZ := Lib.hid hwz
      have HBK := Lib.hid hbk
      obtain ⟨u0, u1, u2, u3⟩ := hk3.cells4
      obtain ⟨f0, f1, f2, f3⟩ := hk3.free4
      have HW9 := Lib.hid hW9
      clear q1 q2 q3 hwz hbk hk3 hk hW9 hW6 HE HSRC n3
      go_upto_region 10 with fail
      rw [HW9.out]
      clear HW9 u0 u1 u2 u3 f0 f1 f2 f3
      obtain ⟨u0, u1, u2, u3⟩ := HK9.out.cells4
      obtain ⟨z0, z1, z2, z3⟩ := HR9.out.cells4
      obtain ⟨f0, f1, f2, f3⟩ := HR9.out.free4
      go_wp2_with fail
      refine bodyPost_ret (copy_ret (HR9.out.four _ _ _ _) rfl) rfl ?_
      have hs := HS.out
      have hlw := HLT.out
      have hlow := hs.low.size
      have hz3 := hs.z3
      have hkb := HKB.out.trans (Kb.refl _ _)
      have hbks := HBK.out.size
      have hk4 := four_kb W9 W1.heap.size (.int .i64 nodes) (.int .i64 copies) (.slice a i k) (.slice a9 ln k9)
      have hblk : ∀ b, b < w'.heap.size → b ≠ W2.heap.size → b ≠ W1.heap.size → ((((W9.setCell ⟨W1.heap.size, 0, none⟩ (.int .i64 nodes)).setCell ⟨W1.heap.size, 1, none⟩ (.int .i64 copies)).setCell ⟨W1.heap.size, 2, none⟩ (.slice a i k)).setCell ⟨W1.heap.size, 3, none⟩ (.slice a9 ln k9)).heap[b]? = w'.heap[b]? := fun b h1 h2 h3 => by
        rw [hk4.block b (by have := HKB.out.size; omega) h3, HKB.out.block b h1 h2]
      refine ⟨((hs.low.trans (HBK.out.mono hlow)).trans (HKB.out.below (by omega) (by omega))).trans (hk4.below (by omega) HR9.out.lt), relab lab wr.heap.size .lv, _, _, rfl, ⟨gb, E, ?_, ?_⟩, gb', ?_, fun b e => ?_⟩
      · simp only
        rw [hs.xs, List.take_of_length_le (by rw [HM.out]; have := HI.out; omega)]
      · have hr : PsE w.heap.size lab wr (.slice a i k) gb E := hs.row.mono (by omega)
        refine hs.row.keep (fun b hl hb _ => ⟨?_, relab_lt hl⟩) |>.mono (by omega)
        rw [hblk b (by omega) (by omega) (by omega), HBK.out.block b hl]
      · simp only
        have h1 := HWZ.out.mono (z' := w.heap.size) (by omega)
        rw [HLN.out]
        exact ⟨h1.1.same fun b e => hblk b (h1.1.lt b e) (by have := HWZ.out.2 b e; omega) (by have := HWZ.out.2 b e; omega), h1.2⟩
      · exact relab_ge (HWZ.out.2 b e)
end Go.Proofs.YtmkinnheoejphaaGreatDoor
