/- THE CONTRACT OF New; a place more. -/
import Derived.Test.YtmkinnheoejphaaGreatDoorPnK
namespace Go.Proofs.YtmkinnheoejphaaGreatDoor
open Go.RowKit

/-- A place more. -/
theorem PsE.push {z : Nat} {lab : Lab} {w wA wB w' : World} {v v' cv : Value} {gb gb' cb : Option Nat} {E : List PE} {x : Pn.Pt} (h : PsE z lab w v gb E) (hz : z ≤ w.heap.size) (hA : Below w.heap.size w wA) (hc : NsO w.heap.size wA cv cb x.ch) (hB : Below wA.heap.size wA wB)
    (h1 : Sl w' v' gb' 49 3 (E.length + 1) (E.flatMap PE.cells ++ PE.cells ⟨x, cv⟩)) (h2 : wB.grownBy w' gb) (h3 : gb' = gb ∨ ∃ g, gb' = some g ∧ wB.heap.size ≤ g) :
    PsE z (relab (relab lab w.heap.size (.ch E.length)) wB.heap.size .ps) w' v' gb' (E ++ [⟨x, cv⟩]) := by
  have hsA := hA.size
  have hsB := hB.size
  have hgl := fun b e => h.1.lt b e
  have hAB : Below w.heap.size w wB := hA.trans (hB.mono hsA)
  refine ⟨⟨?_, fun b e => ?_⟩, fun b e => ?_, fun k e he => ?_⟩
  · rw [List.length_append, List.flatMap_append]
    simpa using h1
  · rcases h3 with h3 | ⟨g, h3, h4⟩
    · rw [h3] at e; exact (hgl b e).1
    · rw [h3] at e; injection e with e; subst e; omega
  · rcases h3 with h3 | ⟨g, h3, h4⟩
    · rw [h3] at e
      have := hgl b e
      rw [relab_lt (by omega), relab_lt this.2]
      exact h.2.1 b e
    · rw [h3] at e; injection e with e; subst e; exact relab_ge h4
  · rw [List.getElem?_append] at he
    split at he
    · refine (h.2.2 k e he).keep fun b hl _ hb => ⟨?_, ?_⟩
      · rw [h2.block b (by omega) (fun e2 => by have := h.2.1 b e2.symm; rw [this] at hb; cases hb), hAB.block b hl]
      · rw [relab_lt (by omega), relab_lt hl]; exact hb
    · rename_i hk
      have hk2 : k - E.length = 0 := by
        have := (List.getElem?_eq_some_iff.1 he).1
        simp only [List.length_cons, List.length_nil] at this
        omega
      rw [hk2] at he
      simp only [List.getElem?_cons_zero, Option.some.injEq] at he
      subst he
      have hke : k = E.length := by omega
      subst hke
      refine ⟨cb, (((Wz.below hc hB).grown h2 (fun b e e2 => by have := hc.lt b e; have := hgl b e2; omega)).mono hz), fun b e => ?_⟩
      have := hc.lt b e
      rw [relab_lt (by omega), relab_ge this.1]
theorem LvO.push {z n m : Nat} {lab : Lab} {w w' : World} {v : Value} {q : List (Int × Int)} {r s : Rl} (h : LvO z lab w v q) (hb : ∀ b, b < w.heap.size → lab b = .lv → w'.heap[b]? = w.heap[b]?) (hn : w.heap.size ≤ n) (hm : w.heap.size ≤ m) : LvO z (relab (relab lab n r) m s) w' v q :=
  h.keep fun b hl _ e => ⟨hb b hl e, by rw [relab_lt (by omega), relab_lt (by omega)]; exact e⟩
/-- The places of a plan at its beginning, some of them. -/
def Pn.newI (n c : Int) (i : Nat) : List Pn.Pt := (List.range i).map fun (k : Nat) => Pn.first n c (k : Int)
theorem Pn.newI_succ (n c : Int) (i : Nat) : Pn.newI n c (i + 1) = Pn.newI n c i ++ [Pn.first n c (i : Int)] := by
  unfold Pn.newI
  rw [List.range_succ, List.map_append]
  rfl
theorem Pn.newI_len (n c : Int) (i : Nat) : (Pn.newI n c i).length = i := by unfold Pn.newI; simp
def NewOut (w : World) (n c m : Int) (e : Ending) (w' : World) : Prop := Below w.heap.size w w' ∧ ∃ pv, e = .returned (.tuple #[pv, .int .i64 (if Pn.layB n c m = true then 0 else 1)]) ∧ PlO w.heap.size w' pv (if Pn.layB n c m = true then Pn.new n c m else Pn.zeroP)
theorem new_ret {W : World} {rb : Nat} {a0 a1 a2 a3 n : Value} {tmps : Array Value} (hb : Blk W rb #[a0, a1, a2, a3] 25) (h2 : tmps.getD 2 undef = .pointer (some ⟨rb, 0, none⟩)) (h3 : tmps.getD 3 undef = n) :
    (results Tryz.f9 tmps).run Tryz.prog W = .ok (.tuple #[.agg #[a0, a1, a2, a3], n]) W := by
  obtain ⟨d, hd, hs⟩ := undPlan
  rw [results_cell_tmp (p := 2) (u := 3) (ty := 25) rfl, h2, h3]
  have hl := run_loadVar_row (P := Tryz.prog) W rb 25 25 #[a0, a1, a2, a3] (0, 0) d hb hd (by cases d <;> exact hs) sizePlan
  simp [asAddr, hl]
theorem PsO.nil (z : Nat) (lab : Lab) (w : World) : PsO z lab w (.slice none 0 0) [] := ⟨none, [], rfl, Wz.nil _ _ _ _, (fun b e => by cases e), (fun k e he => by simp at he)⟩
theorem LvO.nil (z : Nat) (lab : Lab) (w : World) : LvO z lab w (.slice none 0 0) [] := ⟨none, Wz.nil _ _ _ _, fun b e => by cases e⟩
theorem PsE.mono {z z' : Nat} {lab : Lab} {w : World} {v : Value} {gb : Option Nat} {E : List PE} (h : PsE z lab w v gb E) (hz : z' ≤ z) : PsE z' lab w v gb E := ⟨h.1.mono hz, h.2.1, fun k e he => let ⟨cb, h1, h2⟩ := h.2.2 k e he; ⟨cb, h1.mono hz, h2⟩⟩
theorem LvO.mono {z z' : Nat} {lab : Lab} {w : World} {v : Value} {q : List (Int × Int)} (h : LvO z lab w v q) (hz : z' ≤ z) : LvO z' lab w v q := let ⟨gb, h1, h2⟩ := h; ⟨gb, h1.mono hz, h2⟩
/-- While New goes on. -/
structure NSt (w W1 W2 W3 : World) (n c : Int) (i : Nat) (lab : Lab) (a : Option Addr) (k : Nat) (gb : Option Nat) (E : List PE) (cfg : Array Value) (wr : World) : Prop where
  low : Below w.heap.size w wr
  z3 : W3.heap.size ≤ wr.heap.size
  xs : E.map PE.x = Pn.newI n c i
  row : PsE W3.heap.size lab wr (.slice a i k) gb E
  k1 : Blk wr w.heap.size cfg 29
  k2 : Blk wr W1.heap.size #[.int .i64 0, .int .i64 0, .slice none 0 0, .slice none 0 0] 25
  k3 : Blk wr W2.heap.size #[.int .i64 n, .int .i64 c, .slice a i k, .slice none 0 0] 25
/-- first, its answer spelt out. -/
def FisOut (w : World) (ch : List Int) (e : Ending) (w' : World) : Prop := Below w.heap.size w w' ∧ ∃ a k gb, e = .returned (.agg #[.int .i64 1, .slice a ch.length k, .int .i64 0]) ∧ NsO w.heap.size w' (.slice a ch.length k) gb ch
theorem first_spelt {w w' : World} {n c p : Int} {e : Ending} (h : FirOut w (Pn.first n c p) e w') : FisOut w (Pn.ch0 n c p) e w' := by
  obtain ⟨hb, cv, gb, rfl, hc⟩ := h
  obtain ⟨a, k, rfl⟩ := hc.ns.form
  exact ⟨hb, a, k, gb, rfl, hc⟩
theorem NSt.step {w W1 W2 W3 wr wA wB w' : World} {n c : Int} {i : Nat} {lab : Lab} {a : Option Addr} {k : Nat} {gb gb' cb : Option Nat} {E : List PE} {cfg : Array Value} {v' cv : Value} (h : NSt w W1 W2 W3 n c i lab a k gb E cfg wr)
    (hlt : w.heap.size < W1.heap.size ∧ W1.heap.size < W2.heap.size ∧ W2.heap.size < W3.heap.size) (hA : Below wr.heap.size wr wA) (hc : NsO wr.heap.size wA cv cb (Pn.first n c (i : Int)).ch) (hB : Below wA.heap.size wA wB)
    (h1 : Sl w' v' gb' 49 3 (i + 1) (E.flatMap PE.cells ++ PE.cells ⟨Pn.first n c (i : Int), cv⟩)) (h2 : wB.grownBy w' gb) (h3 : gb' = gb ∨ ∃ g, gb' = some g ∧ wB.heap.size ≤ g) :
    ∃ a' k' lab' E', v' = .slice a' (i + 1) k' ∧ (w'.cell? ⟨W2.heap.size, 2, none⟩ = some (.slice a i k) ∧ w'.frozen? ⟨W2.heap.size, 2, none⟩ = false) ∧ NSt w W1 W2 W3 n c (i + 1) lab' a' k' gb' E' cfg (w'.setCell ⟨W2.heap.size, 2, none⟩ (.slice a' (i + 1) k')) := by
  obtain ⟨a', k', rfl⟩ := h1.form
  have hEl : i = E.length := by have := congrArg List.length h.xs; rw [List.length_map, Pn.newI_len] at this; exact this.symm
  subst hEl
  have hgl := fun b e => h.row.1.lt b e
  have hk1l := h.k1.lt
  have hk2l := h.k2.lt
  have hk3l := h.k3.lt
  have hz3 := h.z3
  have hsA := hA.size
  have hsB := hB.size
  have h2s := h2.size
  have hlow := h.low.size
  have hAB : Below wr.heap.size wr wB := hA.trans (hB.mono hsA)
  have k1 := (h.k1.below hAB).grown h2 (fun e => by have := hgl _ e.symm; omega)
  have k2 := (h.k2.below hAB).grown h2 (fun e => by have := hgl _ e.symm; omega)
  have k3 := (h.k3.below hAB).grown h2 (fun e => by have := hgl _ e.symm; omega)
  have hkb : Kb W2.heap.size w' (w'.setCell ⟨W2.heap.size, 2, none⟩ (.slice a' (E.length + 1) k')) := Kb.setCell _ _
  have lowA : Below w.heap.size w w' := Below.appended (h.low.trans (hAB.mono hlow)) h2 (fun b e => by have := hgl b e; omega) (by omega)
  have hp := h.row.push hz3 hA hc hB h1 h2 h3
  refine ⟨a', k', relab (relab lab wr.heap.size (.ch E.length)) wB.heap.size .ps, E ++ [⟨Pn.first n c (E.length : Int), cv⟩], rfl, ⟨k3.cell rfl, k3.free⟩, ⟨lowA.trans (hkb.below (by omega) k3.lt), Nat.le_trans hz3 (Nat.le_trans hsA (Nat.le_trans hsB (Nat.le_trans h2s hkb.size))), ?_, ?_, k1.setOther _ (by omega), k2.setOther _ (by omega), k3.set (i := 2) _⟩⟩
  · rw [List.map_append, h.xs, Pn.newI_succ]
    rfl
  · refine hp.keep fun b hl hb _ => ⟨hkb.block b hl (by omega), rfl⟩
set_option maxHeartbeats 4000000 in
set_option maxRecDepth 100000 in
theorem new_any (n cl m c sg kp hz rm : Int) (w : World) : Calls Tryz.prog 9 #[.agg #[.int .i64 n, .int .i64 cl, .int .i64 m, .int .i64 c, .int .i64 sg, .int .i64 kp, .int .i64 hz, .int .i64 rm]] w fun e w' => NewOut w n c m e w' := by
  obtain ⟨W1, hW1⟩ : ∃ W, w.alloc (.cells #[.int .i64 n, .int .i64 cl, .int .i64 m, .int .i64 c, .int .i64 sg, .int .i64 kp, .int .i64 hz, .int .i64 rm] 29) = W := ⟨_, rfl⟩
  obtain ⟨W2, hW2⟩ : ∃ W, W1.alloc (.cells #[.int .i64 0, .int .i64 0, .slice none 0 0, .slice none 0 0] 25) = W := ⟨_, rfl⟩
  have hb1 : Below w.heap.size w W1 := by rw [← hW1]; exact (Below.refl _ _).alloc (Nat.le_refl _) _
  have hb12 : Below W1.heap.size W1 W2 := by rw [← hW2]; exact (Below.refl _ _).alloc (Nat.le_refl _) _
  have k1 : Blk W1 w.heap.size #[.int .i64 n, .int .i64 cl, .int .i64 m, .int .i64 c, .int .i64 sg, .int .i64 kp, .int .i64 hz, .int .i64 rm] 29 := by rw [← hW1]; exact Blk.new _ _ _
  have k2 : Blk W2 W1.heap.size #[.int .i64 0, .int .i64 0, .slice none 0 0, .slice none 0 0] 25 := by rw [← hW2]; exact Blk.new _ _ _
  have k1' := k1.below hb12
  have hb2 := hb1.trans (hb12.mono hb1.size)
  obtain ⟨D, hD⟩ : ∃ D, Pn.layB n c m = D := ⟨_, rfl⟩
  have HLY := Lib.hid (layout_any n c m W2)
  rw [hD] at HLY
  have HD := Lib.hid hD
  have HNW : Hid (∀ e w', (Below w.heap.size w w' ∧ ∃ pv, e = .returned (.tuple #[pv, .int .i64 (if D = true then 0 else 1)]) ∧ PlO w.heap.size w' pv (if D = true then Pn.new n c m else Pn.zeroP)) → NewOut w n c m e w') := Lib.hid fun e w' h => by
    unfold NewOut
    rw [hD]
    exact h
  have HK1 := Lib.hid k1'
  have HK2 := Lib.hid k2
  have HB2 := Lib.hid hb2
  have HLT : Hid (w.heap.size < W1.heap.size ∧ W1.heap.size < W2.heap.size) := Lib.hid ⟨k1.lt, k2.lt⟩
  have c0 : W2.cell? ⟨w.heap.size, 0, none⟩ = some (.int .i64 n) := k1'.cell rfl
  have c2 : W2.cell? ⟨w.heap.size, 2, none⟩ = some (.int .i64 m) := k1'.cell rfl
  have c3 : W2.cell? ⟨w.heap.size, 3, none⟩ = some (.int .i64 c) := k1'.cell rfl
  obtain ⟨y0, y1, y2, y3⟩ := k2.cells4
  obtain ⟨z0, z1, z2, z3⟩ := k2.free4
  clear hb1 hb12 k1 k2 k1' hb2 hD
  go_enter Tryz.func9, Tryz.ntmps9
  go_wp2_with fail
  refine HLY.out.mono ?_
  rintro e w2 ⟨rfl, rfl⟩
  clear HLY
  cases D with
  | false =>
    go_wp2_with fail
    have hk := four_kb w2 W1.heap.size (.int .i64 0) (.int .i64 0) (.slice none 0 0) (.slice none 0 0)
    refine bodyPost_ret (new_ret (HK2.out.four _ _ _ _) rfl rfl) rfl (HNW.out _ _ ⟨HB2.out.trans (hk.below (by have := HLT.out; omega) HK2.out.lt), _, rfl, fun _ => .no, _, _, rfl, PsO.nil _ _ _, LvO.nil _ _ _⟩)
  | true =>
  have hlay : 1 ≤ n ∧ n ≤ 5 ∧ 1 ≤ c ∧ c ≤ n ∧ 2 ≤ m ∧ m ≤ 4 := by
    have := HD.out
    unfold Pn.layB at this
    simp only [Bool.and_eq_true, decide_eq_true_eq] at this
    omega
  obtain ⟨hn1, hn5, hc1, hcn, hm2, hm4⟩ := hlay
  obtain ⟨mm, rfl⟩ : ∃ mm : Nat, m = mm := ⟨m.toNat, by omega⟩
  have HNEW : Hid ((Pn.new n c (mm : Int)) = ⟨n, c, Pn.newI n c mm, []⟩) := Lib.hid rfl
  obtain ⟨W3, hW3⟩ : ∃ W, w2.alloc (.cells #[.int .i64 n, .int .i64 c, .slice none 0 0, .slice none 0 0] 25) = W := ⟨_, rfl⟩
  have hb3 : Below w2.heap.size w2 W3 := by rw [← hW3]; exact (Below.refl _ _).alloc (Nat.le_refl _) _
  have k3 : Blk W3 w2.heap.size #[.int .i64 n, .int .i64 c, .slice none 0 0, .slice none 0 0] 25 := by rw [← hW3]; exact Blk.new _ _ _
  have hst : NSt w W1 w2 W3 n c 0 (fun _ => .no) none 0 none [] #[.int .i64 n, .int .i64 cl, .int .i64 (mm : Int), .int .i64 c, .int .i64 sg, .int .i64 kp, .int .i64 hz, .int .i64 rm] W3 := ⟨HB2.out.trans (hb3.mono HB2.out.size), Nat.le_refl _, rfl, ⟨Wz.nil _ _ _ _, (fun b e => by cases e), (fun k e he => by simp at he)⟩, HK1.out.below hb3, HK2.out.below hb3, k3⟩
  have HST := Lib.hid hst
  have HLT3 : Hid (w.heap.size < W1.heap.size ∧ W1.heap.size < w2.heap.size ∧ w2.heap.size < W3.heap.size) := Lib.hid ⟨HLT.out.1, HLT.out.2, k3.lt⟩
  have HW3 := Lib.hid hW3
  have c2' : W3.cell? ⟨w.heap.size, 2, none⟩ = some (.int .i64 (mm : Int)) := hst.k1.cell rfl
  clear hW3 hb3 k3 hst
  go_upto_region 4 with fail
  rw [HW3.out]
  clear HW3 c0 c2 c3 y0 y1 y2 y3 z0 z1 z2 z3
  go_wp2_with fail
  go_loopw [5, 22] (fun _ s22 wx => ∃ (i : Nat) (lab : Lab) (a : Option Addr) (k : Nat) (gb : Option Nat) (E : List PE), i ≤ mm ∧ s22 = .int .i64 i ∧ NSt w W1 w2 W3 n c i lab a k gb E #[.int .i64 n, .int .i64 cl, .int .i64 (mm : Int), .int .i64 c, .int .i64 sg, .int .i64 kp, .int .i64 hz, .int .i64 rm] wx) (fun _ s22 _ => mm - (intOf s22).toNat)
  case atStart => exact ⟨0, _, none, 0, none, [], Nat.zero_le _, rfl, HST.out⟩
  case round =>
    obtain ⟨i, lab, a, k, gb, E, hi, rfl, hst⟩ := hrel
    have HS := Lib.hid hst
    by_cases hlt : i < mm
    · have i1 : (i : Int) < (mm : Int) := by omega
      have i0 : (0 : Int) ≤ (i : Int) := by omega
      obtain ⟨d0, d1, d2, d3⟩ := hst.k3.cells4
      have HFI : Hid (∀ wx, Below wr.heap.size wr wx → Calls Tryz.prog 29 #[.agg #[.int .i64 n, .int .i64 c, .slice a i k, .slice none 0 0], .int .i64 (i : Int)] wx fun e w' => FisOut wx (Pn.ch0 n c (i : Int)) e w') := Lib.hid fun wx _ => (first_any n c _ _ (i : Int) wx ⟨_, _, _, rfl⟩ ⟨_, _, _, rfl⟩ hn1 hn5 (by omega) (by omega) (by omega) (by omega)).mono fun e w' h => first_spelt h
      obtain ⟨CH, hCH⟩ : ∃ CH, Pn.ch0 n c (i : Int) = CH := ⟨_, rfl⟩
      have HCH := Lib.hid hCH
      obtain ⟨cn, hcn⟩ : ∃ cn, CH.length = cn := ⟨_, rfl⟩
      have HCN := Lib.hid hcn
      have HEL : Hid (E.length = i) := Lib.hid (by have := congrArg List.length hst.xs; rw [List.length_map, Pn.newI_len] at this; exact this)
      have HROW : Hid (∀ wx, Below wr.heap.size wr wx → Sl wx (.slice a i k) gb 49 3 i (E.flatMap PE.cells)) := Lib.hid fun wx hb => by
        have := (hst.row.1.below hb).1
        rw [HEL.out] at this
        exact this
      have HD2 : Hid (∀ wx, Below wr.heap.size wr wx → wx.cell? ⟨w2.heap.size, 2, none⟩ = some (.slice a i k)) := Lib.hid fun wx hb => (hst.k3.below hb).cell rfl
      rw [hCH] at HFI
      have HX0 := Lib.hid (Below.refl wr.heap.size wr)
      obtain ⟨ip, hip, i1p, i2p, i3p, i4p⟩ := infoPart
      clear hst hCH hcn
      go_upto_region 7 with fail
      go_region_law (first
        | (go_simp; go_at_call 29; refine (HFI.out _ (by first | exact HX0.out | exact HX0.out.drew)).mono ?_; rintro e wA ⟨hA, ca, ck, cb, rfl, hc⟩; have HA := Lib.hid (show Below wr.heap.size wr wA from (by first | exact hA | exact HX0.out.drew.trans hA)); have HC := Lib.hid (show NsO wr.heap.size wA _ cb CH from hc); have g2 := HD2.out wA HA.out; have g3 := HD2.out (wA.alloc (.cells #[.int .i64 1, .slice ca CH.length ck, .int .i64 0] 49)) (HA.out.alloc HA.out.size _); have HAB := Lib.hid (show Below wr.heap.size wr (wA.alloc (.cells #[.int .i64 1, .slice ca CH.length ck, .int .i64 0] 49)) from HA.out.alloc HA.out.size _); have HSR := Lib.hid (fun wx (hb : Below (wA.alloc (.cells #[.int .i64 1, .slice ca CH.length ck, .int .i64 0] 49)).heap.size (wA.alloc (.cells #[.int .i64 1, .slice ca CH.length ck, .int .i64 0] 49)) wx) => Rds.below (Rds.lit (w := wA) (n := 1) (size := 3) (cs := [.int .i64 1, .slice ca CH.length ck, .int .i64 0]) 49 rfl) hb); clear hA hc)
        | (refine step_append_rd (by rfl) _ _ _ (by rfl) 49 ip _ 3 40 Tryz.underlying22 hip i1p i2p i3p i4p _ gb i (E.flatMap PE.cells) (by rfl) (HROW.out _ (by first | exact HAB.out | exact HAB.out.drew)) _ 1 [.int .i64 1, .slice ca CH.length ck, .int .i64 0] (by rfl) (HSR.out _ (by first | exact Below.refl _ _ | exact (Below.refl _ _).drew)) (by simp [Value.oneCell']) (by omega) (by omega) ?_; intro v' w' gb' h1 h2 h3; obtain ⟨a', k', lab', E', rfl, ⟨g4, g5⟩, hF⟩ := HS.out.step HLT3.out HA.out (show NsO wr.heap.size wA _ cb (Pn.ch0 n c (i : Int)) by rw [HCH.out]; exact HC.out) (by first | exact (Below.refl _ _).alloc (Nat.le_refl _) (.cells #[.int .i64 1, .slice ca CH.length ck, .int .i64 0] 49) | exact ((Below.refl _ _).alloc (Nat.le_refl _) (.cells #[.int .i64 1, .slice ca CH.length ck, .int .i64 0] 49)).drew) h1 h2 h3; have HF := Lib.hid hF; clear h1 h2 h3 hF)
        | fail)
      all_goals
        go_wp2_with fail
        go_roundw
        case rel => exact ⟨i + 1, lab', a', k', gb', E', by omega, by go_num, HF.out⟩
        case measure => simp [intOf]; omega
    · obtain rfl : i = mm := by omega
      obtain ⟨x0, x1, x2, x3⟩ := hst.k3.cells4
      obtain ⟨y0, y1, y2, y3⟩ := hst.k2.cells4
      obtain ⟨z0, z1, z2, z3⟩ := hst.k2.free4
      have HF := Lib.hid (hst.k2.four (.int .i64 n) (.int .i64 c) (.slice a i k) (.slice none 0 0))
      clear hst
      go_wp2_with fail
      have hk := four_kb wr W1.heap.size (.int .i64 n) (.int .i64 c) (.slice a i k) (.slice none 0 0)
      have hlt := HLT3.out
      refine bodyPost_ret (new_ret HF.out rfl rfl) rfl (HNW.out _ _ ⟨HS.out.low.trans (hk.below (by omega) HS.out.k2.lt), _, rfl, ?_⟩)
      rw [if_pos trivial, HNEW.out]
      refine ⟨lab, .slice a i k, .slice none 0 0, rfl, ⟨gb, E, HS.out.xs, (HS.out.row.keep fun b hl hb _ => ⟨hk.block b hl (by omega), rfl⟩).mono (by omega)⟩, LvO.nil _ _ _⟩
end Go.Proofs.YtmkinnheoejphaaGreatDoor
