/- THE CONTRACT OF cloned. -/
import Derived.Test.YtmkinnheoejphaaGreatDoorPnG
import Derived.Test.YtmkinnheoejphaaGreatDoorIn0
import Derived.Deep.RegionLaw
namespace Go.Proofs.YtmkinnheoejphaaGreatDoor
open Go.RowKit

/-- A plan's slices apart, in memory of the call's own. -/
def PlS (z : Nat) (lab : Lab) (w : World) (sv lv : Value) (p : Pn.P) : Prop := PsO z lab w sv p.parts ∧ LvO z lab w lv p.lives
def ClpOut (w : World) (p : Pn.P) (e : Ending) (w' : World) : Prop := Below w.heap.size w w' ∧ ∃ lab sv lv, e = .returned (plv p sv lv) ∧ PlS w.heap.size lab w' sv lv p
theorem undPlan : ∃ d, Tryz.prog.underlying 25 = some d ∧ (match d with | .struct _ | .array _ _ => true | _ => false) = true := by
  have h : (Tryz.prog.underlying 25).map (fun d => match d with | .struct _ | .array _ _ => true | _ => false) = some true := by kernel_rfl
  cases hd : Tryz.prog.underlying 25 with
  | none => rw [hd] at h; cases h
  | some d => rw [hd] at h; exact ⟨d, rfl, Option.some.inj h⟩
theorem sizePlan : (Tryz.prog.info? 25).map (·.size) = some 4 := by kernel_rfl
theorem cloned_ret {W : World} {rb : Nat} {a0 a1 a2 a3 : Value} {tmps : Array Value} (hb : Blk W rb #[a0, a1, a2, a3] 25) (h2 : tmps.getD 2 undef = .pointer (some ⟨rb, 0, none⟩)) :
    (results Tryz.f24 tmps).run Tryz.prog W = .ok (.agg #[a0, a1, a2, a3]) W := by
  obtain ⟨d, hd, hs⟩ := undPlan
  have hl := run_loadVar_row (P := Tryz.prog) W rb 25 25 #[a0, a1, a2, a3] (0, 0) d hb hd (by cases d <;> exact hs) sizePlan
  simp only [results, Tryz.results24]
  rw [Array.getD_eq_getD_getElem?] at h2
  simp [asAddr, hl, h2]
theorem Blk.four {w : World} {r : Nat} {a0 a1 a2 a3 : Value} {T : TypeId} (h : Blk w r #[a0, a1, a2, a3] T) (v0 v1 v2 v3 : Value) :
    Blk ((((w.setCell ⟨r, 0, none⟩ v0).setCell ⟨r, 1, none⟩ v1).setCell ⟨r, 2, none⟩ v2).setCell ⟨r, 3, none⟩ v3) r #[v0, v1, v2, v3] T :=
  (((h.set (i := 0) v0).set (i := 1) v1).set (i := 2) v2).set (i := 3) v3
theorem four_kb (W : World) (b : Nat) (v0 v1 v2 v3 : Value) : Kb b W ((((W.setCell ⟨b, 0, none⟩ v0).setCell ⟨b, 1, none⟩ v1).setCell ⟨b, 2, none⟩ v2).setCell ⟨b, 3, none⟩ v3) :=
  (((Kb.setCell W v0).trans (Kb.setCell _ v1)).trans (Kb.setCell _ v2)).trans (Kb.setCell _ v3)
theorem Blk.cells4 {w : World} {b : Nat} {a0 a1 a2 a3 : Value} {T : TypeId} (h : Blk w b #[a0, a1, a2, a3] T) : w.cell? ⟨b, 0, none⟩ = some a0 ∧ w.cell? ⟨b, 1, none⟩ = some a1 ∧ w.cell? ⟨b, 2, none⟩ = some a2 ∧ w.cell? ⟨b, 3, none⟩ = some a3 := ⟨h.cell rfl, h.cell rfl, h.cell rfl, h.cell rfl⟩
theorem Blk.free4 {w : World} {b : Nat} {cs : Array Value} {T : TypeId} (h : Blk w b cs T) : w.frozen? ⟨b, 0, none⟩ = false ∧ w.frozen? ⟨b, 1, none⟩ = false ∧ w.frozen? ⟨b, 2, none⟩ = false ∧ w.frozen? ⟨b, 3, none⟩ = false := ⟨h.free, h.free, h.free, h.free⟩
/-- Behind both clones. -/
structure Cl2 (w W1 W2 : World) (nodes copies : Int) (E : List PE) (lives : List (Int × Int)) (n ln : Nat) (a3 : Option Addr) (k3 : Nat) (g3 : Option Nat) (a4 : Option Addr) (k4 : Nat) (g4 : Option Nat) (wx : World) : Prop where
  low : Below w.heap.size w wx
  row : Wz W2.heap.size wx (.slice a3 n k3) g3 49 3 n (E.flatMap PE.cells)
  lvs : Wz W2.heap.size wx (.slice a4 ln k4) g4 55 2 lives.length (lcs lives)
  dif : ∀ b, g3 = some b → g4 = some b → False
  k1 : Blk wx w.heap.size #[.int .i64 nodes, .int .i64 copies, .slice a3 n k3, .slice a4 ln k4] 25
  k2 : Blk wx W1.heap.size #[.int .i64 0, .int .i64 0, .slice none 0 0, .slice none 0 0] 25
set_option maxHeartbeats 4000000 in
set_option maxRecDepth 100000 in
theorem cloned_any {A : Nat → Prop} (pv : Value) (p : Pn.P) (w : World) (h : PlR A w pv p) (hl : p.parts.length ≤ 64) (hll : p.lives.length ≤ 64) (hc : ∀ x ∈ p.parts, x.ch.length ≤ 64) : Calls Tryz.prog 24 #[pv] w fun e w' => ClpOut w p e w' := by
  obtain ⟨sv, lv, rfl, ⟨E, hE, hr, hen⟩, hlv⟩ := h
  obtain ⟨nodes, copies, parts, lives⟩ := p
  simp only [plv] at hE hlv hl hll hc ⊢
  have hlE : E.length = parts.length := by rw [← hE, List.length_map]
  obtain ⟨a, cap, rfl⟩ := hr.form
  obtain ⟨la, lcap, rfl⟩ := hlv.form
  obtain ⟨W1, hW1⟩ : ∃ W, w.alloc (.cells #[.int .i64 nodes, .int .i64 copies, .slice a E.length cap, .slice la lives.length lcap] 25) = W := ⟨_, rfl⟩
  obtain ⟨W2, hW2⟩ : ∃ W, W1.alloc (.cells #[.int .i64 0, .int .i64 0, .slice none 0 0, .slice none 0 0] 25) = W := ⟨_, rfl⟩
  have hb1 : Below w.heap.size w W1 := by rw [← hW1]; exact (Below.refl _ _).alloc (Nat.le_refl _) _
  have hb12 : Below W1.heap.size W1 W2 := by rw [← hW2]; exact (Below.refl _ _).alloc (Nat.le_refl _) _
  have k1 : Blk W2 w.heap.size #[.int .i64 nodes, .int .i64 copies, .slice a E.length cap, .slice la lives.length lcap] 25 := by
    refine Blk.below ?_ hb12
    rw [← hW1]; exact Blk.new _ _ _
  have k2 : Blk W2 W1.heap.size #[.int .i64 0, .int .i64 0, .slice none 0 0, .slice none 0 0] 25 := by rw [← hW2]; exact Blk.new _ _ _
  have hs1 : W1.heap.size = w.heap.size + 1 := by rw [← hW1]; exact Array.size_push _
  have hs2 : W2.heap.size = W1.heap.size + 1 := by rw [← hW2]; exact Array.size_push _
  have hb2 := hb1.trans (hb12.mono hb1.size)
  have HC1 : Hid (∀ wx, Below W2.heap.size W2 wx → Calls Tryz.prog 55 #[.slice a E.length cap] wx fun e w' => ClnOut 49 3 wx E.length (E.flatMap PE.cells) e w') := Lib.hid fun wx hb => cloneP_any _ _ _ wx ((hr.below hb2).below hb) (pe_one E fun e he => slice_one (hen e he).form) (by omega)
  have HC2 : Hid (∀ wx, Below W2.heap.size W2 wx → Calls Tryz.prog 56 #[.slice la lives.length lcap] wx fun e w' => ClnOut 55 2 wx lives.length (lcs lives) e w') := Lib.hid fun wx hb => cloneL_any _ _ _ wx ((Rds.below hlv hb2).below hb) (lcs_one _) hll
  have HEN : Hid (∀ e ∈ E, Ns A w e.cv e.x.ch ∧ e.x.ch.length ≤ 64) := Lib.hid fun e he => ⟨hen e he, hc e.x (by rw [← hE]; exact List.mem_map_of_mem he)⟩
  have HE := Lib.hid hE
  obtain ⟨n, hn⟩ : ∃ n, E.length = n := ⟨_, rfl⟩
  obtain ⟨ln, hln⟩ : ∃ n, lives.length = n := ⟨_, rfl⟩
  have HN := Lib.hid hn
  have HLN := Lib.hid hln
  have hn8 : n ≤ 64 := by omega
  have HB2 := Lib.hid hb2
  have HS2 := Lib.hid hs2
  have HS1 := Lib.hid hs1
  rw [hn] at HC1 hW1 k1
  rw [hln] at HC2 hW1 k1
  rw [hn, hln]
  have HK1 := Lib.hid k1
  have HK2 := Lib.hid k2
  obtain ⟨c0, c1, c2, c3⟩ := k1.cells4
  obtain ⟨f0, f1, f2, f3⟩ := k1.free4 
  have HX0 := Lib.hid (Below.refl W2.heap.size W2)
  clear hb1 hb12 k1 k2 hb2 hr hen hl hc hE hn hln hlE hlv hs1 hs2
  go_enter Tryz.func24, Tryz.ntmps24
  go_upto_region 1 with fail
  go_cut [7] from 5 to 12 (fun _ wx => ∃ a3 k3 g3 a4 k4 g4, Cl2 w W1 W2 nodes copies E lives n ln a3 k3 g3 a4 k4 g4 wx)
  case first =>
    go_region_law (first
      | (go_simp; go_at_call 55; refine (HC1.out _ (by first | exact HX0.out | exact HX0.out.drew)).mono ?_; rintro e w3 ⟨hb3, v3, g3, rfl, hw3⟩; obtain ⟨a3, k3, rfl⟩ := hw3.form; have HB3 := Lib.hid (show Below W2.heap.size W2 w3 from (by first | exact hb3 | exact HX0.out.drew.trans hb3)); have HW3 := Lib.hid hw3; have e2 := (HK1.out.below HB3.out).cell (i := 3) rfl; clear hb3 hw3)
      | (go_simp; go_at_call 56; refine (HC2.out _ (by first | exact HB3.out | exact HB3.out.drew)).mono ?_; rintro e w4 ⟨hb4, v4, g4, rfl, hw4⟩; obtain ⟨a4, k4, rfl⟩ := hw4.form; have HB4 := Lib.hid (show Below w3.heap.size w3 w4 from (by first | exact hb4 | exact ((Below.refl _ _).drew).trans hb4)); have HW4 := Lib.hid hw4; have HB24 := Lib.hid (HB3.out.trans (HB4.out.mono HB3.out.size)); obtain ⟨d0, d1, d2, d3⟩ := (HK1.out.below HB24.out).cells4; obtain ⟨z0, z1, z2, z3⟩ := (HK1.out.below HB24.out).free4; clear hb4 hw4)
      | fail)
    all_goals
      have hs4 := HB4.out.size
      have hb3l := HB3.out.size
      have hw3l := fun b (e : g3 = some b) => HW3.out.1.lt b e
      have hk := (Kb.setCell (b := w.heap.size) (o := 2) w4 (.slice a3 n k3)).trans (Kb.setCell (b := w.heap.size) (o := 3) _ (.slice a4 ln k4))
      have h1 := HS1.out
      have h2 := HS2.out
      have hw3 : Wz W2.heap.size w3 (.slice a3 n k3) g3 49 3 n (E.flatMap PE.cells) := HW3.out.mono (by first | exact Nat.le_refl _ | simp)
      have hw4 : Wz w3.heap.size w4 (.slice a4 ln k4) g4 55 2 ln (lcs lives) := HW4.out.mono (by first | exact Nat.le_refl _ | simp)
      have HFIN : Hid (Cl2 w W1 W2 nodes copies E lives n ln a3 k3 g3 a4 k4 g4 ((w4.setCell ⟨w.heap.size, 2, none⟩ (.slice a3 n k3)).setCell ⟨w.heap.size, 3, none⟩ (.slice a4 ln k4))) := Lib.hid
        ⟨(HB2.out.trans (HB24.out.mono HB2.out.size)).trans (hk.below (Nat.le_refl _) (by omega)),
         (hw3.below HB4.out).kb hk (fun e => by have := hw3.2 _ e; omega),
         by rw [HLN.out]; exact (hw4.mono (by omega)).kb hk (fun e => by have := hw4.2 _ e; omega),
         fun b e3 e4 => by have := (hw3.lt b e3).2; have := hw4.2 b e4; omega,
         by
          have := (HK1.out.below HB24.out)
          exact (this.set (i := 2) (.slice a3 n k3)).set (i := 3) (.slice a4 ln k4),
         (HK2.out.below HB24.out).kb hk (by omega)⟩
      clear hs4 hb3l hw3l hk h1 h2 hw3 hw4
      go_wp2_with fail
      go_meet
      case rel => exact ⟨_, _, _, _, _, _, HFIN.out⟩
  case rest =>
  obtain ⟨a3, k3, g3, a4, k4, g4, hcl⟩ := hcut
  have HCL := Lib.hid hcl
  obtain ⟨c0, c1, c2, c3⟩ := hcl.k1.cells4
  have HLW : Hid (w.heap.size < W1.heap.size ∧ W1.heap.size < W2.heap.size) := Lib.hid (by have := HS1.out; have := HS2.out; omega)
  have HG3 := Lib.hid hcl.row.2
  have hst : CSt w (.slice a3 n k3) g3 n E (.slice a4 ln k4) lives 0 (fun b => if g3 = some b then .ps else if g4 = some b then .lv else .no) E wc :=
    ⟨hcl.low, hcl.row.mono (by have := HLW.out; omega), (fun b hb => if_pos hb), HN.out, rfl, (fun j e hj => by omega), (fun j _ => rfl), ⟨g4, hcl.lvs.mono (by have := HLW.out; omega), fun b hb => (if_neg fun e => hcl.dif b e hb).trans (if_pos hb)⟩⟩
  have HST := Lib.hid hst
  have HNO : Hid ((fun b => if g3 = some b then Rl.ps else if g4 = some b then .lv else .no) W1.heap.size = .no) := Lib.hid ((if_neg fun e => by have := hcl.row.2 _ e; have := HLW.out; omega).trans (if_neg fun e => by have := hcl.lvs.2 _ e; have := HLW.out; omega))
  clear hcl hst
  go_wp2_with fail
  go_loopw [3, 4, 16] (fun _ _ s16 wx => ∃ (i : Nat) (lab : Lab) (F : List PE), i ≤ n ∧ s16 = .int .i64 i ∧ lab W1.heap.size = .no ∧ CSt w (.slice a3 n k3) g3 n E (.slice a4 ln k4) lives i lab F wx ∧ Blk wx w.heap.size #[.int .i64 nodes, .int .i64 copies, .slice a3 n k3, .slice a4 ln k4] 25 ∧ Blk wx W1.heap.size #[.int .i64 0, .int .i64 0, .slice none 0 0, .slice none 0 0] 25) (fun _ _ s16 _ => n - (intOf s16).toNat)
  case atStart => exact ⟨0, _, E, Nat.zero_le _, rfl, HNO.out, HST.out, HCL.out.k1, HCL.out.k2⟩
  case round =>
    obtain ⟨i, lab, F, hi, rfl, hnb, hst, hk1, hk2⟩ := hrel
    have HNBX := Lib.hid hnb
    have HS := Lib.hid hst
    have HK1 := Lib.hid hk1
    have HK2 := Lib.hid hk2
    obtain ⟨d0, d1, d2, d3⟩ := hk1.cells4
    by_cases hlt : i < n
    · obtain ⟨e, he⟩ : ∃ e, F[i]? = some e := ⟨_, List.getElem?_eq_getElem (by rw [hst.len]; exact hlt)⟩
      have heE : E[i]? = some e := by rw [← hst.rest i (Nat.le_refl _)]; exact he
      obtain ⟨hat, h64⟩ := HEN.out e (List.mem_of_getElem? heE)
      have hat := hat.below hst.low
      have hge : ∃ g p, a3 = some ⟨g, p, none⟩ ∧ g3 = some g := by
        obtain ⟨ao', cap', ev, -, hpos, -⟩ := Sl.make hst.row.1
        injection ev with e1 e2 e3
        subst e1
        exact hpos (by omega)
      obtain ⟨b, p, rfl, rfl⟩ := hge
      obtain ⟨k0, k1, k2⟩ := pe_cells he
      have c1 := hst.row.1.cell rfl _ _ k1
      simp only [← Nat.add_assoc] at c1
      obtain ⟨⟨xe, xc, xl⟩, cv⟩ := e
      simp only at c1 hat h64
      obtain ⟨ca, cc, rfl⟩ := hat.form
      have HC := Lib.hid (cloneI_any _ _ _ wr hat (ns_one _) h64)
      have hbl := (hst.row.lt b rfl).2
      have i0 : (0 : Int) ≤ (i : Int) := by omega
      have i1 : (i : Int) < (n : Int) := by omega
      have HNB : Hid (b ≠ w.heap.size ∧ b ≠ W1.heap.size ∧ b < wr.heap.size) := Lib.hid (by have := HG3.out b rfl; have := HLW.out; omega)
      have HE2 := Lib.hid he
      clear k0 k1 k2 hst hk1 hk2 he heE hat h64
      go_wp2_with fail
      refine HC.out.mono ?_
      rintro e w5 ⟨hb5, v5, g5, rfl, hw5⟩
      obtain ⟨a5, k5, rfl⟩ := hw5.form
      have HF := Lib.hid (HS.out.step HE2.out hb5 hw5)
      have HK15 : Hid (Blk (w5.setCell ⟨b, p + i * 3 + 1, none⟩ (.slice a5 xc.length k5)) w.heap.size #[.int .i64 nodes, .int .i64 copies, .slice (some ⟨b, p, none⟩) n k3, .slice a4 ln k4] 25) := Lib.hid ((HK1.out.below hb5).setOther _ (by have := HNB.out; exact Ne.symm this.1))
      have HK25 : Hid (Blk (w5.setCell ⟨b, p + i * 3 + 1, none⟩ (.slice a5 xc.length k5)) W1.heap.size #[.int .i64 0, .int .i64 0, .slice none 0 0, .slice none 0 0] 25) := Lib.hid ((HK2.out.below hb5).setOther _ (by have := HNB.out; exact Ne.symm this.2.1))
      have e1 : w5.cell? ⟨b, p + i * 3 + 1, none⟩ = some (.slice ca xc.length cc) := (hb5.cell (p := ⟨b, p + i * 3 + 1, none⟩) HNB.out.2.2).trans c1
      have f1 : w5.frozen? ⟨b, p + i * 3 + 1, none⟩ = false := (HS.out.row.below hb5).1.frozen rfl _
      clear hb5 hw5 HC c1
      go_wp2_with fail
      go_roundw
      case rel =>
        obtain ⟨lab', F', hF, hl⟩ := HF.out
        exact ⟨i + 1, lab', F', by omega, by go_num, (hl _ HK2.out.lt).trans HNBX.out, hF, HK15.out, HK25.out⟩
      case measure => simp [intOf]; omega
    · have HI : Hid (i = n) := Lib.hid (by omega)
      have HKB : Hid (Kb W1.heap.size wr ((((wr.setCell ⟨W1.heap.size, 0, none⟩ (.int .i64 nodes)).setCell ⟨W1.heap.size, 1, none⟩ (.int .i64 copies)).setCell ⟨W1.heap.size, 2, none⟩ (.slice a3 n k3)).setCell ⟨W1.heap.size, 3, none⟩ (.slice a4 ln k4))) := Lib.hid (four_kb _ _ _ _ _ _)
      obtain ⟨z0, z1, z2, z3⟩ := hk2.cells4
      obtain ⟨y0, y1, y2, y3⟩ := hk2.free4
      clear hst hk1 hk2
      go_wp2_with fail
      refine bodyPost_ret (cloned_ret (HK2.out.four _ _ _ _) rfl) rfl ?_
      have hs := HS.out
      have hlw := HLW.out
      have hlow := hs.low.size
      have hl2 := HK2.out.lt
      have hno : ∀ b, lab b ≠ .no → b ≠ W1.heap.size := fun b hb e => hb (by rw [e]; exact HNBX.out)
      have hblk : ∀ b, b < wr.heap.size → lab b ≠ .no → ((((wr.setCell ⟨W1.heap.size, 0, none⟩ (.int .i64 nodes)).setCell ⟨W1.heap.size, 1, none⟩ (.int .i64 copies)).setCell ⟨W1.heap.size, 2, none⟩ (.slice a3 n k3)).setCell ⟨W1.heap.size, 3, none⟩ (.slice a4 ln k4)).heap[b]? = wr.heap[b]? := fun b hl hb => HKB.out.block b hl (hno b hb)
      refine ⟨hs.low.trans (HKB.out.below (by omega) hl2), lab, _, _, rfl, ⟨g3, F, hs.gs.trans HE.out, PsE.keep (lab := lab) (w := wr) ⟨by rw [hs.len]; exact hs.row, hs.out, fun k e he => hs.done k e (by have := (List.getElem?_eq_some_iff.1 he).1; rw [hs.len] at this; rw [HI.out]; exact this) he⟩ fun b hl _ hb => ⟨hblk b hl ?_, rfl⟩⟩, LvO.keep hs.lvs fun b hl _ hb => ⟨hblk b hl ?_, hb⟩⟩
      · rcases hb with hb | ⟨k, hb⟩ <;> rw [hb] <;> exact fun h => by cases h
      · rw [hb]; exact fun h => by cases h
end Go.Proofs.YtmkinnheoejphaaGreatDoor
