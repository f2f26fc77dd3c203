import Derived.Test.YtjccfilbihkfpaaGreatDoorM08
import Derived.StillTail
import Derived.Deep.Quiet
import Derived.Lib.QuietBelow

/- THE CONTRACTS OF committed, turned. -/
namespace Go.Proofs.YtjccfilbihkfpaaGreatDoor
open Go.RowKit

/-- What committed answers. -/
def ComOut (z : Nat) (w : World) (pb : Option Nat) (l : List (Int × Int)) (e : Ending) (w' : World) : Prop :=
  ∃ v' pb', e = .returned v' ∧ Wz z w' v' pb' 59 2 l.length (pcs l) ∧ w.grownBy w' pb ∧ (∀ b, pb' = some b → pb = some b ∨ w.heap.size ≤ b)
set_option maxHeartbeats 4000000 in
set_option maxRecDepth 100000 in
theorem committed_any {z : Nat} {pb : Option Nat} (nm : ByteArray) (gen parts : Int) (mem : List ByteArray) (pts : List (Int × Int)) (mv pv : Value) (p o : Int) (w : World) (hm : Nms (fun b => z ≤ b) w mv mem) (hp : Wz z w pv pb 59 2 pts.length (pcs pts)) (hl : pts.length ≤ 8) (hmo : Fk.Mono (Fk.cP p) pts) (hz : z ≤ w.heap.size) :
    Calls Tryz.prog 40 #[.agg #[.string nm, .int .i64 gen, .int .i64 parts, mv, pv], .agg #[.int .i64 p, .int .i64 o]] w fun e w' => ComOut z w pb (Fk.putPt pts p o) e w' := by
  obtain ⟨W1, hW1⟩ : ∃ W, w.alloc (.cells #[.string nm, .int .i64 gen, .int .i64 parts, mv, pv] 44) = W := ⟨_, rfl⟩
  obtain ⟨W2, hW2⟩ : ∃ W, W1.alloc (.cells #[.int .i64 p, .int .i64 o] 59) = W := ⟨_, rfl⟩
  have hb1 : Below w.heap.size w W1 := by rw [← hW1]; exact (Below.refl _ _).alloc (Nat.le_refl _) _
  have hb12 : Below W1.heap.size W1 W2 := by rw [← hW2]; exact (Below.refl _ _).alloc (Nat.le_refl _) _
  have hb2 : Below w.heap.size w W2 := hb1.trans (hb12.mono hb1.size)
  have k1 : Blk W2 w.heap.size #[.string nm, .int .i64 gen, .int .i64 parts, mv, pv] 44 := by
    refine Blk.below ?_ hb12
    rw [← hW1]; exact Blk.new _ _ _
  have k2 : Blk W2 W1.heap.size #[.int .i64 p, .int .i64 o] 59 := by rw [← hW2]; exact Blk.new _ _ _
  obtain ⟨c0, c1, c2, c3, c4⟩ := k1.cells5
  have d0 : W2.cell? ⟨W1.heap.size, 0, none⟩ = some (.int .i64 p) := k2.cell rfl
  have d1 : W2.cell? ⟨W1.heap.size, 1, none⟩ = some (.int .i64 o) := k2.cell rfl
  have hgv : GvAt (fun b => z ≤ b) W2 (.agg #[.string nm, .int .i64 gen, .int .i64 parts, mv, pv]) ⟨nm, gen, parts, mem, pts⟩ := ⟨mv, pv, rfl, hm.below hb2, hp.rd.below hb2⟩
  have HC := Lib.hid (findPoint_any _ _ p W2 hgv (by show pts.length ≤ 64; omega) hmo)
  have HH := Lib.hid (Fk.hit_isSome (c := Fk.cP p) (l := pts))
  obtain ⟨ma, mc, rfl⟩ := hm.form
  obtain ⟨pa, pc, rfl⟩ := hp.form
  obtain ⟨i, hi⟩ : ∃ i, Fk.low (Fk.cP p) pts = i := ⟨_, rfl⟩
  have hil := Fk.low_le (c := Fk.cP p) pts
  obtain ⟨n, hn⟩ : ∃ n, pts.length = n := ⟨_, rfl⟩
  have HB2 := Lib.hid hb2
  have HP := Lib.hid hp
  have HK1 := Lib.hid k1
  have HK2 := Lib.hid k2
  have HN := Lib.hid hn
  have HZ := Lib.hid hz
  simp only at HC
  rw [hi] at hil HH HC
  rw [hn] at HC hl hil HH c4 HP hW1
  rw [hn]
  clear hb1 hb12 hb2 k1 k2 hgv hm hp hmo hz hn
  cases hf : (Fk.hit (Fk.cP p) pts).isSome with
  | false =>
    have HX : Hid (Fk.putPt pts p o = Fk.ins pts i (p, o)) := Lib.hid (by unfold Fk.putPt; rw [hf, hi]; rfl)
    rw [hf] at HC
    clear hf hi HH
    go_enter Tryz.func40, Tryz.ntmps40
    go_wp2_with fail
    refine HC.out.mono ?_
    rintro e w3 ⟨rfl, hb3⟩
    have HB3 := Lib.hid hb3
    have HBW := Lib.hid (HB2.out.trans (hb3.mono HB2.out.size))
    have c4 := (HK1.out.below hb3).cell (i := 4) (x := .slice pa n pc) (by rw [← HN.out]; rfl)
    have d0 : w3.cell? ⟨W1.heap.size, 0, none⟩ = some (.int .i64 p) := (HK2.out.below hb3).cell rfl
    have d1 : w3.cell? ⟨W1.heap.size, 1, none⟩ = some (.int .i64 o) := (HK2.out.below hb3).cell rfl
    obtain ⟨W4, hW4⟩ : ∃ W, w3.alloc (.cells #[.int .i64 p, .int .i64 o] 59) = W := ⟨_, rfl⟩
    have hb4 : Below w3.heap.size w3 W4 := by rw [← hW4]; exact (Below.refl _ _).alloc (Nat.le_refl _) _
    have HB4 := Lib.hid (HBW.out.trans (hb4.mono HBW.out.size))
    have hk4 : Blk W4 w3.heap.size [Value.int .i64 p, .int .i64 o].toArray 59 := by rw [← hW4]; exact Blk.new _ _ _
    have hsz := HBW.out.size
    have HI := Lib.hid (insP_any (.slice pa n pc) n i w3.heap.size (pcs pts) [.int .i64 p, .int .i64 o] W4 (HP.out.below HB4.out) (pcs_one _) (by omega) hil rfl (by intro u hu; simp only [List.mem_cons, List.not_mem_nil, or_false] at hu; rcases hu with rfl | rfl <;> rfl) hk4 (fun b e he => by have := (HP.out.lt b e).2; omega) (Nat.le_trans HZ.out HB4.out.size))
    have hbb := hb4.size
    have HNW : Hid (∀ b, W4.heap.size ≤ b → w.heap.size ≤ b) := Lib.hid fun b hb => by omega
    clear hb3 hb4 hk4 hbb hsz HC
    go_wp2_with fail
    refine HI.out.mono ?_
    rintro e w5 ⟨v', pb', rfl, hw5, hg5, hn5⟩
    have HF : Hid (ComOut z w pb (Fk.putPt pts p o) (.returned v') w5) := Lib.hid (by
      refine ⟨v', pb', rfl, ?_, grown_after HB4.out hg5, fun b hb => (hn5 b hb).imp id (HNW.out b)⟩
      rw [HX.out, Fk.ins_len (by rw [HN.out]; exact hil), HN.out, ← pcs_ins]
      exact hw5)
    clear hw5 hg5 hn5 HI
    go_wp2_with fail
    go_ret
    exact HF.out
  | true =>
    have HX : Hid (Fk.putPt pts p o = pts.set i (p, o)) := Lib.hid (by unfold Fk.putPt; rw [hf, hi]; rfl)
    rw [hf] at HC
    have hin : i < n := by
      have := HH.out
      rw [hf] at this
      rcases Nat.lt_or_ge i n with h | h
      · exact h
      · rw [decide_eq_false (by omega)] at this; cases this
    obtain ⟨q, hq⟩ : ∃ q, pts[i]? = some q := ⟨_, List.getElem?_eq_getElem (by rw [HN.out]; exact hin)⟩
    obtain ⟨g, off, hpa, hgb⟩ : ∃ g off, pa = some ⟨g, off, none⟩ ∧ pb = some g := by
      obtain ⟨ao', cap', ev, -, hpos, -⟩ := Sl.make HP.out.1
      injection ev with e1 e2 e3
      subst e1
      exact hpos (by omega)
    subst hpa
    subst hgb
    obtain ⟨y0, y1⟩ := pcs_at hq
    have g0 := HP.out.1.cell rfl _ _ y0
    have g1 := HP.out.1.cell rfl _ _ y1
    simp only [← Nat.add_assoc] at g1
    have HG0 := Lib.hid g0
    have HG1 := Lib.hid g1
    have i0 : (0 : Int) ≤ (i : Int) := by omega
    have i1 : (i : Int) < (n : Int) := by omega
    clear hf hi HH hq y0 y1 g0 g1
    go_enter Tryz.func40, Tryz.ntmps40
    go_wp2_with fail
    refine HC.out.mono ?_
    rintro e w3 ⟨rfl, hb3⟩
    have HBW := Lib.hid (HB2.out.trans (hb3.mono HB2.out.size))
    have hgl := (HP.out.lt g rfl).2
    have c4 := (HK1.out.below hb3).cell (i := 4) (x := .slice (some ⟨g, off, none⟩) n pc) (by rw [← HN.out]; rfl)
    have d0 : w3.cell? ⟨W1.heap.size, 0, none⟩ = some (.int .i64 p) := (HK2.out.below hb3).cell rfl
    have d1 : w3.cell? ⟨W1.heap.size, 1, none⟩ = some (.int .i64 o) := (HK2.out.below hb3).cell rfl
    have hrow := HP.out.below HBW.out
    have e0 := (HBW.out.cell (p := ⟨g, off + i * 2, none⟩) hgl).trans HG0.out
    have e1 := (HBW.out.cell (p := ⟨g, off + i * 2 + 1, none⟩) hgl).trans HG1.out
    have f0 := hrow.1.frozen rfl (off + i * 2)
    have f1 := hrow.1.frozen rfl (off + i * 2 + 1)
    have HROW := Lib.hid hrow
    clear hb3 HC hrow
    go_wp2_with fail
    go_ret
    have r3 := (Sl.set HROW.out.1 (j := i * 2) (by omega) (.int .i64 p)).set (j := i * 2 + 1) (by omega) (.int .i64 o)
    simp only [← Nat.add_assoc] at r3
    rw [pcs_set pts i (p, o) (by rw [HN.out]; exact hin)] at r3
    refine ⟨_, some g, rfl, ?_, grown_after HBW.out (grown_kb ((Kb.setCell _ _).trans (Kb.setCell _ _))), fun b hb => .inl hb⟩
    rw [HX.out, List.length_set, HN.out]
    exact ⟨r3, HROW.out.2⟩
/-- What turned answers. -/
def TrnOut (z : Nat) (w : World) (L : List Fk.G) (e : Ending) (w' : World) : Prop := Below z w w' ∧ ∃ lab' v', e = .returned v' ∧ GsO z lab' w' v' L
theorem map_ins (E : List En) (i : Nat) (x : En) : (Fk.ins E i x).map En.g = Fk.ins (E.map En.g) i x.g := by simp [Fk.ins, List.map_take, List.map_drop]
theorem map_set (E : List En) (i : Nat) (x : En) : (E.set i x).map En.g = (E.map En.g).set i x.g := List.map_set
theorem EnO.grown {z : Nat} {lab : Lab} {w w' : World} {g : Fk.G} {mv pv : Value} {gb : Option Nat} {r : Option (Option ByteArray)} (h : EnO z lab w g mv pv) (k : w.grownBy w' gb) (hgb : ∀ b, gb = some b → lab b = none) : EnO z (relab lab w.heap.size r) w' g mv pv :=
  h.keep k.size fun b hl _ hb => ⟨k.block b hl (fun e => by rw [hgb b e.symm] at hb; rcases hb with hb | hb <;> cases hb), relab_lt hl⟩
theorem Nms.grown {z : Nat} {lab : Lab} {w w' : World} {v : Value} {L : List ByteArray} {gb : Option Nat} {r : Option (Option ByteArray)} (h : Nms (fun b => z ≤ b ∧ lab b = some none) w v L) (k : w.grownBy w' gb) (hgb : ∀ b, gb = some b → lab b = none) : Nms (fun b => z ≤ b ∧ relab lab w.heap.size r b = some none) w' v L :=
  Rds.keep h k.size fun b hb hl => ⟨k.block b hl (fun e => by have := hb.2; rw [hgb b e.symm] at this; cases this), hb.1, (relab_lt hl).trans hb.2⟩
theorem sized_names {L : List Fk.G} {_i : Nat} {o : Fk.G} {n : ByteArray} (h : Fk.fnd L n = some o) : L[Fk.low (Fk.cN n) L]? = some o ∧ o.name = n := Fk.fnd_some h
set_option maxHeartbeats 4000000 in
set_option maxRecDepth 100000 in
theorem turned_no {z : Nat} {lab : Lab} (v : Value) (L : List Fk.G) (n : ByteArray) (g p : Int) (ms : List ByteArray) (mv : Value) (w : World) (hO : GsO z lab w v L) (hl : L.length ≤ 8) (hmv : Nms (fun b => z ≤ b ∧ lab b = some none) w mv ms) (hz : z ≤ w.heap.size) (hf : Fk.fnd L n = none) :
    Calls Tryz.prog 39 #[v, .int .i64 (Fk.low (Fk.cN n) L : Nat), .bool false, .agg #[.string n, .int .i64 g, .int .i64 p, mv, .slice none 0 0]] w fun e w' => TrnOut z w (Fk.step L (.turn n g p ms)) e w' := by
  have hstep : Fk.step L (.turn n g p ms) = if g = 1 ∧ L.length < 4 then Fk.ins L (Fk.low (Fk.cN n) L) ⟨n, g, p, ms, []⟩ else L := by simp only [Fk.step, hf]
  obtain ⟨W1, hW1⟩ : ∃ W, w.alloc (.cells #[.string n, .int .i64 g, .int .i64 p, mv, .slice none 0 0] 44) = W := ⟨_, rfl⟩
  have hb1 : Below w.heap.size w W1 := by rw [← hW1]; exact (Below.refl _ _).alloc (Nat.le_refl _) _
  have k1 : Blk W1 w.heap.size #[.string n, .int .i64 g, .int .i64 p, mv, .slice none 0 0] 44 := by rw [← hW1]; exact Blk.new _ _ _
  have hil := Fk.low_le (c := Fk.cN n) L
  obtain ⟨i, hi⟩ : ∃ i, Fk.low (Fk.cN n) L = i := ⟨_, rfl⟩
  rw [hi] at hil hstep ⊢
  obtain ⟨a, cap, rfl⟩ := hO.form
  obtain ⟨m, hm⟩ : ∃ m, L.length = m := ⟨_, rfl⟩
  have HM := Lib.hid hm
  have HO := Lib.hid hO
  have HMV := Lib.hid hmv
  have HZ := Lib.hid hz
  have HB1 := Lib.hid hb1
  have HK1 := Lib.hid k1
  obtain ⟨ma, mc, rfl⟩ := hmv.form
  obtain ⟨c0, c1, c2, c3, c4⟩ := k1.cells5
  rw [hm] at hl hil HO hstep ⊢
  have HST := Lib.hid hstep
  clear hO hmv hz hb1 k1 hi hm hf hstep
  by_cases hg1 : g = 1
  · subst hg1
    by_cases hm4 : m < 4
    · have HX : Hid (Fk.step L (.turn n 1 p ms) = Fk.ins L i ⟨n, 1, p, ms, []⟩) := Lib.hid (by rw [HST.out, if_pos ⟨rfl, hm4⟩])
      have hm4' : (m : Int) < 4 := by omega
      obtain ⟨W4, hW4⟩ : ∃ W, W1.alloc (.cells #[.string n, .int .i64 1, .int .i64 p, .slice ma ms.length mc, .slice none 0 0] 44) = W := ⟨_, rfl⟩
      have hb4 : Below W1.heap.size W1 W4 := by rw [← hW4]; exact (Below.refl _ _).alloc (Nat.le_refl _) _
      have HB4 := Lib.hid (HB1.out.trans (hb4.mono HB1.out.size))
      have hk4 : Blk W4 W1.heap.size [Value.string n, .int .i64 1, .int .i64 p, .slice ma ms.length mc, .slice none 0 0].toArray 44 := by rw [← hW4]; exact Blk.new _ _ _
      obtain ⟨gb, E, hE, hGE⟩ := HO.out
      have hEl : E.length = m := by rw [← List.length_map (f := En.g), hE, HM.out]
      have hgl : ∀ b, gb = some b → b < w.heap.size := fun b hb => (hGE.1.lt b hb).2
      have hrow := hGE.1.below HB4.out
      rw [hEl] at hrow
      have HI := Lib.hid (insG_any (.slice a m cap) m i W1.heap.size (E.flatMap En.cells) [.string n, .int .i64 1, .int .i64 p, .slice ma ms.length mc, .slice none 0 0] W4 hrow hGE.one (by omega) hil rfl (by
        intro u hu
        simp only [List.mem_cons, List.not_mem_nil, or_false] at hu
        rcases hu with rfl | rfl | rfl | rfl | rfl <;> rfl) hk4 (fun b e he => by have := hgl b e; have := HB1.out.size; omega) (Nat.le_trans HZ.out HB4.out.size))
      have HFL : Hid ((E.flatMap En.cells).take (i * 5) ++ ([Value.string n, .int .i64 1, .int .i64 p, .slice ma ms.length mc, .slice none 0 0] ++ (E.flatMap En.cells).drop (i * 5)) = (Fk.ins E i ⟨⟨n, 1, p, ms, []⟩, .slice ma ms.length mc, .slice none 0 0⟩).flatMap En.cells) := Lib.hid (flat_ins E i ⟨⟨n, 1, p, ms, []⟩, .slice ma ms.length mc, .slice none 0 0⟩)
      have HEL : Hid ((Fk.ins E i ⟨⟨n, 1, p, ms, []⟩, .slice ma ms.length mc, .slice none 0 0⟩).length = m + 1) := Lib.hid (by rw [Fk.ins_len (by rw [hEl]; exact hil), hEl])
      have HGE := Lib.hid hGE
      have HEE := Lib.hid hE
      clear hE hEl hgl hrow hGE hb4 hk4
      go_enter Tryz.func39, Tryz.ntmps39
      go_wp2_with fail
      refine HI.out.mono ?_
      rintro e w5 ⟨v', gb', rfl, hw5, hg5, hn5⟩
      have HF : Hid (TrnOut z w (Fk.step L (.turn n 1 p ms)) (.returned v') w5) := Lib.hid (by
        have hgr := grown_after HB4.out hg5
        have hz4 := Nat.le_trans HZ.out HB4.out.size
        have hs4 := HB4.out.size
        refine ⟨grown_below hgr (fun b hb => (HGE.out.1.lt b hb).1) HZ.out, relab lab w.heap.size none, v', rfl, gb', _, ?_, ⟨by rw [HEL.out, ← HFL.out]; exact hw5, fun b hb => ?_, fun e he => ?_⟩⟩
        · rw [HX.out, map_ins, HEE.out]
        · rcases hn5 b hb with h | h
          · rw [relab_lt (HGE.out.1.lt b h).2]; exact HGE.out.2.1 b h
          · rw [relab_ge (by omega)]
        · rcases Fk.ins_mem.1 he with rfl | he
          · exact ⟨HMV.out.grown hgr HGE.out.2.1, PtsO.nil _ _ _ _⟩
          · exact (HGE.out.2.2 e he).grown hgr HGE.out.2.1)
      clear hw5 hg5 hn5 HI
      go_wp2_with fail
      go_ret
      exact HF.out
    · have HX : Hid (Fk.step L (.turn n 1 p ms) = L) := Lib.hid (by rw [HST.out, if_neg (fun h => hm4 h.2)])
      have hm4' : ¬ ((m : Int) < 4) := by omega
      go_enter Tryz.func39, Tryz.ntmps39
      go_wp2_with fail
      go_quiet (fail)
      go_wp2_with fail
      go_ret
      have hb := HB1.out.trans (below_drewN W1 nq)
      exact ⟨hb.mono HZ.out, lab, _, rfl, by rw [HX.out]; exact HO.out.below hb⟩
  · have HX : Hid (Fk.step L (.turn n g p ms) = L) := Lib.hid (by rw [HST.out, if_neg (fun h => hg1 h.1)])
    have hg1' : (g == 1) = false := by simpa using hg1
    go_enter Tryz.func39, Tryz.ntmps39
    go_wp2_with fail
    go_quiet (fail)
    go_wp2_with fail
    go_ret
    have hb := HB1.out.trans (below_drewN W1 nq)
    exact ⟨hb.mono HZ.out, lab, _, rfl, by rw [HX.out]; exact HO.out.below hb⟩
theorem five_at (W : World) (b o0 o1 o2 o3 o4 : Nat) (v0 v1 v2 v3 v4 : Value) : Kb b W (((((W.setCell ⟨b, o0, none⟩ v0).setCell ⟨b, o1, none⟩ v1).setCell ⟨b, o2, none⟩ v2).setCell ⟨b, o3, none⟩ v3).setCell ⟨b, o4, none⟩ v4) :=
  ((((Kb.setCell W v0).trans (Kb.setCell _ v1)).trans (Kb.setCell _ v2)).trans (Kb.setCell _ v3)).trans (Kb.setCell _ v4)
set_option maxHeartbeats 4000000 in
set_option maxRecDepth 100000 in
theorem turned_yes {z : Nat} {lab : Lab} (v : Value) (L : List Fk.G) (n : ByteArray) (g p : Int) (ms : List ByteArray) (mv : Value) (o : Fk.G) (w : World) (hO : GsO z lab w v L) (hl : L.length ≤ 8) (hmv : Nms (fun b => z ≤ b ∧ lab b = some none) w mv ms) (hz : z ≤ w.heap.size) (hf : Fk.fnd L n = some o) (ho0 : 0 ≤ o.gen) (ho1 : o.gen ≤ 1099511627776) :
    Calls Tryz.prog 39 #[v, .int .i64 (Fk.low (Fk.cN n) L : Nat), .bool true, .agg #[.string n, .int .i64 g, .int .i64 p, mv, .slice none 0 0]] w fun e w' => TrnOut z w (Fk.step L (.turn n g p ms)) e w' := by
  have hstep : Fk.step L (.turn n g p ms) = if g = o.gen + 1 then L.set (Fk.low (Fk.cN n) L) ⟨n, g, p, ms, o.pts⟩ else L := by simp only [Fk.step, hf]
  obtain ⟨hLi, hon⟩ := Fk.fnd_some hf
  obtain ⟨W1, hW1⟩ : ∃ W, w.alloc (.cells #[.string n, .int .i64 g, .int .i64 p, mv, .slice none 0 0] 44) = W := ⟨_, rfl⟩
  have hb1 : Below w.heap.size w W1 := by rw [← hW1]; exact (Below.refl _ _).alloc (Nat.le_refl _) _
  have k1 : Blk W1 w.heap.size #[.string n, .int .i64 g, .int .i64 p, mv, .slice none 0 0] 44 := by rw [← hW1]; exact Blk.new _ _ _
  obtain ⟨i, hi⟩ : ∃ i, Fk.low (Fk.cN n) L = i := ⟨_, rfl⟩
  rw [hi] at hLi hstep ⊢
  obtain ⟨gb, E, hE, hGE⟩ := hO
  obtain ⟨en, hen⟩ : ∃ en, E[i]? = some en := by
    rw [← hE, List.getElem?_map] at hLi
    cases h : E[i]? with
    | none => rw [h] at hLi; cases hLi
    | some en => exact ⟨en, rfl⟩
  obtain rfl : en.g = o := by
    rw [← hE, List.getElem?_map, hen] at hLi
    simpa using hLi
  obtain ⟨a, cap, rfl⟩ := hGE.1.form
  obtain ⟨m, hm⟩ : ∃ m, E.length = m := ⟨_, rfl⟩
  have hLm : L.length = m := by rw [← hE, List.length_map, hm]
  have him : i < m := by rw [← hm]; exact (List.getElem?_eq_some_iff.1 hen).1
  obtain ⟨bq, off, rfl, rfl⟩ : ∃ bq off, a = some ⟨bq, off, none⟩ ∧ gb = some bq := by
    obtain ⟨ao', cap', ev, -, hpos, -⟩ := Sl.make hGE.1.1
    injection ev with e1 e2 e3
    subst e1
    obtain ⟨g, p, h1, h2⟩ := hpos (by omega)
    exact ⟨g, p, h1, h2⟩
  have hrow := hGE.1.below hb1
  have hgl := hGE.1.lt bq rfl
  obtain ⟨q0, q1, q2, q3, q4⟩ := en_cells hen
  have e0 := hrow.1.cell rfl _ _ q0
  have e1 := hrow.1.cell rfl _ _ q1
  have e2 := hrow.1.cell rfl _ _ q2
  have e3 := hrow.1.cell rfl _ _ q3
  have e4 := hrow.1.cell rfl _ _ q4
  simp only [← Nat.add_assoc] at e1 e2 e3 e4
  have f0 := hrow.1.frozen rfl (off + i * 5)
  have f1 := hrow.1.frozen rfl (off + i * 5 + 1)
  have f2 := hrow.1.frozen rfl (off + i * 5 + 2)
  have f3 := hrow.1.frozen rfl (off + i * 5 + 3)
  have f4 := hrow.1.frozen rfl (off + i * 5 + 4)
  have heo := hGE.2.2 en (List.mem_of_getElem? hen)
  have HEN := Lib.hid hen
  have HON := Lib.hid hon
  have HGE := Lib.hid hGE
  have HE := Lib.hid hE
  have HHM := Lib.hid hm
  have HMV := Lib.hid hmv
  have HZ := Lib.hid hz
  have HB1 := Lib.hid hb1
  have HK1 := Lib.hid k1
  have HROW := Lib.hid hrow
  have HGL := Lib.hid hgl
  have HEO := Lib.hid heo
  have HST := Lib.hid hstep
  obtain ⟨ma, mc, rfl⟩ := hmv.form
  obtain ⟨⟨onm, ogen, oparts, omem, opts⟩, emv, epv⟩ := en
  change EnO z lab w ⟨onm, ogen, oparts, omem, opts⟩ emv epv at heo
  obtain ⟨oma, omc, eo1⟩ := heo.1.form
  obtain ⟨opa, opc, eo2⟩ := heo.2.pts.form
  simp only at eo1 eo2
  subst eo1
  subst eo2
  simp only at e0 e1 e2 e3 e4 ho0 ho1 HST HON HEO
  obtain ⟨c0, c1, c2, c3, c4⟩ := k1.cells5
  have x0 := k1.free (i := 0)
  have x1 := k1.free (i := 1)
  have x2 := k1.free (i := 2)
  have x3 := k1.free (i := 3)
  have x4 := k1.free (i := 4)
  rw [hm]
  have hne : w.heap.size ≠ bq := by have := hgl.2; omega
  have i0 : (0 : Int) ≤ (i : Int) := by omega
  have i1 : (i : Int) < (m : Int) := by omega
  clear hLi hi hf hstep hon hE hGE hb1 k1 hrow hgl heo hen q0 q1 q2 q3 q4 hmv hz hm hl hLm
  have hwr : wrap64 (ogen + 1) = ogen + 1 := by unfold wrap64; omega
  by_cases hg : g = ogen + 1
  · subst hg
    go_enter Tryz.func39, Tryz.ntmps39
    go_wp2_with fail
    go_quiet (fail)
    go_wp2_with fail
    go_ret
    have hbW : Below w.heap.size w ((W1.drewN nq).setCell ⟨w.heap.size, 4, none⟩ (.slice opa opts.length opc)) := (HB1.out.trans (below_drewN W1 nq)).setCell (p := ⟨w.heap.size, 4, none⟩) (Nat.le_refl _) _
    have hrW : Wz z ((W1.drewN nq).setCell ⟨w.heap.size, 4, none⟩ (.slice opa opts.length opc)) (.slice (some ⟨bq, off, none⟩) E.length cap) (some bq) 44 5 E.length (E.flatMap En.cells) := HGE.out.1.below hbW
    have r5 := ((((Sl.set hrW.1 (j := i * 5) (by rw [HHM.out]; omega) (.string n)).set (j := i * 5 + 1) (by rw [HHM.out]; omega) (.int .i64 (ogen + 1))).set (j := i * 5 + 2) (by rw [HHM.out]; omega) (.int .i64 p)).set (j := i * 5 + 3) (by rw [HHM.out]; omega) (.slice ma ms.length mc)).set (j := i * 5 + 4) (by rw [HHM.out]; omega) (.slice opa opts.length opc)
    simp only [← Nat.add_assoc] at r5
    rw [flat_set E i ⟨⟨n, ogen + 1, p, ms, opts⟩, .slice ma ms.length mc, .slice opa opts.length opc⟩ (by rw [HHM.out]; exact him)] at r5
    have k := grown_after hbW (grown_kb (five_at ((W1.drewN nq).setCell ⟨w.heap.size, 4, none⟩ (.slice opa opts.length opc)) bq (off + i * 5) (off + i * 5 + 1) (off + i * 5 + 2) (off + i * 5 + 3) (off + i * 5 + 4) (.string n) (.int .i64 (ogen + 1)) (.int .i64 p) (.slice ma ms.length mc) (.slice opa opts.length opc)))
    refine ⟨grown_below k (fun b hb => by cases hb; exact HGL.out.1) HZ.out, relab lab w.heap.size none, _, rfl, some bq, _, ?_, ⟨by rw [List.length_set, HHM.out]; rw [HHM.out] at r5; exact ⟨r5, hrW.2⟩, fun b hb => ?_, fun e he => ?_⟩⟩
    · rw [HST.out, if_pos trivial, map_set, HE.out]
    · cases hb
      rw [relab_lt HGL.out.2]
      exact HGE.out.2.1 bq rfl
    · rcases List.mem_or_eq_of_mem_set he with he | rfl
      · exact (HGE.out.2.2 e he).grown k HGE.out.2.1
      · have ho := HEO.out.grown (r := none) k HGE.out.2.1
        refine ⟨HMV.out.grown k HGE.out.2.1, ?_⟩
        have ho2 := ho.2
        simp only [HON.out] at ho2
        exact ho2
  · have HX : Hid (Fk.step L (.turn n g p ms) = L) := Lib.hid (by rw [HST.out, if_neg hg])
    have hg' : (g == ogen + 1) = false := by simpa using hg
    go_enter Tryz.func39, Tryz.ntmps39
    go_wp2_with fail
    go_quiet (fail)
    go_wp2_with fail
    go_ret
    have hb := HB1.out.trans (below_drewN W1 nq)
    have h := HGE.out
    rw [HHM.out] at h
    exact ⟨hb.mono HZ.out, lab, _, rfl, by rw [HX.out]; exact GsO.below ⟨some bq, E, HE.out, h⟩ hb⟩
end Go.Proofs.YtjccfilbihkfpaaGreatDoor

/- A REGION THAT DRAWS ITS ORDER, WHOSE HEAD READS OR CALLS QUIETLY IN A CLASS OF WORLDS, AND WHOSE TAIL STANDS IN ONE FORCED ORDER: one walk of the text's order serves every order. -/
namespace Go.Proofs.YtjccfilbihkfpaaGreatDoor
open Go

/-- The head, one ready operation after the other, each quiet in the class C. -/
def headQ (P : Program) (md : Region.Mode) (ops : Array Oper) (C : World → Prop) (n : Nat) (L : Array Bool → Act → Prop) : Nat → Array Bool → Act → Prop
  | 0, listed, a => L listed a
  | f + 1, listed, a =>
    Region.ready md ops listed ≠ [] ∧ ∀ i ∈ Region.ready md ops listed, i < n ∧ qOp P ops C i (headQ P md ops C n L f (listed.setIfInBounds i true)) a
theorem any_of_headQ {P : Program} {md : Region.Mode} {ops : Array Oper} {C : World → Prop} {n g : Nat} {L : Array Bool → Act → Prop} {Q : Exit → Act → World → Prop} (hL : ∀ listed a w, C w → L listed a → wpAny P md ops Q g listed a w) :
    ∀ (f : Nat) (listed : Array Bool) (a : Act) (w : World), C w → headQ P md ops C n L f listed a → wpAny P md ops Q (f + g) listed a w
  | 0, listed, a, w, hw, h => by rw [Nat.zero_add]; exact hL _ _ _ hw h
  | f + 1, listed, a, w, hw, h => by
    rw [show f + 1 + g = (f + g) + 1 by omega]
    exact ⟨fun h0 => absurd h0 h.1, fun i hi => wpOp_of_qOp hw (fun a' w' hw' h' => any_of_headQ hL f _ a' w' hw' h') (h.2 i hi).2⟩
theorem headQ_first {P : Program} {md : Region.Mode} {ops : Array Oper} {C : World → Prop} {n i : Nat} {oi : Oper} {v : Value} {L : Array Bool → Act → Prop} (hi : ops[i]? = some oi) (hsel : ∀ (j : Nat) (o : Oper) cs b, ops[j]? = some o → o.op ≠ .select cs b)
    (hs : Region.sinkB md ops n = true) (hc : Region.chainB md ops n = true) (hn : n < ops.size) (hin : i < n)
    (hdone : ∀ listed a, L listed a → ∀ j ∈ Region.ready md ops listed, n ≤ j) :
    ∀ (f : Nat) (listed : Array Bool) (a : Act), HeadInv md ops n listed →
      (∀ j oj, ops[j]? = some oj → j ≠ i → listed.getD j true = false → (∀ e ∈ oj.after, Region.binds md e = true → e.on ≠ i) → oi.apart ops oj = true) →
      i ∈ Region.ready md ops listed → YieldsIn P ops C oi v a →
      headQ P md ops C n L f (listed.setIfInBounds i true) (a.put oi.dst v) → headQ P md ops C n L (f + 1) listed a := by
  intro f
  induction f with
  | zero =>
    intro listed a inv _ hr hy H
    have hun := (mem_ready.1 hr).1
    refine ⟨fun h => (by rw [h] at hr; cases hr), fun j hj => ?_⟩
    have hjn : j < n := by
      rcases Nat.lt_or_ge j n with h | h
      · exact h
      · exact absurd hj (tail_waits hs hc hn inv _ i rfl hin hun j h)
    refine ⟨hjn, ?_⟩
    by_cases hji : j = i
    · subst hji; exact hy.qOp hi H
    · have := hdone _ _ H j (ready_mono hj hji)
      omega
  | succ f ih =>
    intro listed a inv hfree hr hy H
    have hun := (mem_ready.1 hr).1
    refine ⟨fun h => (by rw [h] at hr; cases hr), fun j hj => ?_⟩
    have hjn : j < n := by
      rcases Nat.lt_or_ge j n with h | h
      · exact h
      · exact absurd hj (tail_waits hs hc hn inv _ i rfl hin hun j h)
    refine ⟨hjn, ?_⟩
    by_cases hji : j = i
    · subst hji; exact hy.qOp hi H
    · have h1 := (H.2 j (ready_mono hj hji)).2
      obtain ⟨hjun, oj, hoj, hall⟩ := mem_ready.1 hj
      have hnot : ∀ e ∈ oj.after, Region.binds md e = true → e.on ≠ i := fun e he hb heq => by
        have h1 := hall e he hb
        rw [heq, getD_both hun] at h1
        cases h1
      have h2 := qOp_put hoj (hfree j oj hoj hji hjun hnot) (fun cs b => hsel i oi cs b hi) (fun cs b => hsel j oj cs b hoj) hy h1
      have hfree' : ∀ k ok, ops[k]? = some ok → k ≠ i → (listed.setIfInBounds j true).getD k true = false →
          (∀ e ∈ ok.after, Region.binds md e = true → e.on ≠ i) → oi.apart ops ok = true := fun k ok hk hki hun hno => by
        refine hfree k ok hk hki ?_ hno
        by_cases hjk : j = k
        · subst hjk; exact hjun
        · rw [getD_set_ne true hjk] at hun; exact hun
      refine qOp_mono (fun a' h3 => ih (listed.setIfInBounds j true) a' (inv.set hj hjn) hfree' (ready_mono hr (Ne.symm hji)) h3.1 ?_) h2
      rw [Array.setIfInBounds_comm _ _ hji]
      exact h3.2
theorem headQ_lex {P : Program} {md : Region.Mode} {ops : Array Oper} {C : World → Prop} {n g : Nat} {Lq : Act → Prop} (hsel : Region.noSelect ops = true) (hs : Region.sinkB md ops n = true) (hc : Region.chainB md ops n = true) (hn : n < ops.size) :
    ∀ (l : List Oper) (k : Nat) (listed : Array Bool) (a : Act), (∀ j, j < l.length → l[j]? = ops[k + j]?) → k + l.length = n → HeadInv md ops n listed →
    Region.lexHead md ops g l.length k listed = true → wpQuiet P ops C Lq l a →
    headQ P md ops C n (fun listed' a' => Region.seqB md ops g n listed' = true ∧ Lq a') l.length listed a
  | [], k, listed, a, _, hk, _, hB, h => by
    have : k = n := by simpa using hk
    subst this
    exact ⟨by simpa [Region.lexHead] using hB, h⟩
  | o :: l, k, listed, a, hl, hk, inv, hB, h => by
    have h0 : ops[k]? = some o := by simpa using (hl 0 (by simp)).symm
    simp only [List.length_cons, Region.lexHead, Bool.and_eq_true] at hB
    obtain ⟨⟨hr, hf⟩, hB'⟩ := hB
    have hkn : k < n := by simp only [List.length_cons] at hk; omega
    have hr' : k ∈ Region.ready md ops listed := by simpa using hr
    have hst : qOp P ops C k (wpQuiet P ops C Lq l) a := by unfold qOp; simp only [h0]; exact h
    obtain ⟨v, hy, hK⟩ := yieldsIn_of_qOp h0 hst
    exact headQ_first h0 (Region.noSelect_spec hsel) hs hc hn hkn (fun listed' a' hL => seqB_ready hL.1) l.length listed a inv (Region.free_spec h0 hf) hr' hy
      (headQ_lex hsel hs hc hn l (k + 1) _ _ (fun j hj => by have := hl (j + 1) (by simp; omega); simpa [Nat.add_assoc, Nat.add_comm 1 j] using this) (by simp only [List.length_cons] at hk; omega) (inv.set hr' hkn) hB' hK)
theorem wp_region_quiet_tail {P : Program} {C : World → Prop} {id : Nat} {Q : Exit → Act → World → Prop} {a : Act} {w : World} {l : List Oper} (n : Nat) (hm : P.follows .mixedOrders = true) (hB : Region.lexTailB .any l.toArray n = true) (hC : C { w with drawn := w.drawn + 1 })
    (h : wpQuiet P l.toArray C (fun a' => ∀ w', C w' → wpList P l.toArray Q (l.drop n) a' w') (l.take n) a) : (Code.region id l.toArray true).wp P Q a w := by
  simp only [Region.lexTailB, Bool.and_eq_true, decide_eq_true_eq] at hB
  obtain ⟨⟨⟨⟨hsel, hn⟩, hs⟩, hc⟩, hlex⟩ := hB
  have hn' : n < l.length := by simpa using hn
  have htl : (l.take n).length = n := by simp; omega
  have hdl : (l.drop n).length = l.toArray.size - n := by simp
  have inv0 : HeadInv .any l.toArray n (Array.replicate l.toArray.size false) :=
    ⟨by simp, fun j oj _ hl => (by rw [getD_replicate_false] at hl; cases hl), fun t _ ht => getD_in (by simpa using ht) (getD_replicate_false _ _)⟩
  have H := headQ_lex (md := .any) (g := l.toArray.size - n) hsel hs hc hn (l.take n) 0 _ a (fun j hj => by
    have hj' : j < n := by rw [htl] at hj; exact hj
    simp [hj']) (by simpa using htl) inv0 (by rw [htl]; exact hlex) h
  refine wp_region_any hm ?_
  have := any_of_headQ (Q := Q) (g := l.toArray.size - n) (fun listed a' w' hw' hL => by
    have := wpAny_of_seq (md := .any) (Q' := Q) (l.drop n) n listed a' w' (fun j => by simp [List.getElem?_drop]) (by rw [hdl]; exact hL.1) (hL.2 w' hw')
    rwa [hdl] at this) _ _ _ _ hC H
  rw [htl, show n + (l.toArray.size - n) = l.toArray.size by omega] at this
  exact this
/-- At the class 'nothing of what was there has turned'. -/
theorem wp_region_below_tail {P : Program} {id : Nat} {Q : Exit → Act → World → Prop} {a : Act} {w : World} {l : List Oper} (n : Nat) (hm : P.follows .mixedOrders = true) (hB : Region.lexTailB .any l.toArray n = true)
    (h : wpQuiet P l.toArray (fun w' => ∃ p : Regrown, w' = Sort.grow (redrawn w p.d) p.os) (fun a' => ∀ w', (∃ p : Regrown, w' = Sort.grow (redrawn w p.d) p.os) → wpList P l.toArray Q (l.drop n) a' w') (l.take n) a) : (Code.region id l.toArray true).wp P Q a w :=
  wp_region_quiet_tail n hm hB ⟨⟨w.drawn + 1, #[]⟩, by rw [Sort.grow_empty]; rfl⟩ h
end Go.Proofs.YtjccfilbihkfpaaGreatDoor
