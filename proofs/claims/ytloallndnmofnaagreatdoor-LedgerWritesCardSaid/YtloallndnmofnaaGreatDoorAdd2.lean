/- .. of a batch that comes next. -/
import Derived.Test.YtloallndnmofnaaGreatDoorAdd
import Derived.Test.YtloallndnmofnaaGreatDoorRemK
import Derived.Test.YtloallndnmofnaaGreatDoorRemN
namespace Go.Proofs.YtloallndnmofnaaGreatDoor
open Go.RowKit

theorem addE_none {T : Ld.Tb} {prod seq base : Int} {s : Ld.Sl} (_hG : Ld.goodB T = true) (hck : Ld.check T prod seq = (s, 0)) (ha : Ld.at_ T prod = none) : Ld.addE T prod seq base = if T.length = 64 then 1 else 0 := by
  unfold Ld.addE
  rw [hck, Ld.slots_none ha]
  rfl
theorem addE_some {T : Ld.Tb} {prod seq base : Int} {s : Ld.Sl} {i : Nat} {L : List Ld.Sl} {l : Ld.Sl} (hck : Ld.check T prod seq = (s, 0)) (ha : Ld.at_ T prod = some i) (hL : T[i]? = some (prod, L)) (hl : L.getLast? = some l) : Ld.addE T prod seq base = if base < l.fin then 20 else 0 := by
  unfold Ld.addE
  rw [hck, Ld.slots_some ha hL]
  cases L with
  | nil => cases hl
  | cons a r =>
    have : (a :: r).getLastD Ld.zeroS = l := by rw [List.getLastD_eq_getLast?, hl]; rfl
    simp only [this, if_true]
set_option maxHeartbeats 4000000 in
set_option maxRecDepth 100000 in
theorem dadd_full (rb : Nat) (B : Nat → Prop) (T : Ld.Tb) (base count prod seq time : Int) (ls : List Pl.Rc) (v : Value) (w : World) (lb : Lg w) (h : Lgr w rb B T) (hG : Ld.goodB T = true) (hr : Recs v ls w) (hl : ls.length ≤ 1099511627776) (hgd : Pl.goodB ⟨base, count, prod, seq, time, ls⟩ = true) (s0 s1 s2 : Int) (hck : Ld.check T prod seq = (⟨s0, s1, s2⟩, 0)) (ha : Ld.at_ T prod = none) (hfull : T.length = 64) :
    Calls Tryz.prog 12 #[.pointer (some ⟨rb, 0, none⟩), .agg #[.int .i64 base, .int .i64 count, .int .i64 prod, .int .i64 seq, .int .i64 time, v]] w (Added w rb B T true prod seq base count) := by
  have hw0 : RowKit.Below w.heap.size w (w.alloc (.cells #[.int .i64 base, .int .i64 count, .int .i64 prod, .int .i64 seq, .int .i64 time, v] 37)) := (Below.refl _ _).alloc (Nat.le_refl _) _
  have hb0 := Blk.new w #[.int .i64 base, .int .i64 count, .int .i64 prod, .int .i64 seq, .int .i64 time, v] 37
  have hg := dgood base count prod seq time ls v _ (lb.below lb.size hw0) (hr.below hw0) hl
  rw [hgd] at hg
  obtain ⟨⟨gb0, gb1⟩, ⟨gc0, gc1, gc2⟩, gp, gs⟩ := good_nums hgd
  have HG := Lib.hid hg
  have HW0 := Lib.hid hw0
  obtain ⟨W0, hW0⟩ : ∃ W, w.alloc (.cells #[.int .i64 base, .int .i64 count, .int .i64 prod, .int .i64 seq, .int .i64 time, v] 37) = W := ⟨_, rfl⟩
  rw [hW0] at HG HW0 hb0
  have HBX : Hid (∀ w1, RowKit.Below W0.heap.size W0 w1 → Blk w1 w.heap.size #[.int .i64 base, .int .i64 count, .int .i64 prod, .int .i64 seq, .int .i64 time, v] 37) := fun w1 hb => hb0.below hb
  have HLO : Hid (∀ w1, RowKit.Below W0.heap.size W0 w1 → RowKit.Below w.heap.size w w1) := fun w1 hb => HW0.out.trans (hb.mono HW0.out.size)
  have HLG : Hid (∀ w1, RowKit.Below w.heap.size w w1 → Lgr w1 rb B T) := fun w1 hb => h.below hb
  have y0 := hb0.cell (i := 0) rfl
  have y1 := hb0.cell (i := 1) rfl
  have y2 := hb0.cell (i := 2) rfl
  have y3 := hb0.cell (i := 3) rfl
  have y4 := hb0.cell (i := 4) rfl
  have y5 := hb0.cell (i := 5) rfl
  have HCHK : Hid (∀ w1, RowKit.Below W0.heap.size W0 w1 → Calls Tryz.prog 14 #[.pointer (some ⟨rb, 0, none⟩), .int .i64 prod, .int .i64 seq] w1 fun e w' => e = .returned (.tuple #[.agg #[.int .i64 s0, .int .i64 s1, .int .i64 s2], .int .i64 0]) ∧ RowKit.Below w1.heap.size w1 w') := by
    intro w1 hb
    obtain ⟨tv, k1, k2⟩ := (HLG.out w1 (HLO.out w1 hb)).view
    exact dcheck _ rb tv T prod seq w1 k1 k2 hG s0 s1 s2 0 hck
  have HSL : Hid (∀ w1, RowKit.Below W0.heap.size W0 w1 → Calls Tryz.prog 34 #[.pointer (some ⟨rb, 0, none⟩), .int .i64 prod] w1 fun e w' => e = .returned (.slice none 0 0) ∧ RowKit.Below w1.heap.size w1 w') := by
    intro w1 hb
    obtain ⟨tv, k1, k2⟩ := (HLG.out w1 (HLO.out w1 hb)).view
    exact dslots_none _ rb tv T prod w1 k1 k2 hG ha
  have HREM : Hid (∀ w1, RowKit.Below W0.heap.size W0 w1 → Calls Tryz.prog 35 #[.pointer (some ⟨rb, 0, none⟩), .int .i64 prod, .agg #[.int .i64 seq, .int .i64 base, .int .i64 (base + count)]] w1 fun e w' => e = .returned (.int .i64 1) ∧ RowKit.Below w1.heap.size w1 w') := by
    intro w1 hb
    exact drem_full rb B T prod ⟨seq, base, base + count⟩ w1 (HLG.out w1 (HLO.out w1 hb)) hG ha hfull
  have HFIN : Hid (∀ w', RowKit.Below W0.heap.size W0 w' → Added w rb B T true prod seq base count (.returned (.int .i64 1)) w') := fun w' hb => Added.not h (HLO.out w' hb) (by
    unfold Ld.addR
    rw [if_pos rfl, addE_none hG hck ha, if_pos hfull]) (by decide)
  clear hg hw0 hb0 h lb hr hck hgd hG ha hfull gp gs
  go_enter Tryz.func12, Tryz.ntmps12
  go_wp2_with fail
  refine HG.out.mono ?_
  rintro e w1 ⟨rfl, hb1⟩
  clear y0 y1 y2 y3 y4 y5
  have q2 := (HBX.out w1 hb1).cell (i := 2) rfl
  have q3 := (HBX.out w1 hb1).cell (i := 3) rfl
  have HC1 := Lib.hid (HCHK.out w1 hb1)
  have HB1 := Lib.hid hb1
  clear hb1
  go_wp2_with fail
  refine HC1.out.mono ?_
  rintro e w2 ⟨rfl, hb2⟩
  have hb3 : RowKit.Below w2.heap.size w2 (w2.alloc (.cells #[.int .i64 s0, .int .i64 s1, .int .i64 s2] 40)) := (Below.refl _ _).alloc (Nat.le_refl _) _
  obtain ⟨w3, hw3⟩ : ∃ W, w2.alloc (.cells #[.int .i64 s0, .int .i64 s1, .int .i64 s2] 40) = W := ⟨_, rfl⟩
  rw [hw3] at hb3
  have hb13 := HB1.out.trans ((hb2.trans (hb3.mono hb2.size)).mono HB1.out.size)
  have q2 := (HBX.out w3 hb13).cell (i := 2) rfl
  have HB3 := Lib.hid hb13
  clear hb2 hb3 hb13 HC1 HB1 q3
  have HS3 := Lib.hid (HSL.out w3 HB3.out)
  go_wp2_with fail
  refine HS3.out.mono ?_
  rintro e w4 ⟨rfl, hb4⟩
  have HB4 := Lib.hid (HB3.out.trans (hb4.mono HB3.out.size))
  clear hb4 HS3 HB3 q2
  have q0 := (HBX.out _ HB4.out).cell (i := 0) rfl
  have q1 := (HBX.out _ HB4.out).cell (i := 1) rfl
  have q2 := (HBX.out _ HB4.out).cell (i := 2) rfl
  have q3 := (HBX.out _ HB4.out).cell (i := 3) rfl
  go_wp2_with fail
  refine (dending_nil 1 _ (by omega)).mono ?_
  rintro e w5 ⟨rfl, rfl⟩
  go_wp2_with fail
  go_loopw [32] (fun iv wr => iv = .int .i64 0 ∧ wr = w4) (fun _ _ => 0)
  case atStart => exact ⟨rfl, rfl⟩
  case round =>
    obtain ⟨rfl, rfl⟩ := hrel
    have HRM := Lib.hid (HREM.out wr HB4.out)
    go_wp2_with fail
    refine HRM.out.mono ?_
    rintro e w6 ⟨rfl, hb6⟩
    have HB6 := Lib.hid (HB4.out.trans (hb6.mono HB4.out.size))
    clear hb6
    go_wp2_with fail
    go_ret
    exact HFIN.out _ HB6.out
set_option maxHeartbeats 4000000 in
set_option maxRecDepth 100000 in
theorem dadd_new (rb : Nat) (B : Nat → Prop) (T : Ld.Tb) (base count prod seq time : Int) (ls : List Pl.Rc) (v : Value) (w : World) (lb : Lg w) (h : Lgr w rb B T) (hG : Ld.goodB T = true) (hr : Recs v ls w) (hl : ls.length ≤ 1099511627776) (hgd : Pl.goodB ⟨base, count, prod, seq, time, ls⟩ = true) (s0 s1 s2 : Int) (hck : Ld.check T prod seq = (⟨s0, s1, s2⟩, 0)) (ha : Ld.at_ T prod = none) (hfull : T.length < 64) :
    Calls Tryz.prog 12 #[.pointer (some ⟨rb, 0, none⟩), .agg #[.int .i64 base, .int .i64 count, .int .i64 prod, .int .i64 seq, .int .i64 time, v]] w (Added w rb B T true prod seq base count) := by
  have hw0 : RowKit.Below w.heap.size w (w.alloc (.cells #[.int .i64 base, .int .i64 count, .int .i64 prod, .int .i64 seq, .int .i64 time, v] 37)) := (Below.refl _ _).alloc (Nat.le_refl _) _
  have hb0 := Blk.new w #[.int .i64 base, .int .i64 count, .int .i64 prod, .int .i64 seq, .int .i64 time, v] 37
  have hg := dgood base count prod seq time ls v _ (lb.below lb.size hw0) (hr.below hw0) hl
  rw [hgd] at hg
  obtain ⟨⟨gb0, gb1⟩, ⟨gc0, gc1, gc2⟩, gp, gs⟩ := good_nums hgd
  have HG := Lib.hid hg
  have HW0 := Lib.hid hw0
  obtain ⟨W0, hW0⟩ : ∃ W, w.alloc (.cells #[.int .i64 base, .int .i64 count, .int .i64 prod, .int .i64 seq, .int .i64 time, v] 37) = W := ⟨_, rfl⟩
  rw [hW0] at HG HW0 hb0
  have HBX : Hid (∀ w1, RowKit.Below W0.heap.size W0 w1 → Blk w1 w.heap.size #[.int .i64 base, .int .i64 count, .int .i64 prod, .int .i64 seq, .int .i64 time, v] 37) := fun w1 hb => hb0.below hb
  have HLO : Hid (∀ w1, RowKit.Below W0.heap.size W0 w1 → RowKit.Below w.heap.size w w1) := fun w1 hb => HW0.out.trans (hb.mono HW0.out.size)
  have HLG : Hid (∀ w1, RowKit.Below w.heap.size w w1 → Lgr w1 rb B T) := fun w1 hb => h.below hb
  have y0 := hb0.cell (i := 0) rfl
  have y1 := hb0.cell (i := 1) rfl
  have y2 := hb0.cell (i := 2) rfl
  have y3 := hb0.cell (i := 3) rfl
  have y4 := hb0.cell (i := 4) rfl
  have y5 := hb0.cell (i := 5) rfl
  have HCHK : Hid (∀ w1, RowKit.Below W0.heap.size W0 w1 → Calls Tryz.prog 14 #[.pointer (some ⟨rb, 0, none⟩), .int .i64 prod, .int .i64 seq] w1 fun e w' => e = .returned (.tuple #[.agg #[.int .i64 s0, .int .i64 s1, .int .i64 s2], .int .i64 0]) ∧ RowKit.Below w1.heap.size w1 w') := by
    intro w1 hb
    obtain ⟨tv, k1, k2⟩ := (HLG.out w1 (HLO.out w1 hb)).view
    exact dcheck _ rb tv T prod seq w1 k1 k2 hG s0 s1 s2 0 hck
  have HSL : Hid (∀ w1, RowKit.Below W0.heap.size W0 w1 → Calls Tryz.prog 34 #[.pointer (some ⟨rb, 0, none⟩), .int .i64 prod] w1 fun e w' => e = .returned (.slice none 0 0) ∧ RowKit.Below w1.heap.size w1 w') := by
    intro w1 hb
    obtain ⟨tv, k1, k2⟩ := (HLG.out w1 (HLO.out w1 hb)).view
    exact dslots_none _ rb tv T prod w1 k1 k2 hG ha
  have HREM : Hid (∀ w1, RowKit.Below W0.heap.size W0 w1 → Calls Tryz.prog 35 #[.pointer (some ⟨rb, 0, none⟩), .int .i64 prod, .agg #[.int .i64 seq, .int .i64 base, .int .i64 (base + count)]] w1 (Remd w1 rb B (T.take (Ld.pos T prod) ++ (prod, [⟨seq, base, base + count⟩]) :: T.drop (Ld.pos T prod)))) := by
    intro w1 hb
    exact drem_new rb B T prod ⟨seq, base, base + count⟩ w1 (HLG.out w1 (HLO.out w1 hb)) hG ha hfull
  have HFIN : Hid (∀ w1 e w', RowKit.Below W0.heap.size W0 w1 → Remd w1 rb B (T.take (Ld.pos T prod) ++ (prod, [⟨seq, base, base + count⟩]) :: T.drop (Ld.pos T prod)) e w' → Added w rb B T true prod seq base count e w') := fun w1 e w' hb hr => Added.yes (HLO.out w1 hb) hr (by
    rw [addE_none hG hck ha, if_neg (by omega)]) (by
    unfold Ld.addT Ld.put
    rw [ha, Ld.slots_none ha]
    rfl)
  clear hg hw0 hb0 h lb hr hck hgd hG ha hfull gp gs
  go_enter Tryz.func12, Tryz.ntmps12
  go_wp2_with fail
  refine HG.out.mono ?_
  rintro e w1 ⟨rfl, hb1⟩
  clear y0 y1 y2 y3 y4 y5
  have q2 := (HBX.out w1 hb1).cell (i := 2) rfl
  have q3 := (HBX.out w1 hb1).cell (i := 3) rfl
  have HC1 := Lib.hid (HCHK.out w1 hb1)
  have HB1 := Lib.hid hb1
  clear hb1
  go_wp2_with fail
  refine HC1.out.mono ?_
  rintro e w2 ⟨rfl, hb2⟩
  have hb3 : RowKit.Below w2.heap.size w2 (w2.alloc (.cells #[.int .i64 s0, .int .i64 s1, .int .i64 s2] 40)) := (Below.refl _ _).alloc (Nat.le_refl _) _
  obtain ⟨w3, hw3⟩ : ∃ W, w2.alloc (.cells #[.int .i64 s0, .int .i64 s1, .int .i64 s2] 40) = W := ⟨_, rfl⟩
  rw [hw3] at hb3
  have hb13 := HB1.out.trans ((hb2.trans (hb3.mono hb2.size)).mono HB1.out.size)
  have q2 := (HBX.out w3 hb13).cell (i := 2) rfl
  have HB3 := Lib.hid hb13
  clear hb2 hb3 hb13 HC1 HB1 q3
  have HS3 := Lib.hid (HSL.out w3 HB3.out)
  go_wp2_with fail
  refine HS3.out.mono ?_
  rintro e w4 ⟨rfl, hb4⟩
  have HB4 := Lib.hid (HB3.out.trans (hb4.mono HB3.out.size))
  clear hb4 HS3 HB3 q2
  have q0 := (HBX.out _ HB4.out).cell (i := 0) rfl
  have q1 := (HBX.out _ HB4.out).cell (i := 1) rfl
  have q2 := (HBX.out _ HB4.out).cell (i := 2) rfl
  have q3 := (HBX.out _ HB4.out).cell (i := 3) rfl
  go_wp2_with fail
  refine (dending_nil 1 _ (by omega)).mono ?_
  rintro e w5 ⟨rfl, rfl⟩
  go_wp2_with fail
  go_loopw [32] (fun iv wr => iv = .int .i64 0 ∧ wr = w4) (fun _ _ => 0)
  case atStart => exact ⟨rfl, rfl⟩
  case round =>
    obtain ⟨rfl, rfl⟩ := hrel
    have HRM := Lib.hid (HREM.out wr HB4.out)
    go_wp2_with fail
    refine HRM.out.mono ?_
    intro e w6 hrem
    have HF6 := Lib.hid (HFIN.out wr e w6 HB4.out hrem)
    obtain ⟨rfl, -⟩ := hrem
    go_wp2_with fail
    go_ret
    exact HF6.out
theorem dlast (b off k cap : Nat) (w : World) (hc : k + 1 ≤ cap) (hk : k ≤ 4) : Calls Tryz.prog 33 #[.slice (some ⟨b, off, none⟩) (k + 1) cap, .int .i64 1] w fun e w' => e = .returned (.slice (some ⟨b, off + k * 3, none⟩) 1 (cap - k)) ∧ w = w' := by
  cases k with
  | zero =>
    rw [Nat.zero_mul, Nat.add_zero, Nat.sub_zero]
    exact dending_all b off 1 cap 1 w (Nat.le_refl _) hc (by omega)
  | succ k =>
    exact dending_cut b off (k + 1 + 1) cap 1 w (by omega) (by omega) hc (by omega)
set_option maxHeartbeats 4000000 in
set_option maxRecDepth 100000 in
theorem dadd_low (rb : Nat) (B : Nat → Prop) (T : Ld.Tb) (base count prod seq time : Int) (ls : List Pl.Rc) (v : Value) (w : World) (lb : Lg w) (h : Lgr w rb B T) (hG : Ld.goodB T = true) (hr : Recs v ls w) (hl : ls.length ≤ 1099511627776) (hgd : Pl.goodB ⟨base, count, prod, seq, time, ls⟩ = true) (s0 s1 s2 : Int) (hck : Ld.check T prod seq = (⟨s0, s1, s2⟩, 0)) (i : Nat) (L : List Ld.Sl) (ha : Ld.at_ T prod = some i) (hL : T[i]? = some (prod, L)) (hlow : ∀ l, L.getLast? = some l → base < l.fin) :
    Calls Tryz.prog 12 #[.pointer (some ⟨rb, 0, none⟩), .agg #[.int .i64 base, .int .i64 count, .int .i64 prod, .int .i64 seq, .int .i64 time, v]] w (Added w rb B T true prod seq base count) := by
  have hw0 : RowKit.Below w.heap.size w (w.alloc (.cells #[.int .i64 base, .int .i64 count, .int .i64 prod, .int .i64 seq, .int .i64 time, v] 37)) := (Below.refl _ _).alloc (Nat.le_refl _) _
  have hb0 := Blk.new w #[.int .i64 base, .int .i64 count, .int .i64 prod, .int .i64 seq, .int .i64 time, v] 37
  have hg := dgood base count prod seq time ls v _ (lb.below lb.size hw0) (hr.below hw0) hl
  rw [hgd] at hg
  obtain ⟨⟨gb0, gb1⟩, ⟨gc0, gc1, gc2⟩, gp, gs⟩ := good_nums hgd
  have HG := Lib.hid hg
  have HW0 := Lib.hid hw0
  obtain ⟨W0, hW0⟩ : ∃ W, w.alloc (.cells #[.int .i64 base, .int .i64 count, .int .i64 prod, .int .i64 seq, .int .i64 time, v] 37) = W := ⟨_, rfl⟩
  rw [hW0] at HG HW0 hb0
  have HBX : Hid (∀ w1, RowKit.Below W0.heap.size W0 w1 → Blk w1 w.heap.size #[.int .i64 base, .int .i64 count, .int .i64 prod, .int .i64 seq, .int .i64 time, v] 37) := fun w1 hb => hb0.below hb
  have HLO : Hid (∀ w1, RowKit.Below W0.heap.size W0 w1 → RowKit.Below w.heap.size w w1) := fun w1 hb => HW0.out.trans (hb.mono HW0.out.size)
  have HLG : Hid (∀ w1, RowKit.Below w.heap.size w w1 → Lgr w1 rb B T) := fun w1 hb => h.below hb
  have y0 := hb0.cell (i := 0) rfl
  have y1 := hb0.cell (i := 1) rfl
  have y2 := hb0.cell (i := 2) rfl
  have y3 := hb0.cell (i := 3) rfl
  have y4 := hb0.cell (i := 4) rfl
  have y5 := hb0.cell (i := 5) rfl
  have HCHK : Hid (∀ w1, RowKit.Below W0.heap.size W0 w1 → Calls Tryz.prog 14 #[.pointer (some ⟨rb, 0, none⟩), .int .i64 prod, .int .i64 seq] w1 fun e w' => e = .returned (.tuple #[.agg #[.int .i64 s0, .int .i64 s1, .int .i64 s2], .int .i64 0]) ∧ RowKit.Below w1.heap.size w1 w') := by
    intro w1 hb
    obtain ⟨tv, k1, k2⟩ := (HLG.out w1 (HLO.out w1 hb)).view
    exact dcheck _ rb tv T prod seq w1 k1 k2 hG s0 s1 s2 0 hck
  have h5 := Ld.rowOk_iff.1 ((Ld.good_iff.1 hG).2.1 _ (List.mem_of_getElem? hL))
  obtain ⟨k, hk⟩ : ∃ k, L.length = k + 1 := ⟨L.length - 1, by have := h5.2.1; simp at this; omega⟩
  have hk4 : k ≤ 4 := by have := h5.2.2.1; simp only at this; omega
  obtain ⟨l, hl1⟩ : ∃ l, L[k]? = some l := ⟨_, List.getElem?_eq_getElem (by omega)⟩
  have hlast : L.getLast? = some l := by rw [List.getLast?_eq_getElem?, hk]; exact hl1
  obtain ⟨l0, l1, l2⟩ := l
  have HSL : Hid (∀ w1, RowKit.Below W0.heap.size W0 w1 → ∃ b off cap, k + 1 ≤ cap ∧ Calls Tryz.prog 34 #[.pointer (some ⟨rb, 0, none⟩), .int .i64 prod] w1 (fun e w' => e = .returned (.slice (some ⟨b, off, none⟩) (k + 1) cap) ∧ RowKit.Below w1.heap.size w1 w') ∧ w1.cell? ⟨b, off + k * 3, none⟩ = some (.int .i64 l0) ∧ w1.cell? ⟨b, off + k * 3 + 1, none⟩ = some (.int .i64 l1) ∧ w1.cell? ⟨b, off + k * 3 + 2, none⟩ = some (.int .i64 l2)) := by
    intro w1 hb
    obtain ⟨tv, tb, E, k1, k2, k3, k4, k5⟩ := (HLG.out w1 (HLO.out w1 hb)).lies
    have ht := k2.tab (fun _ => True) (fun _ _ => trivial)
    rw [k3] at ht
    have ht' := ht
    obtain ⟨a, cap, hv, hc⟩ := ht
    obtain ⟨b, off, sv, rfl, -, -, c1, -⟩ := hc i _ hL
    obtain ⟨e, hE, he⟩ := tab_at (E := E) (j := i) (x := (prod, L)) (by rw [k3]; exact hL)
    have hLe : L = e.L := by cases he; rfl
    have hsl := k2.ok e (List.mem_of_getElem? hE)
    unfold En.ok at hsl
    rw [← hLe, hk] at hsl
    obtain ⟨ao, cap2, hv2, hcap2, hpos, -⟩ := Sl.make hsl
    obtain ⟨b2, off2, rfl, -⟩ := hpos (by omega)
    have hcell := fun j u hj => Sl.cell hsl (j := j) (u := u) hv2 hj
    have key : ∀ q u, q < 3 → (three ⟨l0, l1, l2⟩)[q]? = some u → w1.cell? ⟨b2, off2 + (k * 3 + q), none⟩ = some u := fun q u hq hu => hcell _ u (by rw [flat_at three_len hl1 q hq]; exact hu)
    subst hv
    refine ⟨b2, off2, cap2, hcap2, ?_, key 0 _ (by decide) rfl, key 1 _ (by decide) rfl, key 2 _ (by decide) rfl⟩
    have c1' : w1.cell? ⟨b, off + i * 2 + 1, none⟩ = some (.slice (some ⟨b2, off2, none⟩) (k + 1) cap2) := by
      have hx : e.v = .slice (some ⟨b2, off2, none⟩) (k + 1) cap2 := hv2
      rw [← hx]
      obtain ⟨ao3, cap3, hv3, -⟩ := k2.row.make
      have := k2.row.cell (g := b) (p := off) rfl (i * 2 + 1) e.v (by rw [flat_at encells_len hE 1 (by decide)]; rfl)
      exact this
    exact dslots_some (fun _ => True) rb b off _ cap i _ T prod w1 k1 ht' hG ha c1'
  have hlo := hlow _ hlast
  simp only at hlo
  have HFIN : Hid (∀ w', RowKit.Below W0.heap.size W0 w' → Added w rb B T true prod seq base count (.returned (.int .i64 20)) w') := fun w' hb => Added.not h (HLO.out w' hb) (by
    unfold Ld.addR
    rw [if_pos rfl, addE_some hck ha hL hlast, if_pos hlo]) (by decide)
  clear hg hw0 hb0 h lb hr hck hgd hG ha hL h5 hk hl1 hlast hlow gp gs
  go_enter Tryz.func12, Tryz.ntmps12
  go_wp2_with fail
  refine HG.out.mono ?_
  rintro e w1 ⟨rfl, hb1⟩
  clear y0 y1 y2 y3 y4 y5
  have q2 := (HBX.out w1 hb1).cell (i := 2) rfl
  have q3 := (HBX.out w1 hb1).cell (i := 3) rfl
  have HC1 := Lib.hid (HCHK.out w1 hb1)
  have HB1 := Lib.hid hb1
  clear hb1
  go_wp2_with fail
  refine HC1.out.mono ?_
  rintro e w2 ⟨rfl, hb2⟩
  have hb3 : RowKit.Below w2.heap.size w2 (w2.alloc (.cells #[.int .i64 s0, .int .i64 s1, .int .i64 s2] 40)) := (Below.refl _ _).alloc (Nat.le_refl _) _
  obtain ⟨w3, hw3⟩ : ∃ W, w2.alloc (.cells #[.int .i64 s0, .int .i64 s1, .int .i64 s2] 40) = W := ⟨_, rfl⟩
  rw [hw3] at hb3
  have hb13 := HB1.out.trans ((hb2.trans (hb3.mono hb2.size)).mono HB1.out.size)
  have q2 := (HBX.out w3 hb13).cell (i := 2) rfl
  have HB3 := Lib.hid hb13
  clear hb2 hb3 hb13 HC1 HB1 q3
  obtain ⟨b, off, cap, hcap, hcs, d0, d1, d2⟩ := HSL.out w3 HB3.out
  have HS3 := Lib.hid hcs
  have HD := Lib.hid (And.intro d0 (And.intro d1 d2))
  clear hcs d0 d1 d2
  go_wp2_with fail
  refine HS3.out.mono ?_
  rintro e w4 ⟨rfl, hb4⟩
  have HB4 := Lib.hid (HB3.out.trans (hb4.mono HB3.out.size))
  have d0 := bcell6 hb4 HD.out.1
  have d1 := bcell6 hb4 HD.out.2.1
  have d2 := bcell6 hb4 HD.out.2.2
  clear hb4 HS3 HB3 q2
  have q0 := (HBX.out _ HB4.out).cell (i := 0) rfl
  have q1 := (HBX.out _ HB4.out).cell (i := 1) rfl
  have q2 := (HBX.out _ HB4.out).cell (i := 2) rfl
  have q3 := (HBX.out _ HB4.out).cell (i := 3) rfl
  have HX := Lib.hid (And.intro q0 (And.intro q1 (And.intro q2 q3)))
  go_wp2_with fail
  refine (dlast b off k cap _ hcap hk4).mono ?_
  rintro e w5 ⟨rfl, rfl⟩
  go_wp2_with fail
  go_loopw [32] (fun iv wr => iv = .int .i64 0 ∧ wr = w4) (fun _ _ => 0)
  case atStart => exact ⟨rfl, rfl⟩
  case round =>
    obtain ⟨rfl, rfl⟩ := hrel
    have hb7 : RowKit.Below wr.heap.size wr (wr.alloc (.cells #[.int .i64 l0, .int .i64 l1, .int .i64 l2] 40)) := (Below.refl _ _).alloc (Nat.le_refl _) _
    have HB7 := Lib.hid (HB4.out.trans (hb7.mono HB4.out.size))
    have r0 := (HBX.out _ HB7.out).cell (i := 0) rfl
    clear hb7
    go_wp2_with fail
    go_ret
    exact HFIN.out _ HB7.out
set_option maxHeartbeats 4000000 in
set_option maxRecDepth 100000 in
theorem dadd_known (rb : Nat) (B : Nat → Prop) (T : Ld.Tb) (base count prod seq time : Int) (ls : List Pl.Rc) (v : Value) (w : World) (lb : Lg w) (h : Lgr w rb B T) (hG : Ld.goodB T = true) (hr : Recs v ls w) (hl : ls.length ≤ 1099511627776) (hgd : Pl.goodB ⟨base, count, prod, seq, time, ls⟩ = true) (s0 s1 s2 : Int) (hck : Ld.check T prod seq = (⟨s0, s1, s2⟩, 0)) (i : Nat) (L : List Ld.Sl) (ha : Ld.at_ T prod = some i) (hL : T[i]? = some (prod, L)) (hlow : ∀ l, L.getLast? = some l → ¬ base < l.fin) :
    Calls Tryz.prog 12 #[.pointer (some ⟨rb, 0, none⟩), .agg #[.int .i64 base, .int .i64 count, .int .i64 prod, .int .i64 seq, .int .i64 time, v]] w (Added w rb B T true prod seq base count) := by
  have hw0 : RowKit.Below w.heap.size w (w.alloc (.cells #[.int .i64 base, .int .i64 count, .int .i64 prod, .int .i64 seq, .int .i64 time, v] 37)) := (Below.refl _ _).alloc (Nat.le_refl _) _
  have hb0 := Blk.new w #[.int .i64 base, .int .i64 count, .int .i64 prod, .int .i64 seq, .int .i64 time, v] 37
  have hg := dgood base count prod seq time ls v _ (lb.below lb.size hw0) (hr.below hw0) hl
  rw [hgd] at hg
  obtain ⟨⟨gb0, gb1⟩, ⟨gc0, gc1, gc2⟩, gp, gs⟩ := good_nums hgd
  have HG := Lib.hid hg
  have HW0 := Lib.hid hw0
  obtain ⟨W0, hW0⟩ : ∃ W, w.alloc (.cells #[.int .i64 base, .int .i64 count, .int .i64 prod, .int .i64 seq, .int .i64 time, v] 37) = W := ⟨_, rfl⟩
  rw [hW0] at HG HW0 hb0
  have HBX : Hid (∀ w1, RowKit.Below W0.heap.size W0 w1 → Blk w1 w.heap.size #[.int .i64 base, .int .i64 count, .int .i64 prod, .int .i64 seq, .int .i64 time, v] 37) := fun w1 hb => hb0.below hb
  have HLO : Hid (∀ w1, RowKit.Below W0.heap.size W0 w1 → RowKit.Below w.heap.size w w1) := fun w1 hb => HW0.out.trans (hb.mono HW0.out.size)
  have HLG : Hid (∀ w1, RowKit.Below w.heap.size w w1 → Lgr w1 rb B T) := fun w1 hb => h.below hb
  have y0 := hb0.cell (i := 0) rfl
  have y1 := hb0.cell (i := 1) rfl
  have y2 := hb0.cell (i := 2) rfl
  have y3 := hb0.cell (i := 3) rfl
  have y4 := hb0.cell (i := 4) rfl
  have y5 := hb0.cell (i := 5) rfl
  have HCHK : Hid (∀ w1, RowKit.Below W0.heap.size W0 w1 → Calls Tryz.prog 14 #[.pointer (some ⟨rb, 0, none⟩), .int .i64 prod, .int .i64 seq] w1 fun e w' => e = .returned (.tuple #[.agg #[.int .i64 s0, .int .i64 s1, .int .i64 s2], .int .i64 0]) ∧ RowKit.Below w1.heap.size w1 w') := by
    intro w1 hb
    obtain ⟨tv, k1, k2⟩ := (HLG.out w1 (HLO.out w1 hb)).view
    exact dcheck _ rb tv T prod seq w1 k1 k2 hG s0 s1 s2 0 hck
  have h5 := Ld.rowOk_iff.1 ((Ld.good_iff.1 hG).2.1 _ (List.mem_of_getElem? hL))
  obtain ⟨k, hk⟩ : ∃ k, L.length = k + 1 := ⟨L.length - 1, by have := h5.2.1; simp at this; omega⟩
  have hk4 : k ≤ 4 := by have := h5.2.2.1; simp only at this; omega
  obtain ⟨l, hl1⟩ : ∃ l, L[k]? = some l := ⟨_, List.getElem?_eq_getElem (by omega)⟩
  have hlast : L.getLast? = some l := by rw [List.getLast?_eq_getElem?, hk]; exact hl1
  obtain ⟨l0, l1, l2⟩ := l
  have HSL : Hid (∀ w1, RowKit.Below W0.heap.size W0 w1 → ∃ b off cap, k + 1 ≤ cap ∧ Calls Tryz.prog 34 #[.pointer (some ⟨rb, 0, none⟩), .int .i64 prod] w1 (fun e w' => e = .returned (.slice (some ⟨b, off, none⟩) (k + 1) cap) ∧ RowKit.Below w1.heap.size w1 w') ∧ w1.cell? ⟨b, off + k * 3, none⟩ = some (.int .i64 l0) ∧ w1.cell? ⟨b, off + k * 3 + 1, none⟩ = some (.int .i64 l1) ∧ w1.cell? ⟨b, off + k * 3 + 2, none⟩ = some (.int .i64 l2)) := by
    intro w1 hb
    obtain ⟨tv, tb, E, k1, k2, k3, k4, k5⟩ := (HLG.out w1 (HLO.out w1 hb)).lies
    have ht := k2.tab (fun _ => True) (fun _ _ => trivial)
    rw [k3] at ht
    have ht' := ht
    obtain ⟨a, cap, hv, hc⟩ := ht
    obtain ⟨b, off, sv, rfl, -, -, c1, -⟩ := hc i _ hL
    obtain ⟨e, hE, he⟩ := tab_at (E := E) (j := i) (x := (prod, L)) (by rw [k3]; exact hL)
    have hLe : L = e.L := by cases he; rfl
    have hsl := k2.ok e (List.mem_of_getElem? hE)
    unfold En.ok at hsl
    rw [← hLe, hk] at hsl
    obtain ⟨ao, cap2, hv2, hcap2, hpos, -⟩ := Sl.make hsl
    obtain ⟨b2, off2, rfl, -⟩ := hpos (by omega)
    have hcell := fun j u hj => Sl.cell hsl (j := j) (u := u) hv2 hj
    have key : ∀ q u, q < 3 → (three ⟨l0, l1, l2⟩)[q]? = some u → w1.cell? ⟨b2, off2 + (k * 3 + q), none⟩ = some u := fun q u hq hu => hcell _ u (by rw [flat_at three_len hl1 q hq]; exact hu)
    subst hv
    refine ⟨b2, off2, cap2, hcap2, ?_, key 0 _ (by decide) rfl, key 1 _ (by decide) rfl, key 2 _ (by decide) rfl⟩
    have c1' : w1.cell? ⟨b, off + i * 2 + 1, none⟩ = some (.slice (some ⟨b2, off2, none⟩) (k + 1) cap2) := by
      have hx : e.v = .slice (some ⟨b2, off2, none⟩) (k + 1) cap2 := hv2
      rw [← hx]
      obtain ⟨ao3, cap3, hv3, -⟩ := k2.row.make
      have := k2.row.cell (g := b) (p := off) rfl (i * 2 + 1) e.v (by rw [flat_at encells_len hE 1 (by decide)]; rfl)
      exact this
    exact dslots_some (fun _ => True) rb b off _ cap i _ T prod w1 k1 ht' hG ha c1'
  have HREM : Hid (∀ w1, RowKit.Below W0.heap.size W0 w1 → Calls Tryz.prog 35 #[.pointer (some ⟨rb, 0, none⟩), .int .i64 prod, .agg #[.int .i64 seq, .int .i64 base, .int .i64 (base + count)]] w1 (Remd w1 rb B (T.set i (prod, Ld.last5 (L ++ [⟨seq, base, base + count⟩]))))) := by
    intro w1 hb
    exact drem_known rb B T prod i L ⟨seq, base, base + count⟩ w1 (HLG.out w1 (HLO.out w1 hb)) hG ha hL
  have hlo := hlow _ hlast
  simp only at hlo
  have HFIN : Hid (∀ w1 e w', RowKit.Below W0.heap.size W0 w1 → Remd w1 rb B (T.set i (prod, Ld.last5 (L ++ [⟨seq, base, base + count⟩]))) e w' → Added w rb B T true prod seq base count e w') := fun w1 e w' hb hr => Added.yes (HLO.out w1 hb) hr (by
    rw [addE_some hck ha hL hlast, if_neg hlo]) (by
    unfold Ld.addT Ld.put
    rw [ha, Ld.slots_some ha hL])
  clear hg hw0 hb0 h lb hr hck hgd hG ha hL h5 hk hl1 hlast hlow gp gs
  go_enter Tryz.func12, Tryz.ntmps12
  go_wp2_with fail
  refine HG.out.mono ?_
  rintro e w1 ⟨rfl, hb1⟩
  clear y0 y1 y2 y3 y4 y5
  have q2 := (HBX.out w1 hb1).cell (i := 2) rfl
  have q3 := (HBX.out w1 hb1).cell (i := 3) rfl
  have HC1 := Lib.hid (HCHK.out w1 hb1)
  have HB1 := Lib.hid hb1
  clear hb1
  go_wp2_with fail
  refine HC1.out.mono ?_
  rintro e w2 ⟨rfl, hb2⟩
  have hb3 : RowKit.Below w2.heap.size w2 (w2.alloc (.cells #[.int .i64 s0, .int .i64 s1, .int .i64 s2] 40)) := (Below.refl _ _).alloc (Nat.le_refl _) _
  obtain ⟨w3, hw3⟩ : ∃ W, w2.alloc (.cells #[.int .i64 s0, .int .i64 s1, .int .i64 s2] 40) = W := ⟨_, rfl⟩
  rw [hw3] at hb3
  have hb13 := HB1.out.trans ((hb2.trans (hb3.mono hb2.size)).mono HB1.out.size)
  have q2 := (HBX.out w3 hb13).cell (i := 2) rfl
  have HB3 := Lib.hid hb13
  clear hb2 hb3 hb13 HC1 HB1 q3
  obtain ⟨b, off, cap, hcap, hcs, d0, d1, d2⟩ := HSL.out w3 HB3.out
  have HS3 := Lib.hid hcs
  have HD := Lib.hid (And.intro d0 (And.intro d1 d2))
  clear hcs d0 d1 d2
  go_wp2_with fail
  refine HS3.out.mono ?_
  rintro e w4 ⟨rfl, hb4⟩
  have HB4 := Lib.hid (HB3.out.trans (hb4.mono HB3.out.size))
  have d0 := bcell6 hb4 HD.out.1
  have d1 := bcell6 hb4 HD.out.2.1
  have d2 := bcell6 hb4 HD.out.2.2
  clear hb4 HS3 HB3 q2
  have q0 := (HBX.out _ HB4.out).cell (i := 0) rfl
  have q1 := (HBX.out _ HB4.out).cell (i := 1) rfl
  have q2 := (HBX.out _ HB4.out).cell (i := 2) rfl
  have q3 := (HBX.out _ HB4.out).cell (i := 3) rfl
  have HX := Lib.hid (And.intro q0 (And.intro q1 (And.intro q2 q3)))
  go_wp2_with fail
  refine (dlast b off k cap _ hcap hk4).mono ?_
  rintro e w5 ⟨rfl, rfl⟩
  go_wp2_with fail
  have HDD := Lib.hid (And.intro d0 (And.intro d1 d2))
  clear q0 q1 q2 q3 d0 d1 d2
  go_loopw [32] (fun iv wr => ∃ j : Nat, j ≤ 1 ∧ iv = .int .i64 j ∧ (j = 0 → wr = w4) ∧ RowKit.Below W0.heap.size W0 wr) (fun iv _ => 1 - (intOf iv).toNat)
  case atStart => exact ⟨0, by omega, rfl, fun _ => rfl, HB4.out⟩
  case round =>
    obtain ⟨j, hj, rfl, hj0, hbr⟩ := hrel
    by_cases hj1 : j = 0
    · subst hj1
      obtain rfl := hj0 rfl
      obtain ⟨d0, d1, d2⟩ := HDD.out
      have hb7 : RowKit.Below wr.heap.size wr (wr.alloc (.cells #[.int .i64 l0, .int .i64 l1, .int .i64 l2] 40)) := (Below.refl _ _).alloc (Nat.le_refl _) _
      have HB7 := Lib.hid (HB4.out.trans (hb7.mono HB4.out.size))
      have r0 := (HBX.out _ HB7.out).cell (i := 0) rfl
      clear hb7 hj0 hbr
      go_wp2_with fail
      go_roundw
      case rel => exact ⟨1, by omega, rfl, fun h => absurd h (by omega), HB7.out⟩
      case measure => simp [intOf]
    · obtain rfl : j = 1 := by omega
      have q0 := (HBX.out _ hbr).cell (i := 0) rfl
      have q1 := (HBX.out _ hbr).cell (i := 1) rfl
      have q2 := (HBX.out _ hbr).cell (i := 2) rfl
      have q3 := (HBX.out _ hbr).cell (i := 3) rfl
      have HRM := Lib.hid (HREM.out wr hbr)
      have HBR := Lib.hid hbr
      clear hbr hj0
      go_wp2_with fail
      refine HRM.out.mono ?_
      intro e w6 hrem
      have HF6 := Lib.hid (HFIN.out wr e w6 HBR.out hrem)
      obtain ⟨rfl, -⟩ := hrem
      go_wp2_with fail
      go_ret
      exact HF6.out

/-- Add, whatever comes. -/
theorem dadd (rb : Nat) (B : Nat → Prop) (T : Ld.Tb) (base count prod seq time : Int) (ls : List Pl.Rc) (v : Value) (w : World) (lb : Lg w) (h : Lgr w rb B T) (hG : Ld.goodB T = true) (hr : Recs v ls w) (hl : ls.length ≤ 1099511627776) :
    Calls Tryz.prog 12 #[.pointer (some ⟨rb, 0, none⟩), .agg #[.int .i64 base, .int .i64 count, .int .i64 prod, .int .i64 seq, .int .i64 time, v]] w (Added w rb B T (Pl.goodB ⟨base, count, prod, seq, time, ls⟩) prod seq base count) := by
  cases hgd : Pl.goodB ⟨base, count, prod, seq, time, ls⟩ with
  | false => exact dadd_bad rb B T base count prod seq time ls v w lb h hr hl hgd
  | true =>
    obtain ⟨⟨⟨s0, s1, s2⟩, c⟩, hck⟩ : ∃ x, Ld.check T prod seq = x := ⟨_, rfl⟩
    by_cases hc : c = 0
    · subst hc
      cases ha : Ld.at_ T prod with
      | none =>
        have h64 := (Ld.good_iff.1 hG).1
        rcases Nat.eq_or_lt_of_le h64 with hf | hf
        · exact dadd_full rb B T base count prod seq time ls v w lb h hG hr hl hgd s0 s1 s2 hck ha hf
        · exact dadd_new rb B T base count prod seq time ls v w lb h hG hr hl hgd s0 s1 s2 hck ha hf
      | some i =>
        obtain ⟨L, hL⟩ := Ld.at_some ha
        cases hll : L.getLast? with
        | none =>
          have := (Ld.rowOk_iff.1 ((Ld.good_iff.1 hG).2.1 _ (List.mem_of_getElem? hL))).2.1
          rw [List.getLast?_eq_none_iff] at hll
          simp [hll] at this
        | some l =>
          by_cases hlo : base < l.fin
          · exact dadd_low rb B T base count prod seq time ls v w lb h hG hr hl hgd s0 s1 s2 hck i L ha hL (fun l' h' => by rw [hll] at h'; cases h'; exact hlo)
          · exact dadd_known rb B T base count prod seq time ls v w lb h hG hr hl hgd s0 s1 s2 hck i L ha hL (fun l' h' => by rw [hll] at h'; cases h'; exact hlo)
    · exact dadd_check rb B T base count prod seq time ls v w lb h hG hr hl hgd s0 s1 s2 c hck hc
end Go.Proofs.YtloallndnmofnaaGreatDoor
