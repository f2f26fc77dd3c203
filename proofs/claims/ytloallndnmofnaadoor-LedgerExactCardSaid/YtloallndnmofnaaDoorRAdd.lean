/- THE CONTRACT OF the document's Add (layer 6). -/
import Derived.Test.YtloallndnmofnaaDoorChk
import Derived.Test.YtloallndnmofnaaDoorCGood
import Derived.Test.YtloallndnmofnaaDoorCopy
import Derived.Test.YtloallndnmofnaaDoorAdd
import Derived.Test.YtloallndnmofnaaDoorLd2
import Derived.Deep.QuietTactic
import Derived.BigQuiet
namespace Go.Proofs.YtloallndnmofnaaDoor
open Go.RowKit

/-- What the document's Add answers, and the table behind it. -/
def RAdded (w : World) (T : Ld.Tb) (g : Bool) (prod seq base count : Int) (e : Ending) (w' : World) : Prop :=
  ∃ v', e = .returned (.tuple #[v', .int .i64 (Ld.addR g T prod seq base)]) ∧ (Ld.addR g T prod seq base = 0 → TabAt (fun q => w.heap.size ≤ q) v' (Ld.addT T prod seq base count) w') ∧ RowKit.Below w.heap.size w w'
theorem RAdded.not {w w' : World} {T : Ld.Tb} {g : Bool} {prod seq base count c : Int} (v' : Value) (hb : RowKit.Below w.heap.size w w') (hc : Ld.addR g T prod seq base = c) (hn : c ≠ 0) : RAdded w T g prod seq base count (.returned (.tuple #[v', .int .i64 c])) w' :=
  ⟨v', by rw [hc], fun h => absurd (hc.symm.trans h) hn, hb⟩
theorem addE_full {T : Ld.Tb} {prod seq base : Int} {s : Ld.Sl} (hck : Ld.check T prod seq = (s, 0)) (ha : Ld.at_ T prod = none) : Ld.addE T prod seq base = if T.length = 64 then 1 else 0 := by
  unfold Ld.addE
  rw [hck, Ld.slots_none ha]
  rfl
theorem addE_known {T : Ld.Tb} {prod seq base : Int} {s : Ld.Sl} {i : Nat} {L : List Ld.Sl} {l : Ld.Sl} (hck : Ld.check T prod seq = (s, 0)) (ha : Ld.at_ T prod = some i) (hL : T[i]? = some (prod, L)) (hl : L.getLast? = some l) : Ld.addE T prod seq base = if base < l.fin then 20 else 0 := by
  unfold Ld.addE
  rw [hck, Ld.slots_some ha hL]
  cases L with
  | nil => cases hl
  | cons a r =>
    have : (a :: r).getLastD Ld.zeroS = l := by rw [List.getLastD_eq_getLast?, hl]; rfl
    simp only [this, if_true]

set_option maxHeartbeats 4000000 in
set_option maxRecDepth 100000 in
theorem radd_bad (P : Nat → Prop) (tv : Value) (T : Ld.Tb) (base count prod seq time : Int) (ls : List Pl.Rc) (v : Value) (w : World) (h : TabAt P tv T w) (_hG : Ld.goodB T = true) (hr : Recs v ls w) (hl : ls.length ≤ 1099511627776) (hc6 : Pl.I64 count) (hb6 : Pl.I64 base) (hbad : Pl.goodB ⟨base, count, prod, seq, time, ls⟩ = false) :
    Calls Tryd.prog 13 #[tv, .agg #[.int .i64 base, .int .i64 count, .int .i64 prod, .int .i64 seq, .int .i64 time, v]] w (RAdded w T false prod seq base count) := by
  have hw0 : RowKit.Below w.heap.size w (w.alloc (.cells #[.int .i64 base, .int .i64 count, .int .i64 prod, .int .i64 seq, .int .i64 time, v] 34)) := (Below.refl _ _).alloc (Nat.le_refl _) _
  have hb0 := Blk.new w #[.int .i64 base, .int .i64 count, .int .i64 prod, .int .i64 seq, .int .i64 time, v] 34
  have hg := rgood base count prod seq time ls v _ (hr.below hw0) hl hc6 hb6
  rw [hbad] at hg
  have HG := Lib.hid hg
  have HW0 := Lib.hid hw0
  obtain ⟨W0, hW0⟩ : ∃ W, w.alloc (.cells #[.int .i64 base, .int .i64 count, .int .i64 prod, .int .i64 seq, .int .i64 time, v] 34) = W := ⟨_, rfl⟩
  rw [hW0] at HG HW0 hb0
  have HBX : Hid (∀ w1, RowKit.Below W0.heap.size W0 w1 → Blk w1 w.heap.size #[.int .i64 base, .int .i64 count, .int .i64 prod, .int .i64 seq, .int .i64 time, v] 34) := fun w1 hb => hb0.below hb
  have HLO : Hid (∀ w1, RowKit.Below W0.heap.size W0 w1 → RowKit.Below w.heap.size w w1) := fun w1 hb => HW0.out.trans (hb.mono HW0.out.size)
  have HTA : Hid (∀ w1, RowKit.Below w.heap.size w w1 → TabAt P tv T w1) := fun w1 hb => h.below hb
  have y0 := hb0.cell (i := 0) rfl
  have y1 := hb0.cell (i := 1) rfl
  have y2 := hb0.cell (i := 2) rfl
  have y3 := hb0.cell (i := 3) rfl
  have y4 := hb0.cell (i := 4) rfl
  have y5 := hb0.cell (i := 5) rfl
  have HFIN : Hid (∀ w', RowKit.Below W0.heap.size W0 w' → RAdded w T false prod seq base count (.returned (.tuple #[tv, .int .i64 1])) w') := fun w' hb => RAdded.not tv (HLO.out w' hb) rfl (by decide)
  clear hg hw0 hb0 h hr hbad hc6 hb6
  go_enter Tryd.func13, Tryd.ntmps13
  go_wp2_with fail
  refine HG.out.mono ?_
  rintro e w1 ⟨rfl, hb1⟩
  clear y0 y1 y2 y3 y4 y5
  have HF := Lib.hid (HFIN.out _ hb1)
  clear hb1
  go_wp2_with fail
  go_ret2
  exact HF.out
set_option maxHeartbeats 4000000 in
set_option maxRecDepth 100000 in
theorem radd_check (P : Nat → Prop) (tv : Value) (T : Ld.Tb) (base count prod seq time : Int) (ls : List Pl.Rc) (v : Value) (w : World) (h : TabAt P tv T w) (hG : Ld.goodB T = true) (hr : Recs v ls w) (hl : ls.length ≤ 1099511627776) (hc6 : Pl.I64 count) (hb6 : Pl.I64 base) (hgd : Pl.goodB ⟨base, count, prod, seq, time, ls⟩ = true) (s0 s1 s2 c : Int) (hck : Ld.check T prod seq = (⟨s0, s1, s2⟩, c)) (hc : c ≠ 0) :
    Calls Tryd.prog 13 #[tv, .agg #[.int .i64 base, .int .i64 count, .int .i64 prod, .int .i64 seq, .int .i64 time, v]] w (RAdded w T true prod seq base count) := by
  have hw0 : RowKit.Below w.heap.size w (w.alloc (.cells #[.int .i64 base, .int .i64 count, .int .i64 prod, .int .i64 seq, .int .i64 time, v] 34)) := (Below.refl _ _).alloc (Nat.le_refl _) _
  have hb0 := Blk.new w #[.int .i64 base, .int .i64 count, .int .i64 prod, .int .i64 seq, .int .i64 time, v] 34
  have hg := rgood base count prod seq time ls v _ (hr.below hw0) hl hc6 hb6
  rw [hgd] at hg
  have HG := Lib.hid hg
  have HW0 := Lib.hid hw0
  obtain ⟨W0, hW0⟩ : ∃ W, w.alloc (.cells #[.int .i64 base, .int .i64 count, .int .i64 prod, .int .i64 seq, .int .i64 time, v] 34) = W := ⟨_, rfl⟩
  rw [hW0] at HG HW0 hb0
  have HBX : Hid (∀ w1, RowKit.Below W0.heap.size W0 w1 → Blk w1 w.heap.size #[.int .i64 base, .int .i64 count, .int .i64 prod, .int .i64 seq, .int .i64 time, v] 34) := fun w1 hb => hb0.below hb
  have HLO : Hid (∀ w1, RowKit.Below W0.heap.size W0 w1 → RowKit.Below w.heap.size w w1) := fun w1 hb => HW0.out.trans (hb.mono HW0.out.size)
  have HTA : Hid (∀ w1, RowKit.Below w.heap.size w w1 → TabAt P tv T w1) := fun w1 hb => h.below hb
  have y0 := hb0.cell (i := 0) rfl
  have y1 := hb0.cell (i := 1) rfl
  have y2 := hb0.cell (i := 2) rfl
  have y3 := hb0.cell (i := 3) rfl
  have y4 := hb0.cell (i := 4) rfl
  have y5 := hb0.cell (i := 5) rfl
  have HCHK : Hid (∀ w1, RowKit.Below W0.heap.size W0 w1 → Calls Tryd.prog 16 #[tv, .int .i64 prod, .int .i64 seq] w1 fun e w' => e = .returned (.tuple #[.agg #[.int .i64 s0, .int .i64 s1, .int .i64 s2], .int .i64 c]) ∧ RowKit.Below w1.heap.size w1 w') := by
    intro w1 hb
    have := check_any P tv T prod seq w1 (HTA.out w1 (HLO.out w1 hb)) hG
    rw [hck] at this
    exact this
  have HFIN : Hid (∀ w', RowKit.Below W0.heap.size W0 w' → RAdded w T true prod seq base count (.returned (.tuple #[tv, .int .i64 c])) w') := fun w' hb => RAdded.not tv (HLO.out w' hb) (by
    unfold Ld.addR Ld.addE
    rw [if_pos rfl, hck]
    simp [hc]) hc
  have hcn : (c != 0) = true := by simpa using hc
  clear hg hw0 hb0 h hr hck hgd hG hc6 hb6
  go_enter Tryd.func13, Tryd.ntmps13
  go_wp2_with fail
  refine HG.out.mono ?_
  rintro e w1 ⟨rfl, hb1⟩
  clear y0 y1 y2 y3 y4 y5
  have q2 := (HBX.out w1 hb1).cell (i := 2) rfl
  have q3 := (HBX.out w1 hb1).cell (i := 3) rfl
  have HC1 := Lib.hid (HCHK.out w1 hb1)
  have HB1 := Lib.hid hb1
  clear hb1
  go_wp2_with fail
  refine HC1.out.mono ?_
  rintro e w2 ⟨rfl, hb2⟩
  have hb3 : RowKit.Below w2.heap.size w2 (w2.alloc (.cells #[.int .i64 s0, .int .i64 s1, .int .i64 s2] 41)) := (Below.refl _ _).alloc (Nat.le_refl _) _
  obtain ⟨w3, hw3⟩ : ∃ W, w2.alloc (.cells #[.int .i64 s0, .int .i64 s1, .int .i64 s2] 41) = W := ⟨_, rfl⟩
  rw [hw3] at hb3
  have hb13 := HB1.out.trans ((hb2.trans (hb3.mono hb2.size)).mono HB1.out.size)
  have HB3 := Lib.hid hb13
  have q0 := (HBX.out w3 hb13).cell (i := 0) rfl
  have q1 := (HBX.out w3 hb13).cell (i := 1) rfl
  have q2 := (HBX.out w3 hb13).cell (i := 2) rfl
  have q3 := (HBX.out w3 hb13).cell (i := 3) rfl
  clear hb2 hb3 hb13 HC1 HB1
  clear q0 q1 q2 q3
  go_wp2_with fail
  go_ret2
  exact HFIN.out _ HB3.out
set_option maxHeartbeats 4000000 in
set_option maxRecDepth 100000 in
theorem radd_full (P : Nat → Prop) (tv : Value) (T : Ld.Tb) (base count prod seq time : Int) (ls : List Pl.Rc) (v : Value) (w : World) (h : TabAt P tv T w) (hG : Ld.goodB T = true) (hr : Recs v ls w) (hl : ls.length ≤ 1099511627776) (hc6 : Pl.I64 count) (hb6 : Pl.I64 base) (hgd : Pl.goodB ⟨base, count, prod, seq, time, ls⟩ = true) (s0 s1 s2 : Int) (hck : Ld.check T prod seq = (⟨s0, s1, s2⟩, 0)) (ha : Ld.at_ T prod = none) (hfull : T.length = 64) :
    Calls Tryd.prog 13 #[tv, .agg #[.int .i64 base, .int .i64 count, .int .i64 prod, .int .i64 seq, .int .i64 time, v]] w (RAdded w T true prod seq base count) := by
  have hw0 : RowKit.Below w.heap.size w (w.alloc (.cells #[.int .i64 base, .int .i64 count, .int .i64 prod, .int .i64 seq, .int .i64 time, v] 34)) := (Below.refl _ _).alloc (Nat.le_refl _) _
  have hb0 := Blk.new w #[.int .i64 base, .int .i64 count, .int .i64 prod, .int .i64 seq, .int .i64 time, v] 34
  have hg := rgood base count prod seq time ls v _ (hr.below hw0) hl hc6 hb6
  rw [hgd] at hg
  obtain ⟨⟨gb0, gb1⟩, ⟨gc0, gc1, gc2⟩, -, -⟩ := good_nums hgd
  have HG := Lib.hid hg
  have HW0 := Lib.hid hw0
  obtain ⟨W0, hW0⟩ : ∃ W, w.alloc (.cells #[.int .i64 base, .int .i64 count, .int .i64 prod, .int .i64 seq, .int .i64 time, v] 34) = W := ⟨_, rfl⟩
  rw [hW0] at HG HW0 hb0
  have HBX : Hid (∀ w1, RowKit.Below W0.heap.size W0 w1 → Blk w1 w.heap.size #[.int .i64 base, .int .i64 count, .int .i64 prod, .int .i64 seq, .int .i64 time, v] 34) := fun w1 hb => hb0.below hb
  have HLO : Hid (∀ w1, RowKit.Below W0.heap.size W0 w1 → RowKit.Below w.heap.size w w1) := fun w1 hb => HW0.out.trans (hb.mono HW0.out.size)
  have HTA : Hid (∀ w1, RowKit.Below w.heap.size w w1 → TabAt P tv T w1) := fun w1 hb => h.below hb
  have y0 := hb0.cell (i := 0) rfl
  have y1 := hb0.cell (i := 1) rfl
  have y2 := hb0.cell (i := 2) rfl
  have y3 := hb0.cell (i := 3) rfl
  have y4 := hb0.cell (i := 4) rfl
  have y5 := hb0.cell (i := 5) rfl
  have HCHK : Hid (∀ w1, RowKit.Below W0.heap.size W0 w1 → Calls Tryd.prog 16 #[tv, .int .i64 prod, .int .i64 seq] w1 fun e w' => e = .returned (.tuple #[.agg #[.int .i64 s0, .int .i64 s1, .int .i64 s2], .int .i64 0]) ∧ RowKit.Below w1.heap.size w1 w') := by
    intro w1 hb
    have := check_any P tv T prod seq w1 (HTA.out w1 (HLO.out w1 hb)) hG
    rw [hck] at this
    exact this
  have HCOPY : Hid (∀ w1, RowKit.Below W0.heap.size W0 w1 → Calls Tryd.prog 12 #[tv] w1 (Clond w1 T)) := fun w1 hb => rcopy tv T w1 ((HTA.out w1 (HLO.out w1 hb)).mono fun _ _ _ => trivial) hG
  have HLEN : Hid (T.length ≤ 1099511627776) := by have := (Ld.good_iff.1 hG).1; show _ ≤ _; omega
  have HFIN : Hid (∀ w' v', RowKit.Below W0.heap.size W0 w' → RAdded w T true prod seq base count (.returned (.tuple #[v', .int .i64 1])) w') := fun w' v' hb => RAdded.not v' (HLO.out w' hb) (by
    unfold Ld.addR
    rw [if_pos rfl, addE_full hck ha, if_pos hfull]) (by decide)
  have HA := Lib.hid ha
  have HFU := Lib.hid hfull
  clear hg hw0 hb0 h hr hck hgd hG hc6 hb6 ha hfull
  go_enter Tryd.func13, Tryd.ntmps13
  go_wp2_with fail
  refine HG.out.mono ?_
  rintro e w1 ⟨rfl, hb1⟩
  clear y0 y1 y2 y3 y4 y5
  have q2 := (HBX.out w1 hb1).cell (i := 2) rfl
  have q3 := (HBX.out w1 hb1).cell (i := 3) rfl
  have HC1 := Lib.hid (HCHK.out w1 hb1)
  have HB1 := Lib.hid hb1
  clear hb1
  go_wp2_with fail
  refine HC1.out.mono ?_
  rintro e w2 ⟨rfl, hb2⟩
  have hb3 : RowKit.Below w2.heap.size w2 (w2.alloc (.cells #[.int .i64 s0, .int .i64 s1, .int .i64 s2] 41)) := (Below.refl _ _).alloc (Nat.le_refl _) _
  obtain ⟨w3, hw3⟩ : ∃ W, w2.alloc (.cells #[.int .i64 s0, .int .i64 s1, .int .i64 s2] 41) = W := ⟨_, rfl⟩
  rw [hw3] at hb3
  have hb13 := HB1.out.trans ((hb2.trans (hb3.mono hb2.size)).mono HB1.out.size)
  have HB3 := Lib.hid hb13
  have q0 := (HBX.out w3 hb13).cell (i := 0) rfl
  have q1 := (HBX.out w3 hb13).cell (i := 1) rfl
  have q2 := (HBX.out w3 hb13).cell (i := 2) rfl
  have q3 := (HBX.out w3 hb13).cell (i := 3) rfl
  clear hb2 hb3 hb13 HC1 HB1
  have HCP := Lib.hid (HCOPY.out w3 HB3.out)
  clear q0 q1 q2 q3
  go_wp2_with fail
  refine HCP.out.mono ?_
  rintro e w4 ⟨tv', tb, E, rfl, hown, hE, hft, hb4⟩
  have hb5 : RowKit.Below w4.heap.size w4 (w4.alloc (.cells #[.int .i64 seq, .int .i64 base, .int .i64 (base + count)] 41)) := (Below.refl _ _).alloc (Nat.le_refl _) _
  have hx5 := Blk.new w4 #[.int .i64 seq, .int .i64 base, .int .i64 (base + count)] 41
  have q0 := (HBX.out _ (HB3.out.trans (hb4.mono HB3.out.size))).cell (i := 0) rfl
  have q1 := (HBX.out _ (HB3.out.trans (hb4.mono HB3.out.size))).cell (i := 1) rfl
  have q2 := (HBX.out _ (HB3.out.trans (hb4.mono HB3.out.size))).cell (i := 2) rfl
  have q3 := (HBX.out _ (HB3.out.trans (hb4.mono HB3.out.size))).cell (i := 3) rfl
  have HB5 := Lib.hid (HB3.out.trans ((hb4.trans (hb5.mono hb4.size)).mono HB3.out.size))
  have hown5 := hown.below hb5
  have htab := hown5.tab (fun _ => True) (fun _ _ => trivial)
  rw [hE] at htab
  have HAT := Lib.hid (at_any _ tv' T prod _ htab HLEN.out)
  have HOW := Lib.hid hown5
  have HE := Lib.hid hE
  have hft5 : ∀ k, foot tb E k → w3.heap.size ≤ k ∧ k < w4.heap.size := fun k hk => ⟨hft k hk, hown.lt hk⟩
  have HFT := Lib.hid hft5
  have HX5 := Lib.hid hx5
  have HSZ := Lib.hid (show w3.heap.size ≤ w4.heap.size from hb4.size)
  obtain ⟨ao, cap, hv, -, hpos, -⟩ := hown5.row.make
  have hEl : E.length = T.length := by rw [← hE, tab_len]
  rw [hEl] at hv hpos
  have HV := Lib.hid hpos
  subst hv
  clear hown hown5 hE hft hft5 hb4 hb5 hx5 htab hpos HCP
  obtain ⟨w5, hw5⟩ : ∃ W, w4.alloc (.cells #[.int .i64 seq, .int .i64 base, .int .i64 (base + count)] 41) = W := ⟨_, rfl⟩
  rw [hw5] at HB5 HAT HOW HX5
  have r2 := (HBX.out _ HB5.out).cell (i := 2) rfl
  go_wp2_with fail
  refine HAT.out.mono ?_
  rintro e w' ⟨rfl, rfl⟩
  rw [HA.out]
  simp only [atV]
  rw [HFU.out]
  clear q0 q1 q2 q3 r2 hw5
  go_wp2_with fail
  go_ret2
  exact HFIN.out _ _ HB5.out
set_option maxHeartbeats 4000000 in
set_option maxRecDepth 100000 in
theorem radd_low (P : Nat → Prop) (tv : Value) (T : Ld.Tb) (base count prod seq time : Int) (ls : List Pl.Rc) (v : Value) (w : World) (h : TabAt P tv T w) (hG : Ld.goodB T = true) (hr : Recs v ls w) (hl : ls.length ≤ 1099511627776) (hc6 : Pl.I64 count) (hb6 : Pl.I64 base) (hgd : Pl.goodB ⟨base, count, prod, seq, time, ls⟩ = true) (s0 s1 s2 : Int) (hck : Ld.check T prod seq = (⟨s0, s1, s2⟩, 0)) (i : Nat) (L : List Ld.Sl) (ha : Ld.at_ T prod = some i) (hL : T[i]? = some (prod, L)) (hlow : ∀ l, L.getLast? = some l → base < l.fin) :
    Calls Tryd.prog 13 #[tv, .agg #[.int .i64 base, .int .i64 count, .int .i64 prod, .int .i64 seq, .int .i64 time, v]] w (RAdded w T true prod seq base count) := by
  have hw0 : RowKit.Below w.heap.size w (w.alloc (.cells #[.int .i64 base, .int .i64 count, .int .i64 prod, .int .i64 seq, .int .i64 time, v] 34)) := (Below.refl _ _).alloc (Nat.le_refl _) _
  have hb0 := Blk.new w #[.int .i64 base, .int .i64 count, .int .i64 prod, .int .i64 seq, .int .i64 time, v] 34
  have hg := rgood base count prod seq time ls v _ (hr.below hw0) hl hc6 hb6
  rw [hgd] at hg
  obtain ⟨⟨gb0, gb1⟩, ⟨gc0, gc1, gc2⟩, -, -⟩ := good_nums hgd
  have HG := Lib.hid hg
  have HW0 := Lib.hid hw0
  obtain ⟨W0, hW0⟩ : ∃ W, w.alloc (.cells #[.int .i64 base, .int .i64 count, .int .i64 prod, .int .i64 seq, .int .i64 time, v] 34) = W := ⟨_, rfl⟩
  rw [hW0] at HG HW0 hb0
  have HBX : Hid (∀ w1, RowKit.Below W0.heap.size W0 w1 → Blk w1 w.heap.size #[.int .i64 base, .int .i64 count, .int .i64 prod, .int .i64 seq, .int .i64 time, v] 34) := fun w1 hb => hb0.below hb
  have HLO : Hid (∀ w1, RowKit.Below W0.heap.size W0 w1 → RowKit.Below w.heap.size w w1) := fun w1 hb => HW0.out.trans (hb.mono HW0.out.size)
  have HTA : Hid (∀ w1, RowKit.Below w.heap.size w w1 → TabAt P tv T w1) := fun w1 hb => h.below hb
  have y0 := hb0.cell (i := 0) rfl
  have y1 := hb0.cell (i := 1) rfl
  have y2 := hb0.cell (i := 2) rfl
  have y3 := hb0.cell (i := 3) rfl
  have y4 := hb0.cell (i := 4) rfl
  have y5 := hb0.cell (i := 5) rfl
  have HCHK : Hid (∀ w1, RowKit.Below W0.heap.size W0 w1 → Calls Tryd.prog 16 #[tv, .int .i64 prod, .int .i64 seq] w1 fun e w' => e = .returned (.tuple #[.agg #[.int .i64 s0, .int .i64 s1, .int .i64 s2], .int .i64 0]) ∧ RowKit.Below w1.heap.size w1 w') := by
    intro w1 hb
    have := check_any P tv T prod seq w1 (HTA.out w1 (HLO.out w1 hb)) hG
    rw [hck] at this
    exact this
  have HCOPY : Hid (∀ w1, RowKit.Below W0.heap.size W0 w1 → Calls Tryd.prog 12 #[tv] w1 (Clond w1 T)) := fun w1 hb => rcopy tv T w1 ((HTA.out w1 (HLO.out w1 hb)).mono fun _ _ _ => trivial) hG
  have HLEN : Hid (T.length ≤ 1099511627776) := by have := (Ld.good_iff.1 hG).1; show _ ≤ _; omega
  have h5 := Ld.rowOk_iff.1 ((Ld.good_iff.1 hG).2.1 _ (List.mem_of_getElem? hL))
  obtain ⟨k, hk⟩ : ∃ k, L.length = k + 1 := ⟨L.length - 1, by have := h5.2.1; simp at this; omega⟩
  have hk4 : k ≤ 4 := by have := h5.2.2.1; simp only at this; omega
  obtain ⟨l, hl1⟩ : ∃ l, L[k]? = some l := ⟨_, List.getElem?_eq_getElem (by omega)⟩
  have hlast : L.getLast? = some l := by rw [List.getLast?_eq_getElem?, hk]; exact hl1
  have hlo := hlow _ hlast
  obtain ⟨l0, l1, l2⟩ := l
  simp only at hlo
  have hil := (List.getElem?_eq_some_iff.1 hL).1
  have h64 := (Ld.good_iff.1 hG).1
  have HFIN : Hid (∀ w' v', RowKit.Below W0.heap.size W0 w' → RAdded w T true prod seq base count (.returned (.tuple #[v', .int .i64 20])) w') := fun w' v' hb => RAdded.not v' (HLO.out w' hb) (by
    unfold Ld.addR
    rw [if_pos rfl, addE_known hck ha hL hlast, if_pos hlo]) (by decide)
  have HA := Lib.hid ha
  have HL1 := Lib.hid hL
  have HL2 := Lib.hid hl1
  have HK := Lib.hid hk
  obtain ⟨M, hM⟩ : ∃ M, T.length = M := ⟨_, rfl⟩
  have HMM := Lib.hid hM
  rw [hM] at hil h64
  clear hg hw0 hb0 h hr hck hgd hG hc6 hb6 ha hL hl1 hlast hlow h5 hk hM
  go_enter Tryd.func13, Tryd.ntmps13
  go_wp2_with fail
  refine HG.out.mono ?_
  rintro e w1 ⟨rfl, hb1⟩
  clear y0 y1 y2 y3 y4 y5
  have q2 := (HBX.out w1 hb1).cell (i := 2) rfl
  have q3 := (HBX.out w1 hb1).cell (i := 3) rfl
  have HC1 := Lib.hid (HCHK.out w1 hb1)
  have HB1 := Lib.hid hb1
  clear hb1
  go_wp2_with fail
  refine HC1.out.mono ?_
  rintro e w2 ⟨rfl, hb2⟩
  have hb3 : RowKit.Below w2.heap.size w2 (w2.alloc (.cells #[.int .i64 s0, .int .i64 s1, .int .i64 s2] 41)) := (Below.refl _ _).alloc (Nat.le_refl _) _
  obtain ⟨w3, hw3⟩ : ∃ W, w2.alloc (.cells #[.int .i64 s0, .int .i64 s1, .int .i64 s2] 41) = W := ⟨_, rfl⟩
  rw [hw3] at hb3
  have hb13 := HB1.out.trans ((hb2.trans (hb3.mono hb2.size)).mono HB1.out.size)
  have HB3 := Lib.hid hb13
  have q0 := (HBX.out w3 hb13).cell (i := 0) rfl
  have q1 := (HBX.out w3 hb13).cell (i := 1) rfl
  have q2 := (HBX.out w3 hb13).cell (i := 2) rfl
  have q3 := (HBX.out w3 hb13).cell (i := 3) rfl
  clear hb2 hb3 hb13 HC1 HB1
  have HCP := Lib.hid (HCOPY.out w3 HB3.out)
  clear q0 q1 q2 q3
  go_wp2_with fail
  refine HCP.out.mono ?_
  rintro e w4 ⟨tv', tb, E, rfl, hown, hE, hft, hb4⟩
  have hb5 : RowKit.Below w4.heap.size w4 (w4.alloc (.cells #[.int .i64 seq, .int .i64 base, .int .i64 (base + count)] 41)) := (Below.refl _ _).alloc (Nat.le_refl _) _
  have hx5 := Blk.new w4 #[.int .i64 seq, .int .i64 base, .int .i64 (base + count)] 41
  have q0 := (HBX.out _ (HB3.out.trans (hb4.mono HB3.out.size))).cell (i := 0) rfl
  have q1 := (HBX.out _ (HB3.out.trans (hb4.mono HB3.out.size))).cell (i := 1) rfl
  have q2 := (HBX.out _ (HB3.out.trans (hb4.mono HB3.out.size))).cell (i := 2) rfl
  have q3 := (HBX.out _ (HB3.out.trans (hb4.mono HB3.out.size))).cell (i := 3) rfl
  have HB5 := Lib.hid (HB3.out.trans ((hb4.trans (hb5.mono hb4.size)).mono HB3.out.size))
  have hown5 := hown.below hb5
  have htab := hown5.tab (fun _ => True) (fun _ _ => trivial)
  rw [hE] at htab
  have HAT := Lib.hid (at_any _ tv' T prod _ htab HLEN.out)
  have HOW := Lib.hid hown5
  have HE := Lib.hid hE
  have hft5 : ∀ k, foot tb E k → w3.heap.size ≤ k ∧ k < w4.heap.size := fun k hk => ⟨hft k hk, hown.lt hk⟩
  have HFT := Lib.hid hft5
  have HX5 := Lib.hid hx5
  have HSZ := Lib.hid (show w3.heap.size ≤ w4.heap.size from hb4.size)
  obtain ⟨ao, cap, hv, -, hpos, -⟩ := hown5.row.make
  have hEl : E.length = T.length := by rw [← hE, tab_len]
  rw [hEl] at hv hpos
  have HV := Lib.hid hpos
  subst hv
  clear hown hown5 hE hft hft5 hb4 hb5 hx5 htab hpos HCP
  obtain ⟨w5, hw5⟩ : ∃ W, w4.alloc (.cells #[.int .i64 seq, .int .i64 base, .int .i64 (base + count)] 41) = W := ⟨_, rfl⟩
  rw [hw5] at HB5 HAT HOW HX5
  have r2 := (HBX.out _ HB5.out).cell (i := 2) rfl
  go_wp2_with fail
  refine HAT.out.mono ?_
  rintro e w' ⟨rfl, rfl⟩
  rw [HMM.out] at *
  rw [HA.out]
  simp only [atV]
  have hown := HOW.out
  obtain ⟨e, hEi, hee⟩ := tab_at (E := E) (j := i) (x := (prod, L)) (by rw [HE.out]; exact HL1.out)
  have hLe : e.L = L := by cases hee; rfl
  have hpe : e.prod = prod := by cases hee; rfl
  have hsl := hown.ok e (List.mem_of_getElem? hEi)
  unfold En.ok at hsl
  rw [hLe, HK.out] at hsl
  obtain ⟨g, p, hao, htb⟩ := HV.out (by omega)
  subst hao
  subst htb
  obtain ⟨ao2, cap2, hv2, hcap2, hpos2, -⟩ := Sl.make hsl
  obtain ⟨b2, off2, rfl, hgb2⟩ := hpos2 (by omega)
  have key : ∀ q u, q < 3 → (three ⟨l0, l1, l2⟩)[q]? = some u → w5.cell? ⟨b2, off2 + (k * 3 + q), none⟩ = some u := fun q u hq hu => Sl.cell hsl (j := k * 3 + q) (u := u) hv2 (by rw [flat_at three_len HL2.out q hq]; exact hu)
  have d2 := key 2 _ (by decide) rfl
  rw [← Nat.add_assoc] at d2
  have c1 := hown.row.cell (g := g) (p := p) rfl (i * 2 + 1) e.v (by rw [flat_at encells_len hEi 1 (by decide)]; rfl)
  rw [hv2, ← Nat.add_assoc] at c1
  have f1 := hown.row.frozen (g := g) (p := p) rfl (p + (i * 2 + 1))
  rw [← Nat.add_assoc] at f1
  have r0 := (HBX.out _ HB5.out).cell (i := 0) rfl
  clear q0
  have hdlo : decide (base < l2) = true := decide_eq_true hlo
  clear hown hEi hee hLe hpe hsl hv2 hpos2 hgb2 key q1 q2 q3 r2 f1 hw5
  go_wp2_with fail
  go_quiet (fail)
  go_wp2_with fail
  go_ret2
  exact HFIN.out _ _ (HB5.out.trans (below_drewN _ _))
end Go.Proofs.YtloallndnmofnaaDoor
