/- THE CONTRACTS OF Of, the program's and the document's, and of Complex. -/
import Derived.Test.YtdkngocinimjdaaDoorDEncode
import Derived.Test.YtdkngocinimjdaaDoorCEncode
import Derived.Test.YtdkngocinimjdaaDoorFWalk3
import Derived.Test.YtdkngocinimjdaaDoorGAwake
namespace Go.Proofs.YtdkngocinimjdaaDoor
open Go.RowKit

/-- A batch's size: its records, its frame's bytes. -/
def szR (b : Pl.Bt) : Int := if Pl.goodB b = true then b.recs.length else 0
def szB (b : Pl.Bt) : Int := if Pl.goodB b = true then 8 + (Pl.enc b).length else 0
theorem f_zero : floatOfInt .f64 0 = 0 := by kernel_rfl
set_option maxHeartbeats 1000000 in
theorem complex_any (m n : Int) (w : World) :
    Calls Tryd.prog 7 #[.agg #[.int .i64 m, .int .i64 n]] w fun e w' => e = .returned (.complex .f64 (floatOfInt .f64 m) (floatOfInt .f64 n)) ∧ Below w.heap.size w w' := by
  go_enter Tryd.func7, Tryd.ntmps7
  go_wp2
  go_ret
  exact ⟨rfl, (Below.refl _ _).alloc (Nat.le_refl _) _⟩

set_option maxHeartbeats 1000000 in
set_option maxRecDepth 100000 in
theorem dof (b : Pl.Bt) (v : Value) (w : World) (lb : Lb w) (h : Recs v b.recs w) (hl : b.recs.length ≤ 1099511627776) :
    Calls Tryd.prog 5 #[.agg #[.int .i64 b.base, .int .i64 b.count, .int .i64 b.prod, .int .i64 b.seq, .int .i64 b.time, v]] w fun e w' =>
      e = .returned (.complex .f64 (floatOfInt .f64 (szR b)) (floatOfInt .f64 (szB b))) ∧ Below w.heap.size w w' := by
  have CE := fun wx (hx : Below w.heap.size w wx) => dencode b v wx (lb.below lb.size hx) (h.below hx) hl
  have hsh := fun hg => Pl.enc_short (b := b) hg
  obtain ⟨a, cap, rfl⟩ : ∃ a cap, v = .slice a b.recs.length cap := by obtain ⟨a, cap, rfl, -⟩ := h; exact ⟨a, cap, rfl⟩
  have hb0 := Blk.new w #[.int .i64 b.base, .int .i64 b.count, .int .i64 b.prod, .int .i64 b.seq, .int .i64 b.time, .slice a b.recs.length cap] 24
  have hw0 : Below w.heap.size w (w.alloc (.cells #[.int .i64 b.base, .int .i64 b.count, .int .i64 b.prod, .int .i64 b.seq, .int .i64 b.time, .slice a b.recs.length cap] 24)) := (Below.refl _ _).alloc (Nat.le_refl _) _
  obtain ⟨W0, hW0⟩ : ∃ W0, w.alloc (.cells #[.int .i64 b.base, .int .i64 b.count, .int .i64 b.prod, .int .i64 b.seq, .int .i64 b.time, .slice a b.recs.length cap] 24) = W0 := ⟨_, rfl⟩
  rw [hW0] at hb0 hw0
  have HE := Lib.hid hW0
  have HB0 := Lib.hid hb0
  have HW0 := Lib.hid hw0
  have c0 := hb0.cell (i := 0) rfl
  have c1 := hb0.cell (i := 1) rfl
  have c2 := hb0.cell (i := 2) rfl
  have c3 := hb0.cell (i := 3) rfl
  have c4 := hb0.cell (i := 4) rfl
  have c5 := hb0.cell (i := 5) rfl
  have HC := Lib.hid (CE W0 hw0)
  clear hb0 hw0 hW0 h lb CE
  unfold szR szB
  cases hg : Pl.goodB b with
  | false =>
    rw [hg, if_neg (by decide)] at HC
    rw [if_neg (by decide), if_neg (by decide), f_zero]
    clear hg hsh
    go_enter Tryd.func5, Tryd.ntmps5
    go_wp2_with fail
    rw [HE.out]
    go_wp2_with fail
    refine HC.out.mono ?_
    rintro e w1 ⟨rfl, b1⟩
    go_wp2_with fail
    go_ret
    exact ⟨rfl, HW0.out.trans (b1.mono HW0.out.size)⟩
  | true =>
    have hs := hsh hg
    rw [hg, if_pos rfl] at HC
    rw [if_pos rfl, if_pos rfl]
    obtain ⟨S, hS⟩ : ∃ S : ByteArray, (⟨(Pl.enc b).toArray⟩ : ByteArray) = S := ⟨_, rfl⟩
    have hsz : S.size = (Pl.enc b).length := by rw [← hS, size_list]
    rw [hS] at HC
    rw [← hsz] at hs
    rw [← hsz]
    have hP := fun wx => Fr.put_fits S wx (by omega)
    obtain ⟨T, hT⟩ : ∃ T : ByteArray, (⟨(Fr.Pl.frame S.data.toList).toArray⟩ : ByteArray) = T := ⟨_, rfl⟩
    have hts : T.size = 8 + S.size := by rw [← hT, size_list, Fr.Pl.frame_length, ← Lib.size_eq]
    rw [hT] at hP
    have HP := Lib.hid hP
    have HTS := Lib.hid hts
    clear hg hsh hS hsz hP hT hts
    go_enter Tryd.func5, Tryd.ntmps5
    go_wp2_with fail
    rw [HE.out]
    go_wp2_with fail
    refine HC.out.mono ?_
    rintro e w1 ⟨rfl, b1⟩
    have HB1 := Lib.hid (HB0.out.below b1)
    have HW1 := Lib.hid (HW0.out.trans (b1.mono HW0.out.size))
    clear b1 c0 c1 c2 c3 c4 c5
    go_wp2_with fail
    refine (HP.out _).mono ?_
    rintro e w2 ⟨rfl, b2⟩
    have HB2 := Lib.hid (HB1.out.below b2)
    have HW2 := Lib.hid (HW1.out.trans (b2.mono HW1.out.size))
    have c5 := HB2.out.cell (i := 5) rfl
    clear b2
    go_wp2_with fail
    go_ret
    refine ⟨?_, HW2.out⟩
    rw [HTS.out]
    rfl

theorem undS : (Tryd.prog.underlying 31).map (fun d => match d with | .struct _ | .array _ _ => true | _ => false) = some true := by kernel_rfl
theorem sizeS : (Tryd.prog.info? 31).map (·.size) = some 2 := by kernel_rfl
theorem load_size {W : World} {rb : Nat} {a0 a1 : Value} (hb : Blk W rb #[a0, a1] 31) : (loadVar 31 ⟨rb, 0, none⟩).run Tryd.prog W = .ok (.agg #[a0, a1]) W := by
  obtain ⟨d, hd, hs⟩ : ∃ d, Tryd.prog.underlying 31 = some d ∧ (match d with | .struct _ | .array _ _ => true | _ => false) = true := by
    have h := undS
    cases hd : Tryd.prog.underlying 31 with
    | none => rw [hd] at h; cases h
    | some d => rw [hd] at h; exact ⟨d, rfl, Option.some.inj h⟩
  exact run_loadVar_row (P := Tryd.prog) W rb 31 31 #[a0, a1] (0, 0) d hb hd (by cases d <;> exact hs) sizeS
theorem of_ret {W : World} {rb : Nat} {a0 a1 : Value} {tmps : Array Value} (hb : Blk W rb #[a0, a1] 31) (h2 : tmps.getD 2 undef = .pointer (some ⟨rb, 0, none⟩)) :
    (results Tryd.f6 tmps).run Tryd.prog W = .ok (.agg #[a0, a1]) W := by
  have hl := load_size hb
  simp only [results, Tryd.results6]
  rw [Array.getD_eq_getD_getElem?] at h2
  simp [asAddr, hl, h2]

set_option maxHeartbeats 1000000 in
set_option maxRecDepth 100000 in
theorem rof (b : Pl.Bt) (v : Value) (w : World) (h : Recs v b.recs w) (hl : b.recs.length ≤ 1099511627776) (hc : Pl.I64 b.count) (hb : Pl.I64 b.base) :
    Calls Tryd.prog 6 #[.agg #[.int .i64 b.base, .int .i64 b.count, .int .i64 b.prod, .int .i64 b.seq, .int .i64 b.time, v]] w fun e w' =>
      e = .returned (.agg #[.int .i64 (szR b), .int .i64 (szB b)]) ∧ Below w.heap.size w w' := by
  have CE := fun wx (hx : Below w.heap.size w wx) => rencode b v wx (h.below hx) hl hc hb
  have hsh := fun hg => Pl.enc_short (b := b) hg
  obtain ⟨a, cap, rfl⟩ : ∃ a cap, v = .slice a b.recs.length cap := by obtain ⟨a, cap, rfl, -⟩ := h; exact ⟨a, cap, rfl⟩
  have hb0 := Blk.new w #[.int .i64 b.base, .int .i64 b.count, .int .i64 b.prod, .int .i64 b.seq, .int .i64 b.time, .slice a b.recs.length cap] 24
  have hw0 : Below w.heap.size w (w.alloc (.cells #[.int .i64 b.base, .int .i64 b.count, .int .i64 b.prod, .int .i64 b.seq, .int .i64 b.time, .slice a b.recs.length cap] 24)) := (Below.refl _ _).alloc (Nat.le_refl _) _
  have hs0 : (w.alloc (.cells #[.int .i64 b.base, .int .i64 b.count, .int .i64 b.prod, .int .i64 b.seq, .int .i64 b.time, .slice a b.recs.length cap] 24)).heap.size = w.heap.size + 1 := by simp
  obtain ⟨W0, hW0⟩ : ∃ W0, w.alloc (.cells #[.int .i64 b.base, .int .i64 b.count, .int .i64 b.prod, .int .i64 b.seq, .int .i64 b.time, .slice a b.recs.length cap] 24) = W0 := ⟨_, rfl⟩
  rw [hW0] at hb0 hw0 hs0
  have hw1 : Below w.heap.size w (W0.alloc (.cells #[.int .i64 0, .int .i64 0] 31)) := hw0.alloc hw0.size _
  have hb1 := hb0.below (w' := W0.alloc (.cells #[.int .i64 0, .int .i64 0] 31)) ((Below.refl _ _).alloc (Nat.le_refl _) _)
  have hr1 := Blk.new W0 #[.int .i64 0, .int .i64 0] 31
  rw [hs0] at hr1
  obtain ⟨W1, hW1⟩ : ∃ W1, W0.alloc (.cells #[.int .i64 0, .int .i64 0] 31) = W1 := ⟨_, rfl⟩
  rw [hW1] at hw1 hb1 hr1
  have HE := Lib.hid hW0
  have HE1 := Lib.hid hW1
  have HS0 := Lib.hid hs0
  have HB1 := Lib.hid hb1
  have HR1 := Lib.hid hr1
  have HW1 := Lib.hid hw1
  have c0 := hb1.cell (i := 0) rfl
  have c1 := hb1.cell (i := 1) rfl
  have c2 := hb1.cell (i := 2) rfl
  have c3 := hb1.cell (i := 3) rfl
  have c4 := hb1.cell (i := 4) rfl
  have c5 := hb1.cell (i := 5) rfl
  have HC := Lib.hid (CE W1 hw1)
  clear hb0 hw0 hW0 hs0 hw1 hb1 hr1 hW1 h CE
  unfold szR szB
  cases hg : Pl.goodB b with
  | false =>
    rw [hg, if_neg (by decide)] at HC
    rw [if_neg (by decide), if_neg (by decide)]
    clear hg hsh
    go_enter Tryd.func6, Tryd.ntmps6
    go_wp2_with fail
    rw [HE.out]
    go_wp2_with fail
    rw [HE1.out]
    refine HC.out.mono ?_
    rintro e w1 ⟨rfl, b1⟩
    have HR2 := Lib.hid (HR1.out.below b1)
    have HW2 := Lib.hid (HW1.out.trans (b1.mono HW1.out.size))
    have d0 := HR2.out.cell (i := 0) rfl
    have d1 := HR2.out.cell (i := 1) rfl
    have f0 := HR2.out.free (i := 0)
    have f1 := HR2.out.free (i := 1)
    clear b1 c0 c1 c2 c3 c4 c5
    go_wp2_with fail
    exact bodyPost_ret (of_ret ((HR2.out.set (i := 0) (.int .i64 0)).set (i := 1) (.int .i64 0)) rfl) rfl ⟨rfl, ((HW2.out.setCell (p := ⟨w.heap.size + 1, 0, none⟩) (Nat.le_succ _) (.int .i64 0)).setCell (p := ⟨w.heap.size + 1, 1, none⟩) (Nat.le_succ _) (.int .i64 0))⟩
  | true =>
    have hs := hsh hg
    rw [hg, if_pos rfl] at HC
    rw [if_pos rfl, if_pos rfl]
    obtain ⟨S, hS⟩ : ∃ S : ByteArray, (⟨(Pl.enc b).toArray⟩ : ByteArray) = S := ⟨_, rfl⟩
    have hsz : S.size = (Pl.enc b).length := by rw [← hS, size_list]
    rw [hS] at HC
    rw [← hsz] at hs
    rw [← hsz]
    clear hg hsh hS hsz
    go_enter Tryd.func6, Tryd.ntmps6
    go_wp2_with fail
    rw [HE.out]
    go_wp2_with fail
    rw [HE1.out]
    refine HC.out.mono ?_
    rintro e w1 ⟨rfl, b1⟩
    have HB2 := Lib.hid (HB1.out.below b1)
    have HR2 := Lib.hid (HR1.out.below b1)
    have HW2 := Lib.hid (HW1.out.trans (b1.mono HW1.out.size))
    have d0 := HR2.out.cell (i := 0) rfl
    have d1 := HR2.out.cell (i := 1) rfl
    have f0 := HR2.out.free (i := 0)
    have f1 := HR2.out.free (i := 1)
    clear b1 c0 c1 c2 c3 c4 c5
    have c5 := HB2.out.cell (i := 5) rfl
    go_wp2_with fail
    exact bodyPost_ret (of_ret ((HR2.out.set (i := 0) (.int .i64 b.recs.length)).set (i := 1) (.int .i64 (8 + (S.size : Int)))) rfl) rfl ⟨rfl, ((HW2.out.setCell (p := ⟨w.heap.size + 1, 0, none⟩) (Nat.le_succ _) (.int .i64 b.recs.length)).setCell (p := ⟨w.heap.size + 1, 1, none⟩) (Nat.le_succ _) (.int .i64 (8 + (S.size : Int))))⟩
end Go.Proofs.YtdkngocinimjdaaDoor
