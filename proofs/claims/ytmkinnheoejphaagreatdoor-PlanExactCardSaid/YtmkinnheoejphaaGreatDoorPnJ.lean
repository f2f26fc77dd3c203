/- THE CONTRACT OF living. -/
import Derived.Test.YtmkinnheoejphaaGreatDoorPnI
namespace Go.Proofs.YtmkinnheoejphaaGreatDoor
open Go.RowKit

theorem lcs_ins (l : List (Int × Int)) (i : Nat) (q : Int × Int) : (lcs l).take (i * 2) ++ ([.int .i64 q.1, .int .i64 q.2] ++ (lcs l).drop (i * 2)) = lcs (Fk.ins l i q) := by
  unfold lcs
  rw [flat_take _ 2 (fun _ => rfl), flat_drop _ 2 (fun _ => rfl)]
  simp [Fk.ins]
theorem lcs_set : ∀ (l : List (Int × Int)) (i : Nat) (q : Int × Int), i < l.length → ((lcs l).set (i * 2) (.int .i64 q.1)).set (i * 2 + 1) (.int .i64 q.2) = lcs (l.set i q)
  | [], i, q, h => by simp at h
  | y :: l, 0, q, _ => by simp [lcs, List.flatMap_cons]
  | y :: l, i + 1, q, h => by
    have ih := lcs_set l i q (by simpa using h)
    unfold lcs at ih ⊢
    simp only [List.flatMap_cons, List.set_cons_succ]
    rw [← ih, show (i + 1) * 2 = [Value.int .i64 y.1, .int .i64 y.2].length + i * 2 by simp; omega]
    simp only [Nat.add_assoc]
    rw [List.set_append_right _ _ (by omega), List.set_append_right _ _ (by omega)]
    simp only [Nat.add_sub_cancel_left]
theorem grown_of_kb {w w' : World} {b : Nat} (k : Kb b w w') : w.grownBy w' (some b) := ⟨k.os, k.tape, k.output, k.size, fun c hc hn => k.block c hc fun e => hn (by rw [e])⟩
theorem grown_after {w w1 w2 : World} {r : Option Nat} (h : Below w.heap.size w w1) (k : w1.grownBy w2 r) : w.grownBy w2 r :=
  ⟨k.os.trans h.os, k.tape.trans h.tape, k.output.trans h.output, Nat.le_trans h.size k.size, fun b hb hr => (k.block b (Nat.lt_of_lt_of_le hb h.size) hr).trans (h.block b hb)⟩
/-- The lives behind it. -/
def LivOut (z : Nat) (w : World) (gb : Option Nat) (l : List (Int × Int)) (e : Ending) (w' : World) : Prop := ∃ v' gb', e = .returned v' ∧ Wz z w' v' gb' 55 2 l.length (lcs l) ∧ w.grownBy w' gb ∧ ∀ b, gb' = some b → gb = some b ∨ w.heap.size ≤ b
set_option maxHeartbeats 4000000 in
set_option maxRecDepth 100000 in
theorem living_any {z : Nat} {gb : Option Nat} (v : Value) (l : List (Int × Int)) (nd lf : Int) (w : World) (h : Wz z w v gb 55 2 l.length (lcs l)) (hl : l.length ≤ 60) (hm : Fk.Mono (Fk.cP nd) l) (hz : z ≤ w.heap.size) :
    Calls Tryz.prog 25 #[v, .agg #[.int .i64 nd, .int .i64 lf]] w fun e w' => LivOut z w gb (Fk.putPt l nd lf) e w' := by
  obtain ⟨W1, hW1⟩ : ∃ W, w.alloc (.cells #[.int .i64 nd, .int .i64 lf] 55) = W := ⟨_, rfl⟩
  have hb1 : Below w.heap.size w W1 := by rw [← hW1]; exact (Below.refl _ _).alloc (Nat.le_refl _) _
  have hk1 : Blk W1 w.heap.size #[.int .i64 nd, .int .i64 lf] 55 := by rw [← hW1]; exact Blk.new _ _ _
  have HBS := Lib.hid (bsL_any (A := fun b => z ≤ b) v l nd W1 ((h.below hb1).rd) (by omega) hm)
  have hlow := Fk.low_le (c := Fk.cP nd) l
  obtain ⟨i, hi⟩ : ∃ i, Fk.low (Fk.cP nd) l = i := ⟨_, rfl⟩
  obtain ⟨R, hR⟩ : ∃ R, Fk.putPt l nd lf = R := ⟨_, rfl⟩
  obtain ⟨f, hf⟩ : ∃ f, (Fk.hit (Fk.cP nd) l).isSome = f := ⟨_, rfl⟩
  have HRT : Hid (f = true → R = l.set i (nd, lf) ∧ i < l.length) := Lib.hid fun e => by
    rw [← hf] at e
    refine ⟨by rw [← hR, ← hi]; unfold Fk.putPt; rw [if_pos e], ?_⟩
    obtain ⟨x, hx⟩ := Option.isSome_iff_exists.1 e
    rw [← hi]
    exact (List.getElem?_eq_some_iff.1 (Fk.hit_some hx).1).1
  have HRF : Hid (f = false → R = Fk.ins l i (nd, lf)) := Lib.hid fun e => by
    rw [← hf] at e
    rw [← hR, ← hi]
    unfold Fk.putPt
    rw [if_neg (by rw [e]; exact Bool.false_ne_true)]
  rw [hi, hf] at HBS
  rw [hi] at hlow
  rw [hR]
  obtain ⟨a, cap, rfl⟩ := h.form
  have HW := Lib.hid h
  have HB1 := Lib.hid hb1
  have HK1 := Lib.hid hk1
  have HLOW := Lib.hid hlow
  have HZ := Lib.hid hz
  obtain ⟨m, hml⟩ : ∃ m, l.length = m := ⟨_, rfl⟩
  have HM := Lib.hid hml
  have c0 : W1.cell? ⟨w.heap.size, 0, none⟩ = some (.int .i64 nd) := hk1.cell rfl
  rw [hml] at HBS ⊢ 
  have hl60 : m ≤ 60 := by omega
  clear h hb1 hk1 hi hR hf hlow hz hml hl hm
  go_enter Tryz.func25, Tryz.ntmps25
  go_wp2_with fail
  refine HBS.out.mono ?_
  rintro e w2 ⟨rfl, hb2⟩
  have HB2 := Lib.hid (HB1.out.trans (hb2.mono HB1.out.size))
  have HK2 := Lib.hid (HK1.out.below hb2)
  have c0 : w2.cell? ⟨w.heap.size, 0, none⟩ = some (.int .i64 nd) := HK2.out.cell rfl
  have c1 : w2.cell? ⟨w.heap.size, 1, none⟩ = some (.int .i64 lf) := HK2.out.cell rfl
  have HW2 := Lib.hid (HW.out.below HB2.out)
  clear hb2 HBS
  cases f with
  | false =>
    have HR := Lib.hid (HRF.out rfl)
    obtain ⟨W3, hW3⟩ : ∃ W, w2.alloc (.cells #[.int .i64 nd, .int .i64 lf] 55) = W := ⟨_, rfl⟩
    have hb3 : Below w2.heap.size w2 W3 := by rw [← hW3]; exact (Below.refl _ _).alloc (Nat.le_refl _) _
    have hk3 : Blk W3 w2.heap.size #[.int .i64 nd, .int .i64 lf] 55 := by rw [← hW3]; exact Blk.new _ _ _
    have hw3 := HW2.out.below hb3
    have HB3 := Lib.hid (HB2.out.trans (hb3.mono HB2.out.size))
    have HIN := Lib.hid (insL_any (.slice a l.length cap) l.length i w2.heap.size (lcs l) [.int .i64 nd, .int .i64 lf] W3 hw3 (lcs_one _) (by rw [HM.out]; omega) HLOW.out rfl (by simp [Value.oneCell']) hk3 (fun b e => by have := (HW2.out.lt b e).2; omega) (Nat.le_trans HZ.out HB3.out.size))
    rw [HM.out] at HIN
    have HS3 : Hid (w.heap.size ≤ W3.heap.size) := Lib.hid HB3.out.size
    clear hb3 hk3 hw3
    go_wp2_with fail
    refine HIN.out.mono ?_
    rintro e w4 ⟨v', gb', rfl, hw4, hg4, hn4⟩
    have HF : Hid (LivOut z w gb R (.returned v') w4) := Lib.hid ⟨v', gb', rfl, by
      rw [HR.out, Fk.ins_len HLOW.out, HM.out, ← lcs_ins]
      exact hw4, grown_after HB3.out hg4, fun b e => (hn4 b e).imp id fun h => by have := HS3.out; omega⟩
    clear hw4 hg4 hn4
    go_wp2_with fail
    go_ret
    exact HF.out
  | true =>
    obtain ⟨hR, hil⟩ := HRT.out rfl
    have HR := Lib.hid hR
    obtain ⟨ao', cap', ev, -, hpos, -⟩ := Sl.make HW2.out.1
    injection ev with e1 e2 e3
    obtain ⟨g, p, hap, hgb⟩ := hpos (by omega)
    subst e1 e3 hap hgb
    have i0 : (0 : Int) ≤ (i : Int) := by omega
    have i1 : (i : Int) < (m : Int) := by have := HM.out; omega
    have hx : (lcs l)[i * 2]? = some (.int .i64 l[i].1) ∧ (lcs l)[i * 2 + 1]? = some (.int .i64 l[i].2) := lcs_at (List.getElem?_eq_getElem hil)
    have d0 := HW2.out.1.cell rfl _ _ hx.1
    have d1 := HW2.out.1.cell rfl _ _ hx.2
    have f0 := HW2.out.1.frozen rfl (p + i * 2)
    have f1 := HW2.out.1.frozen rfl (p + i * 2 + 1)
    simp only [← Nat.add_assoc] at d1
    have hset := (Sl.set HW2.out.1 (j := i * 2) (by omega) (.int .i64 nd)).set (j := i * 2 + 1) (by omega) (.int .i64 lf)
    simp only [← Nat.add_assoc] at hset
    rw [lcs_set l i (nd, lf) hil] at hset
    have hkb : Kb g w2 ((w2.setCell ⟨g, p + i * 2, none⟩ (.int .i64 nd)).setCell ⟨g, p + i * 2 + 1, none⟩ (.int .i64 lf)) := (Kb.setCell _ _).trans (Kb.setCell _ _)
    have HF : Hid (LivOut z w (some g) R (.returned (.slice (some ⟨g, p, none⟩) m cap)) ((w2.setCell ⟨g, p + i * 2, none⟩ (.int .i64 nd)).setCell ⟨g, p + i * 2 + 1, none⟩ (.int .i64 lf))) := Lib.hid ⟨_, some g, rfl, by
      rw [HR.out, List.length_set, ← HM.out]
      exact ⟨hset, HW2.out.2⟩, grown_after HB2.out (grown_of_kb hkb), fun b e => .inl e⟩
    clear hx hset hkb hR hpos
    go_wp2_with fail
    go_ret
    exact HF.out
end Go.Proofs.YtmkinnheoejphaaGreatDoor
