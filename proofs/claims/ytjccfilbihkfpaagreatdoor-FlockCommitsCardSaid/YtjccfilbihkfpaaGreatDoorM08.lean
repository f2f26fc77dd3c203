import Derived.Test.YtjccfilbihkfpaaGreatDoorM06
import Derived.Test.YtjccfilbihkfpaaGreatDoorM07
import Derived.Deep.RegionHeld3
import Derived.Deep.DrawnRows
import Derived.Lib.SliceRun

/- GROUPS THAT A CALL OWNS: what each of its blocks is for. -/
namespace Go.Proofs.YtjccfilbihkfpaaGreatDoor
open Go.RowKit

theorem Sl.set {w : World} {g p cap e size n j : Nat} {xs : List Value} (h : Sl w (.slice (some ⟨g, p, none⟩) n cap) (some g) e size n xs) (hj : j < n * size) (u : Value) :
    Sl (w.setCell ⟨g, p + j, none⟩ u) (.slice (some ⟨g, p, none⟩) n cap) (some g) e size n (xs.set j u) := by
  obtain ⟨h1, h2⟩ := h
  refine ⟨by rw [List.length_set]; exact h1, ?_⟩
  rcases h2 with ⟨e, _⟩ | ⟨g', p', cap', cur, e1, e2, hg, hc, hs, ht⟩
  · cases e
  · cases e1
    cases e2
    have hlt := (Array.getElem?_eq_some_iff.1 hg).1
    have hcs : n * size ≤ cap * size := Nat.mul_le_mul_right _ hc
    refine .inr ⟨g, p, cap, cur.setIfInBounds (p + j) u, rfl, rfl, ?_, hc, by rw [Array.size_setIfInBounds]; exact hs, ?_⟩
    · have h' : w.heap[g] = .cells cur e (0, 0) := by simpa [Array.getElem?_eq_getElem hlt] using hg
      show (w.heap.modify g _)[g]? = _
      rw [Array.getElem?_eq_getElem (by simpa using hlt), Array.getElem_modify_self, h']
      rfl
    · rw [Array.toList_setIfInBounds]
      subst ht
      apply List.ext_getElem?
      intro i
      simp only [List.getElem?_take, List.getElem?_drop, List.getElem?_set, List.length_take, List.length_drop, Array.length_toList]
      by_cases hi : i < n * size
      · simp only [hi, if_true]
        by_cases hij : j = i
        · subst hij
          have a1 : p + j < cur.size := by omega
          have a2 : j < min (n * size) (cur.size - p) := by omega
          simp [a1, a2]
        · have : ¬ (p + j = p + i) := by omega
          simp [hij]
      · simp only [hi, if_false]
        have : ¬ (j = i) := by omega
        simp [this]
/-- What each block is for: none: the groups; none within: members; a name: that group's points. -/
abbrev Lab := Nat → Option (Option ByteArray)
def relab (lab : Lab) (n : Nat) (r : Option (Option ByteArray)) : Lab := fun b => if b < n then lab b else r
theorem relab_lt {lab : Lab} {n : Nat} {r : Option (Option ByteArray)} {b : Nat} (h : b < n) : relab lab n r b = lab b := if_pos h
theorem relab_ge {lab : Lab} {n : Nat} {r : Option (Option ByteArray)} {b : Nat} (h : n ≤ b) : relab lab n r b = r := if_neg (by omega)
def PtsO (z : Nat) (lab : Lab) (w : World) (pv : Value) (nm : ByteArray) (l : List (Int × Int)) : Prop := ∃ pb, Wz z w pv pb 59 2 l.length (pcs l) ∧ ∀ b, pb = some b → lab b = some (some nm)
def EnO (z : Nat) (lab : Lab) (w : World) (g : Fk.G) (mv pv : Value) : Prop := Nms (fun b => z ≤ b ∧ lab b = some none) w mv g.mem ∧ PtsO z lab w pv g.name g.pts
def GsE (z : Nat) (lab : Lab) (w : World) (v : Value) (gb : Option Nat) (E : List En) : Prop :=
  Wz z w v gb 44 5 E.length (E.flatMap En.cells) ∧ (∀ b, gb = some b → lab b = none) ∧ ∀ e ∈ E, EnO z lab w e.g e.mv e.pv
def GsO (z : Nat) (lab : Lab) (w : World) (v : Value) (L : List Fk.G) : Prop := ∃ gb E, E.map En.g = L ∧ GsE z lab w v gb E
section
variable {z : Nat} {lab lab' : Lab} {w w' : World} {v pv mv : Value} {gb : Option Nat} {E : List En} {L : List Fk.G} {nm : ByteArray} {l : List (Int × Int)} {g : Fk.G}
theorem PtsO.pts (h : PtsO z lab w pv nm l) : Pts (fun b => z ≤ b) w pv l := let ⟨_, h1, _⟩ := h; h1.rd
theorem PtsO.nil (z : Nat) (lab : Lab) (w : World) (nm : ByteArray) : PtsO z lab w (.slice none 0 0) nm [] := ⟨none, Wz.nil _ _ _ _, fun b e => by cases e⟩
/-- What neither the call nor a new use of its blocks has touched. -/
theorem PtsO.keep (h : PtsO z lab w pv nm l) (_hs : w.heap.size ≤ w'.heap.size) (k : ∀ b, b < w.heap.size → z ≤ b → lab b = some (some nm) → w'.heap[b]? = w.heap[b]? ∧ lab' b = some (some nm)) : PtsO z lab' w' pv nm l := by
  obtain ⟨pb, h1, h2⟩ := h
  exact ⟨pb, ⟨h1.1.same fun b e => (k b (h1.lt b e).2 (h1.lt b e).1 (h2 b e)).1, h1.2⟩, fun b e => (k b (h1.lt b e).2 (h1.lt b e).1 (h2 b e)).2⟩
theorem EnO.keep (h : EnO z lab w g mv pv) (hs : w.heap.size ≤ w'.heap.size) (k : ∀ b, b < w.heap.size → z ≤ b → (lab b = some none ∨ lab b = some (some g.name)) → w'.heap[b]? = w.heap[b]? ∧ lab' b = lab b) : EnO z lab' w' g mv pv :=
  ⟨Rds.keep h.1 hs fun b hb hl => ⟨(k b hl hb.1 (.inl hb.2)).1, hb.1, (k b hl hb.1 (.inl hb.2)).2.trans hb.2⟩, h.2.keep hs fun b hl hz hb => ⟨(k b hl hz (.inr hb)).1, (k b hl hz (.inr hb)).2.trans hb⟩⟩
theorem GsE.keep (h : GsE z lab w v gb E) (hs : w.heap.size ≤ w'.heap.size) (k : ∀ b, b < w.heap.size → z ≤ b → w'.heap[b]? = w.heap[b]? ∧ lab' b = lab b) : GsE z lab' w' v gb E :=
  ⟨⟨h.1.1.same fun b e => (k b (h.1.lt b e).2 (h.1.lt b e).1).1, h.1.2⟩, fun b e => (k b (h.1.lt b e).2 (h.1.lt b e).1).2.trans (h.2.1 b e), fun e he => (h.2.2 e he).keep hs fun b hl hz _ => k b hl hz⟩
theorem GsO.keep (h : GsO z lab w v L) (hs : w.heap.size ≤ w'.heap.size) (k : ∀ b, b < w.heap.size → z ≤ b → w'.heap[b]? = w.heap[b]? ∧ lab' b = lab b) : GsO z lab' w' v L := by
  obtain ⟨gb, E, h1, h2⟩ := h
  exact ⟨gb, E, h1, h2.keep hs k⟩
theorem GsO.below (h : GsO z lab w v L) (hb : Below w.heap.size w w') : GsO z lab w' v L := h.keep hb.size fun b hl _ => ⟨hb.block b hl, rfl⟩
theorem GsO.below' (h : GsO z lab w v L) (hb : Below w.heap.size w w') (r : Option (Option ByteArray)) : GsO z (relab lab w.heap.size r) w' v L := h.keep hb.size fun b hl _ => ⟨hb.block b hl, relab_lt hl⟩
theorem EnO.at (h : EnO z lab w g mv pv) : EnAt (fun b => z ≤ b) w g mv pv := ⟨h.1.mono fun _b hb => hb.1, h.2.pts⟩
theorem GsO.rd (h : GsO z lab w v L) : GsR (fun b => z ≤ b) w v L := by
  obtain ⟨gb, E, h1, h2⟩ := h
  exact ⟨E, h1, h2.1.rd, fun e he => (h2.2.2 e he).at⟩
theorem GsO.nil (z : Nat) (lab : Lab) (w : World) : GsO z lab w (.slice none 0 0) [] := ⟨none, [], rfl, ⟨Wz.nil _ _ _ _, (fun b e => by cases e), (fun e he => by cases he)⟩⟩
theorem GsO.form (h : GsO z lab w v L) : ∃ a cap, v = .slice a L.length cap := h.rd.form
theorem GsO.mono {z' : Nat} (h : GsO z lab w v L) (k : z' ≤ z) : GsO z' lab w v L := by
  obtain ⟨gb, E, h1, h2, h3, h4⟩ := h
  exact ⟨gb, E, h1, h2.mono k, h3, fun e he => ⟨(h4 e he).1.mono fun b hb => ⟨Nat.le_trans k hb.1, hb.2⟩, let ⟨pb, p1, p2⟩ := (h4 e he).2; ⟨pb, p1.mono k, p2⟩⟩⟩
end
theorem grown_after {w w1 w2 : World} {r : Option Nat} (h : Below w.heap.size w w1) (k : w1.grownBy w2 r) : w.grownBy w2 r :=
  ⟨k.os.trans h.os, k.tape.trans h.tape, k.output.trans h.output, Nat.le_trans h.size k.size, fun b hb hr => (k.block b (Nat.lt_of_lt_of_le hb h.size) hr).trans (h.block b hb)⟩
theorem grown_kb {w w' : World} {b : Nat} (k : Kb b w w') : w.grownBy w' (some b) := ⟨k.os, k.tape, k.output, k.size, fun c hc hn => k.block c hc fun e => hn (by rw [e])⟩
theorem grown_trans {u v w : World} {r : Option Nat} (h : u.grownBy v r) (k : v.grownBy w r) : u.grownBy w r :=
  ⟨k.os.trans h.os, k.tape.trans h.tape, k.output.trans h.output, Nat.le_trans h.size k.size, fun b hb hr => (k.block b (Nat.lt_of_lt_of_le hb h.size) hr).trans (h.block b hb hr)⟩
theorem grown_below {z : Nat} {w w' : World} {r : Option Nat} (h : w.grownBy w' r) (hr : ∀ b, r = some b → z ≤ b) (hz : z ≤ w.heap.size) : Below z w w' := Below.appended (Below.refl z w) h hr hz
theorem en_one (E : List En) (h : ∀ e ∈ E, e.mv.oneCell' = true ∧ e.pv.oneCell' = true) : ∀ u ∈ E.flatMap En.cells, u.oneCell' = true := by
  intro u hu
  obtain ⟨e, he, hx⟩ := List.mem_flatMap.1 hu
  obtain ⟨k1, k2⟩ := h e he
  simp only [En.cells, List.mem_cons, List.not_mem_nil, or_false] at hx
  rcases hx with rfl | rfl | rfl | rfl | rfl <;> first | rfl | exact k1 | exact k2
theorem slice_one {v : Value} {n : Nat} (h : ∃ a cap, v = .slice a n cap) : v.oneCell' = true := by obtain ⟨a, cap, rfl⟩ := h; rfl
theorem GsE.one {z : Nat} {lab : Lab} {w : World} {v : Value} {gb : Option Nat} {E : List En} (h : GsE z lab w v gb E) : ∀ u ∈ E.flatMap En.cells, u.oneCell' = true :=
  en_one E fun e he => ⟨slice_one ((h.2.2 e he).1.form), slice_one ((h.2.2 e he).2.pts.form)⟩
theorem flat_ins (E : List En) (i : Nat) (x : En) : (E.flatMap En.cells).take (i * 5) ++ (x.cells ++ (E.flatMap En.cells).drop (i * 5)) = (Fk.ins E i x).flatMap En.cells := by
  rw [flat_take En.cells 5 En.cells_len, flat_drop En.cells 5 En.cells_len]
  simp [Fk.ins]
theorem flat_set : ∀ (E : List En) (i : Nat) (x : En), i < E.length → (((((E.flatMap En.cells).set (i * 5) (.string x.g.name)).set (i * 5 + 1) (.int .i64 x.g.gen)).set (i * 5 + 2) (.int .i64 x.g.parts)).set (i * 5 + 3) x.mv).set (i * 5 + 4) x.pv = (E.set i x).flatMap En.cells
  | [], i, x, h => by simp at h
  | e :: E, 0, x, _ => by simp [List.flatMap_cons, En.cells]
  | e :: E, i + 1, x, h => by
    have := flat_set E i x (by simpa using h)
    simp only [List.flatMap_cons, List.set_cons_succ]
    rw [← this]
    have e1 : e.cells.length = 5 := rfl
    rw [show (i + 1) * 5 = e.cells.length + i * 5 by omega]
    simp only [Nat.add_assoc]
    rw [List.set_append_right _ _ (by omega), List.set_append_right _ _ (by omega), List.set_append_right _ _ (by omega), List.set_append_right _ _ (by omega), List.set_append_right _ _ (by omega)]
    simp only [Nat.add_sub_cancel_left]
theorem flat_set2 : ∀ (E : List En) (i : Nat) (e : En) (mv pv : Value), E[i]? = some e → ((E.flatMap En.cells).set (i * 5 + 3) mv).set (i * 5 + 4) pv = (E.set i ⟨e.g, mv, pv⟩).flatMap En.cells
  | [], i, e, mv, pv, h => by simp at h
  | y :: E, 0, e, mv, pv, h => by
    simp at h
    subst h
    simp [List.flatMap_cons, En.cells]
  | y :: E, i + 1, e, mv, pv, h => by
    have := flat_set2 E i e mv pv (by simpa using h)
    simp only [List.flatMap_cons, List.set_cons_succ]
    rw [← this]
    have e1 : y.cells.length = 5 := rfl
    rw [show (i + 1) * 5 = y.cells.length + i * 5 by omega]
    simp only [Nat.add_assoc]
    rw [List.set_append_right _ _ (by omega), List.set_append_right _ _ (by omega)]
    simp only [Nat.add_sub_cancel_left]
theorem flat_set1 : ∀ (E : List En) (i : Nat) (e : En) (pv : Value), E[i]? = some e → (E.flatMap En.cells).set (i * 5 + 4) pv = (E.set i ⟨e.g, e.mv, pv⟩).flatMap En.cells
  | [], i, e, pv, h => by simp at h
  | y :: E, 0, e, pv, h => by
    simp at h
    subst h
    simp [List.flatMap_cons, En.cells]
  | y :: E, i + 1, e, pv, h => by
    have := flat_set1 E i e pv (by simpa using h)
    simp only [List.flatMap_cons, List.set_cons_succ]
    rw [← this]
    have e1 : y.cells.length = 5 := rfl
    rw [show (i + 1) * 5 = y.cells.length + i * 5 by omega]
    simp only [Nat.add_assoc]
    rw [List.set_append_right _ _ (by omega)]
    simp only [Nat.add_sub_cancel_left]
theorem pcs_ins (l : List (Int × Int)) (i : Nat) (q : Int × Int) : (pcs l).take (i * 2) ++ ([.int .i64 q.1, .int .i64 q.2] ++ (pcs l).drop (i * 2)) = pcs (Fk.ins l i q) := by
  unfold pcs
  rw [flat_take _ 2 (fun _ => rfl), flat_drop _ 2 (fun _ => rfl)]
  simp [Fk.ins]
theorem pcs_set : ∀ (l : List (Int × Int)) (i : Nat) (q : Int × Int), i < l.length → ((pcs l).set (i * 2) (.int .i64 q.1)).set (i * 2 + 1) (.int .i64 q.2) = pcs (l.set i q)
  | [], i, q, h => by simp at h
  | y :: l, 0, q, _ => by simp [pcs, List.flatMap_cons]
  | y :: l, i + 1, q, h => by
    have := pcs_set l i q (by simpa using h)
    unfold pcs at this ⊢
    simp only [List.flatMap_cons, List.set_cons_succ]
    rw [← this]
    rw [show (i + 1) * 2 = [Value.int .i64 y.1, .int .i64 y.2].length + i * 2 by simp; omega]
    simp only [Nat.add_assoc]
    rw [List.set_append_right _ _ (by omega), List.set_append_right _ _ (by omega)]
    simp only [Nat.add_sub_cancel_left]
end Go.Proofs.YtjccfilbihkfpaaGreatDoor

/- THE CONTRACTS OF slices.Clone, of cloned. -/
namespace Go.Proofs.YtjccfilbihkfpaaGreatDoor
open Go.RowKit

def ClnOut (T size : Nat) (w : World) (n : Nat) (xs : List Value) (e : Ending) (w' : World) : Prop := Below w.heap.size w w' ∧ ∃ v gb, e = .returned v ∧ Wz w.heap.size w' v gb T size n xs
theorem infoFlock : Info Tryz.prog 44 5 80 (.agg #[.string ByteArray.empty, .int .i64 0, .int .i64 0, .slice none 0 0, .slice none 0 0]) := Info.of (by kernel_rfl) rfl
theorem infoPoint : Info Tryz.prog 59 2 16 (.agg #[.int .i64 0, .int .i64 0]) := Info.of (by kernel_rfl) rfl
theorem infoText : Info Tryz.prog 9 1 16 (.string ByteArray.empty) := Info.of (by kernel_rfl) rfl
set_option maxHeartbeats 1000000 in
set_option maxRecDepth 100000 in
theorem cloneG_any {A : Nat → Prop} (v : Value) (n : Nat) (xs : List Value) (w : World) (h : Rds A w v 5 n xs) (h1 : ∀ u ∈ xs, u.oneCell' = true) (hn : n ≤ 64) :
    Calls Tryz.prog 41 #[v] w fun e w' => ClnOut 44 5 w n xs e w' := by
  obtain ⟨i, hi, i1, i2, i3, i4⟩ := infoFlock
  obtain ⟨W1, hW1⟩ : ∃ W1, w.alloc (.cells #[] 44) = W1 := ⟨_, rfl⟩
  have hB1 : Below w.heap.size w W1 := by rw [← hW1]; exact (Below.refl _ _).alloc (Nat.le_refl _) _
  have HE : Hid (Wz w.heap.size W1 (.slice (some ⟨w.heap.size, 0, none⟩) 0 0) (some w.heap.size) 44 5 0 []) := Lib.hid (by rw [← hW1]; exact Wz.empty w _ _ (Nat.le_refl _))
  have HH := Lib.hid (h.below hB1)
  have HB1 := Lib.hid hB1
  have HONE := Lib.hid h1
  rcases h.2 with ⟨rfl, hn0⟩ | ⟨ad, cap, rfl, -⟩
  · have HX : Hid (xs = []) := Lib.hid (List.eq_nil_of_length_eq_zero (by rw [h.1, hn0, Nat.zero_mul]))
    subst hn0
    clear hB1 h h1 hW1
    have hnil := fun wx => Lib.run_eql_slice_nil (P := Tryz.prog) wx 25 44 none 0 0 0 0 Tryz.underlying25
    go_enter Tryz.func41, Tryz.ntmps41
    go_wp2_with fail
    go_ret
    exact ⟨Below.refl _ _, _, none, rfl, by rw [HX.out]; exact Wz.nil _ _ _ _⟩
  · clear hB1 h h1
    have hnil := fun wx => Lib.run_eql_slice_nil (P := Tryz.prog) wx 25 44 (some ad) n cap 0 0 Tryz.underlying25
    go_enter Tryz.func41, Tryz.ntmps41
    go_wp2_with (at_builtin; refine wpList_append_rd (by rfl) _ _ _ (by rfl) 44 i _ 5 80 Tryz.underlying25 hi i1 i2 i3 i4 _ (some w.heap.size) 0 [] (by rfl) HE.out.1 _ n xs (by rfl) HH.out HONE.out (by omega) (by omega) ?_)
    intro v' w' gb' k1 k2 k3
    have HF : Hid (Wz w.heap.size w' v' gb' 44 5 n xs) := Lib.hid ⟨by simpa using k1, fun b e => by
      rcases k3 with k3 | ⟨g, k3, k4⟩
      · rw [k3] at e; cases e; exact Nat.le_refl _
      · rw [k3] at e; cases e; have := HB1.out.size; omega⟩
    have HK : Hid (Below w.heap.size w w') := Lib.hid (Below.appended HB1.out k2 (fun b e => by cases e; exact Nat.le_refl _) HB1.out.size)
    clear k1 k2 k3
    go_wp2_with fail
    go_ret
    exact ⟨HK.out, _, gb', rfl, HF.out⟩
set_option maxHeartbeats 1000000 in
set_option maxRecDepth 100000 in
theorem cloneS_any {A : Nat → Prop} (v : Value) (n : Nat) (xs : List Value) (w : World) (h : Rds A w v 1 n xs) (h1 : ∀ u ∈ xs, u.oneCell' = true) (hn : n ≤ 64) :
    Calls Tryz.prog 42 #[v] w fun e w' => ClnOut 9 1 w n xs e w' := by
  obtain ⟨i, hi, i1, i2, i3, i4⟩ := infoText
  obtain ⟨W1, hW1⟩ : ∃ W1, w.alloc (.cells #[] 9) = W1 := ⟨_, rfl⟩
  have hB1 : Below w.heap.size w W1 := by rw [← hW1]; exact (Below.refl _ _).alloc (Nat.le_refl _) _
  have HE : Hid (Wz w.heap.size W1 (.slice (some ⟨w.heap.size, 0, none⟩) 0 0) (some w.heap.size) 9 1 0 []) := Lib.hid (by rw [← hW1]; exact Wz.empty w _ _ (Nat.le_refl _))
  have HH := Lib.hid (h.below hB1)
  have HB1 := Lib.hid hB1
  have HONE := Lib.hid h1
  rcases h.2 with ⟨rfl, hn0⟩ | ⟨ad, cap, rfl, -⟩
  · have HX : Hid (xs = []) := Lib.hid (List.eq_nil_of_length_eq_zero (by rw [h.1, hn0, Nat.zero_mul]))
    subst hn0
    clear hB1 h h1 hW1
    have hnil := fun wx => Lib.run_eql_slice_nil (P := Tryz.prog) wx 41 9 none 0 0 0 0 Tryz.underlying41
    go_enter Tryz.func42, Tryz.ntmps42
    go_wp2_with fail
    go_ret
    exact ⟨Below.refl _ _, _, none, rfl, by rw [HX.out]; exact Wz.nil _ _ _ _⟩
  · clear hB1 h h1
    have hnil := fun wx => Lib.run_eql_slice_nil (P := Tryz.prog) wx 41 9 (some ad) n cap 0 0 Tryz.underlying41
    go_enter Tryz.func42, Tryz.ntmps42
    go_wp2_with (at_builtin; refine wpList_append_rd (by rfl) _ _ _ (by rfl) 9 i _ 1 16 Tryz.underlying41 hi i1 i2 i3 i4 _ (some w.heap.size) 0 [] (by rfl) HE.out.1 _ n xs (by rfl) HH.out HONE.out (by omega) (by omega) ?_)
    intro v' w' gb' k1 k2 k3
    have HF : Hid (Wz w.heap.size w' v' gb' 9 1 n xs) := Lib.hid ⟨by simpa using k1, fun b e => by
      rcases k3 with k3 | ⟨g, k3, k4⟩
      · rw [k3] at e; cases e; exact Nat.le_refl _
      · rw [k3] at e; cases e; have := HB1.out.size; omega⟩
    have HK : Hid (Below w.heap.size w w') := Lib.hid (Below.appended HB1.out k2 (fun b e => by cases e; exact Nat.le_refl _) HB1.out.size)
    clear k1 k2 k3
    go_wp2_with fail
    go_ret
    exact ⟨HK.out, _, gb', rfl, HF.out⟩
set_option maxHeartbeats 1000000 in
set_option maxRecDepth 100000 in
theorem cloneP_any {A : Nat → Prop} (v : Value) (n : Nat) (xs : List Value) (w : World) (h : Rds A w v 2 n xs) (h1 : ∀ u ∈ xs, u.oneCell' = true) (hn : n ≤ 64) :
    Calls Tryz.prog 43 #[v] w fun e w' => ClnOut 59 2 w n xs e w' := by
  obtain ⟨i, hi, i1, i2, i3, i4⟩ := infoPoint
  obtain ⟨W1, hW1⟩ : ∃ W1, w.alloc (.cells #[] 59) = W1 := ⟨_, rfl⟩
  have hB1 : Below w.heap.size w W1 := by rw [← hW1]; exact (Below.refl _ _).alloc (Nat.le_refl _) _
  have HE : Hid (Wz w.heap.size W1 (.slice (some ⟨w.heap.size, 0, none⟩) 0 0) (some w.heap.size) 59 2 0 []) := Lib.hid (by rw [← hW1]; exact Wz.empty w _ _ (Nat.le_refl _))
  have HH := Lib.hid (h.below hB1)
  have HB1 := Lib.hid hB1
  have HONE := Lib.hid h1
  rcases h.2 with ⟨rfl, hn0⟩ | ⟨ad, cap, rfl, -⟩
  · have HX : Hid (xs = []) := Lib.hid (List.eq_nil_of_length_eq_zero (by rw [h.1, hn0, Nat.zero_mul]))
    subst hn0
    clear hB1 h h1 hW1
    have hnil := fun wx => Lib.run_eql_slice_nil (P := Tryz.prog) wx 42 59 none 0 0 0 0 Tryz.underlying42
    go_enter Tryz.func43, Tryz.ntmps43
    go_wp2_with fail
    go_ret
    exact ⟨Below.refl _ _, _, none, rfl, by rw [HX.out]; exact Wz.nil _ _ _ _⟩
  · clear hB1 h h1
    have hnil := fun wx => Lib.run_eql_slice_nil (P := Tryz.prog) wx 42 59 (some ad) n cap 0 0 Tryz.underlying42
    go_enter Tryz.func43, Tryz.ntmps43
    go_wp2_with (at_builtin; refine wpList_append_rd (by rfl) _ _ _ (by rfl) 59 i _ 2 16 Tryz.underlying42 hi i1 i2 i3 i4 _ (some w.heap.size) 0 [] (by rfl) HE.out.1 _ n xs (by rfl) HH.out HONE.out (by omega) (by omega) ?_)
    intro v' w' gb' k1 k2 k3
    have HF : Hid (Wz w.heap.size w' v' gb' 59 2 n xs) := Lib.hid ⟨by simpa using k1, fun b e => by
      rcases k3 with k3 | ⟨g, k3, k4⟩
      · rw [k3] at e; cases e; exact Nat.le_refl _
      · rw [k3] at e; cases e; have := HB1.out.size; omega⟩
    have HK : Hid (Below w.heap.size w w') := Lib.hid (Below.appended HB1.out k2 (fun b e => by cases e; exact Nat.le_refl _) HB1.out.size)
    clear k1 k2 k3
    go_wp2_with fail
    go_ret
    exact ⟨HK.out, _, gb', rfl, HF.out⟩
theorem cell_far {w : World} {b c o o' : Nat} {v : Value} (h : b ≠ c) : (w.setCell ⟨c, o', none⟩ v).cell? ⟨b, o, none⟩ = w.cell? ⟨b, o, none⟩ := World.cell?_of_block (Below.heap_setCell _ _ _ _ h)
/-- While cloned goes through its own row: what is done, what is as it was. -/
structure CSt (w : World) (v : Value) (gb : Option Nat) (n : Nat) (E : List En) (i : Nat) (lab : Lab) (F : List En) (wr : World) : Prop where
  low : Below w.heap.size w wr
  row : Wz w.heap.size wr v gb 44 5 n (F.flatMap En.cells)
  out : ∀ b, gb = some b → lab b = none
  len : F.length = n
  gs : F.map En.g = E.map En.g
  done : ∀ j e, j < i → F[j]? = some e → EnO w.heap.size lab wr e.g e.mv e.pv
  rest : ∀ j, i ≤ j → F[j]? = E[j]?
theorem CSt.step {w wr W1 W2 : World} {gb p n cap i : Nat} {E F : List En} {lab : Lab} {e : En} {mv pv : Value} {mb pb : Option Nat}
    (h : CSt w (.slice (some ⟨gb, p, none⟩) n cap) (some gb) n E i lab F wr) (he : F[i]? = some e) (h1 : Below wr.heap.size wr W1) (hm : Wz wr.heap.size W1 mv mb 9 1 e.g.mem.length (e.g.mem.map Value.string))
    (h2 : Below W1.heap.size W1 W2) (hp : Wz W1.heap.size W2 pv pb 59 2 e.g.pts.length (pcs e.g.pts)) :
    ∃ lab' F', CSt w (.slice (some ⟨gb, p, none⟩) n cap) (some gb) n E (i + 1) lab' F' ((W2.setCell ⟨gb, p + i * 5 + 3, none⟩ mv).setCell ⟨gb, p + i * 5 + 4, none⟩ pv) := by
  have hil : i < n := by rw [← h.len]; exact (List.getElem?_eq_some_iff.1 he).1
  have hgl := h.row.lt gb rfl
  have hs1 := h1.size
  have hs2 := h2.size
  have hlow := h.low.size
  have hb2 : Below wr.heap.size wr W2 := h1.trans (h2.mono hs1)
  have hk : Kb gb W2 ((W2.setCell ⟨gb, p + i * 5 + 3, none⟩ mv).setCell ⟨gb, p + i * 5 + 4, none⟩ pv) := (Kb.setCell _ _).trans (Kb.setCell _ _)
  have hsz : ((W2.setCell ⟨gb, p + i * 5 + 3, none⟩ mv).setCell ⟨gb, p + i * 5 + 4, none⟩ pv).heap.size = W2.heap.size := by simp [World.setCell]
  have row2 := h.row.below hb2
  have r3 := (Sl.set row2.1 (j := i * 5 + 3) (by omega) mv).set (j := i * 5 + 4) (by omega) pv
  simp only [← Nat.add_assoc] at r3
  rw [flat_set2 F i e mv pv he] at r3
  refine ⟨relab (relab lab wr.heap.size (some none)) W1.heap.size (some (some e.g.name)), F.set i ⟨e.g, mv, pv⟩, ⟨?_, ⟨r3, row2.2⟩, fun b hb => ?_, by rw [List.length_set]; exact h.len, ?_, fun j x hj hx => ?_, fun j hj => ?_⟩⟩
  · exact (h.low.trans (hb2.mono hlow)).trans (hk.below hgl.1 (by omega))
  · cases hb
    rw [relab_lt (by omega), relab_lt (by omega)]
    exact h.out gb rfl
  · rw [List.map_set, h.gs, ← h.gs]
    have hge : (F.map En.g)[i]? = some e.g := by rw [List.getElem?_map, he]; rfl
    apply List.ext_getElem?
    intro j
    rw [List.getElem?_set]
    split
    · rename_i hij
      subst hij
      rw [if_pos (List.getElem?_eq_some_iff.1 hge).1]
      exact hge.symm
    · rfl
  · rw [List.getElem?_set] at hx
    split at hx
    · rename_i hij
      subst hij
      rw [if_pos (by rw [h.len]; exact hil)] at hx
      injection hx with hx
      subst hx
      refine ⟨?_, pb, ?_, fun b hb => ?_⟩
      · refine (Rds.of_sl (A := fun b => wr.heap.size ≤ b ∧ b < W1.heap.size) hm.1 fun b hb => hm.lt b hb).keep (by rw [hsz]; exact hs2) fun b hb hl => ⟨?_, by omega, ?_⟩
        · rw [hk.block b (by omega) (by omega), h2.block b hl]
        · rw [relab_lt hb.2, relab_ge hb.1]
      · have := hp.kb hk (fun e => by have := hp.lt gb e; omega)
        exact this.mono (by omega)
      · rw [relab_ge (hp.lt b hb).1]
    · refine (h.done j x (by omega) hx).keep (by rw [hsz]; omega) fun b hl hz hb => ⟨?_, ?_⟩
      · rw [hk.block b (by omega) (fun e => by subst e; rw [h.out b rfl] at hb; rcases hb with hb | hb <;> cases hb), hb2.block b hl]
      · rw [relab_lt (by omega), relab_lt hl]
  · rw [List.getElem?_set_ne (by omega)]
    exact h.rest j (by omega)
set_option maxHeartbeats 4000000 in
set_option maxRecDepth 100000 in
theorem cloned_any {A : Nat → Prop} (v : Value) (L : List Fk.G) (w : World) (h : GsR A w v L) (hl : L.length ≤ 8) (hg : ∀ g ∈ L, g.mem.length ≤ 8 ∧ g.pts.length ≤ 8) :
    Calls Tryz.prog 23 #[v] w fun e w' => Below w.heap.size w w' ∧ ∃ v' lab, e = .returned v' ∧ GsO w.heap.size lab w' v' L := by
  obtain ⟨E, hE, hr, hen⟩ := h
  have hlE : E.length = L.length := by rw [← hE, List.length_map]
  have C0 := cloneG_any v _ _ w hr (en_one E fun e he => ⟨slice_one (hen e he).1.form, slice_one (hen e he).2.form⟩) (by omega)
  have HC0 := Lib.hid C0
  have HEN := Lib.hid hen
  have HE := Lib.hid hE
  obtain ⟨n, hn⟩ : ∃ n, E.length = n := ⟨_, rfl⟩
  have HN := Lib.hid hn
  have hn8 : n ≤ 8 := by omega
  have HG : Hid (∀ e ∈ E, e.g.mem.length ≤ 8 ∧ e.g.pts.length ≤ 8) := Lib.hid fun e he => hg e.g (by rw [← hE]; exact List.mem_map_of_mem he)
  rw [hn] at HC0
  clear C0 hr hen hl hg hE hn hlE
  go_enter Tryz.func23, Tryz.ntmps23
  go_wp2_with fail
  refine HC0.out.mono ?_
  rintro e w1 ⟨hb1, v1, gb, rfl, hw1⟩
  obtain ⟨ao, cap, rfl⟩ := hw1.form
  have hst : CSt w (.slice ao n cap) gb n E 0 (fun b => if gb = some b then none else some none) E w1 := ⟨hb1, hw1, (fun b hb => if_pos hb), HN.out, rfl, (fun j e hj => by omega), (fun j _ => rfl)⟩
  have HST := Lib.hid hst
  clear hb1 hw1 HC0 hst
  go_wp2_with fail
  go_loopw [3, 4, 9] (fun _ _ s9 wr => ∃ (i : Nat) (lab : Lab) (F : List En), i ≤ n ∧ s9 = .int .i64 i ∧ CSt w (.slice ao n cap) gb n E i lab F wr) (fun _ _ s9 _ => n - (intOf s9).toNat)
  case atStart => exact ⟨0, _, E, Nat.zero_le _, rfl, HST.out⟩
  case round =>
    obtain ⟨i, lab, F, hi, rfl, hst⟩ := hrel
    have HS := Lib.hid hst
    by_cases hlt : i < n
    · obtain ⟨e, he⟩ : ∃ e, F[i]? = some e := ⟨_, List.getElem?_eq_getElem (by rw [hst.len]; exact hlt)⟩
      have heE : E[i]? = some e := by rw [← hst.rest i (Nat.le_refl _)]; exact he
      have hmem := List.mem_of_getElem? heE
      have hat := (HEN.out e hmem).below hst.low
      have hsz := HG.out e hmem
      have hge : ∃ g p, ao = some ⟨g, p, none⟩ ∧ gb = some g := by
        obtain ⟨ao', cap', ev, -, hpos, -⟩ := Sl.make hst.row.1
        injection ev with e1 e2 e3
        subst e1
        exact hpos (by omega)
      obtain ⟨b, p, rfl, rfl⟩ := hge
      obtain ⟨k0, k1, k2, k3, k4⟩ := en_cells he
      have c0 := hst.row.1.cell rfl _ _ k0
      have c1 := hst.row.1.cell rfl _ _ k1
      have c2 := hst.row.1.cell rfl _ _ k2
      have c3 := hst.row.1.cell rfl _ _ k3
      have c4 := hst.row.1.cell rfl _ _ k4
      simp only [← Nat.add_assoc] at c1 c2 c3 c4
      obtain ⟨⟨nm, gen, parts, mem, pts⟩, mv, pv⟩ := e
      simp only at c0 c1 c2 c3 c4 hat hsz
      obtain ⟨ma, mc, rfl⟩ := hat.1.form
      obtain ⟨pa, pc, rfl⟩ := hat.2.form
      obtain ⟨W2, hW2⟩ : ∃ W, wr.alloc (.cells #[.string nm, .int .i64 gen, .int .i64 parts, .slice ma mem.length mc, .slice pa pts.length pc] 44) = W := ⟨_, rfl⟩
      have i0 : (0 : Int) ≤ (i : Int) := by omega
      have i1 : (i : Int) < (n : Int) := by omega
      clear k0 k1 k2 k3 k4 hst
      have hb2 : Below wr.heap.size wr W2 := by rw [← hW2]; exact (Below.refl _ _).alloc (Nat.le_refl _) _
      have hk2 : Blk W2 wr.heap.size #[.string nm, .int .i64 gen, .int .i64 parts, .slice ma mem.length mc, .slice pa pts.length pc] 44 := by rw [← hW2]; exact Blk.new _ _ _
      have HB2 := Lib.hid hb2
      have HC1 : Hid (∀ wx, Below W2.heap.size W2.drew wx → Calls Tryz.prog 42 #[.slice ma mem.length mc] wx fun e w' => ClnOut 9 1 wx mem.length (mem.map Value.string) e w') := Lib.hid fun wx hb => cloneS_any _ _ _ wx ((hat.1.below hb2).below (of_drew hb)) (fun u hu => by obtain ⟨x, -, rfl⟩ := List.mem_map.1 hu; rfl) (by omega)
      have HC2 : Hid (∀ wx, Below W2.heap.size W2.drew wx → Calls Tryz.prog 43 #[.slice pa pts.length pc] wx fun e w' => ClnOut 59 2 wx pts.length (pcs pts) e w') := Lib.hid fun wx hb => cloneP_any _ _ _ wx ((hat.2.below hb2).below (of_drew hb)) (pcs_one _) (by omega)
      have x3 := hk2.cell (i := 3) rfl
      have x4 := hk2.cell (i := 4) rfl
      have x3 : W2.cell? ⟨wr.heap.size, 3, none⟩ = some (.slice ma mem.length mc) := x3
      have x4 : W2.cell? ⟨wr.heap.size, 4, none⟩ = some (.slice pa pts.length pc) := x4
      have HE := Lib.hid he
      have HX0 := Lib.hid (drew_refl W2)
      have HNE : Hid (wr.heap.size ≠ b) := Lib.hid (by have := (HS.out.row.lt b rfl).2; omega)
      have HD3 : Hid (∀ wx, Below W2.heap.size W2.drew wx → (wx.cell? ⟨b, p + i * 5 + 3, none⟩ = some (.slice ma mem.length mc) ∧ wx.cell? ⟨b, p + i * 5 + 4, none⟩ = some (.slice pa pts.length pc)) ∧ wx.frozen? ⟨b, p + i * 5 + 3, none⟩ = false ∧ wx.frozen? ⟨b, p + i * 5 + 4, none⟩ = false) := Lib.hid fun wx hb => by
        have hbw := hb2.trans ((of_drew hb).mono hb2.size)
        have hr := HS.out.row.below hbw
        exact ⟨⟨hbw.cell (p := ⟨b, p + i * 5 + 3, none⟩ ) (HS.out.row.lt b rfl).2 |>.trans c3, hbw.cell (p := ⟨b, p + i * 5 + 4, none⟩) (HS.out.row.lt b rfl).2 |>.trans c4⟩, hr.1.frozen rfl _, hr.1.frozen rfl _⟩
      go_upto_region 5 with fail
      clear c0 c1 c2 c3 c4 hk2 hat hsz hb2 he heE hmem
      have hB := HX0.out
      go_region_held3 (fun w' => w'.cell? ⟨wr.heap.size, 3, none⟩ = some (.slice ma mem.length mc) ∧ w'.cell? ⟨wr.heap.size, 4, none⟩ = some (.slice pa pts.length pc)) (first | go_keep | exact ⟨dcell hB x3, dcell hB x4⟩ | exact ⟨(cell_far HNE.out).trans (dcell hB x3), (cell_far HNE.out).trans (dcell hB x4)⟩ | exact ⟨(cell_far HNE.out).trans ((cell_far HNE.out).trans (dcell hB x3)), (cell_far HNE.out).trans ((cell_far HNE.out).trans (dcell hB x4))⟩ | fail)
        (first
          | (go_at_call 42; ((with_reducible refine (HC1.out _ hB).mono ?_); rintro e w3 ⟨hb3, v3, g3, rfl, hw3⟩; obtain ⟨a3, c3, rfl⟩ := hw3.form; have hB := drew_trans hB hb3))
          | (go_at_call 43; ((with_reducible refine (HC2.out _ hB).mono ?_); rintro e w4 ⟨hb4, v4, g4, rfl, hw4⟩; obtain ⟨a4, c4, rfl⟩ := hw4.form; have hB := drew_trans hB hb4; obtain ⟨⟨d3, d4⟩, f3, f4⟩ := HD3.out _ hB))
          | fail)
      have hb23 : Below wr.heap.size wr w3 := HB2.out.trans ((of_drew hb3).mono HB2.out.size)
      have HF := Lib.hid (HS.out.step HE.out hb23 (hw3.mono HB2.out.size) hb4 hw4)
      clear hb3 hb4 hw3 hw4 hB d3 d4 f3 f4 hb23
      go_wp2_with fail
      go_roundw
      case rel =>
        obtain ⟨lab', F', hF⟩ := HF.out
        exact ⟨i + 1, lab', F', by omega, by go_num, hF⟩
      case measure => simp [intOf]; omega
    · have HI : Hid (i = n) := Lib.hid (by omega)
      clear hst
      go_wp2_with fail
      go_ret
      refine ⟨HS.out.low, _, lab, rfl, gb, F, HS.out.gs.trans HE.out, ?_, HS.out.out, fun e he => ?_⟩
      · rw [HS.out.len]; exact HS.out.row
      · obtain ⟨j, hj, rfl⟩ := List.getElem_of_mem he
        exact HS.out.done j _ (by rw [HS.out.len] at hj; rw [HI.out]; exact hj) (List.getElem?_eq_getElem hj)
end Go.Proofs.YtjccfilbihkfpaaGreatDoor
