/- PLANS AS THEY LIE IN MEMORY. -/
import Derived.Test.YtmkinnheoejphaaGreatDoorPnP
import Derived.Test.YtmkinnheoejphaaGreatDoorBase
import Derived.Test.YtmkinnheoejphaaGreatDoorAdd
import Derived.Test.YtmkinnheoejphaaGreatDoorRd
namespace Go.Proofs.YtmkinnheoejphaaGreatDoor
open Go.RowKit

/-- A slice that reads as these numbers. -/
def Ns (A : Nat → Prop) (w : World) (v : Value) (l : List Int) : Prop := Rds A w v 1 l.length (l.map (Value.int .i64))
section
variable {A A' : Nat → Prop} {w w' : World} {v : Value} {l : List Int}
theorem Ns.form (h : Ns A w v l) : ∃ a cap, v = .slice a l.length cap := Rds.form h
theorem Ns.below (h : Ns A w v l) (hb : Below w.heap.size w w') : Ns A w' v l := Rds.below h hb
theorem Ns.mono (h : Ns A w v l) (k : ∀ b, A b → A' b) : Ns A' w v l := Rds.mono h k
theorem Ns.nil (A : Nat → Prop) (w : World) : Ns A w (.slice none 0 0) [] := Rds.nil A w 1
theorem Ns.at (h : Ns A w v l) {j : Nat} {x : Int} (hj : l[j]? = some x) : ∃ b p cap, v = .slice (some ⟨b, p, none⟩) l.length cap ∧ A b ∧ b < w.heap.size ∧ w.cell? ⟨b, p + j, none⟩ = some (.int .i64 x) := by
  obtain ⟨b, p, cap, h1, h2, h3, h4⟩ := Rds.at h (Nat.lt_of_le_of_lt (Nat.zero_le _) (List.getElem?_eq_some_iff.1 hj).1)
  exact ⟨b, p, cap, h1, h2, h3, h4 j _ (by rw [List.getElem?_map, hj]; rfl)⟩
end
theorem ns_one (l : List Int) : ∀ u ∈ l.map (Value.int .i64), u.oneCell' = true := fun u hu => by
  obtain ⟨x, -, rfl⟩ := List.mem_map.1 hu
  rfl
/-- Lives' cells. -/
def lcs (l : List (Int × Int)) : List Value := l.flatMap fun q => [.int .i64 q.1, .int .i64 q.2]
theorem lcs_len (l : List (Int × Int)) : (lcs l).length = l.length * 2 := flat_length _ 2 (fun _ => rfl) l
theorem lcs_at {l : List (Int × Int)} {j : Nat} {q : Int × Int} (h : l[j]? = some q) : (lcs l)[j * 2]? = some (.int .i64 q.1) ∧ (lcs l)[j * 2 + 1]? = some (.int .i64 q.2) := by
  have h0 := flat_at (fun q : Int × Int => [Value.int .i64 q.1, .int .i64 q.2]) 2 (fun _ => rfl) l j q h
  exact ⟨h0 0 (by decide), h0 1 (by decide)⟩
theorem lcs_one (l : List (Int × Int)) : ∀ u ∈ lcs l, u.oneCell' = true := flat_one _ (fun x u hu => by
  simp only [List.mem_cons, List.not_mem_nil, or_false] at hu
  rcases hu with rfl | rfl <;> rfl) l
def Lvs (A : Nat → Prop) (w : World) (v : Value) (l : List (Int × Int)) : Prop := Rds A w v 2 l.length (lcs l)
section
variable {A A' : Nat → Prop} {w w' : World} {v : Value} {l : List (Int × Int)}
theorem Lvs.form (h : Lvs A w v l) : ∃ a cap, v = .slice a l.length cap := Rds.form h
theorem Lvs.below (h : Lvs A w v l) (hb : Below w.heap.size w w') : Lvs A w' v l := Rds.below h hb
theorem Lvs.mono (h : Lvs A w v l) (k : ∀ b, A b → A' b) : Lvs A' w v l := Rds.mono h k
theorem Lvs.nil (A : Nat → Prop) (w : World) : Lvs A w (.slice none 0 0) [] := Rds.nil A w 2
theorem Lvs.at (h : Lvs A w v l) {j : Nat} {q : Int × Int} (hj : l[j]? = some q) : ∃ b p cap, v = .slice (some ⟨b, p, none⟩) l.length cap ∧ A b ∧ b < w.heap.size ∧ w.cell? ⟨b, p + j * 2, none⟩ = some (.int .i64 q.1) ∧ w.cell? ⟨b, p + j * 2 + 1, none⟩ = some (.int .i64 q.2) := by
  obtain ⟨b, p, cap, h1, h2, h3, h4⟩ := Rds.at h (Nat.lt_of_le_of_lt (Nat.zero_le _) (List.getElem?_eq_some_iff.1 hj).1)
  obtain ⟨k0, k1⟩ := lcs_at hj
  exact ⟨b, p, cap, h1, h2, h3, h4 _ _ k0, h4 _ _ k1⟩
end
/-- A place with its chain's slice. -/
structure PE where
  x : Pn.Pt
  cv : Value
def PE.cells (e : PE) : List Value := [.int .i64 e.x.ep, e.cv, .int .i64 e.x.le]
theorem PE.cells_len (e : PE) : e.cells.length = 3 := rfl
/-- A value that reads as a place. -/
def ptv (x : Pn.Pt) (cv : Value) : Value := .agg #[.int .i64 x.ep, cv, .int .i64 x.le]
/-- A slice that reads as these places. -/
def PsR (A : Nat → Prop) (w : World) (v : Value) (L : List Pn.Pt) : Prop := ∃ E : List PE, E.map PE.x = L ∧ Rds A w v 3 E.length (E.flatMap PE.cells) ∧ ∀ e ∈ E, Ns A w e.cv e.x.ch
theorem pe_cells {E : List PE} {j : Nat} {e : PE} (h : E[j]? = some e) : (E.flatMap PE.cells)[j * 3]? = some (.int .i64 e.x.ep) ∧ (E.flatMap PE.cells)[j * 3 + 1]? = some e.cv ∧ (E.flatMap PE.cells)[j * 3 + 2]? = some (.int .i64 e.x.le) := by
  have h0 := flat_at PE.cells 3 PE.cells_len E j e h
  exact ⟨h0 0 (by decide), h0 1 (by decide), h0 2 (by decide)⟩
section
variable {A A' : Nat → Prop} {w w' : World} {v : Value} {L : List Pn.Pt}
theorem PsR.form (h : PsR A w v L) : ∃ a cap, v = .slice a L.length cap := by
  obtain ⟨E, rfl, h2, -⟩ := h
  obtain ⟨a, cap, e⟩ := h2.form
  exact ⟨a, cap, by rw [List.length_map]; exact e⟩
theorem PsR.below (h : PsR A w v L) (hb : Below w.heap.size w w') : PsR A w' v L := by
  obtain ⟨E, h1, h2, h3⟩ := h
  exact ⟨E, h1, h2.below hb, fun e he => (h3 e he).below hb⟩
theorem PsR.mono (h : PsR A w v L) (k : ∀ b, A b → A' b) : PsR A' w v L := by
  obtain ⟨E, h1, h2, h3⟩ := h
  exact ⟨E, h1, h2.mono k, fun e he => (h3 e he).mono k⟩
theorem PsR.nil (A : Nat → Prop) (w : World) : PsR A w (.slice none 0 0) [] := ⟨[], rfl, Rds.nil A w 3, fun e he => by cases he⟩
theorem PsR.at (h : PsR A w v L) {j : Nat} {x : Pn.Pt} (hj : L[j]? = some x) : ∃ b p cap cv, v = .slice (some ⟨b, p, none⟩) L.length cap ∧ A b ∧ b < w.heap.size ∧ Ns A w cv x.ch ∧
    w.cell? ⟨b, p + j * 3, none⟩ = some (.int .i64 x.ep) ∧ w.cell? ⟨b, p + j * 3 + 1, none⟩ = some cv ∧ w.cell? ⟨b, p + j * 3 + 2, none⟩ = some (.int .i64 x.le) := by
  obtain ⟨E, rfl, h2, h3⟩ := h
  rw [List.getElem?_map] at hj
  cases he : E[j]? with
  | none => rw [he] at hj; cases hj
  | some e =>
    rw [he] at hj
    simp only [Option.map_some, Option.some.injEq] at hj
    subst hj
    have hl := (List.getElem?_eq_some_iff.1 he).1
    obtain ⟨b, p, cap, k1, k2, k3, k4⟩ := h2.at (by omega)
    obtain ⟨c0, c1, c2⟩ := pe_cells he
    exact ⟨b, p, cap, e.cv, by rw [List.length_map]; exact k1, k2, k3, h3 e (List.mem_of_getElem? he), k4 _ _ c0, k4 _ _ c1, k4 _ _ c2⟩
end
theorem pe_one (E : List PE) (h : ∀ e ∈ E, e.cv.oneCell' = true) : ∀ u ∈ E.flatMap PE.cells, u.oneCell' = true := by
  intro u hu
  obtain ⟨e, he, hx⟩ := List.mem_flatMap.1 hu
  have k1 := h e he
  simp only [PE.cells, List.mem_cons, List.not_mem_nil, or_false] at hx
  rcases hx with rfl | rfl | rfl <;> first | rfl | exact k1
theorem slice_one {v : Value} {n : Nat} (h : ∃ a cap, v = .slice a n cap) : v.oneCell' = true := by obtain ⟨a, cap, rfl⟩ := h; rfl
/-- A value that reads as a plan. -/
def plv (p : Pn.P) (sv lv : Value) : Value := .agg #[.int .i64 p.nodes, .int .i64 p.copies, sv, lv]
def PlR (A : Nat → Prop) (w : World) (pv : Value) (p : Pn.P) : Prop := ∃ sv lv, pv = plv p sv lv ∧ PsR A w sv p.parts ∧ Lvs A w lv p.lives
theorem PlR.below {A : Nat → Prop} {w w' : World} {v : Value} {p : Pn.P} (h : PlR A w v p) (hb : Below w.heap.size w w') : PlR A w' v p := by
  obtain ⟨sv, lv, h1, h2, h3⟩ := h
  exact ⟨sv, lv, h1, h2.below hb, h3.below hb⟩
theorem PlR.mono {A A' : Nat → Prop} {w : World} {v : Value} {p : Pn.P} (h : PlR A w v p) (k : ∀ b, A b → A' b) : PlR A' w v p := by
  obtain ⟨sv, lv, h1, h2, h3⟩ := h
  exact ⟨sv, lv, h1, h2.mono k, h3.mono k⟩
def Pn.zeroP : Pn.P := ⟨0, 0, [], []⟩
theorem PlR.zero (A : Nat → Prop) (w : World) : PlR A w (.agg #[.int .i64 0, .int .i64 0, .slice none 0 0, .slice none 0 0]) Pn.zeroP := ⟨_, _, rfl, PsR.nil A w, Lvs.nil A w⟩

/-! ### Plans that a call owns -/
theorem Sl.set {w : World} {g p cap e size n j : Nat} {xs : List Value} (h : Sl w (.slice (some ⟨g, p, none⟩) n cap) (some g) e size n xs) (hj : j < n * size) (u : Value) :
    Sl (w.setCell ⟨g, p + j, none⟩ u) (.slice (some ⟨g, p, none⟩) n cap) (some g) e size n (xs.set j u) := by
  obtain ⟨h1, h2⟩ := h
  refine ⟨by rw [List.length_set]; exact h1, ?_⟩
  rcases h2 with ⟨e, _⟩ | ⟨g', p', cap', cur, e1, e2, hg, hc, hs, ht⟩
  · cases e
  · cases e1
    cases e2
    have hlt := (Array.getElem?_eq_some_iff.1 hg).1
    have hcs : n * size ≤ cap * size := Nat.mul_le_mul_right _ hc
    refine .inr ⟨g, p, cap, cur.setIfInBounds (p + j) u, rfl, rfl, ?_, hc, by rw [Array.size_setIfInBounds]; exact hs, ?_⟩
    · have h' : w.heap[g] = .cells cur e (0, 0) := by simpa [Array.getElem?_eq_getElem hlt] using hg
      show (w.heap.modify g _)[g]? = _
      rw [Array.getElem?_eq_getElem (by simpa using hlt), Array.getElem_modify_self, h']
      rfl
    · rw [Array.toList_setIfInBounds]
      subst ht
      apply List.ext_getElem?
      intro i
      simp only [List.getElem?_take, List.getElem?_drop, List.getElem?_set, List.length_take, List.length_drop, Array.length_toList]
      by_cases hi : i < n * size
      · simp only [hi, if_true]
        by_cases hij : j = i
        · subst hij
          have a1 : p + j < cur.size := by omega
          have a2 : j < min (n * size) (cur.size - p) := by omega
          simp [a1, a2]
        · have : ¬ (p + j = p + i) := by omega
          simp [hij]
      · simp only [hi, if_false]
        have : ¬ (j = i) := by omega
        simp [this]
/-- What a block is for: the places, the lives, a place's chain, something else. -/
inductive Rl where
  | ps : Rl
  | lv : Rl
  | ch : Nat → Rl
  | no : Rl
abbrev Lab := Nat → Rl
def relab (lab : Lab) (n : Nat) (r : Rl) : Lab := fun b => if b < n then lab b else r
theorem relab_lt {lab : Lab} {n : Nat} {r : Rl} {b : Nat} (h : b < n) : relab lab n r b = lab b := if_pos h
theorem relab_ge {lab : Lab} {n : Nat} {r : Rl} {b : Nat} (h : n ≤ b) : relab lab n r b = r := if_neg (by omega)
/-- A list of numbers in memory of its own. -/
def NsO (z : Nat) (w : World) (v : Value) (gb : Option Nat) (l : List Int) : Prop := Wz z w v gb 3 1 l.length (l.map (Value.int .i64))
theorem NsO.ns {z : Nat} {w : World} {v : Value} {gb : Option Nat} {l : List Int} (h : NsO z w v gb l) : Ns (fun b => z ≤ b) w v l := Wz.rd h
def ChO (z : Nat) (lab : Lab) (w : World) (k : Nat) (cv : Value) (l : List Int) : Prop := ∃ cb, NsO z w cv cb l ∧ ∀ b, cb = some b → lab b = .ch k
def PsE (z : Nat) (lab : Lab) (w : World) (v : Value) (gb : Option Nat) (E : List PE) : Prop :=
  Wz z w v gb 49 3 E.length (E.flatMap PE.cells) ∧ (∀ b, gb = some b → lab b = .ps) ∧ ∀ (k : Nat) (e : PE), E[k]? = some e → ChO z lab w k e.cv e.x.ch
def PsO (z : Nat) (lab : Lab) (w : World) (v : Value) (L : List Pn.Pt) : Prop := ∃ gb E, E.map PE.x = L ∧ PsE z lab w v gb E
def LvO (z : Nat) (lab : Lab) (w : World) (v : Value) (l : List (Int × Int)) : Prop := ∃ gb, Wz z w v gb 55 2 l.length (lcs l) ∧ ∀ b, gb = some b → lab b = .lv
section
variable {z : Nat} {lab lab' : Lab} {w w' : World} {v cv : Value} {gb : Option Nat} {E : List PE} {L : List Pn.Pt} {l : List Int} {k : Nat} {q : List (Int × Int)}
theorem ChO.ns (h : ChO z lab w k cv l) : Ns (fun b => z ≤ b) w cv l := let ⟨_, h1, _⟩ := h; h1.ns
theorem ChO.keep (h : ChO z lab w k cv l) (c : ∀ b, b < w.heap.size → z ≤ b → lab b = .ch k → w'.heap[b]? = w.heap[b]? ∧ lab' b = .ch k) : ChO z lab' w' k cv l := by
  obtain ⟨cb, h1, h2⟩ := h
  exact ⟨cb, ⟨h1.1.same fun b e => (c b (h1.lt b e).2 (h1.lt b e).1 (h2 b e)).1, h1.2⟩, fun b e => (c b (h1.lt b e).2 (h1.lt b e).1 (h2 b e)).2⟩
theorem PsE.keep (h : PsE z lab w v gb E) (c : ∀ b, b < w.heap.size → z ≤ b → (lab b = .ps ∨ ∃ k, lab b = .ch k) → w'.heap[b]? = w.heap[b]? ∧ lab' b = lab b) : PsE z lab' w' v gb E :=
  ⟨⟨h.1.1.same fun b e => (c b (h.1.lt b e).2 (h.1.lt b e).1 (.inl (h.2.1 b e))).1, h.1.2⟩, fun b e => (c b (h.1.lt b e).2 (h.1.lt b e).1 (.inl (h.2.1 b e))).2.trans (h.2.1 b e),
    fun k e he => (h.2.2 k e he).keep fun b hl hz hb => ⟨(c b hl hz (.inr ⟨k, hb⟩)).1, (c b hl hz (.inr ⟨k, hb⟩)).2.trans hb⟩⟩
theorem PsO.keep (h : PsO z lab w v L) (c : ∀ b, b < w.heap.size → z ≤ b → (lab b = .ps ∨ ∃ k, lab b = .ch k) → w'.heap[b]? = w.heap[b]? ∧ lab' b = lab b) : PsO z lab' w' v L := by
  obtain ⟨gb, E, h1, h2⟩ := h
  exact ⟨gb, E, h1, h2.keep c⟩
theorem PsO.below (h : PsO z lab w v L) (hb : Below w.heap.size w w') : PsO z lab w' v L := h.keep fun b hl _ _ => ⟨hb.block b hl, rfl⟩
theorem PsO.below' (h : PsO z lab w v L) (hb : Below w.heap.size w w') (r : Rl) : PsO z (relab lab w.heap.size r) w' v L := h.keep fun b hl _ _ => ⟨hb.block b hl, relab_lt hl⟩
theorem LvO.keep (h : LvO z lab w v q) (c : ∀ b, b < w.heap.size → z ≤ b → lab b = .lv → w'.heap[b]? = w.heap[b]? ∧ lab' b = .lv) : LvO z lab' w' v q := by
  obtain ⟨gb, h1, h2⟩ := h
  exact ⟨gb, ⟨h1.1.same fun b e => (c b (h1.lt b e).2 (h1.lt b e).1 (h2 b e)).1, h1.2⟩, fun b e => (c b (h1.lt b e).2 (h1.lt b e).1 (h2 b e)).2⟩
theorem LvO.below (h : LvO z lab w v q) (hb : Below w.heap.size w w') : LvO z lab w' v q := h.keep fun b hl _ e => ⟨hb.block b hl, e⟩
theorem LvO.below' (h : LvO z lab w v q) (hb : Below w.heap.size w w') (r : Rl) : LvO z (relab lab w.heap.size r) w' v q := h.keep fun b hl _ e => ⟨hb.block b hl, (relab_lt hl).trans e⟩
theorem LvO.rd (h : LvO z lab w v q) : Lvs (fun b => z ≤ b) w v q := let ⟨_, h1, _⟩ := h; h1.rd
theorem PsO.rd (h : PsO z lab w v L) : PsR (fun b => z ≤ b) w v L := by
  obtain ⟨gb, E, h1, h2⟩ := h
  refine ⟨E, h1, h2.1.rd, fun e he => ?_⟩
  obtain ⟨i, hi, rfl⟩ := List.getElem_of_mem he
  exact (h2.2.2 i _ (List.getElem?_eq_getElem hi)).ns
theorem PsO.form (h : PsO z lab w v L) : ∃ a cap, v = .slice a L.length cap := h.rd.form
theorem PsE.one (h : PsE z lab w v gb E) : ∀ u ∈ E.flatMap PE.cells, u.oneCell' = true := pe_one E fun e he => by
  obtain ⟨i, hi, rfl⟩ := List.getElem_of_mem he
  exact slice_one (h.2.2 i _ (List.getElem?_eq_getElem hi)).ns.form
end
/-- A plan in memory of its own. -/
def PlO (z : Nat) (w : World) (pv : Value) (p : Pn.P) : Prop := ∃ lab sv lv, pv = plv p sv lv ∧ PsO z lab w sv p.parts ∧ LvO z lab w lv p.lives
theorem PlO.rd {z : Nat} {w : World} {pv : Value} {p : Pn.P} (h : PlO z w pv p) : PlR (fun b => z ≤ b) w pv p := by
  obtain ⟨lab, sv, lv, h1, h2, h3⟩ := h
  exact ⟨sv, lv, h1, h2.rd, h3.rd⟩
theorem PlO.below {z : Nat} {w w' : World} {pv : Value} {p : Pn.P} (h : PlO z w pv p) (hb : Below w.heap.size w w') : PlO z w' pv p := by
  obtain ⟨lab, sv, lv, h1, h2, h3⟩ := h
  exact ⟨lab, sv, lv, h1, h2.below hb, h3.below hb⟩
theorem flat_put : ∀ (E : List PE) (k : Nat) (e : PE), k < E.length → (((E.flatMap PE.cells).set (k * 3) (.int .i64 e.x.ep)).set (k * 3 + 1) e.cv).set (k * 3 + 2) (.int .i64 e.x.le) = (E.set k e).flatMap PE.cells
  | [], k, e, h => by simp at h
  | y :: E, 0, e, _ => by simp [List.flatMap_cons, PE.cells]
  | y :: E, k + 1, e, h => by
    have := flat_put E k e (by simpa using h)
    simp only [List.flatMap_cons, List.set_cons_succ]
    rw [← this]
    have e1 : y.cells.length = 3 := rfl
    rw [show (k + 1) * 3 = y.cells.length + k * 3 by omega]
    simp only [Nat.add_assoc]
    rw [List.set_append_right _ _ (by omega), List.set_append_right _ _ (by omega), List.set_append_right _ _ (by omega)]
    simp only [Nat.add_sub_cancel_left]
theorem set_same {α : Type} {l : List α} {i : Nat} {x : α} (h : l[i]? = some x) : l.set i x = l := by
  apply List.ext_getElem?
  intro j
  rw [List.getElem?_set]
  split
  · rename_i hij
    subst hij
    rw [if_pos (List.getElem?_eq_some_iff.1 h).1, h]
  · rfl
theorem flat_put0 {E : List PE} {k : Nat} {e : PE} (h : E[k]? = some e) (n : Int) : (E.flatMap PE.cells).set (k * 3) (.int .i64 n) = (E.set k ⟨⟨n, e.x.ch, e.x.le⟩, e.cv⟩).flatMap PE.cells := by
  rw [← flat_put E k _ (List.getElem?_eq_some_iff.1 h).1]
  obtain ⟨c0, c1, c2⟩ := pe_cells h
  have h1 : ((E.flatMap PE.cells).set (k * 3) (.int .i64 n))[k * 3 + 1]? = some e.cv := by rw [List.getElem?_set_ne (by omega)]; exact c1
  have h2 : ((E.flatMap PE.cells).set (k * 3) (.int .i64 n))[k * 3 + 2]? = some (.int .i64 e.x.le) := by rw [List.getElem?_set_ne (by omega)]; exact c2
  rw [set_same h1, set_same h2]
theorem flat_put1 {E : List PE} {k : Nat} {e : PE} (h : E[k]? = some e) (l : List Int) (cv : Value) : (E.flatMap PE.cells).set (k * 3 + 1) cv = (E.set k ⟨⟨e.x.ep, l, e.x.le⟩, cv⟩).flatMap PE.cells := by
  rw [← flat_put E k _ (List.getElem?_eq_some_iff.1 h).1]
  obtain ⟨c0, c1, c2⟩ := pe_cells h
  have h2 : ((E.flatMap PE.cells).set (k * 3 + 1) cv)[k * 3 + 2]? = some (.int .i64 e.x.le) := by rw [List.getElem?_set_ne (by omega)]; exact c2
  rw [set_same c0, set_same h2]
theorem flat_put2 {E : List PE} {k : Nat} {e : PE} (h : E[k]? = some e) (n : Int) : (E.flatMap PE.cells).set (k * 3 + 2) (.int .i64 n) = (E.set k ⟨⟨e.x.ep, e.x.ch, n⟩, e.cv⟩).flatMap PE.cells := by
  rw [← flat_put E k _ (List.getElem?_eq_some_iff.1 h).1]
  obtain ⟨c0, c1, c2⟩ := pe_cells h
  rw [set_same c0, set_same c1]
/-- A place is changed: its chain's block, cells of the places' block. -/
theorem PsE.mut {z : Nat} {lab : Lab} {w w1 w2 : World} {v : Value} {g k : Nat} {E : List PE} {e e' : PE} {cb cb' : Option Nat} (h : PsE z lab w v (some g) E) (he : E[k]? = some e)
    (hcb : ∀ b, cb = some b → lab b = .ch k ∧ b < w.heap.size) (hg : w.grownBy w1 cb) (_hz : z ≤ w.heap.size) (hch : NsO z w1 e'.cv cb' e'.x.ch) (hcb' : ∀ b, cb' = some b → cb = some b ∨ w.heap.size ≤ b)
    (hk : Kb g w1 w2) (hrow : Wz z w2 v (some g) 49 3 E.length ((E.set k e').flatMap PE.cells)) : PsE z (relab lab w.heap.size (.ch k)) w2 v (some g) (E.set k e') := by
  have hgl := h.1.lt g rfl
  have hgn := h.2.1 g rfl
  have hs1 := hg.size
  refine ⟨by rw [List.length_set]; exact hrow, fun b hb => ?_, fun j x hx => ?_⟩
  · cases hb
    rw [relab_lt hgl.2]; exact hgn
  · rw [List.getElem?_set] at hx
    split at hx
    · rename_i hkj
      subst hkj
      rw [if_pos (List.getElem?_eq_some_iff.1 he).1] at hx
      injection hx with hx
      subst hx
      refine ⟨cb', Wz.kb hch hk (fun e2 => ?_), fun b hb => ?_⟩
      · rcases hcb' g e2 with e3 | e3
        · rw [(hcb g e3).1] at hgn; cases hgn
        · omega
      · rcases hcb' b hb with e3 | e3
        · rw [relab_lt (hcb b e3).2]; exact (hcb b e3).1
        · rw [relab_ge e3]
    · rename_i hkj
      refine (h.2.2 j x hx).keep fun b hl _ hb => ⟨?_, ?_⟩
      · rw [hk.block b (by omega) (fun e2 => by subst e2; rw [hb] at hgn; cases hgn), hg.block b hl (fun e2 => by rw [(hcb b e2.symm).1] at hb; injection hb with hb; exact hkj hb)]
      · rw [relab_lt hl]; exact hb
end Go.Proofs.YtmkinnheoejphaaGreatDoor
