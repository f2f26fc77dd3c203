import Derived.Test.YtjccfilbihkfpaaGreatDoorM04
import Derived.Lib.Bytealg

/- GROUPS, PLAINLY: what records tell of them, what requests bring. Nothing here knows the program. -/
namespace Go.Proofs.YtjccfilbihkfpaaGreatDoor
namespace Fk

/-! ### The order of names, as a comparison -/
def lt (a b : ByteArray) : Bool := Op.bytesLess a.toList b.toList
def cmp (a b : ByteArray) : Int := Lib.compareBytes a.data.toList b.data.toList
theorem cmpL_lt : ∀ x y : List UInt8, Lib.compareBytes x y < 0 ↔ Op.bytesLess x y = true
  | [], [] => by simp [Lib.compareBytes, Op.bytesLess]
  | [], _ :: _ => by simp [Lib.compareBytes, Op.bytesLess]
  | _ :: _, [] => by simp [Lib.compareBytes, Op.bytesLess]
  | a :: x, b :: y => by
    have ih := cmpL_lt x y
    simp only [Lib.compareBytes, Op.bytesLess, Bool.or_eq_true, Bool.and_eq_true, decide_eq_true_eq, beq_iff_eq]
    by_cases h : a < b
    · simp [h]
    · by_cases k : b < a
      · have hne : a ≠ b := by rintro rfl; exact h k
        simp [h, k, hne]
      · have he : a = b := UInt8.toNat_inj.1 (by rw [UInt8.lt_iff_toNat_lt] at h k; omega)
        simp [he, ih]
theorem cmpL_eq0 : ∀ x y : List UInt8, Lib.compareBytes x y = 0 ↔ x = y
  | [], [] => by simp [Lib.compareBytes]
  | [], _ :: _ => by simp [Lib.compareBytes]
  | _ :: _, [] => by simp [Lib.compareBytes]
  | a :: x, b :: y => by
    have ih := cmpL_eq0 x y
    simp only [Lib.compareBytes]
    by_cases h : a < b
    · have hne : a ≠ b := by rintro rfl; exact UInt8.lt_irrefl _ h
      simp [h, hne]
    · by_cases k : b < a
      · have hne : a ≠ b := by rintro rfl; exact h k
        simp [h, k, hne]
      · have he : a = b := UInt8.toNat_inj.1 (by rw [UInt8.lt_iff_toNat_lt] at h k; omega)
        simp [he, ih]
theorem cmp_lt {a b : ByteArray} : cmp a b < 0 ↔ lt a b = true := by unfold cmp lt; rw [cmpL_lt, Lib.toList_data, Lib.toList_data]
theorem cmp_eq {a b : ByteArray} : cmp a b = 0 ↔ a = b := by
  unfold cmp
  rw [cmpL_eq0]
  exact ⟨fun h => ByteArray.ext (Array.toList_inj.1 h), fun h => by rw [h]⟩
theorem lt_trans {a b c : ByteArray} (h : lt a b = true) (k : lt b c = true) : lt a c = true := Sh.less_trans _ _ _ h k
theorem lt_irr (a : ByteArray) : lt a a = false := Sh.less_irrefl _
theorem lt_ne {a b : ByteArray} (h : lt a b = true) : a ≠ b := by rintro rfl; rw [lt_irr] at h; cases h
def cmpI (a b : Int) : Int := if a < b then -1 else if b < a then 1 else 0
theorem cmpI_lt {a b : Int} : cmpI a b < 0 ↔ a < b := by unfold cmpI; split <;> (try split) <;> simp_all
theorem cmpI_eq {a b : Int} : cmpI a b = 0 ↔ a = b := by unfold cmpI; split <;> (try split) <;> simp_all <;> omega

/-! ### Where something stands, or would stand -/
section
variable {α : Type} {c : α → Int} {l : List α}
def low (c : α → Int) : List α → Nat
  | [] => 0
  | x :: l => if c x < 0 then low c l + 1 else 0
def hit (c : α → Int) (l : List α) : Option α := match l[low c l]? with
  | some x => if c x = 0 then some x else none
  | none => none
def ins (l : List α) (i : Nat) (x : α) : List α := l.take i ++ x :: l.drop i
/-- What stands ahead of something less is less. -/
def Mono (c : α → Int) : List α → Prop
  | [] => True
  | x :: l => (∀ y ∈ l, c y < 0 → c x < 0) ∧ (∀ y ∈ l, c y = 0 → c x < 0) ∧ Mono c l
theorem low_le : ∀ l : List α, low c l ≤ l.length
  | [] => Nat.le_refl _
  | x :: l => by unfold low; split; have := low_le l; simp; omega; simp
theorem low_at : ∀ (l : List α) (t : Nat) (x : α), t < low c l → l[t]? = some x → c x < 0
  | [], t, x, h, _ => by simp [low] at h
  | y :: l, 0, x, h, hx => by
    simp at hx
    subst hx
    unfold low at h
    split at h
    · assumption
    · omega
  | y :: l, t + 1, x, h, hx => by
    unfold low at h
    split at h
    · exact low_at l t x (by omega) (by simpa using hx)
    · omega
theorem low_ge : ∀ (l : List α), Mono c l → ∀ (t : Nat) (x : α), low c l ≤ t → l[t]? = some x → 0 ≤ c x
  | [], _, t, x, _, hx => by simp at hx
  | y :: l, hm, 0, x, h, hx => by
    simp at hx
    subst hx
    unfold low at h
    split at h
    · omega
    · omega
  | y :: l, hm, t + 1, x, h, hx => by
    have hx' : l[t]? = some x := by simpa using hx
    unfold low at h
    split at h
    · exact low_ge l hm.2.2 t x (by omega) hx'
    · rename_i hy
      refine Int.not_lt.1 fun hlt => hy (hm.1 x (List.mem_of_getElem? hx') hlt)
theorem hit_some {x : α} (h : hit c l = some x) : l[low c l]? = some x ∧ c x = 0 := by
  unfold hit at h
  split at h
  · rename_i y hy
    split at h
    · injection h with h; subst h; exact ⟨hy, by assumption⟩
    · cases h
  · cases h
theorem hit_none (hm : Mono c l) (h : hit c l = none) : ∀ x ∈ l, c x ≠ 0 := by
  induction l with
  | nil => intro x hx; cases hx
  | cons y l ih =>
    unfold hit low at h
    by_cases hy : c y < 0
    · rw [if_pos hy, List.getElem?_cons_succ] at h
      intro x hx
      rcases List.mem_cons.1 hx with rfl | hx
      · omega
      · exact ih hm.2.2 h x hx
    · rw [if_neg hy] at h
      simp only [List.getElem?_cons_zero] at h
      intro x hx
      rcases List.mem_cons.1 hx with rfl | hx
      · split at h
        · cases h
        · assumption
      · intro e
        exact hy (hm.2.1 x hx e)
theorem hit_mem {x : α} (h : hit c l = some x) : x ∈ l := List.mem_of_getElem? (hit_some h).1
theorem hit_isSome : (hit c l).isSome = (decide (low c l < l.length) && match l[low c l]? with | some x => decide (c x = 0) | none => false) := by
  unfold hit
  rcases Nat.lt_or_ge (low c l) l.length with h | h
  · rw [List.getElem?_eq_getElem h, decide_eq_true h]
    simp only [Bool.true_and]
    split <;> simp_all
  · rw [List.getElem?_eq_none h, decide_eq_false (by omega)]
    simp
theorem ins_len {i : Nat} {x : α} (h : i ≤ l.length) : (ins l i x).length = l.length + 1 := by unfold ins; simp; omega
theorem ins_mem {i : Nat} {x y : α} : y ∈ ins l i x ↔ y = x ∨ y ∈ l := by
  unfold ins
  rw [List.mem_append, List.mem_cons]
  constructor
  · rintro (h | h | h)
    · exact .inr (List.mem_of_mem_take h)
    · exact .inl h
    · exact .inr (List.mem_of_mem_drop h)
  · rintro (h | h)
    · exact .inr (.inl h)
    · rw [← List.take_append_drop i l] at h
      rcases List.mem_append.1 h with h | h
      · exact .inl h
      · exact .inr (.inr h)
/-- A relation that holds between any two, the earlier first, holds behind an insertion where it belongs. -/
theorem ins_pair {R : α → α → Prop} {x : α} (hp : l.Pairwise R) (ha : ∀ y ∈ l.take (low c l), R y x) (hb : ∀ y ∈ l.drop (low c l), R x y) : (ins l (low c l) x).Pairwise R := by
  unfold ins
  rw [List.pairwise_append]
  have h0 := hp
  rw [← List.take_append_drop (low c l) l, List.pairwise_append] at h0
  refine ⟨h0.1, List.pairwise_cons.2 ⟨hb, h0.2.1⟩, fun a h1 b h2 => ?_⟩
  rcases List.mem_cons.1 h2 with rfl | h2
  · exact ha a h1
  · exact h0.2.2 a h1 b h2
theorem mem_take_at {n : Nat} {y : α} (h : y ∈ l.take n) : ∃ t, t < n ∧ l[t]? = some y := by
  obtain ⟨t, ht, e⟩ := List.getElem_of_mem h
  rw [List.length_take] at ht
  exact ⟨t, by omega, by rw [← e, List.getElem_take]; exact List.getElem?_eq_getElem _⟩
theorem mem_drop_at {n : Nat} {y : α} (h : y ∈ l.drop n) : ∃ t, n ≤ t ∧ l[t]? = some y := by
  obtain ⟨t, ht, e⟩ := List.getElem_of_mem h
  rw [List.length_drop] at ht
  exact ⟨n + t, by omega, by rw [← e, List.getElem_drop]; exact List.getElem?_eq_getElem _⟩
end
theorem mono_of {α : Type} {c : α → Int} {R : α → α → Prop} (hR : ∀ a b, R a b → (c b < 0 → c a < 0) ∧ (c b = 0 → c a < 0)) : ∀ {l : List α}, l.Pairwise R → Mono c l
  | [], _ => trivial
  | x :: l, h => by
    rw [List.pairwise_cons] at h
    exact ⟨fun y hy => (hR x y (h.1 y hy)).1, fun y hy => (hR x y (h.1 y hy)).2, mono_of hR h.2⟩

/-! ### Groups -/
structure G where
  name : ByteArray
  gen : Int
  parts : Int
  mem : List ByteArray
  pts : List (Int × Int)
def zeroG : G := ⟨⟨#[]⟩, 0, 0, [], []⟩
/-- What a record tells. -/
inductive Wd where
  | none : Wd
  | turn : ByteArray → Int → Int → List ByteArray → Wd
  | point : ByteArray → Int → Int → Int → Wd
  | no : Int → Wd
def cN (n : ByteArray) (g : G) : Int := cmp g.name n
def cS (n : ByteArray) (m : ByteArray) : Int := cmp m n
def cP (p : Int) (q : Int × Int) : Int := cmpI q.1 p
def fnd (L : List G) (n : ByteArray) : Option G := hit (cN n) L
def fndD (L : List G) (n : ByteArray) : G := (fnd L n).getD zeroG
def putPt (l : List (Int × Int)) (p o : Int) : List (Int × Int) := if (hit (cP p) l).isSome then l.set (low (cP p) l) (p, o) else ins l (low (cP p) l) (p, o)
/-- The groups behind what a record tells. -/
def step (L : List G) : Wd → List G
  | .turn n g p ms => match fnd L n with
    | some o => if g = o.gen + 1 then L.set (low (cN n) L) ⟨n, g, p, ms, o.pts⟩ else L
    | none => if g = 1 ∧ L.length < 4 then ins L (low (cN n) L) ⟨n, g, p, ms, []⟩ else L
  | .point n p o g => match fnd L n with
    | some x => if x.gen = g then L.set (low (cN n) L) { x with pts := putPt x.pts p o } else L
    | none => L
  | _ => L
structure OkG (g : G) : Prop where
  name : Sh.nameB g.name = true
  gen : 1 ≤ g.gen
  p0 : 0 ≤ g.parts
  p4 : g.parts ≤ 4
  mem : Sh.goodB g.mem = true
  pts : g.pts.Pairwise fun a b => a.1 < b.1
  low : ∀ q ∈ g.pts, 0 ≤ q.1 ∧ q.1 < 4 ∧ 0 ≤ q.2 ∧ q.2 ≤ 1099511627776
structure Ok (L : List G) : Prop where
  len : L.length ≤ 4
  rise : L.Pairwise fun a b => lt a.name b.name = true
  all : ∀ g ∈ L, OkG g
def OkW : Wd → Prop
  | .turn n _ p ms => Sh.nameB n = true ∧ 0 ≤ p ∧ p ≤ 4 ∧ Sh.goodB ms = true
  | .point n p o _ => Sh.nameB n = true ∧ 0 ≤ p ∧ p < 4 ∧ 0 ≤ o ∧ o ≤ 1099511627776
  | _ => True
theorem cN_rel (n : ByteArray) (a b : G) (h : lt a.name b.name = true) : (cN n b < 0 → cN n a < 0) ∧ (cN n b = 0 → cN n a < 0) := by
  unfold cN
  rw [cmp_lt, cmp_lt, cmp_eq]
  exact ⟨fun k => lt_trans h k, fun k => k ▸ h⟩
theorem cS_rel (n : ByteArray) (a b : ByteArray) (h : lt a b = true) : (cS n b < 0 → cS n a < 0) ∧ (cS n b = 0 → cS n a < 0) := by
  unfold cS
  rw [cmp_lt, cmp_lt, cmp_eq]
  exact ⟨fun k => lt_trans h k, fun k => k ▸ h⟩
theorem cP_rel (p : Int) (a b : Int × Int) (h : a.1 < b.1) : (cP p b < 0 → cP p a < 0) ∧ (cP p b = 0 → cP p a < 0) := by
  unfold cP
  rw [cmpI_lt, cmpI_lt, cmpI_eq]
  exact ⟨fun k => by omega, fun k => by omega⟩
theorem Ok.mono {L : List G} (h : Ok L) (n : ByteArray) : Mono (cN n) L := mono_of (cN_rel n) h.rise
theorem good_rise {ms : List ByteArray} (h : Sh.goodB ms = true) : ms.Pairwise fun a b => lt a b = true := by
  rw [List.pairwise_iff_getElem]
  intro i j hi hj hij
  have := Sh.good_lt h hij hj
  rw [List.getD_eq_getElem?_getD, List.getD_eq_getElem?_getD, List.getElem?_eq_getElem hi, List.getElem?_eq_getElem hj] at this
  exact this
theorem mem_mono {ms : List ByteArray} (h : Sh.goodB ms = true) (n : ByteArray) : Mono (cS n) ms := mono_of (cS_rel n) (good_rise h)
theorem OkG.pmono {g : G} (h : OkG g) (p : Int) : Mono (cP p) g.pts := mono_of (cP_rel p) h.pts
theorem okZ_mem : Sh.goodB ([] : List ByteArray) = true := rfl
theorem fnd_some {L : List G} {n : ByteArray} {g : G} (h : fnd L n = some g) : L[low (cN n) L]? = some g ∧ g.name = n := by
  obtain ⟨h1, h2⟩ := hit_some h
  exact ⟨h1, cmp_eq.1 h2⟩
theorem fnd_none {L : List G} (hk : Ok L) {n : ByteArray} (h : fnd L n = none) : ∀ g ∈ L, g.name ≠ n := fun g hg e => hit_none (hk.mono n) h g hg (cmp_eq.2 e)
/-- What there is of a name is found. -/
theorem fnd_of_mem {L : List G} (hk : Ok L) {g : G} (hg : g ∈ L) : fnd L g.name = some g := by
  cases h : fnd L g.name with
  | none => exact absurd rfl (fnd_none hk h g hg)
  | some x =>
    obtain ⟨h1, h2⟩ := fnd_some h
    have hx := List.mem_of_getElem? h1
    obtain ⟨i, hi, rfl⟩ := List.getElem_of_mem hg
    obtain ⟨j, hj, rfl⟩ := List.getElem_of_mem hx
    have hp := List.pairwise_iff_getElem.1 hk.rise
    rcases Nat.lt_trichotomy i j with k | k | k
    · exact absurd h2.symm (lt_ne (hp i j hi hj k))
    · subst k; rfl
    · exact absurd h2 (lt_ne (hp j i hj hi k))
end Fk
end Go.Proofs.YtjccfilbihkfpaaGreatDoor

/- GROUPS AS THEY LIE IN MEMORY. -/
namespace Go.Proofs.YtjccfilbihkfpaaGreatDoor
open Go.RowKit

/-- Points' cells. -/
def pcs (l : List (Int × Int)) : List Value := l.flatMap fun q => [.int .i64 q.1, .int .i64 q.2]
theorem pcs_len (l : List (Int × Int)) : (pcs l).length = l.length * 2 := flat_length _ 2 (fun _ => rfl) l
theorem pcs_at {l : List (Int × Int)} {j : Nat} {q : Int × Int} (h : l[j]? = some q) : (pcs l)[j * 2]? = some (.int .i64 q.1) ∧ (pcs l)[j * 2 + 1]? = some (.int .i64 q.2) := by
  have h0 := flat_at (fun q : Int × Int => [Value.int .i64 q.1, .int .i64 q.2]) 2 (fun _ => rfl) l j q h
  exact ⟨h0 0 (by decide), h0 1 (by decide)⟩
theorem pcs_one (l : List (Int × Int)) : ∀ u ∈ pcs l, u.oneCell' = true := flat_one _ (fun x u hu => by
  simp only [List.mem_cons, List.not_mem_nil, or_false] at hu
  rcases hu with rfl | rfl <;> rfl) l
/-- A group with its two slices. -/
structure En where
  g : Fk.G
  mv : Value
  pv : Value
def En.cells (e : En) : List Value := [.string e.g.name, .int .i64 e.g.gen, .int .i64 e.g.parts, e.mv, e.pv]
theorem En.cells_len (e : En) : e.cells.length = 5 := rfl
abbrev gval (g : Fk.G) (mv pv : Value) : Value := .agg #[.string g.name, .int .i64 g.gen, .int .i64 g.parts, mv, pv]
/-- A slice that reads as these points. -/
def Pts (A : Nat → Prop) (w : World) (v : Value) (l : List (Int × Int)) : Prop := Rds A w v 2 l.length (pcs l)
theorem Pts.form {A : Nat → Prop} {w : World} {v : Value} {l : List (Int × Int)} (h : Pts A w v l) : ∃ a cap, v = .slice a l.length cap := Rds.form h
theorem Pts.below {A : Nat → Prop} {w w' : World} {v : Value} {l : List (Int × Int)} (h : Pts A w v l) (hb : Below w.heap.size w w') : Pts A w' v l := Rds.below h hb
theorem Pts.at {A : Nat → Prop} {w : World} {v : Value} {l : List (Int × Int)} (h : Pts A w v l) {j : Nat} {q : Int × Int} (hj : l[j]? = some q) : ∃ b p cap, v = .slice (some ⟨b, p, none⟩) l.length cap ∧ A b ∧ b < w.heap.size ∧ w.cell? ⟨b, p + j * 2, none⟩ = some (.int .i64 q.1) ∧ w.cell? ⟨b, p + j * 2 + 1, none⟩ = some (.int .i64 q.2) := by
  obtain ⟨b, p, cap, h1, h2, h3, h4⟩ := Rds.at h (Nat.lt_of_le_of_lt (Nat.zero_le _) (List.getElem?_eq_some_iff.1 hj).1)
  obtain ⟨k0, k1⟩ := pcs_at hj
  exact ⟨b, p, cap, h1, h2, h3, h4 _ _ k0, h4 _ _ k1⟩
def EnAt (A : Nat → Prop) (w : World) (g : Fk.G) (mv pv : Value) : Prop := Nms A w mv g.mem ∧ Pts A w pv g.pts
theorem EnAt.below {A : Nat → Prop} {w w' : World} {g : Fk.G} {mv pv : Value} (h : EnAt A w g mv pv) (hb : Below w.heap.size w w') : EnAt A w' g mv pv := ⟨h.1.below hb, h.2.below hb⟩
theorem EnAt.mono {A A' : Nat → Prop} {w : World} {g : Fk.G} {mv pv : Value} (h : EnAt A w g mv pv) (k : ∀ b, A b → A' b) : EnAt A' w g mv pv := ⟨h.1.mono k, Rds.mono h.2 k⟩
/-- A value that reads as a group. -/
def GvAt (A : Nat → Prop) (w : World) (gv : Value) (g : Fk.G) : Prop := ∃ mv pv, gv = gval g mv pv ∧ EnAt A w g mv pv
/-- A slice that reads as these groups. -/
def GsR (A : Nat → Prop) (w : World) (v : Value) (L : List Fk.G) : Prop := ∃ E : List En, E.map En.g = L ∧ Rds A w v 5 E.length (E.flatMap En.cells) ∧ ∀ e ∈ E, EnAt A w e.g e.mv e.pv
section
variable {A A' : Nat → Prop} {w w' : World} {v : Value} {L : List Fk.G}
theorem GsR.form (h : GsR A w v L) : ∃ a cap, v = .slice a L.length cap := by
  obtain ⟨E, rfl, h2, -⟩ := h
  obtain ⟨a, cap, e⟩ := h2.form
  exact ⟨a, cap, by rw [List.length_map]; exact e⟩
theorem GsR.below (h : GsR A w v L) (hb : Below w.heap.size w w') : GsR A w' v L := by
  obtain ⟨E, h1, h2, h3⟩ := h
  exact ⟨E, h1, h2.below hb, fun e he => (h3 e he).below hb⟩
theorem GsR.mono (h : GsR A w v L) (k : ∀ b, A b → A' b) : GsR A' w v L := by
  obtain ⟨E, h1, h2, h3⟩ := h
  exact ⟨E, h1, h2.mono k, fun e he => (h3 e he).mono k⟩
theorem GsR.nil (A : Nat → Prop) (w : World) : GsR A w (.slice none 0 0) [] := ⟨[], rfl, Rds.nil A w 5, fun e he => by cases he⟩
theorem GsR.empty (A : Nat → Prop) (w : World) (ad : Addr) (cap : Nat) : GsR A w (.slice (some ad) 0 cap) [] := ⟨[], rfl, Rds.empty A w 5 ad cap, fun e he => by cases he⟩
theorem en_cells {E : List En} {j : Nat} {e : En} (h : E[j]? = some e) : (E.flatMap En.cells)[j * 5]? = some (.string e.g.name) ∧ (E.flatMap En.cells)[j * 5 + 1]? = some (.int .i64 e.g.gen) ∧ (E.flatMap En.cells)[j * 5 + 2]? = some (.int .i64 e.g.parts) ∧ (E.flatMap En.cells)[j * 5 + 3]? = some e.mv ∧ (E.flatMap En.cells)[j * 5 + 4]? = some e.pv := by
  have h0 := flat_at En.cells 5 En.cells_len E j e h
  exact ⟨h0 0 (by decide), h0 1 (by decide), h0 2 (by decide), h0 3 (by decide), h0 4 (by decide)⟩
theorem GsR.at (h : GsR A w v L) {j : Nat} {g : Fk.G} (hj : L[j]? = some g) : ∃ b p cap mv pv, v = .slice (some ⟨b, p, none⟩) L.length cap ∧ A b ∧ b < w.heap.size ∧ EnAt A w g mv pv ∧
    w.cell? ⟨b, p + j * 5, none⟩ = some (.string g.name) ∧ w.cell? ⟨b, p + j * 5 + 1, none⟩ = some (.int .i64 g.gen) ∧ w.cell? ⟨b, p + j * 5 + 2, none⟩ = some (.int .i64 g.parts) ∧ w.cell? ⟨b, p + j * 5 + 3, none⟩ = some mv ∧ w.cell? ⟨b, p + j * 5 + 4, none⟩ = some pv := by
  obtain ⟨E, rfl, h2, h3⟩ := h
  rw [List.getElem?_map] at hj
  cases he : E[j]? with
  | none => rw [he] at hj; cases hj
  | some e =>
    rw [he] at hj
    simp only [Option.map_some, Option.some.injEq] at hj
    subst hj
    have hl := (List.getElem?_eq_some_iff.1 he).1
    obtain ⟨b, p, cap, k1, k2, k3, k4⟩ := h2.at (by omega)
    obtain ⟨c0, c1, c2, c3, c4⟩ := en_cells he
    exact ⟨b, p, cap, e.mv, e.pv, by rw [List.length_map]; exact k1, k2, k3, h3 e (List.mem_of_getElem? he), k4 _ _ c0, k4 _ _ c1, k4 _ _ c2, k4 _ _ c3, k4 _ _ c4⟩
end
/-- Five cells that are stored one after the other. -/
theorem five_kb (W : World) (b : Nat) (v0 v1 v2 v3 v4 : Value) : Kb b W (((((W.setCell ⟨b, 0, none⟩ v0).setCell ⟨b, 1, none⟩ v1).setCell ⟨b, 2, none⟩ v2).setCell ⟨b, 3, none⟩ v3).setCell ⟨b, 4, none⟩ v4) :=
  ((((Kb.setCell W v0).trans (Kb.setCell _ v1)).trans (Kb.setCell _ v2)).trans (Kb.setCell _ v3)).trans (Kb.setCell _ v4)
theorem Blk.five {w : World} {r : Nat} {a0 a1 a2 a3 a4 : Value} {T : TypeId} (h : Blk w r #[a0, a1, a2, a3, a4] T) (v0 v1 v2 v3 v4 : Value) :
    Blk (((((w.setCell ⟨r, 0, none⟩ v0).setCell ⟨r, 1, none⟩ v1).setCell ⟨r, 2, none⟩ v2).setCell ⟨r, 3, none⟩ v3).setCell ⟨r, 4, none⟩ v4) r #[v0, v1, v2, v3, v4] T :=
  ((((h.set (i := 0) v0).set (i := 1) v1).set (i := 2) v2).set (i := 3) v3).set (i := 4) v4
/-- The cells of a block of five. -/
theorem Blk.cells5 {w : World} {b : Nat} {a0 a1 a2 a3 a4 : Value} {T : TypeId} (h : Blk w b #[a0, a1, a2, a3, a4] T) : w.cell? ⟨b, 0, none⟩ = some a0 ∧ w.cell? ⟨b, 1, none⟩ = some a1 ∧ w.cell? ⟨b, 2, none⟩ = some a2 ∧ w.cell? ⟨b, 3, none⟩ = some a3 ∧ w.cell? ⟨b, 4, none⟩ = some a4 := ⟨h.cell rfl, h.cell rfl, h.cell rfl, h.cell rfl, h.cell rfl⟩
/-- What is known of a block of the call's own behind stores into it. -/
theorem Kb.low {w W W' : World} {b : Nat} (k : Kb b W W') (h : Below w.heap.size w W) (hb : w.heap.size ≤ b) (hl : b < W.heap.size) : Below w.heap.size w W' := h.trans (k.below hb hl)
theorem Nms.kb {A : Nat → Prop} {w w' : World} {v : Value} {L : List ByteArray} {b : Nat} (h : Nms A w v L) (k : Kb b w w') (hb : ∀ c, A c → c < w.heap.size → c ≠ b) : Nms A w' v L := Rds.keep h k.size fun c hc hl => ⟨k.block c hl (hb c hc hl), hc⟩
theorem EnAt.kb {A : Nat → Prop} {w w' : World} {g : Fk.G} {mv pv : Value} {b : Nat} (h : EnAt A w g mv pv) (k : Kb b w w') (hb : ∀ c, A c → c < w.heap.size → c ≠ b) : EnAt A w' g mv pv := ⟨h.1.kb k hb, Rds.keep h.2 k.size fun c hc hl => ⟨k.block c hl (hb c hc hl), hc⟩⟩
/-- What a search answers. -/
def BsOut (w : World) (i : Nat) (f : Bool) (e : Ending) (w' : World) : Prop := e = .returned (.tuple #[.int .i64 i, .bool f]) ∧ Below w.heap.size w w'
end Go.Proofs.YtjccfilbihkfpaaGreatDoor
