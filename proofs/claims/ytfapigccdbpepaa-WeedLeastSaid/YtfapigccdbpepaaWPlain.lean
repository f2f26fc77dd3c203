/- PLAIN MATHEMATICS OF LAYER 8: which records are useless; the last ones of their keys, by rising keys. -/
import Derived.Test.YtfapigccdbpepaaCPlain
namespace Go.Proofs.Ytfapigccdbpepaa

namespace Wd
abbrev Key := List UInt8
def rcs (l : List Pl.Bt) : List Pl.Rc := l.flatMap (·.recs)
/-- P8's word. -/
def uselessB (l : List Pl.Bt) (b : Pl.Bt) (x : Pl.Rc) (high now hor : Int) : Bool :=
  decide (x.key ≠ []) && decide (x.off < high) && ((x.gone && decide (b.time ≤ now - hor)) || (rcs l).any fun y => decide (y.key = x.key) && decide (x.off < y.off) && decide (y.off < high))
def okB (now hor : Int) : Bool := decide (0 ≤ now ∧ now ≤ 1099511627776 ∧ 0 ≤ hor ∧ hor ≤ 1099511627776)
/-- P8.2. -/
def thin1 (l : List Pl.Bt) (high now hor : Int) (b : Pl.Bt) : Pl.Bt := { b with recs := b.recs.filter fun x => !(okB now hor && uselessB l b x high now hor) }
def thin (l : List Pl.Bt) (high now hor : Int) : List Pl.Bt := l.map (thin1 l high now hor)
/-- One record more, by rising keys. -/
def ins (x : Pl.Rc) : List Pl.Rc → List Pl.Rc
  | [] => [x]
  | y :: S => if x.key < y.key then x :: y :: S else if y.key = x.key then (if y.off ≤ x.off then x else y) :: S else y :: ins x S
/-- P8.3. -/
def lasts (rs : List Pl.Rc) : List Pl.Rc := rs.foldl (fun S x => ins x S) []
def under (upto : Int) (x : Pl.Rc) : Bool := decide (x.key ≠ []) && decide (x.off < upto)
def fold (l : List Pl.Bt) (upto : Int) : List Pl.Rc := (lasts ((rcs l).filter (under upto))).filter fun x => !x.gone

def Srt (S : List Pl.Rc) : Prop := S.Pairwise fun a b => a.key < b.key
theorem key_tri (a b : Key) : a < b ∨ a = b ∨ b < a := by
  rcases Classical.em (a < b) with h | h
  · exact .inl h
  · rcases Classical.em (b < a) with h2 | h2
    · exact .inr (.inr h2)
    · exact .inr (.inl (List.le_antisymm (List.not_lt.1 h2) (List.not_lt.1 h)))
theorem key_ne {a b : Key} (h : a < b) : a ≠ b := fun e => List.lt_irrefl _ (e ▸ h)
theorem ins_split {x : Pl.Rc} : ∀ {A B : List Pl.Rc}, (∀ a ∈ A, a.key < x.key) → ins x (A ++ B) = A ++ ins x B
  | [], _, _ => rfl
  | a :: A, B, h => by
    have h1 := h a List.mem_cons_self
    show (if x.key < a.key then _ else if a.key = x.key then _ else a :: ins x (A ++ B)) = _
    rw [if_neg (fun h2 => List.lt_irrefl _ (List.lt_trans h1 h2)), if_neg (key_ne h1), ins_split fun c hc => h c (List.mem_cons_of_mem _ hc)]
    rfl
/-- The record of a key. -/
def lk (S : List Pl.Rc) (k : Key) : Option Pl.Rc := S.find? fun y => decide (y.key = k)
/-- Which of two stays. -/
def better (o : Option Pl.Rc) (x : Pl.Rc) : Pl.Rc := match o with
  | none => x
  | some y => if y.off ≤ x.off then x else y
theorem ins_keys {x z : Pl.Rc} : ∀ {S : List Pl.Rc}, z ∈ ins x S → z.key = x.key ∨ z ∈ S
  | [], h => by
    rw [List.mem_singleton.1 (show z ∈ [x] from h)]
    exact .inl rfl
  | y :: S, h => by
    unfold ins at h
    split at h
    · rcases List.mem_cons.1 h with rfl | h
      · exact .inl rfl
      · exact .inr h
    · split at h
      · rename_i hk
        rcases List.mem_cons.1 h with h | h
        · left
          rw [h]
          split
          · rfl
          · exact hk
        · exact .inr (List.mem_cons_of_mem _ h)
      · rcases List.mem_cons.1 h with rfl | h
        · exact .inr List.mem_cons_self
        · exact (ins_keys h).imp id (List.mem_cons_of_mem _)
theorem ins_srt {x : Pl.Rc} : ∀ {S : List Pl.Rc}, Srt S → Srt (ins x S)
  | [], _ => List.pairwise_singleton _ _
  | y :: S, h => by
    obtain ⟨h1, h2⟩ := List.pairwise_cons.1 h
    unfold ins
    split
    · rename_i hlt
      exact List.pairwise_cons.2 ⟨fun z hz => by
        rcases List.mem_cons.1 hz with rfl | hz
        · exact hlt
        · exact List.lt_trans hlt (h1 z hz), h⟩
    · rename_i hlt
      split
      · rename_i he
        refine List.pairwise_cons.2 ⟨fun z hz => ?_, h2⟩
        have := h1 z hz
        split
        · rw [← he]; exact this
        · exact this
      · rename_i he
        have hyx : y.key < x.key := by
          rcases key_tri y.key x.key with h3 | h3 | h3
          · exact h3
          · exact absurd h3 he
          · exact absurd h3 hlt
        refine List.pairwise_cons.2 ⟨fun z hz => ?_, ins_srt h2⟩
        rcases ins_keys hz with h3 | h3
        · rw [h3]; exact hyx
        · exact h1 z h3
theorem lk_cons (y : Pl.Rc) (S : List Pl.Rc) (k : Key) : lk (y :: S) k = if y.key = k then some y else lk S k := by
  unfold lk
  rw [List.find?_cons]
  by_cases h : y.key = k <;> simp [h]
theorem lk_none {S : List Pl.Rc} {k : Key} (h : ∀ y ∈ S, y.key ≠ k) : lk S k = none := List.find?_eq_none.2 fun y hy => by simpa using h y hy
theorem lk_key {S : List Pl.Rc} {k : Key} {z : Pl.Rc} (h : lk S k = some z) : z ∈ S ∧ z.key = k := ⟨List.mem_of_find?_eq_some h, by simpa using List.find?_some h⟩
theorem lk_mem {S : List Pl.Rc} (hS : Srt S) {z : Pl.Rc} (hz : z ∈ S) : lk S z.key = some z := by
  induction S with
  | nil => cases hz
  | cons y S ih =>
    obtain ⟨h1, h2⟩ := List.pairwise_cons.1 hS
    rw [lk_cons]
    rcases List.mem_cons.1 hz with rfl | hz
    · rw [if_pos rfl]
    · rw [if_neg (key_ne (h1 z hz)), ih h2 hz]
theorem lk_ins {x : Pl.Rc} : ∀ {S : List Pl.Rc}, Srt S → ∀ k, lk (ins x S) k = if x.key = k then some (better (lk S k) x) else lk S k
  | [], _, k => by
    show lk [x] k = _
    rw [lk_cons]
    rfl
  | y :: S, h, k => by
    obtain ⟨h1, h2⟩ := List.pairwise_cons.1 h
    unfold ins
    split
    · rename_i hlt
      rw [lk_cons]
      by_cases hk : x.key = k
      · rw [if_pos hk, if_pos hk, lk_none (S := y :: S) fun z hz => ?_]
        · rfl
        · rw [← hk]
          rcases List.mem_cons.1 hz with rfl | hz
          · exact fun e => key_ne hlt e.symm
          · exact fun e => key_ne (List.lt_trans hlt (h1 z hz)) e.symm
      · rw [if_neg hk, if_neg hk]
    · rename_i hlt
      split
      · rename_i he
        rw [lk_cons, lk_cons]
        by_cases hk : x.key = k
        · rw [if_pos hk, if_pos (he.trans hk), if_pos (by split; exact hk; exact he.trans hk)]
          rfl
        · rw [if_neg hk, if_neg (fun e => hk (he.symm.trans e)), if_neg (by split; exact hk; exact fun e => hk (he.symm.trans e))]
      · rename_i he
        rw [lk_cons, lk_cons, lk_ins h2 k]
        by_cases hy : y.key = k
        · rw [if_pos hy, if_pos hy, if_neg (fun e => he (hy.trans e.symm))]
        · rw [if_neg hy, if_neg hy]
/-- Two lists by rising keys that tell the same of each key are the same. -/
theorem srt_ext : ∀ {S T : List Pl.Rc}, Srt S → Srt T → (∀ k, lk S k = lk T k) → S = T
  | [], [], _, _, _ => rfl
  | [], t :: T, _, hT, h => by
    have := h t.key
    rw [lk_cons, if_pos rfl] at this
    cases this
  | s :: S, [], hS, _, h => by
    have := h s.key
    rw [lk_cons, if_pos rfl] at this
    cases this
  | s :: S, t :: T, hS, hT, h => by
    obtain ⟨s1, s2⟩ := List.pairwise_cons.1 hS
    obtain ⟨t1, t2⟩ := List.pairwise_cons.1 hT
    have hst : s = t := by
      have hs := h s.key
      have ht := h t.key
      rw [lk_cons, if_pos rfl] at hs
      rw [lk_cons t T, if_pos rfl] at ht
      rw [lk_cons] at hs
      by_cases he : t.key = s.key
      · rw [if_pos he] at hs
        exact Option.some.inj hs
      · rw [if_neg he] at hs
        rw [lk_cons, if_neg (fun e => he e.symm)] at ht
        have h1 := t1 s (lk_key hs.symm).1
        have h2 := s1 t (lk_key ht).1
        exact absurd (List.lt_trans h1 h2) (List.lt_irrefl _)
    subst hst
    congr 1
    refine srt_ext s2 t2 fun k => ?_
    have := h k
    rw [lk_cons, lk_cons] at this
    by_cases he : s.key = k
    · rw [lk_none fun y hy => by rw [← he]; exact fun e => key_ne (s1 y hy) e.symm, lk_none fun y hy => by rw [← he]; exact fun e => key_ne (t1 y hy) e.symm]
    · rwa [if_neg he, if_neg he] at this
/-- The record of a key among records: the one with the greatest offset, of several the last. -/
def pick (rs : List Pl.Rc) (k : Key) : Option Pl.Rc := rs.foldl (fun o x => if x.key = k then some (better o x) else o) none
theorem lasts_snoc (rs : List Pl.Rc) (x : Pl.Rc) : lasts (rs ++ [x]) = ins x (lasts rs) := by simp [lasts]
theorem pick_snoc (rs : List Pl.Rc) (x : Pl.Rc) (k : Key) : pick (rs ++ [x]) k = if x.key = k then some (better (pick rs k) x) else pick rs k := by simp [pick]
theorem lasts_spec (rs : List Pl.Rc) : Srt (lasts rs) ∧ ∀ k, lk (lasts rs) k = pick rs k := by
  rcases List.eq_nil_or_concat rs with rfl | ⟨r, x, rfl⟩
  · exact ⟨List.Pairwise.nil, fun k => rfl⟩
  · have ih := lasts_spec r
    rw [List.concat_eq_append, lasts_snoc]
    exact ⟨ins_srt ih.1, fun k => by rw [lk_ins ih.1, pick_snoc, ih.2]⟩
termination_by rs.length
decreasing_by all_goals (subst_vars; simp)
theorem lk_filter {S : List Pl.Rc} (hS : Srt S) (p : Pl.Rc → Bool) (k : Key) : lk (S.filter p) k = (lk S k).filter p := by
  induction S with
  | nil => rfl
  | cons y S ih =>
    obtain ⟨h1, h2⟩ := List.pairwise_cons.1 hS
    rw [List.filter_cons, lk_cons]
    by_cases hy : y.key = k
    · rw [if_pos hy]
      by_cases hp : p y = true
      · rw [if_pos hp, lk_cons, if_pos hy, Option.filter_some, if_pos hp]
      · rw [if_neg hp, Option.filter_some, if_neg hp, ih h2, lk_none fun z hz => by rw [← hy]; exact fun e => key_ne (h1 z hz) e.symm]
        rfl
    · rw [if_neg hy]
      by_cases hp : p y = true
      · rw [if_pos hp, lk_cons, if_neg hy, ih h2]
      · rw [if_neg hp, ih h2]
/-- Two folds are the same where they tell the same of each key. -/
theorem fold_ext {l m : List Pl.Bt} {u v : Int} (h : ∀ k, (pick ((rcs l).filter (under u)) k).filter (fun x => !x.gone) = (pick ((rcs m).filter (under v)) k).filter fun x => !x.gone) : fold l u = fold m v := by
  obtain ⟨s1, s2⟩ := lasts_spec ((rcs l).filter (under u))
  obtain ⟨t1, t2⟩ := lasts_spec ((rcs m).filter (under v))
  unfold fold
  refine srt_ext (s1.filter _) (t1.filter _) fun k => ?_
  rw [lk_filter s1, lk_filter t1, s2, t2]
  exact h k
theorem pick_spec (rs : List Pl.Rc) (k : Key) : match pick rs k with
    | none => ∀ y ∈ rs, y.key ≠ k
    | some z => z ∈ rs ∧ z.key = k ∧ ∀ y ∈ rs, y.key = k → y.off ≤ z.off := by
  rcases List.eq_nil_or_concat rs with rfl | ⟨r, x, rfl⟩
  · intro y hy
    cases hy
  · have ih := pick_spec r k
    rw [List.concat_eq_append, pick_snoc]
    by_cases hx : x.key = k
    · rw [if_pos hx]
      cases ho : pick r k with
      | none =>
        rw [ho] at ih
        refine ⟨by simp [better], hx, fun y hy hyk => ?_⟩
        rcases List.mem_append.1 hy with h | h
        · exact absurd hyk (ih y h)
        · rw [List.mem_singleton.1 h]
          exact Int.le_refl _
      | some z =>
        rw [ho] at ih
        obtain ⟨h1, h2, h3⟩ := ih
        show better (some z) x ∈ _ ∧ _
        unfold better
        by_cases hz : z.off ≤ x.off
        · simp only [if_pos hz]
          refine ⟨by simp, hx, fun y hy hyk => ?_⟩
          rcases List.mem_append.1 hy with h | h
          · exact Int.le_trans (h3 y h hyk) hz
          · rw [List.mem_singleton.1 h]
            exact Int.le_refl _
        · simp only [if_neg hz]
          refine ⟨by simp [h1], h2, fun y hy hyk => ?_⟩
          rcases List.mem_append.1 hy with h | h
          · exact h3 y h hyk
          · rw [List.mem_singleton.1 h]
            omega
    · rw [if_neg hx]
      cases ho : pick r k with
      | none =>
        rw [ho] at ih
        intro y hy
        rcases List.mem_append.1 hy with h | h
        · exact ih y h
        · rw [List.mem_singleton.1 h]
          exact hx
      | some z =>
        rw [ho] at ih
        obtain ⟨h1, h2, h3⟩ := ih
        refine ⟨by simp [h1], h2, fun y hy hyk => ?_⟩
        rcases List.mem_append.1 hy with h | h
        · exact h3 y h hyk
        · rw [List.mem_singleton.1 h] at hyk
          exact absurd hyk hx
termination_by rs.length
decreasing_by all_goals (subst_vars; simp)
/-- .. and where no two records have one offset it is told so. -/
theorem pick_some {rs : List Pl.Rc} (hi : ∀ x ∈ rs, ∀ y ∈ rs, x.off = y.off → x = y) {z : Pl.Rc} (h1 : z ∈ rs) (h3 : ∀ y ∈ rs, y.key = z.key → y.off ≤ z.off) : pick rs z.key = some z := by
  have h := pick_spec rs z.key
  cases ho : pick rs z.key with
  | none =>
    rw [ho] at h
    exact absurd rfl (h z h1)
  | some y =>
    rw [ho] at h
    have e1 := h3 y h.1 h.2.1
    have e2 := h.2.2 z h1 rfl
    rw [hi y h.1 z h1 (by omega)]
theorem pick_none {rs : List Pl.Rc} {k : Key} (h1 : ∀ y ∈ rs, y.key ≠ k) : pick rs k = none := by
  have h := pick_spec rs k
  cases ho : pick rs k with
  | none => rfl
  | some y =>
    rw [ho] at h
    exact absurd h.2.1 (h1 y h.1)
theorem mem_rcs {l : List Pl.Bt} {x : Pl.Rc} : x ∈ rcs l ↔ ∃ b ∈ l, x ∈ b.recs := List.mem_flatMap
theorem mem_thin {l : List Pl.Bt} {high now hor : Int} {x : Pl.Rc} : x ∈ rcs (thin l high now hor) ↔ ∃ b ∈ l, x ∈ b.recs ∧ (okB now hor && uselessB l b x high now hor) = false := by
  unfold thin
  rw [mem_rcs]
  constructor
  · rintro ⟨c, hc, hx⟩
    obtain ⟨b, hb, rfl⟩ := List.mem_map.1 hc
    obtain ⟨h1, h2⟩ := List.mem_filter.1 hx
    exact ⟨b, hb, h1, by rwa [Bool.not_eq_true'] at h2⟩
  · rintro ⟨b, hb, h1, h2⟩
    exact ⟨_, List.mem_map.2 ⟨b, hb, rfl⟩, List.mem_filter.2 ⟨h1, by rw [Bool.not_eq_true']; exact h2⟩⟩
theorem useless_iff {l : List Pl.Bt} {b : Pl.Bt} {x : Pl.Rc} {high now hor : Int} : uselessB l b x high now hor = true ↔ x.key ≠ [] ∧ x.off < high ∧ ((x.gone = true ∧ b.time ≤ now - hor) ∨ ∃ y ∈ rcs l, y.key = x.key ∧ x.off < y.off ∧ y.off < high) := by
  unfold uselessB
  simp only [Bool.and_eq_true, Bool.or_eq_true, decide_eq_true_eq, List.any_eq_true, and_assoc]
/-- P8.4: the fold stays. -/
theorem fold_thin {l : List Pl.Bt} (hi : ∀ x ∈ rcs l, ∀ y ∈ rcs l, x.off = y.off → x = y) {high now hor upto : Int} (hu : high ≤ upto) : fold (thin l high now hor) upto = fold l upto := by
  refine fold_ext fun k => ?_
  have hsub : ∀ x ∈ (rcs (thin l high now hor)).filter (under upto), x ∈ (rcs l).filter (under upto) := fun x hx => by
    obtain ⟨h1, h2⟩ := List.mem_filter.1 hx
    obtain ⟨b, hb, h3, -⟩ := mem_thin.1 h1
    exact List.mem_filter.2 ⟨mem_rcs.2 ⟨b, hb, h3⟩, h2⟩
  have hiA : ∀ x ∈ (rcs l).filter (under upto), ∀ y ∈ (rcs l).filter (under upto), x.off = y.off → x = y := fun x hx y hy => hi x (List.mem_filter.1 hx).1 y (List.mem_filter.1 hy).1
  have h := pick_spec ((rcs l).filter (under upto)) k
  cases ho : pick ((rcs l).filter (under upto)) k with
  | none =>
    rw [ho] at h
    rw [pick_none fun y hy => h y (hsub y hy)]
  | some z =>
    rw [ho] at h
    obtain ⟨h1, rfl, h3⟩ := h
    by_cases hz : z ∈ (rcs (thin l high now hor)).filter (under upto)
    · rw [pick_some (fun x hx y hy => hiA x (hsub x hx) y (hsub y hy)) hz fun y hy => h3 y (hsub y hy)]
    · obtain ⟨hzl, hzu⟩ := List.mem_filter.1 h1
      obtain ⟨b, hb, hzb⟩ := mem_rcs.1 hzl
      have hus : (okB now hor && uselessB l b z high now hor) = true := by
        cases hc : (okB now hor && uselessB l b z high now hor) with
        | true => rfl
        | false => exact absurd (List.mem_filter.2 ⟨mem_thin.2 ⟨b, hb, hzb, hc⟩, hzu⟩) hz
      rw [Bool.and_eq_true, useless_iff] at hus
      obtain ⟨hok, hk, hzh, hor'⟩ := hus
      have hgone : z.gone = true := by
        rcases hor' with h | ⟨y, hy, hyk, hyo, hyh⟩
        · exact h.1
        · have := h3 y (List.mem_filter.2 ⟨hy, by unfold under; rw [hyk]; simp [hk]; omega⟩) hyk
          omega
      rw [pick_none fun y hy hyk => ?_]
      · show none = _
        rw [Option.filter_some, if_neg (by simp [hgone])]
      · have hyA := hsub y hy
        obtain ⟨c, hc, hyc, hno⟩ := mem_thin.1 (List.mem_filter.1 hy).1
        have hlt : y.off < z.off := by
          have h5 := h3 y hyA hyk
          have h6 : y.off ≠ z.off := fun e => hz (hiA y hyA z h1 e ▸ hy)
          omega
        have : uselessB l c y high now hor = true := useless_iff.2 ⟨by rw [hyk]; exact hk, by omega, .inr ⟨z, hzl, hyk.symm, hlt, hzh⟩⟩
        rw [hok, this] at hno
        cases hno
/-- P8.4: thinned again nothing more goes. -/
theorem thin_again (l : List Pl.Bt) (high now hor : Int) : thin (thin l high now hor) high now hor = thin l high now hor := by
  have hsub : ∀ x ∈ rcs (thin l high now hor), x ∈ rcs l := fun x hx => by
    obtain ⟨b, hb, h3, -⟩ := mem_thin.1 hx
    exact mem_rcs.2 ⟨b, hb, h3⟩
  have key : ∀ b ∈ thin l high now hor, thin1 (thin l high now hor) high now hor b = b := fun c hc => by
    obtain ⟨b, hb, rfl⟩ := List.mem_map.1 hc
    have h : ∀ x ∈ (thin1 l high now hor b).recs, (!(okB now hor && uselessB (thin l high now hor) (thin1 l high now hor b) x high now hor)) = true := fun x hx => by
      obtain ⟨h1, h2⟩ := List.mem_filter.1 hx
      rw [Bool.not_eq_true', Bool.and_eq_false_iff]
      rw [Bool.not_eq_true', Bool.and_eq_false_iff] at h2
      refine h2.imp id fun h2 => ?_
      rw [← Bool.not_eq_true, useless_iff] at h2 ⊢
      rintro ⟨k1, k2, k3⟩
      refine h2 ⟨k1, k2, k3.imp id ?_⟩
      rintro ⟨y, hy, k4⟩
      exact ⟨y, hsub y hy, k4⟩
    have e : (thin1 (thin l high now hor) high now hor (thin1 l high now hor b)).recs = (thin1 l high now hor b).recs := List.filter_eq_self.2 h
    show ({ thin1 l high now hor b with recs := _ } : Pl.Bt) = thin1 l high now hor b
    rw [show ((thin1 l high now hor b).recs.filter fun x => !(okB now hor && uselessB (thin l high now hor) (thin1 l high now hor b) x high now hor)) = (thin1 l high now hor b).recs from e]
  show (thin l high now hor).map _ = _
  exact (List.map_congr_left key).trans (List.map_id _)
/-- P8.4: bit by bit the same goes as at once. -/
theorem thin_parts {l : List Pl.Bt} {a b now later hor : Int} (hab : a ≤ b) (hnl : now ≤ later) (h1 : okB now hor = true) (h2 : okB later hor = true) : thin (thin l a now hor) b later hor = thin l b later hor := by
  have hsub : ∀ x ∈ rcs (thin l a now hor), x ∈ rcs l := fun x hx => by
    obtain ⟨b, hb, h3, -⟩ := mem_thin.1 hx
    exact mem_rcs.2 ⟨b, hb, h3⟩
  -- a later record of a key below b that hasn't a later one
  have hmax : ∀ x : Pl.Rc, (∃ y ∈ rcs l, y.key = x.key ∧ x.off < y.off ∧ y.off < b) → ∃ z ∈ rcs l, z.key = x.key ∧ x.off < z.off ∧ z.off < b ∧ ∀ y ∈ rcs l, y.key = x.key → y.off < b → y.off ≤ z.off := by
    rintro x ⟨y, hy, hyk, hyo, hyb⟩
    have h := pick_spec ((rcs l).filter fun y => decide (y.off < b)) x.key
    cases ho : pick ((rcs l).filter fun y => decide (y.off < b)) x.key with
    | none =>
      rw [ho] at h
      exact absurd hyk (h y (List.mem_filter.2 ⟨hy, by simpa using hyb⟩))
    | some z =>
      rw [ho] at h
      obtain ⟨k1, k2, k3⟩ := h
      obtain ⟨k4, k5⟩ := List.mem_filter.1 k1
      have k6 := k3 y (List.mem_filter.2 ⟨hy, by simpa using hyb⟩) hyk
      exact ⟨z, k4, k2, by omega, by simpa using k5, fun u hu huk hub => k3 u (List.mem_filter.2 ⟨hu, by simpa using hub⟩) huk⟩
  unfold thin
  rw [List.map_map]
  refine List.map_congr_left fun c hc => ?_
  show ({ c with recs := (c.recs.filter _).filter _ } : Pl.Bt) = { c with recs := c.recs.filter _ }
  congr 1
  rw [List.filter_filter]
  refine List.filter_congr fun x hx => ?_
  simp only [h1, h2, Bool.true_and]
  show (!uselessB (thin l a now hor) (thin1 l a now hor c) x b later hor && !uselessB l c x a now hor) = !uselessB l c x b later hor
  rw [← Bool.not_or]
  congr 1
  rw [Bool.eq_iff_iff, Bool.or_eq_true, useless_iff, useless_iff, useless_iff]
  constructor
  · rintro (⟨k1, k2, k3⟩ | ⟨k1, k2, k3⟩)
    · refine ⟨k1, k2, k3.imp id ?_⟩
      rintro ⟨y, hy, k4⟩
      exact ⟨y, hsub y hy, k4⟩
    · refine ⟨k1, by omega, k3.imp (fun k => ⟨k.1, by omega⟩) ?_⟩
      rintro ⟨y, hy, k4, k5, k6⟩
      exact ⟨y, hy, k4, k5, by omega⟩
  · rintro ⟨k1, k2, k3⟩
    rcases k3 with k3 | k3
    · exact .inl ⟨k1, k2, .inl k3⟩
    · obtain ⟨z, hz, hzk, hzo, hzb, hzm⟩ := hmax x k3
      by_cases hzt : z ∈ rcs (thin l a now hor)
      · exact .inl ⟨k1, k2, .inr ⟨z, hzt, hzk, hzo, hzb⟩⟩
      · obtain ⟨d, hd, hzd⟩ := mem_rcs.1 hz
        have hus : uselessB l d z a now hor = true := by
          cases hcc : uselessB l d z a now hor with
          | true => rfl
          | false => exact absurd (mem_thin.2 ⟨d, hd, hzd, by rw [hcc, Bool.and_false]⟩) hzt
        have hza := (useless_iff.1 hus).2.1
        exact .inr ⟨k1, by omega, .inr ⟨z, hz, hzk, hzo, hza⟩⟩
end Wd
end Go.Proofs.Ytfapigccdbpepaa
