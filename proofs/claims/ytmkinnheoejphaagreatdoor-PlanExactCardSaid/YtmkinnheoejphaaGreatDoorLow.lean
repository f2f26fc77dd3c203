/- WHERE SOMETHING STANDS IN A ROW THAT RISES, or would stand. Nothing here knows the program. -/
import Derived.Test.YtmkinnheoejphaaGreatDoorBk
namespace Go.Proofs.YtmkinnheoejphaaGreatDoor
namespace Fk
def cmpI (a b : Int) : Int := if a < b then -1 else if b < a then 1 else 0
theorem cmpI_lt {a b : Int} : cmpI a b < 0 ↔ a < b := by unfold cmpI; split <;> (try split) <;> simp_all
theorem cmpI_eq {a b : Int} : cmpI a b = 0 ↔ a = b := by unfold cmpI; split <;> (try split) <;> simp_all <;> omega

/-! ### Where something stands, or would stand -/
section
variable {α : Type} {c : α → Int} {l : List α}
def low (c : α → Int) : List α → Nat
  | [] => 0
  | x :: l => if c x < 0 then low c l + 1 else 0
def hit (c : α → Int) (l : List α) : Option α := match l[low c l]? with
  | some x => if c x = 0 then some x else none
  | none => none
def ins (l : List α) (i : Nat) (x : α) : List α := l.take i ++ x :: l.drop i
/-- What stands ahead of something less is less. -/
def Mono (c : α → Int) : List α → Prop
  | [] => True
  | x :: l => (∀ y ∈ l, c y < 0 → c x < 0) ∧ (∀ y ∈ l, c y = 0 → c x < 0) ∧ Mono c l
theorem low_le : ∀ l : List α, low c l ≤ l.length
  | [] => Nat.le_refl _
  | x :: l => by unfold low; split; have := low_le l; simp; omega; simp
theorem low_at : ∀ (l : List α) (t : Nat) (x : α), t < low c l → l[t]? = some x → c x < 0
  | [], t, x, h, _ => by simp [low] at h
  | y :: l, 0, x, h, hx => by
    simp at hx
    subst hx
    unfold low at h
    split at h
    · assumption
    · omega
  | y :: l, t + 1, x, h, hx => by
    unfold low at h
    split at h
    · exact low_at l t x (by omega) (by simpa using hx)
    · omega
theorem low_ge : ∀ (l : List α), Mono c l → ∀ (t : Nat) (x : α), low c l ≤ t → l[t]? = some x → 0 ≤ c x
  | [], _, t, x, _, hx => by simp at hx
  | y :: l, hm, 0, x, h, hx => by
    simp at hx
    subst hx
    unfold low at h
    split at h
    · omega
    · omega
  | y :: l, hm, t + 1, x, h, hx => by
    have hx' : l[t]? = some x := by simpa using hx
    unfold low at h
    split at h
    · exact low_ge l hm.2.2 t x (by omega) hx'
    · rename_i hy
      refine Int.not_lt.1 fun hlt => hy (hm.1 x (List.mem_of_getElem? hx') hlt)
theorem hit_some {x : α} (h : hit c l = some x) : l[low c l]? = some x ∧ c x = 0 := by
  unfold hit at h
  split at h
  · rename_i y hy
    split at h
    · injection h with h; subst h; exact ⟨hy, by assumption⟩
    · cases h
  · cases h
theorem hit_none (hm : Mono c l) (h : hit c l = none) : ∀ x ∈ l, c x ≠ 0 := by
  induction l with
  | nil => intro x hx; cases hx
  | cons y l ih =>
    unfold hit low at h
    by_cases hy : c y < 0
    · rw [if_pos hy, List.getElem?_cons_succ] at h
      intro x hx
      rcases List.mem_cons.1 hx with rfl | hx
      · omega
      · exact ih hm.2.2 h x hx
    · rw [if_neg hy] at h
      simp only [List.getElem?_cons_zero] at h
      intro x hx
      rcases List.mem_cons.1 hx with rfl | hx
      · split at h
        · cases h
        · assumption
      · intro e
        exact hy (hm.2.1 x hx e)
theorem hit_mem {x : α} (h : hit c l = some x) : x ∈ l := List.mem_of_getElem? (hit_some h).1
theorem hit_isSome : (hit c l).isSome = (decide (low c l < l.length) && match l[low c l]? with | some x => decide (c x = 0) | none => false) := by
  unfold hit
  rcases Nat.lt_or_ge (low c l) l.length with h | h
  · rw [List.getElem?_eq_getElem h, decide_eq_true h]
    simp only [Bool.true_and]
    split <;> simp_all
  · rw [List.getElem?_eq_none h, decide_eq_false (by omega)]
    simp
theorem ins_len {i : Nat} {x : α} (h : i ≤ l.length) : (ins l i x).length = l.length + 1 := by unfold ins; simp; omega
theorem ins_mem {i : Nat} {x y : α} : y ∈ ins l i x ↔ y = x ∨ y ∈ l := by
  unfold ins
  rw [List.mem_append, List.mem_cons]
  constructor
  · rintro (h | h | h)
    · exact .inr (List.mem_of_mem_take h)
    · exact .inl h
    · exact .inr (List.mem_of_mem_drop h)
  · rintro (h | h)
    · exact .inr (.inl h)
    · rw [← List.take_append_drop i l] at h
      rcases List.mem_append.1 h with h | h
      · exact .inl h
      · exact .inr (.inr h)
/-- A relation that holds between any two, the earlier first, holds behind an insertion where it belongs. -/
theorem ins_pair {R : α → α → Prop} {x : α} (hp : l.Pairwise R) (ha : ∀ y ∈ l.take (low c l), R y x) (hb : ∀ y ∈ l.drop (low c l), R x y) : (ins l (low c l) x).Pairwise R := by
  unfold ins
  rw [List.pairwise_append]
  have h0 := hp
  rw [← List.take_append_drop (low c l) l, List.pairwise_append] at h0
  refine ⟨h0.1, List.pairwise_cons.2 ⟨hb, h0.2.1⟩, fun a h1 b h2 => ?_⟩
  rcases List.mem_cons.1 h2 with rfl | h2
  · exact ha a h1
  · exact h0.2.2 a h1 b h2
theorem mem_take_at {n : Nat} {y : α} (h : y ∈ l.take n) : ∃ t, t < n ∧ l[t]? = some y := by
  obtain ⟨t, ht, e⟩ := List.getElem_of_mem h
  rw [List.length_take] at ht
  exact ⟨t, by omega, by rw [← e, List.getElem_take]; exact List.getElem?_eq_getElem _⟩
theorem mem_drop_at {n : Nat} {y : α} (h : y ∈ l.drop n) : ∃ t, n ≤ t ∧ l[t]? = some y := by
  obtain ⟨t, ht, e⟩ := List.getElem_of_mem h
  rw [List.length_drop] at ht
  exact ⟨n + t, by omega, by rw [← e, List.getElem_drop]; exact List.getElem?_eq_getElem _⟩
end
theorem mono_of {α : Type} {c : α → Int} {R : α → α → Prop} (hR : ∀ a b, R a b → (c b < 0 → c a < 0) ∧ (c b = 0 → c a < 0)) : ∀ {l : List α}, l.Pairwise R → Mono c l
  | [], _ => trivial
  | x :: l, h => by
    rw [List.pairwise_cons] at h
    exact ⟨fun y hy => (hR x y (h.1 y hy)).1, fun y hy => (hR x y (h.1 y hy)).2, mono_of hR h.2⟩

def cP (p : Int) (q : Int × Int) : Int := cmpI q.1 p
def putPt (l : List (Int × Int)) (p o : Int) : List (Int × Int) := if (hit (cP p) l).isSome then l.set (low (cP p) l) (p, o) else ins l (low (cP p) l) (p, o)
theorem cP_rel (p : Int) (a b : Int × Int) (h : a.1 < b.1) : (cP p b < 0 → cP p a < 0) ∧ (cP p b = 0 → cP p a < 0) := by
  unfold cP
  rw [cmpI_lt, cmpI_lt, cmpI_eq]
  exact ⟨fun k => by omega, fun k => by omega⟩
theorem cP_mono {l : List (Int × Int)} (h : l.Pairwise fun a b => a.1 < b.1) (p : Int) : Mono (cP p) l := mono_of (cP_rel p) h
theorem putPt_mem {l : List (Int × Int)} {p o : Int} {q : Int × Int} (h : q ∈ putPt l p o) : q = (p, o) ∨ q ∈ l := by
  unfold putPt at h
  split at h
  · rcases List.mem_or_eq_of_mem_set h with h | h
    · exact .inr h
    · exact .inl h
  · exact ins_mem.1 h
theorem set_pair {α : Type} {R : α → α → Prop} {l : List α} {i : Nat} {x y : α} (h : l.Pairwise R) (hx : l[i]? = some x) (h1 : ∀ a, R a x → R a y) (h2 : ∀ a, R x a → R y a) : (l.set i y).Pairwise R := by
  rw [List.pairwise_iff_getElem] at h ⊢
  intro a b ha hb hab
  rw [List.length_set] at ha hb
  have := h a b ha hb hab
  have hxe := (List.getElem?_eq_some_iff.1 hx).2
  rw [List.getElem_set, List.getElem_set]
  split <;> split
  · omega
  · rename_i k _
    subst k
    rw [hxe] at this
    exact h2 _ this
  · rename_i _ k
    subst k
    rw [hxe] at this
    exact h1 _ this
  · exact this
theorem putPt_rise {l : List (Int × Int)} {p o : Int} (h : l.Pairwise fun a b => a.1 < b.1) : (putPt l p o).Pairwise fun a b => a.1 < b.1 := by
  have hm : Mono (cP p) l := mono_of (cP_rel p) h
  unfold putPt
  split
  · rename_i hs
    obtain ⟨x, hx⟩ := Option.isSome_iff_exists.1 hs
    obtain ⟨h1, h2⟩ := hit_some hx
    have e : x.1 = p := cmpI_eq.1 h2
    exact set_pair h h1 (fun a ha => by show a.1 < p; rw [← e]; exact ha) (fun a ha => by show p < a.1; rw [← e]; exact ha)
  · rename_i hs
    have hnone : hit (cP p) l = none := by
      cases hh : hit (cP p) l with
      | none => rfl
      | some x => rw [hh] at hs; exact absurd rfl hs
    refine ins_pair h (fun y hy => ?_) (fun y hy => ?_)
    · obtain ⟨t, ht, hy⟩ := mem_take_at hy
      exact cmpI_lt.1 (low_at l t y ht hy)
    · obtain ⟨t, ht, hy⟩ := mem_drop_at hy
      have h1 := low_ge l hm t y ht hy
      have h2 := hit_none hm hnone y (List.mem_of_getElem? hy)
      unfold cP cmpI at h1 h2
      show p < y.1
      split at h1
      · omega
      · rename_i h3
        split at h2
        · exact absurd (by assumption) h3
        · split at h2
          · assumption
          · omega
end Fk
end Go.Proofs.YtmkinnheoejphaaGreatDoor
