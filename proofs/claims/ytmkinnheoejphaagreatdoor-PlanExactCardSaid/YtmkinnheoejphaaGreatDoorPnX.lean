/- PLAIN FACTS ABOUT PLANS: what a place is, what an event does. Nothing here knows the program. -/
import Derived.Test.YtmkinnheoejphaaGreatDoorPnP
namespace Go.Proofs.YtmkinnheoejphaaGreatDoor
namespace Pn
/-! ### What a place, a plan is -/
structure PlaceG (x : Pt) (nodes : Int) : Prop where
  e1 : 1 ≤ x.ep
  e2 : x.ep ≤ 1073741824
  l0 : 0 ≤ x.le
  l1 : x.le ≤ nodes
  ne : x.ch ≠ []
  nd : x.ch.Nodup
  nds : ∀ n ∈ x.ch, 1 ≤ n ∧ n ≤ nodes
  le : x.le ∉ x.ch
theorem nodup_take {α : Type} {l : List α} : l.Nodup ↔ ∀ (i : Nat) (n : α), l[i]? = some n → n ∉ l.take i := by
  unfold List.Nodup
  rw [List.pairwise_iff_getElem]
  constructor
  · intro h i n hi hm
    obtain ⟨hlt, hn⟩ := List.getElem?_eq_some_iff.1 hi
    obtain ⟨t, ht, e⟩ := Fk.mem_take_at hm
    obtain ⟨htl, e2⟩ := List.getElem?_eq_some_iff.1 e
    exact h t i htl hlt ht (e2.trans hn.symm)
  · intro h i j hi hj hij e
    refine h j l[j] (List.getElem?_eq_getElem hj) ?_
    rw [← e]
    refine List.mem_of_getElem? (i := i) ?_
    rw [List.getElem?_take]
    simp [hij, hi]
theorem nodup_len : ∀ (m : Nat) (l : List Int), l.Nodup → (∀ n ∈ l, 1 ≤ n ∧ n ≤ (m : Int)) → l.length ≤ m
  | 0, [], _, _ => Nat.le_refl _
  | 0, x :: l, _, h => by have := h x (List.mem_cons_self ..); omega
  | m + 1, l, hn, h => by
    by_cases hm : ((m + 1 : Nat) : Int) ∈ l
    · have h1 := nodup_len m (l.erase ((m + 1 : Nat) : Int)) (hn.erase _) (fun n k => by
        rw [hn.mem_erase_iff] at k
        have := h n k.2
        have := k.1
        omega)
      rw [List.length_erase_of_mem hm] at h1
      omega
    · have := nodup_len m l hn (fun n k => by
        have := h n k
        have : n ≠ ((m + 1 : Nat) : Int) := fun e => hm (e ▸ k)
        omega)
      omega
theorem chTo_iff {x : Pt} {nodes : Int} : chTo x nodes x.ch.length = true ↔ ∀ (i : Nat) (n : Int), x.ch[i]? = some n → nodeB x nodes i n = true := by
  unfold chTo
  rw [List.all_eq_true]
  constructor
  · intro h i n hi
    have := h i (List.mem_range.2 (List.getElem?_eq_some_iff.1 hi).1)
    simp only [hi] at this
    exact this
  · intro h i hi
    cases hx : x.ch[i]? with
    | none => rfl
    | some n => exact h i n hx
theorem place_iff {x : Pt} {nodes : Int} : placeB x nodes = true ↔ PlaceG x nodes := by
  unfold placeB epB
  simp only [Bool.and_eq_true, decide_eq_true_eq]
  rw [chTo_iff]
  unfold nodeB
  simp only [Bool.and_eq_true, decide_eq_true_eq, bne_iff_ne, ne_eq, Bool.not_eq_true', List.contains_eq_mem, decide_eq_false_iff_not]
  constructor
  · rintro ⟨⟨⟨⟨⟨⟨h1, h2⟩, h3⟩, h4⟩, h5⟩, h6⟩, h7⟩
    refine ⟨h1, h2, h3, h4, (fun e => by rw [e] at h5; simp at h5), nodup_take.2 fun i n hi => (h7 i n hi).2, fun n hn => ?_, fun hn => ?_⟩
    · obtain ⟨i, hi, e⟩ := List.getElem_of_mem hn
      have := h7 i n (by rw [← e]; exact List.getElem?_eq_getElem hi)
      omega
    · obtain ⟨i, hi, e⟩ := List.getElem_of_mem hn
      exact (h7 i x.le (by rw [← e]; exact List.getElem?_eq_getElem hi)).1.2 rfl
  · intro h
    have hpos : 1 ≤ nodes := by
      cases hx : x.ch with
      | nil => exact absurd hx h.ne
      | cons a l => have := h.nds a (by rw [hx]; exact List.mem_cons_self ..); omega
    refine ⟨⟨⟨⟨⟨⟨h.e1, h.e2⟩, h.l0⟩, h.l1⟩, ?_⟩, ?_⟩, fun i n hi => ⟨⟨h.nds n (List.mem_of_getElem? hi), fun e => h.le (e ▸ List.mem_of_getElem? hi)⟩, nodup_take.1 h.nd i n hi⟩⟩
    · have := List.length_pos_iff.2 h.ne
      omega
    · have := nodup_len nodes.toNat x.ch h.nd (fun n hn => by have := h.nds n hn; omega)
      omega
/-- A chain with its learner at its end. -/
theorem PlaceG.ready {x : Pt} {nodes : Int} (h : PlaceG x nodes) (hl : 1 ≤ x.le) : PlaceG ⟨x.ep, x.ch ++ [x.le], 0⟩ nodes :=
  ⟨h.e1, h.e2, Int.le_refl _, Int.le_trans h.l0 h.l1, by simp, by
    rw [List.nodup_append]
    refine ⟨h.nd, by simp, fun a ha b hb e => ?_⟩
    simp only [List.mem_singleton] at hb
    subst hb
    subst e
    exact h.le ha, fun n hn => by
      rcases List.mem_append.1 hn with hn | hn
      · exact h.nds n hn
      · simp only [List.mem_singleton] at hn
        subst hn
        exact ⟨hl, h.l1⟩, fun hn => by
      rcases List.mem_append.1 hn with hn | hn
      · have := (h.nds _ hn).1; simp only at this; omega
      · simp only [List.mem_singleton] at hn; omega⟩
theorem PlaceG.rise {x : Pt} {nodes : Int} (h : PlaceG x nodes) (hl : x.ep ≠ 1073741824) : PlaceG ⟨x.ep + 1, x.ch, x.le⟩ nodes :=
  ⟨by have := h.e1; simp only; omega, by have := h.e2; simp only; omega, h.l0, h.l1, h.ne, h.nd, h.nds, h.le⟩
theorem PlaceG.learn {x : Pt} {nodes n : Int} (h : PlaceG x nodes) (h1 : 1 ≤ n) (h2 : n ≤ nodes) (hn : n ∉ x.ch) : PlaceG ⟨x.ep, x.ch, n⟩ nodes := ⟨h.e1, h.e2, by simp only; omega, h2, h.ne, h.nd, h.nds, hn⟩
theorem PlaceG.drop {x : Pt} {nodes : Int} (h : PlaceG x nodes) : PlaceG ⟨x.ep, x.ch, 0⟩ nodes := ⟨h.e1, h.e2, Int.le_refl _, Int.le_trans h.l0 h.l1, h.ne, h.nd, h.nds, fun hn => by have := (h.nds _ hn).1; simp only at this; omega⟩
theorem wo_sub (l : List Int) (n : Int) : (wo l n).Sublist l := by
  unfold wo
  have e : l = l.take (l.idxOf n) ++ l.drop (l.idxOf n) := (List.take_append_drop _ _).symm
  conv => rhs; rw [e]
  refine (List.Sublist.refl _).append ?_
  rw [← List.drop_drop]
  exact List.drop_sublist _ _
theorem wo_len {l : List Int} {n : Int} (h : n ∈ l) : (wo l n).length + 1 = l.length := by
  have := List.idxOf_lt_length_iff.2 h
  unfold wo
  rw [List.length_append, List.length_take, List.length_drop]
  omega
theorem wo_erase : ∀ {l : List Int} {n : Int}, n ∈ l → wo l n = l.erase n
  | x :: l, n, h => by
    unfold wo
    by_cases e : x = n
    · subst e
      simp
    · have hl : n ∈ l := by rcases List.mem_cons.1 h with h | h; exact absurd h.symm e; exact h
      have := wo_erase hl
      unfold wo at this
      have hb : (x == n) = false := by simp [e]
      rw [List.idxOf_cons, hb, List.erase_cons, hb]
      simp [this]
theorem wo_not {l : List Int} {n : Int} (h : n ∈ l) (hn : l.Nodup) : n ∉ wo l n := by
  rw [wo_erase h, hn.mem_erase_iff]
  exact fun k => k.1 rfl
theorem PlaceG.lose {x : Pt} {nodes : Int} (h : PlaceG x nodes) (n : Int) : PlaceG (Pn.lose n x) nodes := by
  unfold Pn.lose
  split
  · exact h.drop
  · split
    · rename_i hc
      have hmem : n ∈ x.ch := by have := hc.1; simpa using this
      have hs := wo_sub x.ch n
      refine ⟨h.e1, h.e2, h.l0, h.l1, ?_, h.nd.sublist hs, fun m hm => h.nds m (hs.subset hm), fun hm => h.le (hs.subset hm)⟩
      intro e
      have := wo_len hmem
      simp only at e
      rw [e] at this
      have := hc.2
      simp at *
      omega
    · exact h
/-- Whoever is lost isn't there any more, but where it is alone. -/
theorem lose_gone {x : Pt} {nodes : Int} (h : PlaceG x nodes) {n : Int} (hn : 1 ≤ n) : loseB n (Pn.lose n x) = false := by
  unfold Pn.lose loseB
  split
  · rename_i e
    have hne : ¬ (0 : Int) = n := by omega
    have : n ∉ x.ch := by rw [← e]; exact h.le
    simp [hne, this]
  · rename_i e
    split
    · rename_i hc
      have hmem : n ∈ x.ch := by have := hc.1; simpa using this
      have := wo_not hmem h.nd
      simp [e, this]
    · rename_i hc
      simp only [List.contains_eq_mem, decide_eq_true_eq, ne_eq, not_and, Decidable.not_not] at hc ⊢
      by_cases hm : n ∈ x.ch
      · simp [e, hm, hc hm]
      · simp [e, hm]
/-! ### The epochs that begin -/
theorem rise_some : ∀ (t : List Nat) (ps qs : List Pt), rise ps t = some qs → t.Nodup → qs.length = ps.length ∧ ∀ (k : Nat) (x : Pt), ps[k]? = some x → qs[k]? = some (if k ∈ t then { x with ep := x.ep + 1 } else x) ∧ (k ∈ t → x.ep ≠ 1073741824)
  | [], ps, qs, h, _ => by
    unfold rise at h
    injection h with h
    subst h
    exact ⟨rfl, fun k x hx => ⟨by simp [hx], fun hk => by cases hk⟩⟩
  | k0 :: t, ps, qs, h, hn => by
    rw [List.nodup_cons] at hn
    unfold rise at h
    split at h
    · rename_i x0 hx0
      split at h
      · cases h
      · rename_i he
        obtain ⟨h1, h2⟩ := rise_some t _ qs h hn.2
        rw [List.length_set] at h1
        refine ⟨h1, fun k x hx => ?_⟩
        by_cases hk : k = k0
        · subst hk
          rw [hx0] at hx
          injection hx with hx
          subst hx
          have hl := (List.getElem?_eq_some_iff.1 hx0).1
          have := (h2 k ⟨x0.ep + 1, x0.ch, x0.le⟩ (by rw [List.getElem?_set]; simp [hl])).1
          rw [if_neg hn.1] at this
          exact ⟨by rw [this, if_pos (List.mem_cons_self ..)], fun _ => he⟩
        · have hx' : (ps.set k0 { x0 with ep := x0.ep + 1 })[k]? = some x := by
            rw [List.getElem?_set, if_neg (fun e => hk e.symm)]
            exact hx
          obtain ⟨h3, h4⟩ := h2 k x hx'
          rw [h3]
          refine ⟨?_, fun hm => h4 ?_⟩
          · simp [List.mem_cons, hk]
          · rcases List.mem_cons.1 hm with e | e
            · exact absurd e hk
            · exact e
    · rename_i hx0
      obtain ⟨h1, h2⟩ := rise_some t ps qs h hn.2
      refine ⟨h1, fun k x hx => ?_⟩
      have hk : k ≠ k0 := fun e => by subst e; rw [hx0] at hx; cases hx
      obtain ⟨h3, h4⟩ := h2 k x hx
      rw [h3]
      refine ⟨by simp [List.mem_cons, hk], fun hm => h4 ?_⟩
      rcases List.mem_cons.1 hm with e | e
      · exact absurd e hk
      · exact e
theorem rise_can : ∀ (t : List Nat) (ps : List Pt), t.Nodup → (∀ (k : Nat) (x : Pt), ps[k]? = some x → x.ep < 1073741824) → ∃ qs, rise ps t = some qs
  | [], ps, _, _ => ⟨ps, rfl⟩
  | k0 :: t, ps, hn, h => by
    rw [List.nodup_cons] at hn
    unfold rise
    split
    · rename_i x0 hx0
      rw [if_neg (by have := h k0 x0 hx0; omega)]
      -- the rest of t does not meet k0
      have : ∀ (t : List Nat) (ps : List Pt), t.Nodup → (∀ k ∈ t, ∀ x, ps[k]? = some x → x.ep < 1073741824) → ∃ qs, rise ps t = some qs := by
        intro t
        induction t with
        | nil => exact fun ps _ _ => ⟨ps, rfl⟩
        | cons k t ih =>
          intro ps hn h
          rw [List.nodup_cons] at hn
          unfold rise
          split
          · rename_i y hy
            rw [if_neg (by have := h k (List.mem_cons_self ..) y hy; omega)]
            refine ih _ hn.2 fun j hj x hx => ?_
            rw [List.getElem?_set, if_neg (fun (e : k = j) => hn.1 (e ▸ hj))] at hx
            exact h j (List.mem_cons_of_mem _ hj) x hx
          · exact ih _ hn.2 fun j hj x hx => h j (List.mem_cons_of_mem _ hj) x hx
      refine this t _ hn.2 fun j hj x hx => ?_
      rw [List.getElem?_set, if_neg (fun (e : k0 = j) => hn.1 (e ▸ hj))] at hx
      exact h j x hx
    · exact rise_can t ps hn.2 h
theorem idx_mem {α : Type} (f : α → Bool) : ∀ (l : List α) (i k : Nat), k ∈ idx f i l ↔ i ≤ k ∧ ∃ x, l[k - i]? = some x ∧ f x = true
  | [], i, k => by unfold idx; simp
  | y :: l, i, k => by
    unfold idx
    have ih := idx_mem f l (i + 1) k
    have key : (i + 1 ≤ k ∧ ∃ x, l[k - (i + 1)]? = some x ∧ f x = true) ↔ (i < k ∧ ∃ x, (y :: l)[k - i]? = some x ∧ f x = true) := by
      constructor
      · rintro ⟨h1, x, h2, h3⟩
        refine ⟨by omega, x, ?_, h3⟩
        rw [show k - i = (k - (i + 1)) + 1 by omega, List.getElem?_cons_succ]
        exact h2
      · rintro ⟨h1, x, h2, h3⟩
        refine ⟨by omega, x, ?_, h3⟩
        rw [show k - i = (k - (i + 1)) + 1 by omega, List.getElem?_cons_succ] at h2
        exact h2
    split
    · rename_i hy
      rw [List.mem_cons, ih, key]
      constructor
      · rintro (h | ⟨h1, h2⟩)
        · subst h
          exact ⟨Nat.le_refl _, y, by simp, hy⟩
        · exact ⟨by omega, h2⟩
      · rintro ⟨h1, h2⟩
        by_cases e : k = i
        · exact .inl e
        · exact .inr ⟨by omega, h2⟩
    · rename_i hy
      rw [ih, key]
      constructor
      · rintro ⟨h1, h2⟩
        exact ⟨by omega, h2⟩
      · rintro ⟨h1, x, h2, h3⟩
        by_cases e : k = i
        · subst e
          simp at h2
          subst h2
          exact absurd h3 hy
        · exact ⟨by omega, x, h2, h3⟩
theorem idx_mem0 {α : Type} (f : α → Bool) (l : List α) (k : Nat) : k ∈ idx f 0 l ↔ ∃ x, l[k]? = some x ∧ f x = true := by rw [idx_mem]; simp
theorem idx_nodup {α : Type} (f : α → Bool) : ∀ (l : List α) (i : Nat), (idx f i l).Nodup
  | [], i => List.nodup_nil
  | y :: l, i => by
    unfold idx
    split
    · rw [List.nodup_cons]
      refine ⟨fun h => ?_, idx_nodup f l _⟩
      have := ((idx_mem f l (i + 1) i).1 h).1
      omega
    · exact idx_nodup f l _
/-! ### Lives -/
theorem life_put {l : List (Int × Int)} (h : l.Pairwise fun a b => a.1 < b.1) (n m a : Int) : life (Fk.putPt l n m) a = if a = n then m else life l a := by
  have hm : Fk.Mono (Fk.cP n) l := Fk.cP_mono h n
  -- life by what stands there
  have key : ∀ (l : List (Int × Int)), l.Pairwise (fun a b => a.1 < b.1) → ∀ q ∈ l, life l q.1 = q.2 := by
    intro l
    induction l with
    | nil => intro _ q hq; cases hq
    | cons x l ih =>
      intro hp q hq
      rw [List.pairwise_cons] at hp
      unfold life
      rw [List.find?_cons]
      rcases List.mem_cons.1 hq with rfl | hq
      · simp
      · have hlt := hp.1 q hq
        have : (x.1 == q.1) = false := by simp; omega
        rw [this]
        have := ih hp.2 q hq
        unfold life at this
        exact this
  have none : ∀ (l : List (Int × Int)) (a : Int), (∀ q ∈ l, q.1 ≠ a) → life l a = 0 := by
    intro l a h
    unfold life
    have : l.find? (fun q => q.1 == a) = none := by
      rw [List.find?_eq_none]
      intro q hq
      simp [h q hq]
    rw [this]
  have hp' := Fk.putPt_rise (p := n) (o := m) h
  have mem : (n, m) ∈ Fk.putPt l n m := by
    unfold Fk.putPt
    split
    · rename_i hs
      obtain ⟨x, hx⟩ := Option.isSome_iff_exists.1 hs
      obtain ⟨h1, h2⟩ := Fk.hit_some hx
      exact List.mem_of_getElem? (i := Fk.low (Fk.cP n) l) (by rw [List.getElem?_set]; simp [(List.getElem?_eq_some_iff.1 h1).1])
    · exact Fk.ins_mem.2 (.inl rfl)
  have old : ∀ q ∈ l, q.1 ≠ n → q ∈ Fk.putPt l n m := by
    intro q hq hne
    unfold Fk.putPt
    split
    · rename_i hs
      obtain ⟨x, hx⟩ := Option.isSome_iff_exists.1 hs
      obtain ⟨h1, h2⟩ := Fk.hit_some hx
      obtain ⟨i, hi, e⟩ := List.getElem_of_mem hq
      refine List.mem_of_getElem? (i := i) ?_
      rw [List.getElem?_set, if_neg, ← e]
      · exact List.getElem?_eq_getElem hi
      · intro e2
        subst e2
        rw [List.getElem?_eq_getElem hi, e] at h1
        injection h1 with h1
        subst h1
        exact hne (Fk.cmpI_eq.1 h2)
    · exact Fk.ins_mem.2 (.inr hq)
  split
  · rename_i e
    subst e
    exact key _ hp' _ mem
  · rename_i hne
    by_cases hex : ∃ q ∈ l, q.1 = a
    · obtain ⟨q, hq, e⟩ := hex
      rw [← e, key l h q hq]
      exact key _ hp' q (old q hq (by omega))
    · rw [none l a (fun q hq e => hex ⟨q, hq, e⟩)]
      refine none _ a fun q hq e => ?_
      rcases Fk.putPt_mem hq with rfl | hq
      · exact hne e.symm
      · exact hex ⟨q, hq, e⟩
end Pn
namespace Pn
/-! ### What an event does to a plan -/
/-- Whoever stays stays in order; who comes is the learner, at the end. -/
def scan (le : Int) : List Int → List Int → Bool
  | [], b => match b with
    | [] => true
    | x :: r => r.isEmpty && x == le
  | y :: a, b => match b with
    | [] => true
    | x :: r => if y = x then scan le a r else scan le a (x :: r)
theorem scan_nil (le : Int) : ∀ a, scan le a [] = true
  | [] => rfl
  | _ :: _ => rfl
theorem scan_sub (le : Int) : ∀ (a b : List Int), b.Sublist a → scan le a b = true
  | a, [], _ => scan_nil le a
  | [], x :: b, h => by cases h
  | y :: a, x :: b, h => by
    unfold scan
    simp only
    by_cases e : y = x
    · subst e
      rw [if_pos rfl]
      exact scan_sub le a b (List.cons_sublist_cons.1 h)
    · rw [if_neg e]
      refine scan_sub le a (x :: b) ?_
      cases h with
      | cons _ h => exact h
      | cons_cons _ h => exact absurd rfl e
theorem scan_snoc (le : Int) : ∀ a, scan le a (a ++ [le]) = true
  | [] => by simp [scan]
  | y :: a => by
    rw [List.cons_append]
    unfold scan
    simp only [if_true]
    exact scan_snoc le a
structure GoodG (p : P) : Prop where
  lay : layB p.nodes p.copies p.parts.length = true
  pl : ∀ x ∈ p.parts, PlaceG x p.nodes
  lv : livesB p.nodes 0 p.lives = true
theorem good_iff {p : P} : goodB p = true ↔ GoodG p := by
  unfold goodB
  simp only [Bool.and_eq_true, List.all_eq_true]
  exact ⟨fun h => ⟨h.1.1, fun x hx => place_iff.1 (h.1.2 x hx), h.2⟩, fun h => ⟨⟨h.lay, fun x hx => place_iff.2 (h.pl x hx)⟩, h.lv⟩⟩
theorem lives_iff : ∀ (l : List (Int × Int)) (nodes last : Int), livesB nodes last l = true ↔ l.Pairwise (fun a b => a.1 < b.1) ∧ ∀ q ∈ l, last < q.1 ∧ q.1 ≤ nodes ∧ epB q.2 = true
  | [], nodes, last => by simp [livesB]
  | q :: l, nodes, last => by
    unfold livesB
    simp only [Bool.and_eq_true, decide_eq_true_eq]
    rw [lives_iff l nodes q.1, List.pairwise_cons]
    constructor
    · rintro ⟨⟨⟨h1, h2⟩, h3⟩, h4, h5⟩
      refine ⟨⟨fun x hx => (h5 x hx).1, h4⟩, fun x hx => ?_⟩
      rcases List.mem_cons.1 hx with rfl | hx
      · exact ⟨h1, h2, h3⟩
      · have := h5 x hx
        exact ⟨by omega, this.2⟩
    · rintro ⟨⟨h1, h2⟩, h3⟩
      have := h3 q (List.mem_cons_self ..)
      exact ⟨⟨⟨this.1, this.2.1⟩, this.2.2⟩, h2, fun x hx => ⟨h1 x hx, (h3 x (List.mem_cons_of_mem _ hx)).2⟩⟩
theorem lives_put {l : List (Int × Int)} {nodes n m : Int} (h : livesB nodes 0 l = true) (h1 : 1 ≤ n) (h2 : n ≤ nodes) (h3 : epB m = true) : livesB nodes 0 (Fk.putPt l n m) = true := by
  rw [lives_iff] at h ⊢
  refine ⟨Fk.putPt_rise h.1, fun q hq => ?_⟩
  rcases Fk.putPt_mem hq with rfl | hq
  · exact ⟨by simp only; omega, h2, h3⟩
  · exact h.2 q hq
theorem lay_iff {n c m : Int} : layB n c m = true ↔ (1 ≤ n ∧ n ≤ 5 ∧ 1 ≤ c ∧ c ≤ n ∧ 2 ≤ m ∧ m ≤ 4) := by
  unfold layB
  simp only [Bool.and_eq_true, decide_eq_true_eq]
  omega
theorem first_good {n c : Int} {m : Nat} (h1 : 1 ≤ n) (h2 : n ≤ 5) (h3 : 1 ≤ c) (h4 : c ≤ n) (h5 : m ≤ 4) : PlaceG (first n c m) n := by
  rw [← place_iff]
  have all : ((List.range 5).all fun a => (List.range 5).all fun b => (List.range 5).all fun m => !decide (b ≤ a) || placeB (first ((a : Int) + 1) ((b : Int) + 1) m) ((a : Int) + 1)) = true := by decide +kernel
  have h := List.all_eq_true.1 (List.all_eq_true.1 (List.all_eq_true.1 all (n - 1).toNat (List.mem_range.2 (by omega))) (c - 1).toNat (List.mem_range.2 (by omega))) m (List.mem_range.2 (by omega))
  rw [show (((n - 1).toNat : Nat) : Int) + 1 = n by omega, show (((c - 1).toNat : Nat) : Int) + 1 = c by omega, show decide ((c - 1).toNat ≤ (n - 1).toNat) = true from decide_eq_true (by omega)] at h
  simpa using h
theorem new_good {n c m : Int} (h : layB n c m = true) : GoodG (new n c m) := by
  have hl := lay_iff.1 h
  refine ⟨by unfold new; simp only [List.length_map, List.length_range]; rw [show ((m.toNat : Nat) : Int) = m by omega]; exact h, fun x hx => ?_, rfl⟩
  unfold new at hx ⊢
  simp only at hx ⊢
  obtain ⟨k, hk, rfl⟩ := List.mem_map.1 hx
  rw [List.mem_range] at hk
  exact first_good (by omega) (by omega) (by omega) (by omega) (by omega)
theorem new_low {n c m : Int} : ∀ x ∈ (new n c m).parts, x.ep = 1 := fun x hx => by
  unfold new at hx
  simp only at hx
  obtain ⟨k, hk, rfl⟩ := List.mem_map.1 hx
  rfl
/-- One step from plan to plan. -/
structure Stp (p q : P) (t : List Nat) : Prop where
  good : GoodG q
  nodes : q.nodes = p.nodes
  copies : q.copies = p.copies
  len1 : p.parts.length ≤ q.parts.length
  len2 : q.parts.length ≤ p.parts.length + 1
  nd : t.Nodup
  lt : ∀ k ∈ t, k < q.parts.length
  at_ : ∀ (k : Nat) (a : Pt), p.parts[k]? = some a → ∃ b, q.parts[k]? = some b ∧ b.ep = a.ep + (if k ∈ t then 1 else 0) ∧ (k ∉ t → b = a) ∧ scan a.le a.ch b.ch = true
  lives : ∀ n, life p.lives n ≤ life q.lives n
  low : ∀ N : Int, 1 ≤ N → (∀ x ∈ p.parts, x.ep ≤ N) → ∀ x ∈ q.parts, x.ep ≤ N + 1
theorem Stp.tlen {p q : P} {t : List Nat} (h : Stp p q t) : t.length ≤ 4 := by
  have h1 := (lay_iff.1 h.good.lay)
  have h2 := nodup_len q.parts.length (t.map fun (k : Nat) => (k : Int) + 1) (by
    unfold List.Nodup
    rw [List.pairwise_map]
    exact h.nd.imp fun hab e => hab (by omega)) (fun n hn => by
    obtain ⟨k, hk, rfl⟩ := List.mem_map.1 hn
    have := h.lt k hk
    omega)
  rw [List.length_map] at h2
  omega
theorem fin_ok {p q : P} {ps : List Pt} {ls : List (Int × Int)} {t t' : List Nat} (h : fin p ps ls t = .ok q t') : t' = t ∧ ∃ qs, rise ps t = some qs ∧ q = ⟨p.nodes, p.copies, qs, ls⟩ := by
  unfold fin at h
  cases hr : rise ps t with
  | none => rw [hr] at h; cases h
  | some qs => rw [hr] at h; injection h with h1 h2; exact ⟨h2.symm, qs, rfl, h1.symm⟩
theorem fin_step {p q : P} {ps : List Pt} {ls : List (Int × Int)} {t t' : List Nat} (hg : GoodG p) (h : fin p ps ls t = .ok q t') (hl : ps.length = p.parts.length) (hn : t.Nodup) (hk : ∀ k ∈ t, k < p.parts.length)
    (hp : ∀ (k : Nat) (a : Pt), p.parts[k]? = some a → ∃ b, ps[k]? = some b ∧ b.ep = a.ep ∧ (k ∉ t → b = a) ∧ scan a.le a.ch b.ch = true ∧ PlaceG b p.nodes)
    (hlv : livesB p.nodes 0 ls = true) (hlf : ∀ n, life p.lives n ≤ life ls n) : t' = t ∧ Stp p q t := by
  obtain ⟨rfl, qs, hr, rfl⟩ := fin_ok h
  obtain ⟨h1, h2⟩ := rise_some _ _ _ hr hn
  have back : ∀ (k : Nat) (c : Pt), qs[k]? = some c → ∃ a b, p.parts[k]? = some a ∧ ps[k]? = some b ∧ b.ep = a.ep ∧ PlaceG b p.nodes ∧ c = (if k ∈ t' then ⟨b.ep + 1, b.ch, b.le⟩ else b) ∧ (k ∈ t' → b.ep ≠ 1073741824) := by
    intro k c hc
    have hkl := (List.getElem?_eq_some_iff.1 hc).1
    rw [h1, hl] at hkl
    obtain ⟨b, hb, e1, -, -, e4⟩ := hp k _ (List.getElem?_eq_getElem hkl)
    obtain ⟨h3, h4⟩ := h2 k b hb
    rw [hc] at h3
    injection h3 with h3
    exact ⟨_, b, List.getElem?_eq_getElem hkl, hb, e1, e4, h3, h4⟩
  refine ⟨rfl, ⟨⟨?_, fun x hx => ?_, hlv⟩, rfl, rfl, by simp only; omega, by simp only; omega, hn, fun k hk' => by have := hk k hk'; simp only; omega, fun k a ha => ?_, hlf, fun N hN hlo x hx => ?_⟩⟩
  · simp only
    rw [h1, hl]
    exact hg.lay
  · obtain ⟨k, hk', rfl⟩ := List.getElem_of_mem hx
    obtain ⟨a, b, -, -, -, hb, e, he⟩ := back k _ (List.getElem?_eq_getElem hk')
    rw [e]
    split
    · exact hb.rise (he (by assumption))
    · exact hb
  · obtain ⟨b, hb, e1, e2, e3, e4⟩ := hp k a ha
    obtain ⟨h3, h4⟩ := h2 k b hb
    refine ⟨_, h3, ?_, fun hk' => by rw [if_neg hk']; exact e2 hk', ?_⟩
    · split
      · simp only; omega
      · omega
    · split
      · exact e3
      · exact e3
  · obtain ⟨k, hk', rfl⟩ := List.getElem_of_mem hx
    obtain ⟨a, b, ha, -, e1, -, e, -⟩ := back k _ (List.getElem?_eq_getElem hk')
    have := hlo a (List.mem_of_getElem? ha)
    rw [e]
    split
    · simp only; omega
    · omega
theorem lose_same {n : Int} {x : Pt} (h : loseB n x = false) : lose n x = x := by
  unfold loseB at h
  unfold lose
  simp only [Bool.or_eq_false_iff, beq_eq_false_iff_ne, ne_eq, Bool.and_eq_false_iff, decide_eq_false_iff_not, Decidable.not_not] at h
  rw [if_neg h.1, if_neg]
  rintro ⟨h1, h2⟩
  rcases h.2 with h3 | h3
  · rw [h1] at h3; cases h3
  · exact h2 h3
theorem lose_ep' (n : Int) (x : Pt) : (lose n x).ep = x.ep := by
  unfold lose
  split
  · rfl
  · split <;> rfl
theorem lose_scan (n : Int) (x : Pt) : scan x.le x.ch (lose n x).ch = true := by
  unfold lose
  split
  · exact scan_sub _ _ _ (List.Sublist.refl _)
  · split
    · exact scan_sub _ _ _ (wo_sub _ _)
    · exact scan_sub _ _ _ (List.Sublist.refl _)
/-- What an event needs. -/
theorem okB_iff {p : P} {x : Ev} : okB p x = true ↔ GoodG p ∧ evB x = true ∧ x.node ≤ p.nodes ∧ x.part < p.parts.length := by
  unfold okB
  simp only [Bool.and_eq_true, decide_eq_true_eq]
  rw [good_iff]
  constructor
  · rintro ⟨⟨⟨h1, h2⟩, h3⟩, h4⟩; exact ⟨h1, h2, h3, h4⟩
  · rintro ⟨h1, h2, h3, h4⟩; exact ⟨⟨⟨h1, h2⟩, h3⟩, h4⟩
theorem ev_cases {x : Ev} (h : evB x = true) : (x.kind = 1 ∧ 1 ≤ x.node ∧ x.part = 0 ∧ epB x.n = true) ∨ (x.kind = 2 ∧ 1 ≤ x.node ∧ x.part = 0) ∨ (x.kind = 3 ∧ 1 ≤ x.node ∧ 0 ≤ x.part) ∨ x.kind = 4 ∨ (x.kind = 5 ∧ 1 ≤ x.node ∧ 0 ≤ x.part) := by
  unfold evB at h
  split at h
  · simp only [Bool.and_eq_true, decide_eq_true_eq] at h; exact .inl ⟨by assumption, by omega, by omega, h.2⟩
  split at h
  · simp only [Bool.and_eq_true, decide_eq_true_eq] at h; exact .inr (.inl ⟨by assumption, by omega, by omega⟩)
  split at h
  · simp only [Bool.and_eq_true, decide_eq_true_eq] at h; exact .inr (.inr (.inl ⟨by assumption, by omega, by omega⟩))
  split at h
  · exact .inr (.inr (.inr (.inl (by assumption))))
  split at h
  · simp only [Bool.and_eq_true, decide_eq_true_eq] at h; exact .inr (.inr (.inr (.inr ⟨by assumption, by omega, by omega⟩)))
  · cases h
theorem apply_ok {p q : P} {x : Ev} {t : List Nat} (h : apply p x = .ok q t) : okB p x = true := by
  unfold apply at h
  split at h
  · cases h
  · rename_i e
    simpa using e
theorem apply_kind {p : P} {x : Ev} (h : okB p x = true) : apply p x = if x.kind = 1 then apply1 p x else if x.kind = 2 then apply2 p x else if x.kind = 3 then apply3 p x else if x.kind = 4 then apply4 p else apply5 p x := by
  unfold apply
  rw [h, if_neg (by decide)]
theorem at_some {p : P} {x : Ev} (h0 : 0 ≤ x.part) (h1 : x.part < p.parts.length) : p.parts[x.part.toNat]? = some (at' p x) := by
  unfold at'
  rw [List.getD_eq_getElem?_getD, List.getElem?_eq_getElem (by omega)]
  rfl
theorem step_of {p q : P} {x : Ev} {t : List Nat} (h : apply p x = .ok q t) : Stp p q t := by
  have hok := apply_ok h
  obtain ⟨hg, hev, hn, hp⟩ := okB_iff.1 hok
  rw [apply_kind hok] at h
  have self : ∀ (k : Nat) (a : Pt), p.parts[k]? = some a → a ∈ p.parts ∧ PlaceG a p.nodes := fun k a ha => ⟨List.mem_of_getElem? ha, hg.pl a (List.mem_of_getElem? ha)⟩
  rcases ev_cases hev with ⟨hk, h1, h0, h3⟩ | ⟨hk, h1, h0⟩ | ⟨hk, h1, h0⟩ | hk | ⟨hk, h1, h0⟩
  · rw [if_pos hk] at h
    unfold apply1 at h
    split at h
    · cases h
    · rename_i hlt
      have hpw := ((lives_iff _ _ _).1 hg.lv).1
      obtain ⟨rfl, hs⟩ := fin_step hg h rfl (idx_nodup _ _ _) (fun k hk => by obtain ⟨a, ha, -⟩ := (idx_mem0 _ _ _).1 hk; exact (List.getElem?_eq_some_iff.1 ha).1) (fun k a ha => ⟨a, ha, rfl, fun _ => rfl, scan_sub _ _ _ (List.Sublist.refl _), (self k a ha).2⟩) (lives_put hg.lv h1 hn h3) (fun n => by
        rw [life_put hpw]
        split
        · rename_i e; rw [e]; omega
        · exact Int.le_refl _)
      exact hs
  · rw [if_neg (by omega), if_pos hk] at h
    unfold apply2 at h
    split at h
    · cases h
    · obtain ⟨rfl, hs⟩ := fin_step hg h (by rw [List.length_map]) (idx_nodup _ _ _) (fun k hk => by obtain ⟨a, ha, -⟩ := (idx_mem0 _ _ _).1 hk; exact (List.getElem?_eq_some_iff.1 ha).1) (fun k a ha => ⟨lose x.node a, by rw [List.getElem?_map, ha]; rfl, lose_ep' _ _, fun hk => lose_same (by
        cases hb : loseB x.node a with
        | false => rfl
        | true => exact absurd ((idx_mem0 _ _ _).2 ⟨a, ha, hb⟩) hk), lose_scan _ _, (self k a ha).2.lose _⟩) hg.lv (fun n => Int.le_refl _)
      exact hs
  · rw [if_neg (by omega), if_neg (by omega), if_pos hk] at h
    unfold apply3 at h
    split at h
    · rename_i he
      have hat := at_some (p := p) h0 hp
      obtain ⟨rfl, hs⟩ := fin_step hg h (by rw [List.length_set]) (by simp) (fun k hk => by simp only [List.mem_singleton] at hk; subst hk; omega) (fun k a ha => by
        by_cases e : k = x.part.toNat
        · subst e
          rw [hat] at ha
          injection ha with ha
          subst ha
          refine ⟨⟨(at' p x).ep, (at' p x).ch ++ [x.node], 0⟩, by rw [List.getElem?_set]; simp [(List.getElem?_eq_some_iff.1 hat).1], rfl, fun hk => absurd (List.mem_singleton.2 rfl) hk, ?_, ?_⟩
          · rw [he.2]; exact scan_snoc _ _
          · rw [he.2]; exact (self _ _ hat).2.ready (by omega)
        · refine ⟨a, by rw [List.getElem?_set, if_neg (fun h => e h.symm)]; exact ha, rfl, fun _ => rfl, scan_sub _ _ _ (List.Sublist.refl _), (self k a ha).2⟩) hg.lv (fun n => Int.le_refl _)
      exact hs
    · cases h
  · rw [if_neg (by omega), if_neg (by omega), if_neg (by omega), if_pos hk] at h
    unfold apply4 at h
    split at h
    · cases h
    · rename_i hm
      injection h with e1 e2
      subst e1 e2
      have hl := lay_iff.1 hg.lay
      have fg : PlaceG (first p.nodes p.copies p.parts.length) p.nodes := first_good (by omega) (by omega) (by omega) (by omega) (by omega)
      refine ⟨⟨?_, fun y hy => ?_, hg.lv⟩, rfl, rfl, by simp, by simp, by simp, fun k hk => by simp at hk ⊢; omega, fun k a ha => ?_, fun n => Int.le_refl _, fun N hN hlo y hy => ?_⟩
      · rw [lay_iff]; simp; omega
      · rcases List.mem_append.1 hy with hy | hy
        · exact hg.pl y hy
        · simp only [List.mem_singleton] at hy; subst hy; exact fg
      · have hkl := (List.getElem?_eq_some_iff.1 ha).1
        have hne : ¬ k ∈ [p.parts.length] := by simp; omega
        exact ⟨a, by rw [List.getElem?_append_left hkl]; exact ha, by rw [if_neg hne]; omega, fun _ => rfl, scan_sub _ _ _ (List.Sublist.refl _)⟩
      · rcases List.mem_append.1 hy with hy | hy
        · have := hlo y hy; omega
        · simp only [List.mem_singleton] at hy; subst hy; show (1 : Int) ≤ N + 1; omega
  · rw [if_neg (by omega), if_neg (by omega), if_neg (by omega), if_neg (by omega)] at h
    unfold apply5 at h
    split at h
    · cases h
    · rename_i he
      have hat := at_some (p := p) h0 hp
      have hw : wantB p.copies x.node (at' p x) = true := by
        cases hb : wantB p.copies x.node (at' p x) with
        | true => rfl
        | false => exact absurd (.inr hb) he
      unfold wantB at hw
      simp only [Bool.and_eq_true, Bool.not_eq_true', List.contains_eq_mem, decide_eq_false_iff_not] at hw
      obtain ⟨rfl, hs⟩ := fin_step hg h (by rw [List.length_set]) (by simp) (fun k hk => by simp only [List.mem_singleton] at hk; subst hk; omega) (fun k a ha => by
        by_cases e : k = x.part.toNat
        · subst e
          rw [hat] at ha
          injection ha with ha
          subst ha
          exact ⟨⟨(at' p x).ep, (at' p x).ch, x.node⟩, by rw [List.getElem?_set]; simp [(List.getElem?_eq_some_iff.1 hat).1], rfl, fun hk => absurd (List.mem_singleton.2 rfl) hk, scan_sub _ _ _ (List.Sublist.refl _), (self _ _ hat).2.learn h1 hn hw.2⟩
        · exact ⟨a, by rw [List.getElem?_set, if_neg (fun h => e h.symm)]; exact ha, rfl, fun _ => rfl, scan_sub _ _ _ (List.Sublist.refl _), (self k a ha).2⟩) hg.lv (fun n => Int.le_refl _)
      exact hs
end Pn
end Go.Proofs.YtmkinnheoejphaaGreatDoor
