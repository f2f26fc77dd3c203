/- A TABLE IN MEMORY OF ITS OWN; A LEDGER. -/
import Derived.Test.YtloallndnmofnaaGreatDoorSl
import Derived.Test.YtloallndnmofnaaGreatDoorLd
import Derived.Test.YtloallndnmofnaaGreatDoorBlk
namespace Go.Proofs.YtloallndnmofnaaGreatDoor
open Go.RowKit

section
variable {w : World} {v : Value} {gb : Option Nat} {e size n : Nat} {xs : List Value}
theorem Sl.make (h : Sl w v gb e size n xs) : ∃ ao cap, v = .slice ao n cap ∧ n ≤ cap ∧ (0 < n → ∃ g p, ao = some ⟨g, p, none⟩ ∧ gb = some g) ∧ (ao = none → v = .slice none 0 0) := by
  rcases h.2 with ⟨rfl, rfl, rfl⟩ | ⟨g, p, cap, cur, rfl, rfl, _, hn, _⟩
  · exact ⟨none, 0, rfl, Nat.le_refl _, fun h => by omega, fun _ => rfl⟩
  · exact ⟨_, cap, rfl, hn, fun _ => ⟨g, p, rfl, rfl⟩, fun h => by cases h⟩
theorem Sl.setCell (h : Sl w v gb e size n xs) (a : Addr) (u : Value) (hne : some a.block ≠ gb) : Sl (w.setCell a u) v gb e size n xs :=
  h.same (fun k hk => Below.heap_setCell _ _ _ _ (by rintro rfl; exact hne hk.symm))
theorem Sl.alloc (h : Sl w v gb e size n xs) (o : Obj) : Sl (w.alloc o) v gb e size n xs :=
  h.same (fun k hk => Below.heap_alloc _ _ _ (h.lt k hk))
theorem Sl.below {w' : World} (h : Sl w v gb e size n xs) (hb : RowKit.Below w.heap.size w w') : Sl w' v gb e size n xs := h.same (fun k hk => hb.block k (h.lt k hk))
theorem Sl.grown {w' : World} {r : Option Nat} (h : Sl w v gb e size n xs) (hg : w.grownBy w' r) (hne : ∀ k, gb = some k → r ≠ some k) : Sl w' v gb e size n xs :=
  h.same (fun k hk => hg.block k (h.lt k hk) (fun e => hne k hk e.symm))
theorem Sl.setAny {k q cap i : Nat} {x : Value} (h : Sl w (.slice (some ⟨k, q, none⟩) n cap) (some k) e size n xs) : Sl (w.setCell ⟨k, q + i, none⟩ x) (.slice (some ⟨k, q, none⟩) n cap) (some k) e size n (xs.set i x) := by
  obtain ⟨h1, h2⟩ := h
  refine ⟨by rw [List.length_set]; exact h1, .inr ?_⟩
  rcases h2 with ⟨hv, _⟩ | ⟨g, p, cap0, cur, hg, hv, hc, hn, hs, ht⟩
  · cases hv
  · cases hg; cases hv
    have hb : Blk w k cur e := hc
    refine ⟨k, q, cap, _, rfl, rfl, hb.set x, hn, by simpa using hs, ?_⟩
    rw [← ht, Array.toList_setIfInBounds, List.drop_set, if_neg (by omega), Nat.add_sub_cancel_left, List.take_set]
/-- Cut at the front. -/
theorem Sl.cut {k q cap d m : Nat} (h : Sl w (.slice (some ⟨k, q, none⟩) n cap) gb e size n xs) (hm : n = d + m) : Sl w (.slice (some ⟨k, q + d * size, none⟩) m (cap - d)) gb e size m (xs.drop (d * size)) := by
  obtain ⟨h1, h2⟩ := h
  refine ⟨by rw [List.length_drop, h1, hm, Nat.add_mul]; omega, .inr ?_⟩
  rcases h2 with ⟨hv, _⟩ | ⟨g, p, cap0, cur, hg, hv, hc, hn, hs, ht⟩
  · cases hv
  · cases hv
    refine ⟨k, q + d * size, cap - d, cur, hg, rfl, hc, by omega, ?_, ?_⟩
    · have : (d + (cap - d)) * size = cap * size := by congr 1; omega
      rw [Nat.add_mul] at this
      omega
    · rw [← ht, List.drop_take, List.drop_drop, hm]
      congr 1
      rw [Nat.add_mul]
      omega
end

/-- A producer in memory: his slots' slice, and its block. -/
structure En where
  prod : Int
  L : List Ld.Sl
  v : Value
  gb : Option Nat
def En.cells (e : En) : List Value := [.int .i64 e.prod, e.v]
def three (s : Ld.Sl) : List Value := [.int .i64 s.seq, .int .i64 s.base, .int .i64 s.fin]
def En.ok (w : World) (e : En) : Prop := Sl w e.v e.gb 40 3 e.L.length (e.L.flatMap three)
def tabOf (E : List En) : Ld.Tb := E.map fun e => (e.prod, e.L)
def foot (tb : Option Nat) (E : List En) (k : Nat) : Prop := tb = some k ∨ ∃ e ∈ E, e.gb = some k
/-- A table in memory of its own. -/
structure Own (w : World) (tv : Value) (tb : Option Nat) (E : List En) : Prop where
  row : Sl w tv tb 46 2 E.length (E.flatMap En.cells)
  ok : ∀ e ∈ E, En.ok w e
  apart : E.Pairwise (fun a b => ∀ k, a.gb = some k → b.gb ≠ some k)
  far : ∀ e ∈ E, ∀ k, e.gb = some k → tb ≠ some k

theorem flat_len {α : Type} {f : α → List Value} {c : Nat} (hf : ∀ a, (f a).length = c) (L : List α) : (L.flatMap f).length = L.length * c := by
  induction L with
  | nil => simp
  | cons a r ih => rw [List.flatMap_cons, List.length_append, ih, hf, List.length_cons, Nat.add_mul]; omega
theorem flat_at {α : Type} {f : α → List Value} {c : Nat} (hf : ∀ a, (f a).length = c) : ∀ {L : List α} {j : Nat} {x : α}, L[j]? = some x → ∀ i, i < c → (L.flatMap f)[j * c + i]? = (f x)[i]?
  | [], j, x, h, _, _ => by simp at h
  | y :: L, 0, x, h, i, hi => by
    simp at h
    subst h
    rw [List.flatMap_cons, List.getElem?_append_left (by rw [hf]; omega)]
    simp
  | y :: L, j + 1, x, h, i, hi => by
    simp at h
    rw [List.flatMap_cons, List.getElem?_append_right (by rw [hf, Nat.add_mul]; omega)]
    rw [← flat_at hf h i hi]
    congr 1
    rw [hf, Nat.add_mul]
    omega
theorem flat_take {α : Type} {f : α → List Value} {c : Nat} (hf : ∀ a, (f a).length = c) (L : List α) (k : Nat) : (L.flatMap f).take (k * c) = (L.take k).flatMap f := by
  induction L generalizing k with
  | nil => simp
  | cons a r ih =>
    cases k with
    | zero => simp
    | succ k =>
      rw [List.flatMap_cons, List.take_succ_cons, List.flatMap_cons, ← ih, List.take_append, hf, List.take_of_length_le (by rw [hf, Nat.add_mul]; omega)]
      congr 2
      rw [Nat.add_mul]; omega
theorem flat_drop {α : Type} {f : α → List Value} {c : Nat} (hf : ∀ a, (f a).length = c) (L : List α) (k : Nat) : (L.flatMap f).drop (k * c) = (L.drop k).flatMap f := by
  induction L generalizing k with
  | nil => simp
  | cons a r ih =>
    cases k with
    | zero => simp
    | succ k =>
      rw [List.flatMap_cons, List.drop_succ_cons, ← ih, List.drop_append, hf, List.drop_of_length_le (by rw [hf, Nat.add_mul]; omega), List.nil_append]
      congr 1
      rw [Nat.add_mul]; omega
theorem three_len (s : Ld.Sl) : (three s).length = 3 := rfl
theorem encells_len (e : En) : e.cells.length = 2 := rfl
theorem one_three (L : List Ld.Sl) : ∀ u ∈ L.flatMap three, u.oneCell' = true := by
  intro u hu
  obtain ⟨s, -, hs⟩ := List.mem_flatMap.1 hu
  simp only [three, List.mem_cons, List.not_mem_nil, or_false] at hs
  rcases hs with rfl | rfl | rfl <;> rfl

theorem En.ok.slots {w : World} {e : En} (h : En.ok w e) (P : Nat → Prop) (hP : ∀ k, e.gb = some k → P k) : SlotsAt P e.v e.L w := by
  obtain ⟨ao, cap, hv, hc, hp, hn⟩ := Sl.make h
  refine ⟨ao, cap, hv, fun k s hk => ?_⟩
  have hlt := (List.getElem?_eq_some_iff.1 hk).1
  obtain ⟨g, p, rfl, hg⟩ := hp (by omega)
  have key : ∀ i u, i < 3 → (three s)[i]? = some u → w.cell? ⟨g, p + (k * 3 + i), none⟩ = some u := fun i u hi hu =>
    Sl.cell h hv (k * 3 + i) u (by rw [flat_at three_len hk i hi]; exact hu)
  exact ⟨g, p, rfl, hP g hg, key 0 _ (by decide) rfl, key 1 _ (by decide) rfl, key 2 _ (by decide) rfl⟩
theorem tab_at {E : List En} {j : Nat} {x : Int × List Ld.Sl} (h : (tabOf E)[j]? = some x) : ∃ e, E[j]? = some e ∧ x = (e.prod, e.L) := by
  unfold tabOf at h
  rw [List.getElem?_map] at h
  cases he : E[j]? with
  | none => rw [he] at h; cases h
  | some e => rw [he] at h; exact ⟨e, rfl, (Option.some.inj h).symm⟩
theorem tab_len (E : List En) : (tabOf E).length = E.length := by simp [tabOf]
theorem Own.tab {w : World} {tv : Value} {tb : Option Nat} {E : List En} (h : Own w tv tb E) (P : Nat → Prop) (hP : ∀ k, foot tb E k → P k) : TabAt P tv (tabOf E) w := by
  obtain ⟨ao, cap, hv, hc, hp, hn⟩ := h.row.make
  refine ⟨ao, cap, by rw [tab_len]; exact hv, fun j x hj => ?_⟩
  obtain ⟨e, he, rfl⟩ := tab_at hj
  have hlt := (List.getElem?_eq_some_iff.1 he).1
  obtain ⟨g, p, rfl, hg⟩ := hp (by omega)
  have key : ∀ i u, i < 2 → e.cells[i]? = some u → w.cell? ⟨g, p + (j * 2 + i), none⟩ = some u := fun i u hi hu =>
    h.row.cell hv (j * 2 + i) u (by rw [flat_at encells_len he i hi]; exact hu)
  exact ⟨g, p, e.v, rfl, hP g (.inl hg), key 0 _ (by decide) rfl, key 1 _ (by decide) rfl, (h.ok e (List.mem_of_getElem? he)).slots P fun k hk => hP k (.inr ⟨e, List.mem_of_getElem? he, hk⟩)⟩
theorem Own.same {w w' : World} {tv : Value} {tb : Option Nat} {E : List En} (h : Own w tv tb E) (hb : ∀ k, foot tb E k → w'.heap[k]? = w.heap[k]?) : Own w' tv tb E :=
  ⟨h.row.same (fun k hk => hb k (.inl hk)), fun e he => Sl.same (h.ok e he) (fun k hk => hb k (.inr ⟨e, he, hk⟩)), h.apart, h.far⟩
theorem Own.lt {w : World} {tv : Value} {tb : Option Nat} {E : List En} (h : Own w tv tb E) {k : Nat} (hk : foot tb E k) : k < w.heap.size := by
  rcases hk with hk | ⟨e, he, hk⟩
  · exact h.row.lt k hk
  · exact Sl.lt (h.ok e he) k hk
theorem Own.below {w w' : World} {tv : Value} {tb : Option Nat} {E : List En} (h : Own w tv tb E) (hb : RowKit.Below w.heap.size w w') : Own w' tv tb E := h.same fun k hk => hb.block k (h.lt hk)
theorem Own.nil (w : World) : Own w (.slice none 0 0) none [] := ⟨⟨rfl, .inl ⟨rfl, rfl, rfl⟩⟩, (fun _ h => by cases h), List.Pairwise.nil, (fun _ h => by cases h)⟩

/-- A ledger, in blocks of B. -/
structure Lgr (w : World) (rb : Nat) (B : Nat → Prop) (T : Ld.Tb) : Prop where
  lies : ∃ tv tb E, Blk w rb #[tv] 59 ∧ Own w tv tb E ∧ tabOf E = T ∧ (∀ k, foot tb E k → B k) ∧ ¬ foot tb E rb
  rbIn : B rb
  bnd : ∀ k, B k → k < w.heap.size
section
variable {w w' : World} {rb : Nat} {B B' C C' : Nat → Prop} {T : Ld.Tb}
theorem Lgr.same (h : Lgr w rb B T) (hs : w.heap.size ≤ w'.heap.size) (hb : ∀ k, B k → w'.heap[k]? = w.heap[k]?) : Lgr w' rb B T := by
  obtain ⟨tv, tb, E, h1, h2, h3, h4, h5⟩ := h.lies
  exact ⟨⟨tv, tb, E, h1.same (hb rb h.rbIn), h2.same fun k hk => hb k (h4 k hk), h3, h4, h5⟩, h.rbIn, fun k hk => Nat.lt_of_lt_of_le (h.bnd k hk) hs⟩
theorem Lgr.below (h : Lgr w rb B T) (hb : RowKit.Below w.heap.size w w') : Lgr w' rb B T := h.same hb.size fun k hk => hb.block k (h.bnd k hk)
/-- Another one's doing. -/
theorem Lgr.moved (h : Lgr w rb B T) (hm : Moved C C' w w') (hd : ∀ k, B k → ¬ C k) : Lgr w' rb B T ∧ ∀ k, B k → ¬ C' k :=
  ⟨h.same hm.size fun k hk => hm.block k (h.bnd k hk) (hd k hk), fun k hk hc => by rcases hm.new k hc with h1 | h1; exact hd k hk h1; have := h.bnd k hk; omega⟩
theorem Lgr.view (h : Lgr w rb B T) : ∃ tv, Blk w rb #[tv] 59 ∧ TabAt (fun _ => True) tv T w := by
  obtain ⟨tv, tb, E, h1, h2, rfl, -, -⟩ := h.lies
  exact ⟨tv, h1, h2.tab _ fun _ _ => trivial⟩
end
end Go.Proofs.YtloallndnmofnaaGreatDoor
