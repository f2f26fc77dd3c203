/- A LEDGER IN THE MIDST OF remember. -/
import Derived.Test.YtloallndnmofnaaGreatDoorIns2
namespace Go.Proofs.YtloallndnmofnaaGreatDoor
open Go.RowKit

theorem one_cells {w : World} {E : List En} (h : ∀ e ∈ E, En.ok w e) : ∀ u ∈ E.flatMap En.cells, u.oneCell' = true := by
  intro u hu
  obtain ⟨e, he, hs⟩ := List.mem_flatMap.1 hu
  simp only [En.cells, List.mem_cons, List.not_mem_nil, or_false] at hs
  rcases hs with rfl | rfl
  · rfl
  · obtain ⟨ao, cap, hv, -⟩ := Sl.make (h e he)
    rw [hv]; rfl
/-- slices.Insert, wherever. -/
theorem dinsert (tv : Value) (tb : Option Nat) (m i vb : Nat) (xs : List Value) (n : Int) (w : World) (hs : Sl w tv tb 46 2 m xs) (h1x : ∀ u ∈ xs, u.oneCell' = true) (hm : m ≤ 64) (hi : i ≤ m) (hv : Blk w vb #[.int .i64 n, .slice none 0 0] 46) (hne : tb ≠ some vb) :
    Calls Tryz.prog 52 #[tv, .int .i64 i, .slice (some ⟨vb, 0, none⟩) 1 1] w (Insd w tb (m + 1) (xs.take (i * 2) ++ ([.int .i64 n, .slice none 0 0] ++ xs.drop (i * 2)))) := by
  rcases Nat.eq_or_lt_of_le hi with rfl | hlt
  · rw [List.take_of_length_le (by rw [hs.1]; exact Nat.le_refl _), List.drop_of_length_le (by rw [hs.1]; exact Nat.le_refl _), List.append_nil]
    exact dins_end tv tb i vb xs n w hs hm hv
  · obtain ⟨ao, cap, rfl, hnc, hp, -⟩ := hs.make
    obtain ⟨g, p, rfl, rfl⟩ := hp (by omega)
    by_cases hroom : m + 1 ≤ cap
    · exact dins_shift g p cap m i vb xs n w hs h1x hm hlt hroom hv (fun e => hne (by rw [e]))
    · exact dins_grow g p cap m i vb xs n w hs h1x hm hlt (by omega) hv

/-- Between the steps of remember: the ledger's block, its table. -/
structure Mid (w0 W : World) (rb : Nat) (B0 : Nat → Prop) (tv : Value) (g : Nat) (E : List En) : Prop where
  blk : Blk W rb #[tv] 59
  own : Own W tv (some g) E
  nrb : ¬ foot (some g) E rb
  moved : Moved B0 (fun k => k = rb ∨ foot (some g) E k) w0 W
  rbIn : B0 rb
theorem Mid.of {w w1 : World} {rb : Nat} {B : Nat → Prop} {tv : Value} {tb : Option Nat} {E : List En} {g : Nat} (h1 : Blk w rb #[tv] 59) (h2 : Own w tv tb E) (h4 : ∀ k, foot tb E k → B k) (h5 : ¬ foot tb E rb) (hrb : B rb) (hg : tb = some g) (hb : RowKit.Below w.heap.size w w1) : Mid w w1 rb B tv g E := by
  subst hg
  refine ⟨h1.below hb, h2.below hb, h5, (Moved.of_below hb).mono (fun k h => h) (fun k hk => .inl ?_), hrb⟩
  rcases hk with rfl | hk
  · exact hrb
  · exact h4 k hk
theorem tab_set (E : List En) (i : Nat) (e : En) : tabOf (E.set i e) = (tabOf E).set i (e.prod, e.L) := by simp [tabOf, List.map_set]
theorem flat_set {α : Type} {f : α → List Value} (E : List α) (i : Nat) {e e' : α} {a b b' : Value} (hi : E[i]? = some e) (hf : ∀ x, (f x).length = 2) (h1 : f e = [a, b]) (h2 : f e' = [a, b']) : (E.set i e').flatMap f = (E.flatMap f).set (i * 2 + 1) b' := by
  induction E generalizing i with
  | nil => cases hi
  | cons x r ih =>
    cases i with
    | zero =>
      cases hi
      simp [h1, h2]
    | succ i =>
      have := ih i (by simpa using hi)
      rw [List.set_cons_succ, List.flatMap_cons, List.flatMap_cons, this]
      rw [List.set_append, if_neg (by rw [hf]; omega), hf]
      congr 2
      omega
theorem foot_set {tb : Option Nat} {E : List En} {i k : Nat} {e' : En} (h : foot tb (E.set i e') k) : foot tb E k ∨ e'.gb = some k := by
  rcases h with h | ⟨x, hx, hk⟩
  · exact .inl (.inl h)
  · rcases List.mem_or_eq_of_mem_set hx with h | rfl
    · exact .inl (.inr ⟨x, h, hk⟩)
    · exact .inr hk
theorem Own.idx {w : World} {tv : Value} {tb : Option Nat} {E : List En} (h : Own w tv tb E) {i j k : Nat} {a b : En} (hi : E[i]? = some a) (hj : E[j]? = some b) (hij : i ≠ j) (hk : a.gb = some k) : b.gb ≠ some k := by
  obtain ⟨h1, rfl⟩ := List.getElem?_eq_some_iff.1 hi
  obtain ⟨h2, rfl⟩ := List.getElem?_eq_some_iff.1 hj
  have hp := List.pairwise_iff_getElem.1 h.apart
  rcases Nat.lt_or_gt_of_ne hij with h3 | h3
  · exact hp i j h1 h2 h3 k hk
  · exact fun h4 => hp j i h2 h1 h3 k h4 hk
theorem Own.step {W W9 : World} {tv v10 : Value} {g p m cap i : Nat} {E : List En} {e e' : En} (hO : Own W tv (some g) E) (he : E[i]? = some e) (htv : tv = .slice (some ⟨g, p, none⟩) m cap) (hgr : W.grownBy W9 e.gb)
    (hp : e'.prod = e.prod) (hv : e'.v = v10) (hs : Sl W9 v10 e'.gb 40 3 e'.L.length (e'.L.flatMap three)) (hnew : e'.gb = e.gb ∨ ∀ k, e'.gb = some k → W.heap.size ≤ k) :
    Own (W9.setCell ⟨g, p + (i * 2 + 1), none⟩ v10) tv (some g) (E.set i e') := by
  have hem := List.mem_of_getElem? he
  have hgne : ∀ x ∈ E, ∀ k, x.gb = some k → k ≠ g := fun x hx k hk e => hO.far x hx k hk (by rw [e])
  have hgl : g < W.heap.size := hO.row.lt g rfl
  have hg' : ∀ k, e'.gb = some k → k ≠ g := by
    intro k hk hkg
    rcases hnew with h | h
    · exact hgne e hem k (by rw [← h]; exact hk) hkg
    · have := h k hk; omega
  have hrow9 : Sl W9 tv (some g) 46 2 E.length (E.flatMap En.cells) := hO.row.grown hgr (fun k hk hek => by
    cases hk
    exact hgne e hem _ hek rfl)
  have hset : ∀ x ∈ E.set i e', x = e' ∨ ∃ j, j ≠ i ∧ E[j]? = some x := by
    intro x hx
    obtain ⟨j, hj⟩ := List.getElem?_of_mem hx
    rw [List.getElem?_set] at hj
    split at hj
    · split at hj
      · exact .inl (Option.some.inj hj).symm
      · cases hj
    · rename_i hne
      exact .inr ⟨j, fun e => hne e.symm, hj⟩
  have hoth : ∀ j x, j ≠ i → E[j]? = some x → ∀ k, x.gb = some k → e.gb ≠ some k ∧ e'.gb ≠ some k := by
    intro j x hji hj k hk
    have h1 : e.gb ≠ some k := hO.idx hj he hji hk
    refine ⟨h1, fun h2 => ?_⟩
    rcases hnew with h | h
    · exact h1 (by rw [← h]; exact h2)
    · have := h k h2
      have := Sl.lt (hO.ok x (List.mem_of_getElem? hj)) k hk
      omega
  refine ⟨?_, ?_, ?_, ?_⟩
  · rw [flat_set E i he encells_len (a := .int .i64 e.prod) (b := e.v) (b' := v10) rfl (by rw [← hp, ← hv]; rfl), List.length_set]
    subst htv
    obtain ⟨ao, cap', hv', -, -, -⟩ := hrow9.make
    have hm : m = E.length := by injection hv'
    subst hm
    exact hrow9.setAny
  · intro x hx
    rcases hset x hx with rfl | ⟨j, hji, hj⟩
    · have : Sl W9 x.v x.gb 40 3 x.L.length (x.L.flatMap three) := by rw [hv]; exact hs
      exact this.setCell _ _ (fun h => hg' g h.symm rfl)
    · have h1 : Sl W9 x.v x.gb 40 3 x.L.length (x.L.flatMap three) := Sl.grown (hO.ok x (List.mem_of_getElem? hj)) hgr (fun k hk => (hoth j x hji hj k hk).1)
      exact h1.setCell _ _ (fun h => hgne x (List.mem_of_getElem? hj) g h.symm rfl)
  · rw [List.pairwise_iff_getElem]
    intro j1 j2 h1 h2 hlt k hk1 hk2
    simp only [List.length_set] at h1 h2
    rw [List.getElem_set] at hk1 hk2
    split at hk1
    · rename_i e1
      subst e1
      rw [if_neg (by omega)] at hk2
      exact (hoth j2 _ (by omega) (List.getElem?_eq_getElem h2) k hk2).2 hk1
    · split at hk2
      · rename_i e1 e2
        subst e2
        exact (hoth j1 _ (by omega) (List.getElem?_eq_getElem h1) k hk1).2 hk2
      · exact hO.idx (List.getElem?_eq_getElem h1) (List.getElem?_eq_getElem h2) (by omega) hk1 hk2
  · intro x hx k hk hkg
    rcases hset x hx with rfl | ⟨j, hji, hj⟩
    · exact hg' k hk (Option.some.inj hkg).symm
    · exact hgne x (List.mem_of_getElem? hj) k hk (Option.some.inj hkg).symm
/-- .. and the ledger behind it. -/
theorem Mid.fin {w0 W W1 W9 : World} {rb : Nat} {B0 : Nat → Prop} {tv v10 : Value} {g p m cap i : Nat} {E : List En} {e e' : En} (h : Mid w0 W rb B0 tv g E) (he : E[i]? = some e) (htv : tv = .slice (some ⟨g, p, none⟩) m cap) (hal : RowKit.Below W.heap.size W W1) (hgr : W1.grownBy W9 e.gb)
    (hp : e'.prod = e.prod) (hv : e'.v = v10) (hs : Sl W9 v10 e'.gb 40 3 e'.L.length (e'.L.flatMap three)) (hnew : e'.gb = e.gb ∨ ∀ k, e'.gb = some k → W1.heap.size ≤ k) :
    ∃ B', Lgr (W9.setCell ⟨g, p + (i * 2 + 1), none⟩ v10) rb B' ((tabOf E).set i (e.prod, e'.L)) ∧ Moved B0 B' w0 (W9.setCell ⟨g, p + (i * 2 + 1), none⟩ v10) := by
  have hO := h.own.below hal
  have hown := hO.step he htv hgr hp hv hs hnew
  have hnr : some rb ≠ e.gb := fun hh => h.nrb (.inr ⟨e, List.mem_of_getElem? he, hh.symm⟩)
  have hrg : rb ≠ g := fun hh => h.nrb (.inl (by rw [hh]))
  have hrl : rb < W1.heap.size := (h.blk.below hal).lt
  have hnr' : ¬ foot (some g) (E.set i e') rb := fun hf => by
    rcases foot_set hf with h1 | h1
    · exact h.nrb h1
    · rcases hnew with h2 | h2
      · exact hnr (by rw [← h2]; exact h1.symm)
      · have := h2 rb h1; omega
  have hmv : Moved (fun k => k = rb ∨ foot (some g) E k) (fun k => k = rb ∨ foot (some g) (E.set i e') k) W (W9.setCell ⟨g, p + (i * 2 + 1), none⟩ v10) := by
    refine ⟨(hgr.os.trans hal.os), (hgr.tape.trans hal.tape), (hgr.output.trans hal.output), ?_, fun k hk hn => ?_, fun k hk => ?_⟩
    · have := hal.size
      have := hgr.size
      simp [World.setCell]
      omega
    · have hkg : k ≠ g := fun e => hn (.inr (.inl (by rw [e])))
      have hke : some k ≠ e.gb := fun hh => hn (.inr (.inr ⟨e, List.mem_of_getElem? he, hh.symm⟩))
      rw [Below.heap_setCell _ _ _ _ hkg, hgr.block k (by have := hal.size; omega) hke, hal.block k hk]
    · rcases hk with rfl | hk
      · exact .inl (.inl rfl)
      · rcases foot_set hk with h1 | h1
        · exact .inl (.inr h1)
        · rcases hnew with h2 | h2
          · exact .inl (.inr (.inr ⟨e, List.mem_of_getElem? he, by rw [← h2]; exact h1⟩))
          · have := h2 k h1
            have := hal.size
            exact .inr (by omega)
  refine ⟨_, ⟨⟨tv, some g, E.set i e', ?_, hown, ?_, fun k hk => .inr hk, hnr'⟩, .inl rfl, ?_⟩, h.moved.trans hmv⟩
  · exact ((h.blk.below hal).grown hgr hnr).setO _ _ hrg
  · rw [tab_set, hp]
  · rintro k (rfl | hk)
    · have := hgr.size
      simp [World.setCell]
      omega
    · exact hown.lt hk
end Go.Proofs.YtloallndnmofnaaGreatDoor
