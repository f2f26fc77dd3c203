/- BATCHES WHOSE RECORDS LIE EACH IN A BLOCK OF ITS OWN: how cloned makes them, how Thin thins them. -/
import Derived.Test.YtfapigccdbpepaaDDlF
import Derived.Test.YtfapigccdbpepaaDFew
namespace Go.Proofs.Ytfapigccdbpepaa
open Go.RowKit

theorem Rds.in_size {A : Nat → Prop} {w : World} {u : Value} {size m : Nat} {xs : List Value} (h : Rds A w u size m xs) : Rds (fun b => b < w.heap.size) w u size m xs := by
  refine ⟨h.1, ?_⟩
  rcases h.2 with h2 | ⟨ad, cap, rfl, h2⟩
  · exact .inl h2
  · exact .inr ⟨ad, cap, rfl, fun h0 => let ⟨b, p, e, _, h4, h5⟩ := h2 h0; ⟨b, p, e, h4, h4, h5⟩⟩
/-- The same batch but for its records. -/
def Same5 (b c : Pl.Bt) : Prop := c.base = b.base ∧ c.count = b.count ∧ c.prod = b.prod ∧ c.seq = b.seq ∧ c.time = b.time
theorem bc6_set : ∀ {M : List (Pl.Bt × Value)} {i : Nat} {p q : Pl.Bt × Value}, M[i]? = some p → Same5 p.1 q.1 → (M.flatMap bc6).set (i * 6 + 5) q.2 = (M.set i q).flatMap bc6
  | [], _, _, _, h, _ => by simp at h
  | m :: M, 0, p, q, h, hs => by
    obtain rfl : m = p := by simpa using h
    obtain ⟨h1, h2, h3, h4, h5⟩ := hs
    simp [bc6, h1, h2, h3, h4, h5]
  | m :: M, i + 1, p, q, h, hs => by
    have ih := bc6_set (M := M) (i := i) (p := p) (q := q) (by simpa using h) hs
    rw [List.set_cons_succ, List.flatMap_cons, List.flatMap_cons, ← ih, List.set_append_right _ _ (by rw [bc6_length]; omega), bc6_length, show (i + 1) * 6 + 5 - 6 = i * 6 + 5 by omega]

structure Cl (z : Nat) (v : Value) (gb : Option Nat) (M : List (Pl.Bt × Value)) (G : Nat → Option Nat) (W : World) (lo hi : Nat) : Prop where
  sl : Sl W v gb 42 6 M.length (M.flatMap bc6)
  zb : ∀ b, gb = some b → z ≤ b
  done : ∀ j p, j < lo → M[j]? = some p → RcIn (fun b => G j = some b) W p.2 p.1.recs
  own : ∀ j p, lo ≤ j → j < hi → M[j]? = some p → Sl W p.2 (G j) 44 4 p.1.recs.length (p.1.recs.flatMap cells4)
  old : ∀ j p, hi ≤ j → M[j]? = some p → RcIn (fun b => b < z) W p.2 p.1.recs
  fresh : ∀ j b, G j = some b → z ≤ b ∧ gb ≠ some b ∧ b < W.heap.size
  apart : ∀ j k b, G j = some b → G k = some b → j = k
section
variable {z : Nat} {v : Value} {gb : Option Nat} {M : List (Pl.Bt × Value)} {G : Nat → Option Nat} {W W' : World} {lo hi : Nat}
theorem Cl.below (h : Cl z v gb M G W lo hi) (b : Below W.heap.size W W') : Cl z v gb M G W' lo hi :=
  ⟨h.sl.below b, h.zb, fun j p hj hp => Rds.below (h.done j p hj hp) b, fun j p h1 h2 hp => (h.own j p h1 h2 hp).below b, fun j p hj hp => Rds.below (h.old j p hj hp) b,
   fun j c e => let ⟨h1, h2, h3⟩ := h.fresh j c e; ⟨h1, h2, Nat.lt_of_lt_of_le h3 b.size⟩, h.apart⟩
theorem Cl.form (h : Cl z v gb M G W lo hi) : ∃ a cap, v = .slice a M.length cap := h.sl.form
/-- The cells of the batch at a place. -/
theorem Cl.at (h : Cl z v gb M G W lo hi) {j : Nat} {p : Pl.Bt × Value} (hj : M[j]? = some p) : ∃ b o cap, gb = some b ∧ v = .slice (some ⟨b, o, none⟩) M.length cap ∧ b < W.heap.size ∧ (∀ x, W.frozen? ⟨b, x, none⟩ = false) ∧
    ∀ i u, i < 6 → (bc6 p)[i]? = some u → W.cell? ⟨b, o + j * 6 + i, none⟩ = some u := by
  have hl := (List.getElem?_eq_some_iff.1 hj).1
  obtain ⟨ao, cap, rfl, -, hm⟩ := h.sl.make
  obtain ⟨g, o, rfl, rfl⟩ := hm (by omega)
  refine ⟨g, o, cap, rfl, rfl, h.sl.lt g rfl, fun x => h.sl.frozen rfl x, fun i u hi hu => ?_⟩
  have := h.sl.cell rfl (j * 6 + i) u (by rw [flat_at bc6 6 bc6_length M j p hj i hi]; exact hu)
  rw [← Nat.add_assoc] at this
  exact this
/-- How the slice of records at a place is spelled. -/
theorem Cl.value (h : Cl z v gb M G W lo hi) {j : Nat} {p : Pl.Bt × Value} (hj : M[j]? = some p) : ∃ a c, p.2 = .slice a p.1.recs.length c := by
  rcases Nat.lt_or_ge j lo with h1 | h1
  · exact Rds.form (h.done j p h1 hj)
  · rcases Nat.lt_or_ge j hi with h2 | h2
    · exact (h.own j p h1 h2 hj).form
    · exact Rds.form (h.old j p h2 hj)
/-- One batch's records are replaced by a clone. -/
theorem Cl.clone (h : Cl z v gb M G W lo hi) (hlo : lo ≤ hi) {p : Pl.Bt × Value} (hp : M[hi]? = some p) {g o cap N : Nat} (hg : gb = some g) (hv : v = .slice (some ⟨g, o, none⟩) N cap) (_hz : z ≤ W.heap.size) {v' : Value} {gb' : Option Nat}
    (b : Below W.heap.size W W') (hs : Sl W' v' gb' 44 4 p.1.recs.length (p.1.recs.flatMap cells4)) (hn : ∀ b, gb' = some b → W.heap.size ≤ b) :
    Cl z v gb (M.set hi (p.1, v')) (fun j => if j = hi then gb' else G j) (W'.setCell ⟨g, o + hi * 6 + 5, none⟩ v') lo (hi + 1) := by
  subst hg hv
  have h' := h.below b
  have hl := (List.getElem?_eq_some_iff.1 hp).1
  have hgz := h.zb g rfl
  have hgW := h.sl.lt g rfl
  obtain ⟨_, _, hN, -, -⟩ := h'.sl.make
  have hNM : N = M.length := by injection hN
  subst hNM
  have hlt : hi * 6 + 5 < M.length * 6 := by omega
  have hset := h'.sl.set hlt v'
  rw [bc6_set (q := (p.1, v')) hp ⟨rfl, rfl, rfl, rfl, rfl⟩, ← Nat.add_assoc] at hset
  have hne : ∀ j : Nat, j ≠ hi → (M.set hi (p.1, v'))[j]? = M[j]? := fun j hj => List.getElem?_set_ne (fun e => hj e.symm)
  have heq : (M.set hi (p.1, v'))[hi]? = some (p.1, v') := List.getElem?_set_self hl
  have hblk : ∀ c : Nat, c ≠ g → (W'.setCell ⟨g, o + hi * 6 + 5, none⟩ v').heap[c]? = W'.heap[c]? := fun c hc => Below.heap_setCell _ _ _ _ hc
  have hsz : (W'.setCell ⟨g, o + hi * 6 + 5, none⟩ v').heap.size = W'.heap.size := by simp [World.setCell]
  refine ⟨by rw [List.length_set]; exact hset, h.zb, fun j q hj hq => ?_, fun j q h1 h2 hq => ?_, fun j q hj hq => ?_, fun j c e => ?_, fun j k c e1 e2 => ?_⟩
  · rw [hne j (by omega)] at hq
    rw [if_neg (by omega)]
    exact Rds.keep (h'.done j q hj hq) (by rw [hsz]; exact Nat.le_refl _) fun c hc _ => ⟨hblk c fun e => (h.fresh j c hc).2.1 (by rw [e]), hc⟩
  · by_cases hj : j = hi
    · subst hj
      rw [heq] at hq
      cases hq
      rw [if_pos rfl]
      exact hs.same fun c hc => hblk c fun e => by have := hn c hc; omega
    · rw [hne j hj] at hq
      rw [if_neg hj]
      exact (h'.own j q h1 (by omega) hq).same fun c hc => hblk c fun e => (h.fresh j c hc).2.1 (by rw [e])
  · rw [hne j (by omega)] at hq
    exact Rds.keep (h'.old j q (by omega) hq) (by rw [hsz]; exact Nat.le_refl _) fun c hc _ => ⟨hblk c (by omega), hc⟩
  · by_cases hj : j = hi
    · rw [if_pos hj] at e
      have h1 := hn c e
      exact ⟨by omega, fun e' => (by cases e'; omega), by rw [hsz]; exact hs.lt c e⟩
    · rw [if_neg hj] at e
      obtain ⟨h1, h2, h3⟩ := h.fresh j c e
      exact ⟨h1, h2, by rw [hsz]; exact Nat.lt_of_lt_of_le h3 b.size⟩
  · by_cases hj : j = hi
    · rw [if_pos hj] at e1
      by_cases hk : k = hi
      · rw [hj, hk]
      · rw [if_neg hk] at e2
        have h1 := hn c e1
        have h2 := (h.fresh k c e2).2.2
        omega
    · rw [if_neg hj] at e1
      by_cases hk : k = hi
      · rw [if_pos hk] at e2
        have h1 := hn c e2
        have h2 := (h.fresh j c e1).2.2
        omega
      · rw [if_neg hk] at e2
        exact h.apart j k c e1 e2
/-- One batch's records are thinned in place. -/
theorem Cl.thin (h : Cl z v gb M G W lo hi) (hlo : lo < hi) {p : Pl.Bt × Value} (hp : M[lo]? = some p) {g o cap N : Nat} (hg : gb = some g) (hv : v = .slice (some ⟨g, o, none⟩) N cap) {v' : Value} {ls : List Pl.Rc}
    (b : W.grownBy W' (G lo)) (hs : RcIn (fun b => G lo = some b) W' v' ls) :
    Cl z v gb (M.set lo ({ p.1 with recs := ls }, v')) G (W'.setCell ⟨g, o + lo * 6 + 5, none⟩ v') (lo + 1) hi := by
  subst hg hv
  have hl := (List.getElem?_eq_some_iff.1 hp).1
  have hgW := h.sl.lt g rfl
  obtain ⟨_, _, hN, -, -⟩ := h.sl.make
  have hNM : N = M.length := by injection hN
  subst hNM
  have hlt : lo * 6 + 5 < M.length * 6 := by omega
  have hgl : G lo ≠ some g := fun e => (h.fresh lo g e).2.1 rfl
  have hset := (h.sl.same fun c hc => (by cases hc; exact b.block _ hgW fun e => hgl e.symm)).set (w := W') hlt v'
  rw [bc6_set (q := ({ p.1 with recs := ls }, v')) hp ⟨rfl, rfl, rfl, rfl, rfl⟩, ← Nat.add_assoc] at hset
  have hne : ∀ j : Nat, j ≠ lo → (M.set lo ({ p.1 with recs := ls }, v'))[j]? = M[j]? := fun j hj => List.getElem?_set_ne (fun e => hj e.symm)
  have heq : (M.set lo ({ p.1 with recs := ls }, v'))[lo]? = some ({ p.1 with recs := ls }, v') := List.getElem?_set_self hl
  have hblk : ∀ c : Nat, c ≠ g → (W'.setCell ⟨g, o + lo * 6 + 5, none⟩ v').heap[c]? = W'.heap[c]? := fun c hc => Below.heap_setCell _ _ _ _ hc
  have hsz : (W'.setCell ⟨g, o + lo * 6 + 5, none⟩ v').heap.size = W'.heap.size := by simp [World.setCell]
  have hoth : ∀ (j c : Nat), j ≠ lo → G j = some c → (W'.setCell ⟨g, o + lo * 6 + 5, none⟩ v').heap[c]? = W.heap[c]? := fun j c hj hc => by
    obtain ⟨-, h2, h3⟩ := h.fresh j c hc
    exact (hblk c fun e => h2 (by rw [e])).trans (b.block c h3 fun e => hj (h.apart j lo c hc e.symm))
  refine ⟨by rw [List.length_set]; exact hset, h.zb, fun j q hj hq => ?_, fun j q h1 h2 hq => ?_, fun j q hj hq => ?_, fun j c e => ?_, h.apart⟩
  · by_cases hjl : j = lo
    · subst hjl
      rw [heq] at hq
      cases hq
      exact Rds.keep hs (by rw [hsz]; exact Nat.le_refl _) fun c hc _ => ⟨hblk c fun e => hgl (by rw [← e]; exact hc), hc⟩
    · rw [hne j hjl] at hq
      exact Rds.keep (h.done j q (by omega) hq) (by rw [hsz]; exact b.size) fun c hc _ => ⟨hoth j c hjl hc, hc⟩
  · rw [hne j (by omega)] at hq
    exact (h.own j q (by omega) h2 hq).same fun c hc => hoth j c (by omega) hc
  · rw [hne j (by omega)] at hq
    refine Rds.keep (h.old j q hj hq) (by rw [hsz]; exact b.size) fun c hc hcl => ⟨(hblk c fun e => ?_).trans (b.block c hcl fun e => ?_), hc⟩
    · have := h.zb g rfl; omega
    · have := (h.fresh lo c e.symm).1; omega
  · obtain ⟨h1, h2, h3⟩ := h.fresh j c e
    exact ⟨h1, h2, by rw [hsz]; exact Nat.lt_of_lt_of_le h3 b.size⟩
/-- What all of it is in the end. -/
theorem Cl.out (h : Cl z v gb M G W lo hi) (hh : M.length ≤ hi) : BtIn (fun b => z ≤ b) W v M := by
  refine ⟨Rds.of_sl h.sl h.zb, fun p hp => ?_⟩
  obtain ⟨j, hj⟩ := List.getElem?_of_mem hp
  have hl := (List.getElem?_eq_some_iff.1 hj).1
  rcases Nat.lt_or_ge j lo with h1 | h1
  · exact Rds.mono (h.done j p h1 hj) fun b hb => (h.fresh j b hb).1
  · exact Rds.of_sl (h.own j p h1 (by omega) hj) fun b hb => (h.fresh j b hb).1
end
end Go.Proofs.Ytfapigccdbpepaa
