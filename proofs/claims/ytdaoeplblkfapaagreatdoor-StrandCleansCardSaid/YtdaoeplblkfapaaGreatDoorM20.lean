import Derived.Test.YtdaoeplblkfapaaGreatDoorM15

/- PLAIN MATHEMATICS OF A CUT: which batches stay. -/
namespace Go.Proofs.YtdaoeplblkfapaaGreatDoor

theorem Chain.bend_le {x : Int} {l : List Pl.Bt} (h : Chain x l) : ∀ b ∈ l, bend b ≤ lend x l ∧ x ≤ b.base := by
  induction l generalizing x with
  | nil => intro b hb; cases hb
  | cons a l ih =>
    obtain ⟨h1, h2, h3⟩ := h
    have hg := good_bend h1
    have he := h3.ends.1
    intro b hb
    rcases List.mem_cons.1 hb with rfl | hb
    · exact ⟨by simp only [lend]; omega, by omega⟩
    · have := ih h3 b hb
      exact ⟨this.1, by omega⟩
theorem takeWhile_split {α : Type} (p : α → Bool) (A l C : List α) (hA : ∀ a ∈ A, p a = true) (hC : ∀ c ∈ C, p c = false) : (A ++ (l ++ C)).takeWhile p = A ++ l.takeWhile p := by
  rw [List.takeWhile_append_of_pos hA]
  congr 1
  induction l with
  | nil =>
    cases C with
    | nil => rfl
    | cons c C => simp [hC c List.mem_cons_self]
  | cons b l ih =>
    rw [List.cons_append, List.takeWhile_cons, List.takeWhile_cons, ih]
theorem take_upN (l : List Pl.Bt) (off : Int) : l.take (upN l off) = l.takeWhile fun b => decide (bend b ≤ off) := by
  unfold upN
  obtain ⟨r, hr⟩ := List.takeWhile_prefix (p := fun b : Pl.Bt => decide (bend b ≤ off)) (l := l)
  conv => lhs; rw [← hr]
  rw [hr]
  conv => lhs; arg 2; rw [← hr]
  exact List.take_left
/-- The log that a Cut leaves. -/
def cutG (G : List Sg) (off : Int) : List Sg := match G[leftN G off - 1]? with
  | some g => G.take (leftN G off - 1) ++ [⟨g.first, g.l.take (upN g.l off)⟩]
  | none => G
theorem leftN_le (G : List Sg) (off : Int) : leftN G off ≤ G.length := by
  unfold leftN
  obtain ⟨r, hr⟩ := List.takeWhile_prefix (p := fun g : Sg => decide (g.first < off)) (l := G)
  have := congrArg List.length hr
  rw [List.length_append] at this
  omega
theorem leftN_lt {G : List Sg} {off : Int} {j : Nat} {g : Sg} (hj : j < leftN G off) (hg : G[j]? = some g) : g.first < off := by
  unfold leftN at hj
  obtain ⟨r, hr⟩ := List.takeWhile_prefix (p := fun g : Sg => decide (g.first < off)) (l := G)
  rw [← hr, List.getElem?_append_left hj] at hg
  have := List.all_eq_true.1 (List.all_takeWhile (p := fun g : Sg => decide (g.first < off)) (l := G)) g (List.mem_of_getElem? hg)
  simpa using this
theorem leftN_ge {G : List Sg} {off : Int} (hr : Rises G) {j : Nat} {g : Sg} (hj : leftN G off ≤ j) (hg : G[j]? = some g) : off ≤ g.first := by
  obtain ⟨r, hre⟩ := List.takeWhile_prefix (p := fun g : Sg => decide (g.first < off)) (l := G)
  have hjl := (List.getElem?_eq_some_iff.1 hg).1
  have hll : leftN G off < G.length := by omega
  have h1 : ∃ y, G[leftN G off]? = some y := ⟨_, List.getElem?_eq_getElem hll⟩
  obtain ⟨y, hy⟩ := h1
  have h2 : off ≤ y.first := by
    have h3 : G = G.takeWhile (fun g : Sg => decide (g.first < off)) ++ G.dropWhile (fun g : Sg => decide (g.first < off)) := (List.takeWhile_append_dropWhile).symm
    have h4 : (G.dropWhile (fun g : Sg => decide (g.first < off)))[0]? = some y := by
      have := hy
      rw [h3, List.getElem?_append_right (by unfold leftN; rw [← h3]; exact Nat.le_refl _)] at this
      unfold leftN at this
      rw [← h3, Nat.sub_self] at this
      exact this
    cases hd : G.dropWhile (fun g : Sg => decide (g.first < off)) with
    | nil => rw [hd] at h4; cases h4
    | cons u U =>
      rw [hd] at h4
      cases h4
      have := List.head?_dropWhile_not (p := fun g : Sg => decide (g.first < off)) (l := G)
      rw [hd] at this
      simpa using this
  have := hr (leftN G off) j y g hj hy hg
  omega
theorem cut_fla {G : List Sg} (h : Log G) (hne : G ≠ []) (off : Int) : fla (cutG G off) = (fla G).takeWhile fun b => decide (bend b ≤ off) := by
  have hl := leftN_le G off
  have hlen : 0 < G.length := List.length_pos_iff.2 hne
  obtain ⟨i, hi⟩ : ∃ i, leftN G off - 1 = i := ⟨_, rfl⟩
  have hil : i < G.length := by omega
  obtain ⟨g, hg⟩ : ∃ g, G[i]? = some g := ⟨_, List.getElem?_eq_getElem hil⟩
  unfold cutG
  rw [hi, hg]
  simp only
  have hsp : G = G.take i ++ (g :: G.drop (i + 1)) := by
    conv => lhs; rw [← List.take_append_drop i G]
    rw [List.drop_eq_getElem_cons hil]
    rw [List.getElem?_eq_getElem hil] at hg
    rw [Option.some.inj hg]
  have hfl : fla G = fla (G.take i) ++ (g.l ++ fla (G.drop (i + 1))) := by
    conv => lhs; rw [hsp]
    rw [fla_append]
    rfl
  rw [hfl, takeWhile_split, fla_append, fla_one, take_upN]
  · intro b hb
    obtain ⟨x, hx, hk⟩ := h.get
    rw [hsp] at hk
    obtain ⟨k1, -, k3⟩ := Lk.append.1 hk
    have := (k1.chain.bend_le b hb).1
    have hpos : 0 < i := by
      rcases Nat.eq_zero_or_pos i with rfl | hp
      · rw [List.take_zero] at hb; cases hb
      · exact hp
    have h2 := leftN_lt (off := off) (by omega) hg
    have h3 := k3.1
    simp
    omega
  · intro b hb
    obtain ⟨y, hy, hby⟩ := List.mem_flatMap.1 hb
    obtain ⟨a, ha⟩ := List.getElem?_of_mem hy
    rw [List.getElem?_drop] at ha
    have hya := leftN_ge h.rises (off := off) (by omega) ha
    have hc := h.chs y (List.mem_of_getElem? ha)
    have h1 := (hc.bend_le b hby).2
    have h2 := good_bend (hc.good b hby)
    simp
    omega
end Go.Proofs.YtdaoeplblkfapaaGreatDoor
