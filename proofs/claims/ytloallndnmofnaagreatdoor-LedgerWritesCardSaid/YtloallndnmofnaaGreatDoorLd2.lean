/- PLAIN: what an added batch leaves. -/
import Derived.Test.YtloallndnmofnaaGreatDoorLd
namespace Go.Proofs.YtloallndnmofnaaGreatDoor
namespace Ld

theorem check_num {T : Tb} {prod seq : Int} (h : (check T prod seq).2 = 0) : numB prod = true ∧ numB seq = true := by
  unfold check at h
  split at h
  · rename_i hn
    simpa using hn
  · simp at h
theorem look_ok {L : List Sl} {n : Int} (h : (look L n).2 = 0) : n = (L.getLastD zeroS).seq + 1 ∧ (look L n).1 = zeroS := by
  unfold look at h ⊢
  split at h
  · simp at h
  · split at h
    · simp at h
    · split at h
      · rename_i h2 h1 hn
        refine ⟨hn, ?_⟩
        rw [if_neg h1, if_pos hn]
      · simp at h
theorem addE_chk {T : Tb} (hG : goodB T = true) {prod seq base : Int} (hp : numB prod = true) (hs : numB seq = true) :
    addE T prod seq base = if (chk (slots T prod) seq).2 = 0 then (match slots T prod with
      | [] => if T.length = 64 then 1 else 0
      | a :: r => if base < ((a :: r).getLastD zeroS).fin then 20 else 0) else (chk (slots T prod) seq).2 := by
  unfold addE
  rw [check_chk hG, hp, hs]
  rfl
theorem getLastD_of {L : List Sl} {l : Sl} (h : L.getLast? = some l) : L.getLastD zeroS = l := by rw [List.getLastD_eq_getLast?, h]; rfl
/-- What an added batch leaves. -/
theorem add_ok {T : Tb} (hG : goodB T = true) {prod seq base count : Int} (h : addE T prod seq base = 0) (hb : 0 ≤ base) (hc : 1 ≤ count) (hbc : base + count ≤ 1099511627776) :
    goodB (addT T prod seq base count) = true ∧ (∀ m, slots (addT T prod seq base count) m = if m = prod then last5 (slots T prod ++ [⟨seq, base, base + count⟩]) else slots T m) ∧ (∀ y ∈ addT T prod seq base count, y.1 = prod ∨ y ∈ T) := by
  have hck : (check T prod seq).2 = 0 := by
    unfold addE at h
    split at h
    · assumption
    · rename_i h1; exact absurd h h1
  obtain ⟨hp, hs⟩ := check_num hck
  obtain ⟨h5, hsl⟩ := slots_ok hG prod
  have hE := h
  rw [addE_chk hG hp hs] at hE
  have hchk : (chk (slots T prod) seq).2 = 0 := by
    split at hE
    · assumption
    · rename_i h1; exact absurd hE h1
  rw [if_pos hchk] at hE
  have hsq := numB_iff.1 hs
  have hokx : okS ⟨seq, base, base + count⟩ = true := by
    unfold okS
    simp only [Bool.and_eq_true, decide_eq_true_eq]
    refine ⟨⟨⟨hs, numB_iff.2 ⟨hb, by omega⟩⟩, numB_iff.2 ⟨by omega, hbc⟩⟩, by omega⟩
  have hlink : linkB (match (slots T prod).getLast? with | some l => some l | none => none) ⟨seq, base, base + count⟩ = true := by
    cases hL : slots T prod with
    | nil => rfl
    | cons a r =>
      rw [hL] at hE hchk
      obtain ⟨l, hl⟩ : ∃ l, (a :: r).getLast? = some l := ⟨_, List.getLast?_cons⟩
      rw [hl]
      have h1 := (look_ok (L := a :: r) hchk).1
      rw [getLastD_of hl] at h1
      simp only [getLastD_of hl] at hE
      have h2 : ¬ base < l.fin := by
        intro hlt
        rw [if_pos hlt] at hE
        exact absurd hE (by decide)
      simp only [linkB, Bool.and_eq_true, decide_eq_true_eq]
      exact ⟨h1, by omega⟩
  have hsn := slots_snoc hsl hokx hlink
  obtain ⟨l1, l2⟩ := last5_len h5 ⟨seq, base, base + count⟩
  have hl64 : at_ T prod = none → T.length < 64 := by
    intro ha
    rw [slots_none ha] at hE
    have := (good_iff.1 hG).1
    simp only at hE
    split at hE
    · exact absurd hE (by decide)
    · omega
  refine ⟨good_put hG hp l1 l2 (slots_drop hsn _) hl64, fun m => ?_, fun y hy => ?_⟩
  · exact slots_put (good_iff.1 hG).2.2 prod m _
  · rcases ((at_put (good_iff.1 hG).2.2 prod _).2.1 y).1 hy with rfl | ⟨h, -⟩
    · exact .inl rfl
    · exact .inr h
/-- Few producers. -/
theorem sorted_len : ∀ {T : Tb} {a b : Int}, T.Pairwise (fun x y => x.1 < y.1) → (∀ x ∈ T, a ≤ x.1 ∧ x.1 < b) → a ≤ b → (T.length : Int) ≤ b - a
  | [], a, b, _, _, hab => by simp; omega
  | x :: r, a, b, hs, hm, hab => by
    have hx := hm x (by simp)
    have ih := sorted_len (T := r) (a := x.1 + 1) (b := b) (List.pairwise_cons.1 hs).2 (fun y hy => ⟨(List.pairwise_cons.1 hs).1 y hy, (hm y (by simp [hy])).2⟩) (by omega)
    simp only [List.length_cons]
    omega
theorem few {T : Tb} (hG : goodB T = true) (h4 : ∀ x ∈ T, x.1 < 4) : T.length ≤ 4 := by
  have h := sorted_len (T := T) (a := 0) (b := 4) (good_iff.1 hG).2.2 (fun x hx => ⟨(numB_iff.1 (rowOk_iff.1 ((good_iff.1 hG).2.1 x hx)).1).1, h4 x hx⟩) (by omega)
  omega
/-- What Add answers where there are few producers. -/
theorem addE_few {T : Tb} (hG : goodB T = true) (h4 : ∀ x ∈ T, x.1 < 4) {prod seq base : Int} (hp : numB prod = true) (hs : numB seq = true) (hb : ∀ l, (slots T prod).getLast? = some l → l.fin ≤ base) :
    addE T prod seq base = (chk (slots T prod) seq).2 := by
  rw [addE_chk hG hp hs]
  split
  · rename_i h0
    rw [h0]
    cases hL : slots T prod with
    | nil =>
      have := few hG h4
      simp only
      rw [if_neg (by omega)]
    | cons a r =>
      obtain ⟨l, hl⟩ : ∃ l, (a :: r).getLast? = some l := ⟨_, List.getLast?_cons⟩
      have := hb l (by rw [hL]; exact hl)
      simp only [getLastD_of hl]
      rw [if_neg (by omega)]
  · rfl
theorem last5_last {L : List Sl} {x : Sl} : (last5 (L ++ [x])).getLast? = some x := by
  unfold last5
  rw [List.getLast?_drop]
  rw [if_neg (by simp; omega)]
  simp
end Ld
end Go.Proofs.YtloallndnmofnaaGreatDoor
