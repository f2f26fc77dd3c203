/- PLAIN: of each producer the batches 0, 1, 2, .. came; what a ledger then answers. -/
import Derived.Test.YtloallndnmofnaaDoorLd2
namespace Go.Proofs.YtloallndnmofnaaDoor
namespace Ld
/-- Batches 0, 1, .., at these bases, one offset each. -/
def histF : Nat → List Int → List Sl
  | _, [] => []
  | k, b :: r => ⟨k, b, b + 1⟩ :: histF (k + 1) r
def hist (bs : List Int) : List Sl := histF 0 bs
theorem histF_at : ∀ (bs : List Int) (k j : Nat) (b : Int), bs[j]? = some b → (histF k bs)[j]? = some ⟨((k + j : Nat) : Int), b, b + 1⟩
  | [], k, j, b, h => by cases h
  | a :: r, k, 0, b, h => by
    have : a = b := by simpa using h
    subst this
    rfl
  | a :: r, k, j + 1, b, h => by
    have := histF_at r (k + 1) j b (by simpa using h)
    show (histF (k + 1) r)[j]? = _
    rw [this, show k + 1 + j = k + (j + 1) by omega]
theorem histF_len : ∀ (bs : List Int) (k : Nat), (histF k bs).length = bs.length
  | [], _ => rfl
  | _ :: r, k => by simp [histF, histF_len r (k + 1)]
theorem histF_snoc : ∀ (bs : List Int) (k : Nat) (b : Int), histF k (bs ++ [b]) = histF k bs ++ [⟨((k + bs.length : Nat) : Int), b, b + 1⟩]
  | [], k, b => rfl
  | a :: r, k, b => by
    have := histF_snoc r (k + 1) b
    show _ :: histF (k + 1) (r ++ [b]) = _
    rw [this]
    simp only [histF, List.cons_append, List.length_cons]
    rw [show k + 1 + r.length = k + (r.length + 1) by omega]
theorem hist_at {bs : List Int} {j : Nat} {b : Int} (h : bs[j]? = some b) : (hist bs)[j]? = some ⟨(j : Int), b, b + 1⟩ := by
  have := histF_at bs 0 j b h
  rw [Nat.zero_add] at this
  exact this
theorem hist_len (bs : List Int) : (hist bs).length = bs.length := histF_len bs 0
theorem hist_snoc (bs : List Int) (b : Int) : hist (bs ++ [b]) = hist bs ++ [⟨(bs.length : Int), b, b + 1⟩] := by
  have := histF_snoc bs 0 b
  rw [Nat.zero_add] at this
  exact this
theorem last5_snoc (L : List Sl) (x : Sl) : last5 (last5 L ++ [x]) = last5 (L ++ [x]) := by
  unfold last5
  rw [← List.drop_append_of_le_length (l₂ := [x]) (show L.length - 5 ≤ L.length by omega), List.drop_drop]
  congr 1
  simp only [List.length_drop, List.length_append, List.length_cons, List.length_nil]
  omega
theorem last5_hist {bs : List Int} {j : Nat} : (last5 (hist bs))[j]? = (hist bs)[bs.length - 5 + j]? := by
  unfold last5
  rw [List.getElem?_drop, hist_len]
theorem last5_hlen (bs : List Int) : (last5 (hist bs)).length = min bs.length 5 := by
  unfold last5
  rw [List.length_drop, hist_len]
  omega
/-- What a ledger answers of one producer. -/
theorem hist_chk {bs : List Int} (hsl : slotsB (last5 (hist bs)) none = true) (seq : Nat) :
    chk (last5 (hist bs)) seq = if bs.length ≤ seq then (if seq = bs.length then (zeroS, 0) else (zeroS, 20)) else if seq + 5 < bs.length then (zeroS, 21) else (⟨seq, bs.getD seq 0, bs.getD seq 0 + 1⟩, 13) := by
  have hl := last5_hlen bs
  cases hL : last5 (hist bs) with
  | nil =>
    rw [hL] at hl
    have h0 : bs.length = 0 := by simp at hl; omega
    rw [if_pos (by omega)]
    unfold chk
    simp only
    by_cases hz : seq = 0
    · subst hz
      rw [h0]
      simp
    · rw [if_neg (by omega), if_neg (by omega)]
  | cons a r =>
    rw [← hL]
    have hch : chk (last5 (hist bs)) seq = look (last5 (hist bs)) seq := by rw [hL]; rfl
    rw [hch]
    have hpos : 0 < bs.length := by
      rw [hL] at hl
      simp at hl
      omega
    obtain ⟨b0, hb0⟩ : ∃ b, bs[bs.length - 5]? = some b := ⟨_, List.getElem?_eq_getElem (by omega)⟩
    have h0 : (last5 (hist bs))[0]? = some ⟨((bs.length - 5 : Nat) : Int), b0, b0 + 1⟩ := by
      rw [last5_hist, Nat.add_zero]
      exact hist_at hb0
    by_cases h1 : bs.length ≤ seq
    · rw [if_pos h1, look_next hsl h0 (by simp only; rw [hl]; omega)]
      simp only [hl]
      by_cases h2 : seq = bs.length
      · rw [if_pos h2, if_pos (by omega)]
      · rw [if_neg h2, if_neg (by omega)]
    · rw [if_neg h1]
      by_cases h2 : seq + 5 < bs.length
      · rw [if_pos h2]
        exact look_old hsl h0 (by simp only; omega)
      · rw [if_neg h2]
        obtain ⟨b, hb⟩ : ∃ b, bs[seq]? = some b := ⟨_, List.getElem?_eq_getElem (by omega)⟩
        have hk : (last5 (hist bs))[seq - (bs.length - 5)]? = some ⟨(seq : Int), b, b + 1⟩ := by
          rw [last5_hist, show bs.length - 5 + (seq - (bs.length - 5)) = seq by omega]
          exact hist_at hb
        have hg : bs.getD seq 0 = b := by rw [List.getD_eq_getElem?_getD, hb]; rfl
        rw [hg]
        exact look_twice hsl hk
/-- What is remembered, where these batches came. -/
structure Came (T : Tb) (hs : Nat → List Int) (e : Int) : Prop where
  slots : ∀ p : Nat, p < 4 → Ld.slots T p = last5 (hist (hs p))
  four : ∀ x ∈ T, x.1 < 4
  low : ∀ (p : Nat) b, p < 4 → b ∈ hs p → 0 ≤ b ∧ b < e
theorem Came.nil : Came [] (fun _ => []) 0 := ⟨fun _ _ => rfl, (fun _ h => by cases h), (fun _ _ _ h => by cases h)⟩
theorem numB_nat {n : Nat} (h : n ≤ 1000) : numB n = true := numB_iff.2 ⟨by omega, by omega⟩
theorem Came.chk {T : Tb} {hs : Nat → List Int} {e : Int} (h : Came T hs e) (hG : goodB T = true) {p : Nat} (hp : p < 4) {seq : Nat} (hseq : seq ≤ 1000) :
    check T p seq = if (hs p).length ≤ seq then (if seq = (hs p).length then (zeroS, 0) else (zeroS, 20)) else if seq + 5 < (hs p).length then (zeroS, 21) else (⟨seq, (hs p).getD seq 0, (hs p).getD seq 0 + 1⟩, 13) := by
  have hsl := (slots_ok hG p).2
  rw [h.slots p hp] at hsl
  rw [check_chk hG, numB_nat (by omega), numB_nat hseq]
  simp only [Bool.and_self, if_true]
  rw [h.slots p hp]
  exact hist_chk hsl seq
theorem Came.addE {T : Tb} {hs : Nat → List Int} {e : Int} (h : Came T hs e) (hG : goodB T = true) {p : Nat} (hp : p < 4) {seq : Nat} (hseq : seq ≤ 1000) : Ld.addE T p seq e = (check T p seq).2 := by
  rw [check_chk hG, numB_nat (by omega), numB_nat hseq]
  simp only [Bool.and_self, if_true]
  refine addE_few hG h.four (numB_nat (by omega)) (numB_nat hseq) ?_
  intro l hl
  rw [h.slots p hp, List.getLast?_eq_getElem?, last5_hist] at hl
  obtain ⟨b, hb⟩ : ∃ b, (hs p)[(hs p).length - 5 + ((last5 (hist (hs p))).length - 1)]? = some b := by
    have := (List.getElem?_eq_some_iff.1 hl).1
    rw [hist_len] at this
    exact ⟨_, List.getElem?_eq_getElem this⟩
  rw [hist_at hb] at hl
  cases hl
  have := (h.low p b hp (List.mem_of_getElem? hb)).2
  simp only
  omega
def upd (hs : Nat → List Int) (p : Nat) (e : Int) : Nat → List Int := fun q => if q = p then hs p ++ [e] else hs q
theorem Came.add {T : Tb} {hs : Nat → List Int} {e : Int} (h : Came T hs e) (hG : goodB T = true) {p : Nat} (hp : p < 4) (he : 0 ≤ e) (he2 : e + 1 ≤ 1099511627776) (hl : (hs p).length ≤ 1000) (hz : Ld.addE T p (hs p).length e = 0) :
    Came (addT T p (hs p).length e 1) (upd hs p e) (e + 1) := by
  obtain ⟨-, h2, h3⟩ := add_ok hG hz he (by omega) he2
  refine ⟨fun q hq => ?_, fun y hy => ?_, fun q b hq hb => ?_⟩
  · rw [h2]
    unfold upd
    by_cases hqp : q = p
    · subst hqp
      rw [if_pos rfl, if_pos rfl, h.slots q hq, last5_snoc, hist_snoc]
    · rw [if_neg hqp, if_neg (by omega)]
      exact h.slots q hq
  · rcases h3 y hy with h4 | h4
    · rw [h4]; omega
    · exact h.four y h4
  · unfold upd at hb
    split at hb
    · rename_i hqp
      rcases List.mem_append.1 hb with h4 | h4
      · have := h.low p b hp h4; omega
      · rw [List.mem_singleton.1 h4]; omega
    · have := h.low q b hq hb; omega
end Ld
end Go.Proofs.YtloallndnmofnaaDoor
