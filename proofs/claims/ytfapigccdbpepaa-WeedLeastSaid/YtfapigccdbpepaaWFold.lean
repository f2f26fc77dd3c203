/- PLAIN: how the document's Fold puts one record more into a list by rising keys, element by element. -/
import Derived.Test.YtfapigccdbpepaaWPlain
namespace Go.Proofs.Ytfapigccdbpepaa

theorem bytesLess_eq : ∀ (a b : List UInt8), Op.bytesLess a b = decide (a < b)
  | _, [] => by simp [Op.bytesLess]
  | [], b :: y => by simp [Op.bytesLess]
  | a :: x, b :: y => by
    unfold Op.bytesLess
    rw [bytesLess_eq x y, Bool.eq_iff_iff]
    simp only [Bool.or_eq_true, Bool.and_eq_true, decide_eq_true_eq, beq_iff_eq, List.cons_lt_cons_iff]
namespace Wd
/-- Whether it has come in ahead of place j. -/
def dn (S : List Pl.Rc) (x : Pl.Rc) (j : Nat) : Bool := (S.take j).any fun y => !decide (y.key < x.key)
/-- What is written ahead of place j. -/
def op (S : List Pl.Rc) (x : Pl.Rc) (j : Nat) : List Pl.Rc := if dn S x j then ins x (S.take j) else S.take j
theorem ins_done {x : Pl.Rc} : ∀ {A B : List Pl.Rc}, (A.any fun y => !decide (y.key < x.key)) = true → ins x (A ++ B) = ins x A ++ B
  | [], _, h => by simp at h
  | a :: A, B, h => by
    show (if x.key < a.key then _ else if a.key = x.key then _ else a :: ins x (A ++ B)) = (if x.key < a.key then _ else if a.key = x.key then _ else a :: ins x A) ++ B
    by_cases h1 : x.key < a.key
    · rw [if_pos h1, if_pos h1]
      rfl
    · rw [if_neg h1, if_neg h1]
      by_cases h2 : a.key = x.key
      · rw [if_pos h2, if_pos h2]
        rfl
      · rw [if_neg h2, if_neg h2]
        have h3 : a.key < x.key := by
          rcases key_tri a.key x.key with h | h | h
          · exact h
          · exact absurd h h2
          · exact absurd h h1
        rw [List.any_cons, decide_eq_true h3, Bool.not_true, Bool.false_or] at h
        rw [ins_done h]
        rfl
theorem dn_false {S : List Pl.Rc} {x : Pl.Rc} {j : Nat} (h : dn S x j = false) : ∀ a ∈ S.take j, a.key < x.key := fun a ha => by
  unfold dn at h
  rw [List.any_eq_false] at h
  have := h a ha
  simpa using this
theorem take_snoc {S : List Pl.Rc} {j : Nat} {y : Pl.Rc} (h : S[j]? = some y) : S.take (j + 1) = S.take j ++ [y] := by
  rw [List.take_add_one, h]
  rfl
theorem dn_next {S : List Pl.Rc} {x : Pl.Rc} {j : Nat} {y : Pl.Rc} (h : S[j]? = some y) : dn S x (j + 1) = (dn S x j || !decide (y.key < x.key)) := by
  unfold dn
  rw [take_snoc h, List.any_append]
  simp
/-- It comes in ahead of y. -/
theorem op_ahead {S : List Pl.Rc} {x : Pl.Rc} {j : Nat} {y : Pl.Rc} (h : S[j]? = some y) (hd : dn S x j = false) (hk : x.key < y.key) : op S x (j + 1) = op S x j ++ [x] ++ [y] ∧ dn S x (j + 1) = true ∧ ¬ y.key = x.key := by
  have h1 : dn S x (j + 1) = true := by
    rw [dn_next h, hd, Bool.false_or, Bool.not_eq_true', decide_eq_false_iff_not]
    exact fun h2 => List.lt_irrefl _ (List.lt_trans hk h2)
  refine ⟨?_, h1, fun e => key_ne hk e.symm⟩
  unfold op
  rw [if_pos h1, hd, take_snoc h, ins_split (dn_false hd)]
  show _ ++ (if x.key < y.key then _ else _) = _
  rw [if_pos hk]
  simp
/-- It comes in at y. -/
theorem op_at {S : List Pl.Rc} {x : Pl.Rc} {j : Nat} {y : Pl.Rc} (h : S[j]? = some y) (hd : dn S x j = false) (hk : y.key = x.key) : op S x (j + 1) = op S x j ++ [if y.off ≤ x.off then x else y] ∧ dn S x (j + 1) = true ∧ ¬ x.key < y.key := by
  have hnl : ¬ x.key < y.key := by rw [hk]; exact List.lt_irrefl _
  have h1 : dn S x (j + 1) = true := by
    rw [dn_next h, hd, Bool.false_or, Bool.not_eq_true', decide_eq_false_iff_not]
    rw [hk]; exact List.lt_irrefl _
  refine ⟨?_, h1, hnl⟩
  unfold op
  rw [if_pos h1, hd, take_snoc h, ins_split (dn_false hd)]
  show _ ++ (if x.key < y.key then _ else if y.key = x.key then _ else _) = _
  rw [if_neg hnl, if_pos hk]
  rfl
/-- It isn't there yet. -/
theorem op_on {S : List Pl.Rc} {x : Pl.Rc} {j : Nat} {y : Pl.Rc} (h : S[j]? = some y) (hd : dn S x j = false) (hk : y.key < x.key) : op S x (j + 1) = op S x j ++ [y] ∧ dn S x (j + 1) = false ∧ ¬ x.key < y.key ∧ ¬ y.key = x.key := by
  have h1 : dn S x (j + 1) = false := by rw [dn_next h, hd, decide_eq_true hk]; rfl
  refine ⟨?_, h1, fun h2 => List.lt_irrefl _ (List.lt_trans hk h2), key_ne hk⟩
  unfold op
  rw [h1, hd, take_snoc h]
  rfl
/-- It is in. -/
theorem op_in {S : List Pl.Rc} {x : Pl.Rc} {j : Nat} {y : Pl.Rc} (hS : Srt S) (h : S[j]? = some y) (hd : dn S x j = true) : op S x (j + 1) = op S x j ++ [y] ∧ dn S x (j + 1) = true ∧ ¬ y.key = x.key := by
  have h1 : dn S x (j + 1) = true := by rw [dn_next h, hd]; rfl
  refine ⟨?_, h1, fun e => ?_⟩
  · unfold op
    rw [if_pos h1, if_pos hd, take_snoc h, ins_done (by exact hd)]
  · unfold dn at hd
    obtain ⟨a, ha, hax⟩ := List.any_eq_true.1 hd
    rw [Bool.not_eq_true', decide_eq_false_iff_not] at hax
    have hs : S = S.take j ++ S.drop j := (List.take_append_drop j S).symm
    have hS2 := hS
    unfold Srt at hS2
    rw [hs] at hS2
    have hy : y ∈ S.drop j := List.mem_of_getElem? (i := 0) (by rw [List.getElem?_drop, Nat.add_zero]; exact h)
    exact hax (e ▸ (List.pairwise_append.1 hS2).2.2 a ha y hy)
theorem op_zero (S : List Pl.Rc) (x : Pl.Rc) : op S x 0 = [] ∧ dn S x 0 = false := ⟨rfl, rfl⟩
theorem op_done {S : List Pl.Rc} {x : Pl.Rc} {j : Nat} (hj : S.length ≤ j) (hd : dn S x j = true) : op S x j = ins x S := by
  unfold op
  rw [if_pos hd, List.take_of_length_le hj]
theorem op_last {S : List Pl.Rc} {x : Pl.Rc} {j : Nat} (hj : S.length ≤ j) (hd : dn S x j = false) : op S x j ++ [x] = ins x S := by
  have h := ins_split (x := x) (A := S.take j) (B := []) (dn_false hd)
  rw [List.append_nil, List.take_of_length_le hj] at h
  unfold op
  rw [hd, List.take_of_length_le hj, h]
  rfl
theorem ins_len (x : Pl.Rc) : ∀ S : List Pl.Rc, (ins x S).length ≤ S.length + 1
  | [] => Nat.le_refl _
  | y :: S => by
    unfold ins
    split
    · simp
    · split
      · simp
      · have := ins_len x S
        simp only [List.length_cons]
        omega
theorem op_len (S : List Pl.Rc) (x : Pl.Rc) (j : Nat) : (op S x j).length ≤ S.length + 1 := by
  unfold op
  have h : (S.take j).length ≤ S.length := by rw [List.length_take]; omega
  split
  · exact Nat.le_trans (ins_len _ _) (by omega)
  · omega
theorem lasts_len (rs : List Pl.Rc) : (lasts rs).length ≤ rs.length := by
  rcases List.eq_nil_or_concat rs with rfl | ⟨r, x, rfl⟩
  · exact Nat.le_refl _
  · have ih := lasts_len r
    rw [List.concat_eq_append, lasts_snoc]
    have := ins_len x (lasts r)
    rw [List.length_append, List.length_singleton]
    omega
termination_by rs.length
decreasing_by all_goals (subst_vars; simp)
/-- The records ahead of the one at (i, k). -/
def ahead (L : List Pl.Bt) (i k : Nat) : List Pl.Rc := rcs (L.take i) ++ ((L[i]?.map (·.recs)).getD []).take k
/-- What is gathered of them. -/
def upTo (L : List Pl.Bt) (upto : Int) (i k : Nat) : List Pl.Rc := lasts ((ahead L i k).filter (under upto))
theorem ahead_next {L : List Pl.Bt} {i k : Nat} {b : Pl.Bt} {x : Pl.Rc} (hb : L[i]? = some b) (hx : b.recs[k]? = some x) : ahead L i (k + 1) = ahead L i k ++ [x] := by
  unfold ahead
  rw [hb]
  show _ ++ b.recs.take (k + 1) = _ ++ b.recs.take k ++ [x]
  rw [take_snoc hx, List.append_assoc]
theorem upTo_in {L : List Pl.Bt} {upto : Int} {i k : Nat} {b : Pl.Bt} {x : Pl.Rc} (hb : L[i]? = some b) (hx : b.recs[k]? = some x) (hu : under upto x = true) : upTo L upto i (k + 1) = ins x (upTo L upto i k) := by
  unfold upTo
  rw [ahead_next hb hx, List.filter_append, List.filter_cons, if_pos hu, List.filter_nil, lasts_snoc]
theorem upTo_out {L : List Pl.Bt} {upto : Int} {i k : Nat} {b : Pl.Bt} {x : Pl.Rc} (hb : L[i]? = some b) (hx : b.recs[k]? = some x) (hu : under upto x = false) : upTo L upto i (k + 1) = upTo L upto i k := by
  unfold upTo
  rw [ahead_next hb hx, List.filter_append, List.filter_cons, hu]
  simp
theorem upTo_next {L : List Pl.Bt} {upto : Int} {i k : Nat} {b : Pl.Bt} (hb : L[i]? = some b) (hk : b.recs.length ≤ k) : upTo L upto (i + 1) 0 = upTo L upto i k := by
  unfold upTo ahead
  rw [List.take_zero, List.append_nil, List.take_add_one, hb]
  show lasts ((rcs (L.take i ++ [b])).filter _) = lasts ((rcs (L.take i) ++ b.recs.take k).filter _)
  rw [List.take_of_length_le hk, rcs, List.flatMap_append]
  simp [rcs]
theorem upTo_zero (L : List Pl.Bt) (upto : Int) : upTo L upto 0 0 = [] := rfl
theorem upTo_all {L : List Pl.Bt} {upto : Int} {i : Nat} (hi : L.length ≤ i) : (upTo L upto i 0).filter (fun x => !x.gone) = fold L upto := by
  unfold upTo ahead fold
  rw [List.take_zero, List.append_nil, List.take_of_length_le hi]
theorem upTo_srt (L : List Pl.Bt) (upto : Int) (i k : Nat) : Srt (upTo L upto i k) := (lasts_spec _).1
theorem rcs_len : ∀ (L : List Pl.Bt) (c : Nat), (∀ b ∈ L, b.recs.length ≤ c) → (rcs L).length ≤ L.length * c
  | [], _, _ => by simp [rcs]
  | b :: L, c, h => by
    have ih := rcs_len L c fun b hb => h b (List.mem_cons_of_mem _ hb)
    have h1 := h b List.mem_cons_self
    show (b.recs ++ rcs L).length ≤ _
    rw [List.length_append, List.length_cons, Nat.succ_mul]
    omega
theorem upTo_len (L : List Pl.Bt) (upto : Int) (i k : Nat) : (upTo L upto i k).length ≤ (rcs L).length := by
  refine Nat.le_trans (lasts_len _) (Nat.le_trans (List.length_filter_le _ _) ?_)
  have e : rcs L = rcs (L.take i) ++ rcs (L.drop i) := by
    conv => lhs; rw [← List.take_append_drop i L]
    exact List.flatMap_append
  rw [e]
  unfold ahead
  rw [List.length_append, List.length_append]
  cases hb : L[i]? with
  | none => simp
  | some b =>
    have hl := (List.getElem?_eq_some_iff.1 hb).1
    rw [List.drop_eq_getElem_cons hl, (List.getElem?_eq_some_iff.1 hb).2]
    show _ + (b.recs.take k).length ≤ _ + (b.recs ++ rcs _).length
    rw [List.length_append, List.length_take]
    omega
end Wd
end Go.Proofs.Ytfapigccdbpepaa
