/- PLAIN FACTS for the document's Apply: lives gathered one by one, epochs that begin one by one, places that lose a node. -/
import Derived.Test.YtmkinnheoejphaaGreatDoorPnX
namespace Go.Proofs.YtmkinnheoejphaaGreatDoor
namespace Pn
/-! ### Lives -/
/-- One life more in what the document gathers. -/
def put1 (n m : Int) (s : List (Int × Int) × Bool) (q : Int × Int) : List (Int × Int) × Bool :=
  if q.1 ≠ n then ((if s.2 = false ∧ n ≤ q.1 then s.1 ++ [(n, m)] else s.1) ++ [q], s.2 || decide (n ≤ q.1)) else (if s.2 = false ∧ n ≤ q.1 then s.1 ++ [(n, m)] else s.1, s.2 || decide (n ≤ q.1))
def putS (n m : Int) (l : List (Int × Int)) : List (Int × Int) × Bool := l.foldl (put1 n m) ([], false)
def putE (n m : Int) (s : List (Int × Int) × Bool) : List (Int × Int) := if s.2 = false then s.1 ++ [(n, m)] else s.1
theorem putS_snoc {n m : Int} {l : List (Int × Int)} {i : Nat} {q : Int × Int} (h : l[i]? = some q) : putS n m (l.take (i + 1)) = put1 n m (putS n m (l.take i)) q := by
  unfold putS
  rw [List.take_add_one, h, List.foldl_append]
  rfl
theorem putS_len (n m : Int) : ∀ (l : List (Int × Int)) (s : List (Int × Int) × Bool), (l.foldl (put1 n m) s).1.length ≤ s.1.length + 2 * l.length
  | [], s => by simp
  | q :: l, s => by
    rw [List.foldl_cons]
    have := putS_len n m l (put1 n m s q)
    have h1 : (put1 n m s q).1.length ≤ s.1.length + 2 := by
      unfold put1
      split <;> split <;> simp <;> omega
    rw [List.length_cons]
    omega
/-- Where a life goes, by going along. -/
def putR (n m : Int) : List (Int × Int) → List (Int × Int)
  | [] => [(n, m)]
  | q :: l => if q.1 < n then q :: putR n m l else if q.1 = n then (n, m) :: l else (n, m) :: q :: l
theorem put_done (n m : Int) : ∀ (l acc : List (Int × Int)), (∀ q ∈ l, n < q.1) → l.foldl (put1 n m) (acc, true) = (acc ++ l, true)
  | [], acc, _ => by simp
  | q :: l, acc, h => by
    have hq := h q (List.mem_cons_self ..)
    rw [List.foldl_cons]
    have e : put1 n m (acc, true) q = (acc ++ [q], true) := by
      unfold put1
      rw [if_pos (show q.1 ≠ n by omega)]
      simp
    rw [e, put_done n m l _ fun x hx => h x (List.mem_cons_of_mem _ hx)]
    simp
theorem put_go (n m : Int) : ∀ (l acc : List (Int × Int)), l.Pairwise (fun a b => a.1 < b.1) → putE n m (l.foldl (put1 n m) (acc, false)) = acc ++ putR n m l
  | [], acc, _ => by simp [putE, putR]
  | q :: l, acc, h => by
    rw [List.pairwise_cons] at h
    rw [List.foldl_cons]
    unfold putR
    by_cases h1 : q.1 < n
    · have e : put1 n m (acc, false) q = (acc ++ [q], false) := by
        unfold put1
        rw [if_pos (show q.1 ≠ n by omega), if_neg (fun e => by have := e.2; omega)]
        have : decide (n ≤ q.1) = false := decide_eq_false (by omega)
        simp [this]
      rw [e, put_go n m l _ h.2, if_pos h1]
      simp
    · rw [if_neg h1]
      have hle : n ≤ q.1 := by omega
      have hl : ∀ x ∈ l, n < x.1 := fun x hx => by have := h.1 x hx; omega
      by_cases h2 : q.1 = n
      · have e : put1 n m (acc, false) q = (acc ++ [(n, m)], true) := by
          unfold put1
          rw [if_neg (fun h => h h2), if_pos ⟨rfl, hle⟩]
          simp [hle]
        rw [e, put_done n m l _ hl, if_pos h2]
        simp [putE]
      · have e : put1 n m (acc, false) q = (acc ++ [(n, m)] ++ [q], true) := by
          unfold put1
          rw [if_pos h2, if_pos ⟨rfl, hle⟩]
          simp [hle]
        rw [e, put_done n m l _ hl, if_neg h2]
        simp [putE]
theorem putPt_go (n m : Int) : ∀ l : List (Int × Int), Fk.putPt l n m = putR n m l
  | [] => rfl
  | q :: l => by
    have ih := putPt_go n m l
    unfold Fk.putPt at ih ⊢
    unfold putR
    by_cases h1 : q.1 < n
    · have hc : Fk.cP n q < 0 := Fk.cmpI_lt.2 h1
      have hlow : Fk.low (Fk.cP n) (q :: l) = Fk.low (Fk.cP n) l + 1 := by rw [Fk.low, if_pos hc]
      have hhit : Fk.hit (Fk.cP n) (q :: l) = Fk.hit (Fk.cP n) l := by
        unfold Fk.hit
        rw [hlow, List.getElem?_cons_succ]
      rw [if_pos h1, hlow, hhit, ← ih]
      split
      · rw [List.set_cons_succ]
      · unfold Fk.ins
        simp
    · rw [if_neg h1]
      have hc : ¬ Fk.cP n q < 0 := fun h => h1 (Fk.cmpI_lt.1 h)
      have hlow : Fk.low (Fk.cP n) (q :: l) = 0 := by rw [Fk.low, if_neg hc]
      by_cases h2 : q.1 = n
      · have hz : Fk.cP n q = 0 := Fk.cmpI_eq.2 h2
        have hhit : Fk.hit (Fk.cP n) (q :: l) = some q := by
          unfold Fk.hit
          rw [hlow, List.getElem?_cons_zero]
          simp only
          rw [if_pos hz]
        rw [if_pos h2, hlow, hhit]
        rfl
      · have hz : ¬ Fk.cP n q = 0 := fun h => h2 (Fk.cmpI_eq.1 h)
        have hhit : Fk.hit (Fk.cP n) (q :: l) = none := by
          unfold Fk.hit
          rw [hlow, List.getElem?_cons_zero]
          simp only
          rw [if_neg hz]
        rw [if_neg h2, hlow, hhit]
        rfl
/-- What the document gathers is the lives with that one. -/
theorem put_all {l : List (Int × Int)} (h : l.Pairwise fun a b => a.1 < b.1) (n m : Int) : putE n m (putS n m l) = Fk.putPt l n m := by
  unfold putS
  rw [put_go n m l [] h, putPt_go]
  rfl
/-! ### Epochs -/
theorem rise_snoc : ∀ (t : List Nat) (ps : List Pt) (k : Nat), rise ps (t ++ [k]) = match rise ps t with
    | some qs => rise qs [k]
    | none => none
  | [], ps, k => rfl
  | j :: t, ps, k => by
    rw [List.cons_append]
    conv => lhs; unfold rise
    conv => rhs; unfold rise
    cases hp : ps[j]? with
    | none => simp only; exact rise_snoc t ps k
    | some x =>
      simp only
      by_cases he : x.ep = 1073741824
      · rw [if_pos he, if_pos he]
      · rw [if_neg he, if_neg he]
        exact rise_snoc t _ k
theorem rise_pre : ∀ (t r : List Nat) (ps : List Pt), rise ps t = none → rise ps (t ++ r) = none
  | [], r, ps, h => by unfold rise at h; cases h
  | j :: t, r, ps, h => by
    rw [List.cons_append]
    unfold rise at h ⊢
    cases hp : ps[j]? with
    | none => rw [hp] at h; simp only at h ⊢; exact rise_pre t r ps h
    | some x =>
      rw [hp] at h
      simp only at h ⊢
      by_cases he : x.ep = 1073741824
      · rw [if_pos he]
      · rw [if_neg he] at h ⊢
        exact rise_pre t r _ h
/-- One epoch more, or there is none. -/
theorem rise_take {t : List Nat} {ps qs : List Pt} {i k : Nat} {x : Pt} (h : rise ps (t.take i) = some qs) (hk : t[i]? = some k) (hx : qs[k]? = some x) :
    (x.ep ≠ 1073741824 → rise ps (t.take (i + 1)) = some (qs.set k ⟨x.ep + 1, x.ch, x.le⟩)) ∧ (x.ep = 1073741824 → rise ps t = none) := by
  have e : t.take (i + 1) = t.take i ++ [k] := by rw [List.take_add_one, hk]; rfl
  have h1 : rise ps (t.take (i + 1)) = rise qs [k] := by rw [e, rise_snoc, h]
  have h2 : rise qs [k] = if x.ep = 1073741824 then none else some (qs.set k ⟨x.ep + 1, x.ch, x.le⟩) := by
    unfold rise
    rw [hx]
    simp only
    rfl
  refine ⟨fun hn => by rw [h1, h2, if_neg hn], fun he => ?_⟩
  rw [← List.take_append_drop (i + 1) t]
  exact rise_pre _ _ _ (by rw [h1, h2, if_pos he])
/-! ### Places that lose a node -/
/-- What the document does to a place, by the chain, then by the learner. -/
theorem lose_doc {x : Pt} {nodes : Int} (h : PlaceG x nodes) (n : Int) :
    (x.ch.contains n = true → 1 < x.ch.length → lose n x = ⟨x.ep, x.ch.filter (fun m => m != n), x.le⟩ ∧ loseB n x = true ∧ x.le ≠ n) ∧
    (¬ (x.ch.contains n = true ∧ 1 < x.ch.length) → x.le = n → lose n x = ⟨x.ep, x.ch, 0⟩ ∧ loseB n x = true) ∧
    (¬ (x.ch.contains n = true ∧ 1 < x.ch.length) → x.le ≠ n → lose n x = x ∧ loseB n x = false) := by
  have hlen : 1 ≤ x.ch.length := List.length_pos_iff.2 h.ne
  refine ⟨fun h1 h2 => ?_, fun h1 h2 => ?_, fun h1 h2 => ?_⟩
  · have hm : n ∈ x.ch := by simpa using h1
    have hle : x.le ≠ n := fun e => h.le (e ▸ hm)
    have hw : wo x.ch n = x.ch.filter fun m => m != n := by
      rw [wo_erase hm]
      exact h.nd.erase_eq_filter n
    refine ⟨?_, ?_, hle⟩
    · unfold lose
      rw [if_neg hle, if_pos ⟨h1, by omega⟩, hw]
    · unfold loseB
      rw [h1, decide_eq_true (by omega : x.ch.length ≠ 1)]
      simp
  · constructor
    · unfold lose
      rw [if_pos h2]
    · unfold loseB
      simp [h2]
  · have h3 : loseB n x = false := by
      unfold loseB
      have e1 : (x.le == n) = false := by simp [h2]
      rw [e1, Bool.false_or]
      cases hc : x.ch.contains n with
      | false => rfl
      | true =>
        have : ¬ 1 < x.ch.length := fun h4 => h1 ⟨hc, h4⟩
        rw [decide_eq_false (by omega : ¬ x.ch.length ≠ 1)]
        rfl
    exact ⟨lose_same h3, h3⟩
end Pn
end Go.Proofs.YtmkinnheoejphaaGreatDoor
