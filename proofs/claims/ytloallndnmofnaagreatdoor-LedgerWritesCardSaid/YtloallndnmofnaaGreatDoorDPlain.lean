/- PLAIN MATHEMATICS: a batch's conditions in the order in which the program asks them. -/
import Derived.Test.YtloallndnmofnaaGreatDoorCPlain
namespace Go.Proofs.YtloallndnmofnaaGreatDoor.Pl
open Go.Lib

def placedB : List Rc → Int → Int → Bool
  | [], _, _ => true
  | x :: l, next, hi => decide (next ≤ x.off ∧ x.off < hi) && placedB l (x.off + 1) hi
def anyBad (l : List Rc) : Bool := l.any fun x => !recB x
def headB (b : Bt) : Bool := numB b.base && decide (1 ≤ b.count ∧ b.count ≤ 8) && numB b.prod && numB b.seq && numB b.time
theorem anyBad_cons (x : Rc) (l : List Rc) : anyBad (x :: l) = (!recB x || anyBad l) := rfl
theorem placedB_cons (x : Rc) (l : List Rc) (next hi : Int) : placedB (x :: l) next hi = (decide (next ≤ x.off ∧ x.off < hi) && placedB l (x.off + 1) hi) := rfl
theorem rise_placed : ∀ (l : List Rc) (next hi : Int), riseB l (next - 1) hi = (placedB l next hi && !anyBad l)
  | [], _, _ => rfl
  | x :: l, next, hi => by
    have ih := rise_placed l (x.off + 1) hi
    rw [show x.off + 1 - 1 = x.off by omega] at ih
    rw [placedB_cons, anyBad_cons]
    simp only [riseB]
    rw [ih, show decide (next - 1 < x.off ∧ x.off < hi) = decide (next ≤ x.off ∧ x.off < hi) from decide_eq_decide.2 (by omega)]
    cases recB x <;> cases decide (next ≤ x.off ∧ x.off < hi) <;> cases placedB l (x.off + 1) hi <;> cases anyBad l <;> rfl
theorem placed_len : ∀ (l : List Rc) (next hi : Int), placedB l next hi = true → next ≤ hi → (l.length : Int) ≤ hi - next
  | [], _, _, _, h => by simp; omega
  | x :: l, next, hi, h, _ => by
    rw [placedB_cons, Bool.and_eq_true, decide_eq_true_iff] at h
    have := placed_len l (x.off + 1) hi h.2 (by omega)
    simp only [List.length_cons]
    omega
theorem good_eq (b : Bt) : goodB b = (headB b && decide (b.base + b.count ≤ 1099511627776) && placedB b.recs b.base (b.base + b.count) && !anyBad b.recs) := by
  have hr := rise_placed b.recs b.base (b.base + b.count)
  rw [Bool.eq_iff_iff, goodB_iff, hr]
  simp only [headB, Bool.and_eq_true, decide_eq_true_iff, numB_iff]
  constructor
  · rintro ⟨h1, h2, h3, h4, h5, h6, h7⟩
    exact ⟨⟨⟨⟨⟨⟨⟨h1, h2.1, h2.2.1⟩, h3⟩, h4⟩, h5⟩, by omega⟩, h7.1⟩, h7.2⟩
  · rintro ⟨⟨⟨⟨⟨⟨⟨h1, h2⟩, h3⟩, h4⟩, h5⟩, h6⟩, h7⟩, h8⟩
    have := placed_len _ _ _ h7 (by omega)
    exact ⟨h1, ⟨h2.1, h2.2, by omega⟩, h3, h4, h5, by omega, h7, h8⟩
theorem fits_eq (l : List Rc) : fitsB l = (decide (0 < l.length) && decide (l.length ≤ 8) && !anyBad l) := by
  unfold fitsB anyBad
  rw [show (!l.any fun x => !recB x) = l.all recB by rw [List.any_eq_not_all_not]; simp]
  rw [Bool.decide_and]
  rfl
def loN : List Int := [0, 1, 0, 0, 0]
def hiN : List Int := [1099511627776, 8, 1099511627776, 1099511627776, 1099511627776]
def nums (b : Bt) : List Int := [b.base, b.count, b.prod, b.seq, b.time]
theorem head_iff (b : Bt) : headB b = true ↔ ∀ j z, (nums b)[j]? = some z → loN.getD j 0 ≤ z ∧ z ≤ hiN.getD j 0 := by
  simp only [headB, Bool.and_eq_true, decide_eq_true_iff, numB_iff]
  constructor
  · rintro ⟨⟨⟨⟨h0, h1⟩, h2⟩, h3⟩, h4⟩ j z hj
    match j, hj with
    | 0, hj => obtain rfl := Option.some.inj hj; exact h0
    | 1, hj => obtain rfl := Option.some.inj hj; exact h1
    | 2, hj => obtain rfl := Option.some.inj hj; exact h2
    | 3, hj => obtain rfl := Option.some.inj hj; exact h3
    | 4, hj => obtain rfl := Option.some.inj hj; exact h4
    | j + 5, hj => simp [nums] at hj
  · intro h
    exact ⟨⟨⟨⟨h 0 _ rfl, h 1 _ rfl⟩, h 2 _ rfl⟩, h 3 _ rfl⟩, h 4 _ rfl⟩
def renum : List Rc → Int → List Rc
  | [], _ => []
  | x :: l, o => { x with off := o } :: renum l (o + 1)
theorem renum_at : ∀ (l : List Rc) (o : Int) (j : Nat), (renum l o)[j]? = l[j]?.map fun x => { x with off := o + j }
  | [], _, _ => by simp [renum]
  | x :: l, o, 0 => by simp [renum]
  | x :: l, o, j + 1 => by
    simp only [renum, List.getElem?_cons_succ]
    rw [renum_at l (o + 1) j]
    congr 1
    funext y
    rw [show o + 1 + (j : Int) = o + ((j + 1 : Nat) : Int) by omega]
theorem renum_length (l : List Rc) (o : Int) : (renum l o).length = l.length := by
  induction l generalizing o with
  | nil => rfl
  | cons x l ih => simp only [renum, List.length_cons, ih]
/-- What Pack answers. -/
def packB (l : List Rc) (base prod seq time : Int) : Option Bt :=
  if fitsB l = true ∧ goodB ⟨base, l.length, prod, seq, time, renum l base⟩ = true then some ⟨base, l.length, prod, seq, time, renum l base⟩ else none
end Go.Proofs.YtloallndnmofnaaGreatDoor.Pl
