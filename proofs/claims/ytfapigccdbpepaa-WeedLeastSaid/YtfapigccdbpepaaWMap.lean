/- A map from keys to records, in a block: which records lie in it, each at its own key. -/
import Derived.Test.YtfapigccdbpepaaWPlain
import Derived.Test.YtfapigccdbpepaaSRep
import Derived.Maps.RangeWalk
import Derived.Maps.AppendAt
import Derived.Carry
import Derived.Sort.KeysCollected
import Derived.WalkKit
import Derived.Lib.Hide
namespace Go.Proofs.Ytfapigccdbpepaa
open Go.RowKit Go.Maps

/-- What a record in a map reads as. -/
def RL (l : List Value) : Option (DataW Pl.Rc × List MemPlace) :=
  match l with
  | [.int .i64 off, .string key, .string val, .bool gone] => some (.held ⟨off, key.data.toList, val.data.toList, gone⟩, [])
  | _ => none
def RR (v : Value) : Option (DataW Pl.Rc × List MemPlace) :=
  match v with
  | .agg a => RL a.toList
  | _ => none
theorem RR_some (x : Pl.Rc) : RR (rv4 x) = some (.held x, []) := by
  cases x
  simp [RR, RL]
theorem RR_inv {v : Value} {y : DataW Pl.Rc × List MemPlace} (h : RR v = some y) : ∃ x : Pl.Rc, v = rv4 x ∧ y = (.held x, []) := by
  unfold RR at h
  split at h
  · rename_i a
    unfold RL at h
    split at h
    · rename_i off key val gone e
      cases h
      refine ⟨⟨off, key.data.toList, val.data.toList, gone⟩, ?_, rfl⟩
      have : a = #[.int .i64 off, .string key, .string val, .bool gone] := by
        rw [← Array.toArray_toList (xs := a), e]
      rw [this]
    · cases h
  · cases h
def pr (x : Pl.Rc) : Lit × DataW Pl.Rc := (.string x.key, .held x)
theorem lawK : Keyed Try.prog 9 := string_keyed Try.underlying9
/-- Block m is a map of just these records, each at its key. -/
def VMap (w : World) (m : Nat) (S : List Pl.Rc) : Prop := ∃ l, w.ownsMap Try.prog 9 RR m S.length (.map l) ∧ l.Perm (S.map pr)
theorem VMap.lt {w : World} {m : Nat} {S : List Pl.Rc} (h : VMap w m S) : m < w.heap.size := let ⟨_, h, _⟩ := h; h.lt
theorem VMap.same {w w' : World} {m : Nat} {S : List Pl.Rc} (h : VMap w m S) (hb : w'.heap[m]? = w.heap[m]?) : VMap w' m S := by
  obtain ⟨l, ⟨es, clock, hh, F, hs, hD⟩, hp⟩ := h
  exact ⟨l, ⟨es, clock, hb.trans hh, F, hs, hD⟩, hp⟩
theorem VMap.below {w w' : World} {m : Nat} {S : List Pl.Rc} (h : VMap w m S) (b : Below w.heap.size w w') : VMap w' m S := h.same (b.block _ h.lt)
theorem VMap.perm {w : World} {m : Nat} {S T : List Pl.Rc} (h : VMap w m S) (hp : S.Perm T) : VMap w m T := by
  obtain ⟨l, h1, h2⟩ := h
  exact ⟨l, hp.length_eq ▸ h1, h2.trans (hp.map _)⟩
theorem VMap.made (w : World) : VMap (w.alloc (.map #[] 0)) w.heap.size [] := ⟨[], World.ownsMap_made _ _ _ _, .refl _⟩
/-- As many entries as it reads as. -/
theorem owns_tight {w : World} {m n : Nat} {l : List (Lit × DataW Pl.Rc)} (h : w.ownsMap Try.prog 9 RR m n (.map l)) : w.ownsMap Try.prog 9 RR m l.length (.map l) := by
  obtain ⟨es, clock, hb, F, hs, hD⟩ := h
  refine ⟨es, clock, hb, F, ?_, hD⟩
  injection hD with hD
  rw [hD, length_sorted, List.length_map, Array.length_toList]
  exact Nat.le_refl _
theorem same_key (a b : Wd.Key) : (Lit.string a).sameKey (.string b) = (a == b) := by
  by_cases h : a = b
  · subst h; simp [Lit.sameKey]
  · simp [Lit.sameKey]
theorem find_rec {S : List Pl.Rc} (hn : Wd.Srt S) {k : Wd.Key} {x : Pl.Rc} (h : Wd.lk S k = some x) {l : List (Lit × DataW Pl.Rc)} (hp : l.Perm (S.map pr)) (z : DataW Pl.Rc) : (DataW.map l).atKey (.string k) z = .held x := by
  obtain ⟨hx, rfl⟩ := Wd.lk_key h
  have hm : pr x ∈ l := hp.mem_iff.2 (List.mem_map.2 ⟨_, hx, rfl⟩)
  unfold DataW.atKey
  cases hf : l.find? (fun p => p.1.sameKey (.string x.key)) with
  | none =>
    have := List.find?_eq_none.1 hf _ hm
    simp [pr, same_key] at this
  | some p =>
    have h1 := List.mem_of_find?_eq_some hf
    have h2 := List.find?_some hf
    obtain ⟨y, hy, rfl⟩ := List.mem_map.1 (hp.mem_iff.1 h1)
    have e : y.key = x.key := by simp only [pr] at h2; rw [same_key] at h2; simpa using h2
    have e2 := Wd.lk_mem hn hy
    rw [e, h] at e2
    cases e2
    simp only [hf, pr]
theorem find_none {S : List Pl.Rc} {k : Wd.Key} (h : Wd.lk S k = none) {l : List (Lit × DataW Pl.Rc)} (hp : l.Perm (S.map pr)) (z : DataW Pl.Rc) : (DataW.map l).atKey (.string k) z = z := by
  unfold DataW.atKey
  cases hf : l.find? (fun p => p.1.sameKey (.string k)) with
  | none => simp only [hf]
  | some p =>
    have h1 := List.mem_of_find?_eq_some hf
    have h2 := List.find?_some hf
    obtain ⟨y, hy, rfl⟩ := List.mem_map.1 (hp.mem_iff.1 h1)
    have e : y.key = k := by simp only [pr] at h2; rw [same_key] at h2; simpa using h2
    have := List.find?_eq_none.1 h y hy
    simp [e] at this
abbrev rv0 : Value := .agg #[.int .i64 0, .string ⟨#[]⟩, .string ⟨#[]⟩, .bool false]
theorem zeroRec (w : World) : (zeroValue 44).run Try.prog w = .ok rv0 w := by kernel_rfl
theorem RR_zero : RR rv0 = some (.held ⟨0, [], [], false⟩, []) := RR_some ⟨0, [], [], false⟩
theorem keyK (k : Wd.Key) (h : k.length ≤ maxLen) : keyOf Try.prog 9 (.string ⟨k.toArray⟩) = some (.string k) := by
  have := WideMaps.keyOf_string_mk (P := Try.prog) Try.underlying9 (s := ⟨k.toArray⟩) (by show k.toArray.size ≤ _; simpa using h)
  simpa using this

/-- The look-up of a key that is there. -/
theorem VMap.look {w : World} {m : Nat} {S : List Pl.Rc} (h : VMap w m S) (hn : Wd.Srt S) {k : Wd.Key} {x : Pl.Rc} (hk : k.length ≤ maxLen) (hx : Wd.lk S k = some x) :
    (Instr.lookup 52 (.map (some m)) (.string ⟨k.toArray⟩) false).run Try.prog w = .ok (rv4 x) w := by
  obtain ⟨l, ⟨es, clock, hb, F, _, hD⟩, hp⟩ := h
  rcases Maps.fit_look false lawK Try.underlying52 (zeroRec w) hb F (keyK k hk) with ⟨-, -, hat⟩ | ⟨e0, y, -, -, hrun, hRv, hat, -⟩
  · rw [← hD] at hat
    have := (find_rec hn hx hp .nil).symm.trans (hat .nil)
    cases this
  · rw [← hD] at hat
    have h1 := (hat .nil).symm.trans (find_rec hn hx hp .nil)
    obtain ⟨x', hv, rfl⟩ := RR_inv hRv
    cases h1
    rw [hrun, hv]
    rfl
/-- .. with the answer whether it is there. -/
theorem VMap.look2 {w : World} {m : Nat} {S : List Pl.Rc} (h : VMap w m S) (hn : Wd.Srt S) {k : Wd.Key} {x : Pl.Rc} (hk : k.length ≤ maxLen) (hx : Wd.lk S k = some x) :
    (Instr.lookup 52 (.map (some m)) (.string ⟨k.toArray⟩) true).run Try.prog w = .ok (.tuple #[rv4 x, .bool true]) w := by
  obtain ⟨l, ⟨es, clock, hb, F, _, hD⟩, hp⟩ := h
  rcases Maps.fit_look true lawK Try.underlying52 (zeroRec w) hb F (keyK k hk) with ⟨-, -, hat⟩ | ⟨e0, y, -, -, hrun, hRv, hat, -⟩
  · rw [← hD] at hat
    have := (find_rec hn hx hp .nil).symm.trans (hat .nil)
    cases this
  · rw [← hD] at hat
    have h1 := (hat .nil).symm.trans (find_rec hn hx hp .nil)
    obtain ⟨x', hv, rfl⟩ := RR_inv hRv
    cases h1
    rw [hrun, hv]
    rfl
theorem VMap.look2_none {w : World} {m : Nat} {S : List Pl.Rc} (h : VMap w m S) {k : Wd.Key} (hk : k.length ≤ maxLen) (hx : Wd.lk S k = none) :
    (Instr.lookup 52 (.map (some m)) (.string ⟨k.toArray⟩) true).run Try.prog w = .ok (.tuple #[rv0, .bool false]) w := by
  obtain ⟨l, ⟨es, clock, hb, F, _, hD⟩, hp⟩ := h
  rcases Maps.fit_look true lawK Try.underlying52 (zeroRec w) hb F (keyK k hk) with ⟨hrun, -, -⟩ | ⟨e0, y, -, -, hrun, hRv, hat, -⟩
  · rw [hrun]; rfl
  · rw [← hD] at hat
    have h1 := (hat .nil).symm.trans (find_none hx hp .nil)
    obtain ⟨x', hv, rfl⟩ := RR_inv hRv
    cases h1

def keyNe (k : Wd.Key) (x : Pl.Rc) : Bool := !(x.key == k)
theorem strike {S : List Pl.Rc} (k : Wd.Key) {l : List (Lit × DataW Pl.Rc)} (hp : l.Perm (S.map pr)) : (l.filter fun p => !p.1.sameKey (.string k)).Perm ((S.filter (keyNe k)).map pr) := by
  refine (hp.filter _).trans ?_
  rw [List.filter_map]
  have : ((fun p : Lit × DataW Pl.Rc => !p.1.sameKey (.string k)) ∘ pr) = keyNe k := by
    funext p
    show (!(Lit.string p.key).sameKey (.string k)) = _
    rw [same_key]; rfl
  rw [this]
theorem perm_insert (x : Lit × DataW Pl.Rc) (l : List (Lit × DataW Pl.Rc)) : (DataW.insert x l).Perm (x :: l) := by
  induction l with
  | nil => exact .refl _
  | cons y r ih =>
    unfold DataW.insert
    split
    · exact .refl _
    · exact (ih.cons y).trans (.swap _ _ _)
/-- One record more, in place of the one that its key had. -/
theorem ins_perm {x : Pl.Rc} : ∀ {S : List Pl.Rc}, Wd.Srt S → (∀ y, Wd.lk S x.key = some y → y.off ≤ x.off) → (x :: S.filter (keyNe x.key)).Perm (Wd.ins x S)
  | [], _, _ => .refl _
  | y :: S, hS, h => by
    obtain ⟨h1, h2⟩ := List.pairwise_cons.1 hS
    have hall : ∀ {T : List Pl.Rc}, (∀ z ∈ T, z.key ≠ x.key) → T.filter (keyNe x.key) = T := fun {T} hT => List.filter_eq_self.2 fun z hz => by simp [keyNe, hT z hz]
    unfold Wd.ins
    split
    · rename_i hlt
      rw [hall (T := y :: S) fun z hz => ?_]
      rcases List.mem_cons.1 hz with rfl | hz
      · exact fun e => Wd.key_ne hlt e.symm
      · exact fun e => Wd.key_ne (List.lt_trans hlt (h1 z hz)) e.symm
    · split
      · rename_i he
        have hoff : y.off ≤ x.off := h y (by rw [Wd.lk_cons, if_pos he])
        rw [if_pos hoff, List.filter_cons, if_neg (by simp [keyNe, he]), hall (T := S) fun z hz => by rw [← he]; exact fun e => Wd.key_ne (h1 z hz) e.symm]
      · rename_i he
        rw [List.filter_cons, if_pos (by simp [keyNe, he])]
        refine (List.Perm.swap _ _ _).trans ((ins_perm h2 fun z hz => h z ?_).cons y)
        rw [Wd.lk_cons, if_neg he]
        exact hz
/-- .. and one that has a greater one stays out. -/
theorem ins_keep {x y : Pl.Rc} : ∀ {S : List Pl.Rc}, Wd.Srt S → Wd.lk S x.key = some y → ¬ y.off ≤ x.off → Wd.ins x S = S
  | [], _, h, _ => by cases h
  | s :: S, hS, h, hn => by
    obtain ⟨h1, h2⟩ := List.pairwise_cons.1 hS
    rw [Wd.lk_cons] at h
    unfold Wd.ins
    by_cases he : s.key = x.key
    · rw [if_pos he] at h
      cases h
      rw [if_neg (by rw [he]; exact List.lt_irrefl _), if_pos he, if_neg hn]
    · rw [if_neg he] at h
      obtain ⟨hy, hk⟩ := Wd.lk_key h
      have := h1 y hy
      rw [if_neg (fun hlt => by rw [hk] at this; exact List.lt_irrefl _ (List.lt_trans this hlt)), if_neg he, ins_keep h2 h hn]

/-- 'last[key] = rec'. -/
theorem wpList_put {w : World} {ops : Array Oper} {rest : List Oper} {o : Oper} {a : Act} {Q : Exit → Act → World → Prop}
    (hg : o.guard = none) (m x v : Operand) (hop : o.op = Op.mapUpdate 52 m x v) (b : Nat) (S : List Pl.Rc) (y : Pl.Rc)
    (hm : a.eval m = .map (some b)) (hown : VMap w b S) (hS : Wd.Srt S) (hn : S.length < maxLen) (hx : a.eval x = .string ⟨y.key.toArray⟩) (hv : a.eval v = rv4 y) (hk : y.key.length ≤ maxLen) (hle : ∀ z, Wd.lk S y.key = some z → z.off ≤ y.off)
    (hK : ∀ w', VMap w' b (Wd.ins y S) → w.grownBy w' (some b) → wpList Try.prog ops Q rest (a.put o.dst undef) w') :
    wpList Try.prog ops Q (o :: rest) a w := by
  obtain ⟨l, ho, hp⟩ := hown
  refine wpList_mapUpdate_own w hg m x v 52 hop 9 44 lawK Try.underlying52 RR b _ _ hm ho hn _ _ _ hx hv (keyK y.key hk) _ _ (RR_some y) (fun w' h1 h2 => hK w' ?_ h2)
  have hp' : (DataW.insert (pr y) (l.filter fun p => !p.1.sameKey (.string y.key))).Perm ((Wd.ins y S).map pr) :=
    (perm_insert _ _).trans (((strike y.key hp).cons _).trans ((ins_perm hS hle).map pr))
  have h3 := owns_tight (h1 : w'.ownsMap Try.prog 9 RR b _ (.map _))
  refine ⟨_, ?_, hp'⟩
  have h4 := hp'.length_eq
  rw [List.length_map] at h4
  have h5 : World.ownsMap w' Try.prog 9 RR b (DataW.insert (pr y) (l.filter fun p => !p.1.sameKey (.string y.key))).length (.map (DataW.insert (pr y) (l.filter fun p => !p.1.sameKey (.string y.key)))) := h3
  rw [h4] at h5
  exact h5
end Go.Proofs.Ytfapigccdbpepaa
