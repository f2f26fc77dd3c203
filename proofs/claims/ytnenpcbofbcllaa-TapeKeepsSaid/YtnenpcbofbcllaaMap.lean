/- A map from names to pointers, in a block: which pairs lie in it, in whatever order. -/
import Derived.Test.YtnenpcbofbcllaaProg
import Derived.Maps.RangeWalk
import Derived.Maps.AppendAt
import Derived.Carry
import Derived.Sort.KeysCollected
import Derived.WalkKit
import Derived.Lib.Hide
namespace Go.Proofs.Ytnenpcbofbcllaa
open Go.RowKit Go.Maps

/-- What a pointer in a map reads as: its block's number. -/
def RF (v : Value) : Option (DataW Unit × List MemPlace) :=
  match v with
  | .pointer (some ⟨j, 0, none⟩) => some (.lit (.int .i64 j), [])
  | .pointer none => some (.nil, [])
  | _ => none
theorem RF_some (j : Nat) : RF (.pointer (some ⟨j, 0, none⟩)) = some (.lit (.int .i64 j), []) := rfl
theorem RF_inv {v : Value} {y : DataW Unit × List MemPlace} (h : RF v = some y) : (∃ j : Nat, v = .pointer (some ⟨j, 0, none⟩) ∧ y = (.lit (.int .i64 j), [])) ∨ (v = .pointer none ∧ y = (.nil, [])) := by
  unfold RF at h
  split at h
  · cases h; exact .inl ⟨_, rfl, rfl⟩
  · cases h; exact .inr ⟨rfl, rfl⟩
  · cases h

abbrev Key := List UInt8
def pairOf (p : Key × Nat) : Lit × DataW Unit := (.string p.1, .lit (.int .i64 p.2))
theorem lawK : Keyed Try.prog 9 := string_keyed Try.underlying9
/-- Block m is a map of just these pairs. -/
def FMap (w : World) (m : Nat) (E : List (Key × Nat)) : Prop := ∃ l, w.ownsMap Try.prog 9 RF m E.length (.map l) ∧ l.Perm (E.map pairOf)
theorem FMap.lt {w : World} {m : Nat} {E : List (Key × Nat)} (h : FMap w m E) : m < w.heap.size := let ⟨_, h, _⟩ := h; h.lt
theorem FMap.same {w w' : World} {m : Nat} {E : List (Key × Nat)} (h : FMap w m E) (hb : w'.heap[m]? = w.heap[m]?) : FMap w' m E := by
  obtain ⟨l, ⟨es, clock, hh, F, hs, hD⟩, hp⟩ := h
  exact ⟨l, ⟨es, clock, hb.trans hh, F, hs, hD⟩, hp⟩
theorem FMap.perm {w : World} {m : Nat} {E E' : List (Key × Nat)} (h : FMap w m E) (hp : E.Perm E') : FMap w m E' := by
  obtain ⟨l, h1, h2⟩ := h
  exact ⟨l, hp.length_eq ▸ h1, h2.trans (hp.map _)⟩
theorem FMap.made (w : World) : FMap (w.alloc (.map #[] 0)) w.heap.size [] := ⟨[], World.ownsMap_made _ _ _ _, .refl _⟩
/-- As many entries as it reads as. -/
theorem owns_tight {w : World} {m n : Nat} {l : List (Lit × DataW Unit)} (h : w.ownsMap Try.prog 9 RF m n (.map l)) : w.ownsMap Try.prog 9 RF m l.length (.map l) := by
  obtain ⟨es, clock, hb, F, hs, hD⟩ := h
  refine ⟨es, clock, hb, F, ?_, hD⟩
  injection hD with hD
  rw [hD, length_sorted, List.length_map, Array.length_toList]
  exact Nat.le_refl _

theorem same_key (a b : Key) : (Lit.string a).sameKey (.string b) = (a == b) := by
  by_cases h : a = b
  · subst h; simp [Lit.sameKey]
  · simp [Lit.sameKey]
theorem find_pair {E : List (Key × Nat)} (hn : (E.map (·.1)).Nodup) {k : Key} {j : Nat} (h : (k, j) ∈ E) {l : List (Lit × DataW Unit)} (hp : l.Perm (E.map pairOf)) (z : DataW Unit) : (DataW.map l).atKey (.string k) z = .lit (.int .i64 j) := by
  have hm : (Lit.string k, DataW.lit (.int .i64 j)) ∈ l := hp.mem_iff.2 (List.mem_map.2 ⟨_, h, rfl⟩)
  have hall : ∀ p ∈ l, p.1.sameKey (.string k) = true → p = (Lit.string k, DataW.lit (.int .i64 j)) := by
    intro p hpm hk
    obtain ⟨⟨k', j'⟩, hq, rfl⟩ := List.mem_map.1 (hp.mem_iff.1 hpm)
    have e : k' = k := by rw [pairOf, same_key] at hk; simpa using hk
    subst e
    have : (k', j') = (k', j) := by
      clear hp hm hpm hk
      induction E with
      | nil => cases hq
      | cons a E ih =>
        simp only [List.map_cons, List.nodup_cons] at hn
        rcases List.mem_cons.1 hq with e1 | h1
        · rcases List.mem_cons.1 h with e2 | h2
          · rw [e1, e2]
          · exact absurd (List.mem_map.2 ⟨_, h2, by rw [← e1]⟩) hn.1
        · rcases List.mem_cons.1 h with e2 | h2
          · exact absurd (List.mem_map.2 ⟨_, h1, by rw [← e2]⟩) hn.1
          · exact ih hn.2 h1 h2
    injection this with _ e2
    rw [pairOf, e2]
  unfold DataW.atKey
  cases hf : l.find? (fun p => p.1.sameKey (.string k)) with
  | none =>
    have := List.find?_eq_none.1 hf _ hm
    simp [same_key] at this
  | some p =>
    have h1 := List.mem_of_find?_eq_some hf
    have h2 := List.find?_some hf
    simp only [hf, hall p h1 h2]
theorem find_none {E : List (Key × Nat)} {k : Key} (h : k ∉ E.map (·.1)) {l : List (Lit × DataW Unit)} (hp : l.Perm (E.map pairOf)) (z : DataW Unit) : (DataW.map l).atKey (.string k) z = z := by
  unfold DataW.atKey
  cases hf : l.find? (fun p => p.1.sameKey (.string k)) with
  | none => simp only [hf]
  | some p =>
    have h1 := List.mem_of_find?_eq_some hf
    have h2 := List.find?_some hf
    obtain ⟨⟨k', j'⟩, hq, rfl⟩ := List.mem_map.1 (hp.mem_iff.1 h1)
    have e : k' = k := by simp only [pairOf] at h2; rw [same_key] at h2; simpa using h2
    subst e
    exact absurd (List.mem_map.2 ⟨_, hq, rfl⟩) h

theorem zeroPtr (w : World) : (zeroValue 52).run Try.prog w = .ok (.pointer none) w := by kernel_rfl
theorem keyK (k : Key) (h : k.length ≤ maxLen) : keyOf Try.prog 9 (.string ⟨k.toArray⟩) = some (.string k) := by
  have := WideMaps.keyOf_string_mk (P := Try.prog) Try.underlying9 (s := ⟨k.toArray⟩) (by show k.toArray.size ≤ _; simpa using h)
  simpa using this

/-- The look-up of a name that is there. -/
theorem FMap.look {w : World} {m : Nat} {E : List (Key × Nat)} (h : FMap w m E) (hn : (E.map (·.1)).Nodup) {k : Key} {j : Nat} (hk : k.length ≤ maxLen) (hm : (k, j) ∈ E) :
    (Instr.lookup 48 (.map (some m)) (.string ⟨k.toArray⟩) false).run Try.prog w = .ok (.pointer (some ⟨j, 0, none⟩)) w := by
  obtain ⟨l, ho, hp⟩ := h
  obtain ⟨v, ps, hr, hv⟩ := ho.lookup lawK Try.underlying48 (zeroPtr w) (zd := .nil) (zp := []) rfl (keyK k hk)
  rw [find_pair hn hm hp] at hv
  rcases RF_inv hv with ⟨j', rfl, e⟩ | ⟨rfl, e⟩
  · injection e with e1 e2
    injection e1 with e1
    injection e1 with e1 e3
    rw [hr]
    have : j' = j := by omega
    rw [this]
  · injection e with e1 e2
    cases e1
/-- .. and of one that isn't. -/
theorem FMap.look_none {w : World} {m : Nat} {E : List (Key × Nat)} (h : FMap w m E) {k : Key} (hk : k.length ≤ maxLen) (hm : k ∉ E.map (·.1)) :
    (Instr.lookup 48 (.map (some m)) (.string ⟨k.toArray⟩) false).run Try.prog w = .ok (.pointer none) w := by
  obtain ⟨l, ho, hp⟩ := h
  obtain ⟨v, ps, hr, hv⟩ := ho.lookup lawK Try.underlying48 (zeroPtr w) (zd := .nil) (zp := []) rfl (keyK k hk)
  rw [find_none hm hp] at hv
  rcases RF_inv hv with ⟨j', rfl, e⟩ | ⟨rfl, e⟩
  · injection e with e1 e2
    cases e1
  · exact hr

def keyNe (k : Key) (p : Key × Nat) : Bool := !(p.1 == k)
theorem strike {E : List (Key × Nat)} (k : Key) {l : List (Lit × DataW Unit)} (hp : l.Perm (E.map pairOf)) : (l.filter fun p => !p.1.sameKey (.string k)).Perm ((E.filter (keyNe k)).map pairOf) := by
  refine (hp.filter _).trans ?_
  rw [List.filter_map]
  have : ((fun p : Lit × DataW Unit => !p.1.sameKey (.string k)) ∘ pairOf) = keyNe k := by
    funext p
    show (!(Lit.string p.1).sameKey (.string k)) = _
    rw [same_key]; rfl
  rw [this]
theorem perm_insert (x : Lit × DataW Unit) (l : List (Lit × DataW Unit)) : (DataW.insert x l).Perm (x :: l) := by
  induction l with
  | nil => exact .refl _
  | cons y r ih =>
    unfold DataW.insert
    split
    · exact .refl _
    · exact (ih.cons y).trans (.swap _ _ _)
theorem FMap.put {w' : World} {m n : Nat} {E : List (Key × Nat)} {l : List (Lit × DataW Unit)} (k : Key) (j : Nat) (hp : l.Perm (E.map pairOf)) (h : w'.ownsMap Try.prog 9 RF m n ((DataW.map l).put (.string k) (.lit (.int .i64 j)))) : FMap w' m ((k, j) :: E.filter (keyNe k)) := by
  have hp' : (DataW.insert (Lit.string k, DataW.lit (.int .i64 j)) (l.filter fun p => !p.1.sameKey (.string k))).Perm (((k, j) :: E.filter (keyNe k)).map pairOf) :=
    (perm_insert _ _).trans ((strike k hp).cons _)
  have h2 := owns_tight (h : w'.ownsMap Try.prog 9 RF m n (.map _))
  refine ⟨_, ?_, hp'⟩
  rw [hp'.length_eq, List.length_map] at h2
  exact h2
theorem FMap.cut {w' : World} {m n : Nat} {E : List (Key × Nat)} {l : List (Lit × DataW Unit)} (k : Key) (hp : l.Perm (E.map pairOf)) (h : w'.ownsMap Try.prog 9 RF m n ((DataW.map l).del (.string k))) : FMap w' m (E.filter (keyNe k)) := by
  have hp' := strike k hp
  have h2 := owns_tight (h : w'.ownsMap Try.prog 9 RF m n (.map _))
  refine ⟨_, ?_, hp'⟩
  rw [hp'.length_eq, List.length_map] at h2
  exact h2

/-- 'files[name] = f'. -/
theorem wpList_put {w : World} {ops : Array Oper} {rest : List Oper} {o : Oper} {a : Act} {Q : Exit → Act → World → Prop}
    (hg : o.guard = none) (m x v : Operand) (hop : o.op = Op.mapUpdate 48 m x v) (b j : Nat) (E : List (Key × Nat)) (k : Key)
    (hm : a.eval m = .map (some b)) (hown : FMap w b E) (hn : E.length < maxLen) (hx : a.eval x = .string ⟨k.toArray⟩) (hv : a.eval v = .pointer (some ⟨j, 0, none⟩)) (hk : k.length ≤ maxLen)
    (hK : ∀ w', FMap w' b ((k, j) :: E.filter (keyNe k)) → w.grownBy w' (some b) → wpList Try.prog ops Q rest (a.put o.dst undef) w') :
    wpList Try.prog ops Q (o :: rest) a w := by
  obtain ⟨l, ho, hp⟩ := hown
  exact wpList_mapUpdate_own w hg m x v 48 hop 9 52 lawK Try.underlying48 RF b _ _ hm ho hn _ _ _ hx hv (keyK k hk) _ _ (RF_some j) (fun w' h1 h2 => hK w' (FMap.put k j hp h1) h2)
/-- 'delete(files, name)'. -/
theorem wpList_del {w : World} {ops : Array Oper} {rest : List Oper} {o : Oper} {a : Act} {Q : Exit → Act → World → Prop}
    (hg : o.guard = none) (m x : Operand) (hop : o.op = Op.call { callee := Callee.builtin Builtin.delete, args := #[m, x], argTypes := #[48, 9] }) (b : Nat) (E : List (Key × Nat)) (k : Key)
    (hm : a.eval m = .map (some b)) (hown : FMap w b E) (hx : a.eval x = .string ⟨k.toArray⟩) (hk : k.length ≤ maxLen)
    (hK : ∀ w', FMap w' b (E.filter (keyNe k)) → w.grownBy w' (some b) → wpList Try.prog ops Q rest (a.put o.dst (.tuple #[])) w') :
    wpList Try.prog ops Q (o :: rest) a w := by
  obtain ⟨l, ho, hp⟩ := hown
  exact wpList_delete_own w hg m x 48 9 hop 52 lawK Try.underlying48 RF b _ _ hm ho _ _ hx (keyK k hk) (fun w' h1 h2 => hK w' (FMap.cut k hp h1) h2.grown)
/-- 'len(files)'. -/
theorem FMap.len {w : World} {m : Nat} {E : List (Key × Nat)} (h : FMap w m E) (ty : TypeId) : (Builtin.len_ #[48] ty #[.map (some m)]).run Try.prog w = .ok (.int .i64 E.length) w := by
  obtain ⟨l, ho, hp⟩ := h
  have := ho.len Try.underlying48 ty
  rw [this]
  show Result.ok (Value.int .i64 ((l.length : Nat) : Int)) w = _
  rw [hp.length_eq, List.length_map]
end Go.Proofs.Ytnenpcbofbcllaa
