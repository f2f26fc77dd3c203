import Derived.Test.YtjccfilbihkfpaaGreatDoorM21

/- WHAT REQUESTS BRING ARE RECORDS THAT READ AS THEY WERE MEANT. -/
namespace Go.Proofs.YtjccfilbihkfpaaGreatDoor
open Go.RowKit

theorem Fk.list_ext {a b : ByteArray} (e : a.toList = b.toList) : a = b := ByteArray.ext (Array.toList_inj.1 (by rw [← Lib.toList_data, ← Lib.toList_data]; exact e))
theorem Fk.lt_total {a b : ByteArray} (h : ¬ Fk.cmp a b < 0) (k : a ≠ b) : Fk.lt b a = true := by
  have h3 : Fk.lt a b = false := by
    cases e : Fk.lt a b with
    | false => rfl
    | true => exact absurd (Fk.cmp_lt.2 e) h
  exact Sh.less_total _ _ h3 fun e => k (Fk.list_ext e)
theorem Fk.good_of {L : List ByteArray} (hl : L.length ≤ 4) (hn : ∀ m ∈ L, Sh.nameB m = true) (hp : L.Pairwise fun a b => Fk.lt a b = true) : Sh.goodB L = true := by
  have hat : ∀ n, n ≤ L.length → Sh.goodTo L n = true := by
    intro n
    induction n with
    | zero => intro _; rfl
    | succ n ih =>
      intro h
      rw [Sh.goodTo_succ, ih (by omega), Bool.true_and]
      have hg : L.getD n default = L[n]'(by omega) := by rw [List.getD_eq_getElem?_getD, List.getElem?_eq_getElem (by omega)]; rfl
      unfold Sh.atB
      rw [hg, hn _ (List.getElem_mem _), Bool.true_and]
      by_cases h0 : 0 < n
      · have hg1 : L.getD (n - 1) default = L[n - 1]'(by omega) := by rw [List.getD_eq_getElem?_getD, List.getElem?_eq_getElem (by omega)]; rfl
        have h1 := List.pairwise_iff_getElem.1 hp (n - 1) n (by omega) (by omega) (by omega)
        have h2 : Sh.leB (L[n]'(by omega)) (L[n - 1]'(by omega)) = false := by
          cases e : Sh.leB (L[n]'(by omega)) (L[n - 1]'(by omega)) with
          | false => rfl
          | true =>
            unfold Sh.leB at e
            rw [Bool.or_eq_true] at e
            rcases e with e | e
            · exact absurd (Fk.lt_trans h1 e) (by rw [Fk.lt_irr]; exact Bool.false_ne_true)
            · exact absurd (Fk.list_ext (by simpa using e)).symm (Fk.lt_ne h1)
        rw [hg1, h2, Bool.and_false]
        rfl
      · have : n = 0 := by omega
        subst this
        rfl
  unfold Sh.goodB
  rw [hat _ (Nat.le_refl _), Bool.and_true]
  exact decide_eq_true hl
theorem Fk.good_ins {L : List ByteArray} {M : ByteArray} (h : Sh.goodB L = true) (hM : Sh.nameB M = true) (hl : ¬ 4 ≤ L.length) (hno : ¬ (Fk.hit (Fk.cS M) L).isSome = true) : Sh.goodB (Fk.ins L (Fk.low (Fk.cS M) L) M) = true := by
  have hnone : Fk.hit (Fk.cS M) L = none := by
    cases hf : Fk.hit (Fk.cS M) L with
    | none => rfl
    | some y => rw [hf] at hno; exact absurd rfl hno
  refine Fk.good_of (by rw [Fk.ins_len (Fk.low_le _)]; omega) (fun m hm => ?_) (Fk.ins_pair (Fk.good_rise h) (fun y hy => ?_) fun y hy => ?_)
  · rcases Fk.ins_mem.1 hm with rfl | hm
    · exact hM
    · exact good_mem h m hm
  · obtain ⟨t, ht, hy⟩ := Fk.mem_take_at hy
    exact Fk.cmp_lt.1 (Fk.low_at L t y ht hy)
  · obtain ⟨t, ht, hy⟩ := Fk.mem_drop_at hy
    have h1 := Fk.low_ge L (Fk.mem_mono h M) t y ht hy
    have h2 := Fk.hit_none (Fk.mem_mono h M) hnone y (List.mem_of_getElem? hy)
    exact Fk.lt_total (by unfold Fk.cS at h1; omega) fun e => h2 (Fk.cmp_eq.2 e)
theorem Fk.good_without {L : List ByteArray} (h : Sh.goodB L = true) (i : Nat) : Sh.goodB (L.take i ++ L.drop (i + 1)) = true := by
  have hs : (L.take i ++ L.drop (i + 1)).Sublist L := by
    have h1 : (L.take i ++ L.drop (i + 1)).Sublist (L.take i ++ L.drop i) := by
      refine List.Sublist.append (List.Sublist.refl _) ?_
      rw [← List.drop_drop]
      exact List.drop_sublist _ _
    rwa [List.take_append_drop] at h1
  exact Fk.good_of (Nat.le_trans hs.length_le (Sh.good_len h)) (fun m hm => good_mem h m (hs.subset hm)) ((Fk.good_rise h).sublist hs)
/-- What a request brings is a record of the groups' own kind. -/
theorem Gk.word {k : Int} {L : List Fk.G} (h : Gk k L) (hk : k ≤ 1000) (parts : Int) (q : Fk.Q) :
    Fk.OkW (Fk.decide L parts q) ∧ (match Fk.decide L parts q with | .turn _ g _ _ => Pl.I64 g | .point _ _ _ g => Pl.I64 g | .no c => Pl.I64 c | .none => True) := by
  have hg := h.gd (by omega) q.group
  have hc := Fk.clamp_ok parts
  have h0 := hg.g0
  have h1 : (Fk.fndD L q.group).gen ≤ k ∨ (Fk.fndD L q.group).gen = 0 := by
    unfold Fk.fndD
    cases hf : Fk.fnd L q.group with
    | none => exact .inr rfl
    | some g => exact .inl (h.gens g (Fk.hit_mem hf))
  have hi : Pl.I64 ((Fk.fndD L q.group).gen + 1) := ⟨by omega, by omega⟩
  have hno : ∀ c : Int, 0 ≤ c → c ≤ 1000 → Fk.OkW (.no c) ∧ Pl.I64 c := fun c h0 h1 => ⟨trivial, by omega, by omega⟩
  unfold Fk.decide
  split
  · unfold Fk.decJ
    split
    case isFalse => exact hno 1 (by omega) (by omega)
    case isTrue hn =>
      split
      case isTrue => exact hno 0 (by omega) (by omega)
      case isFalse hh =>
        split
        case isTrue => exact hno 32 (by omega) (by omega)
        case isFalse hm => exact ⟨⟨hn.1, hc.1, hc.2, Fk.good_ins hg.mem hn.2 (fun h => hm (.inl h)) hh⟩, hi⟩
  · split
    · unfold Fk.decL
      split
      case isFalse => exact hno 1 (by omega) (by omega)
      case isTrue hn =>
        split
        case isTrue => exact hno 31 (by omega) (by omega)
        case isFalse => exact ⟨⟨hn.1, hc.1, hc.2, Fk.good_without hg.mem _⟩, hi⟩
    · split
      · unfold Fk.decC
        split
        case isFalse => exact hno 30 (by omega) (by omega)
        case isTrue ho =>
          split
          case isFalse => exact hno 1 (by omega) (by omega)
          case isTrue hof =>
            have hp := h.own ho.2
            refine ⟨⟨?_, hp.2.1, hp.2.2, hof.1, hof.2⟩, by rw [ho.1]; exact ⟨by omega, by omega⟩⟩
            cases hf : Fk.fnd L q.group with
            | none =>
              have hz : Fk.fndD L q.group = Fk.zeroG := by unfold Fk.fndD; rw [hf]; rfl
              have h2 := ho.2
              rw [hz] at h2
              exact absurd h2 (by
                unfold Fk.ownD Sh.ownerOf
                intro h3
                split at h3
                · have := Sh.msOf_mem (List.mem_of_getElem? h3)
                  simp [Fk.zeroG] at this
                · cases h3)
            | some g =>
              rw [← (Fk.fnd_some hf).2]
              exact (h.ok.all g (Fk.hit_mem hf)).name
      · exact hno 1 (by omega) (by omega)
/-- What a request brings, read again. -/
theorem Gk.back {k : Int} {L : List Fk.G} (h : Gk k L) (hk : k ≤ 1000) (parts : Int) (q : Fk.Q) : Fk.rd ⟨(Fk.enc (Fk.decide L parts q)).1.toArray⟩ ⟨(Fk.enc (Fk.decide L parts q)).2.toArray⟩ false = Fk.decide L parts q := by
  have hw := h.word hk parts q
  revert hw
  generalize Fk.decide L parts q = x
  rintro ⟨h1, h2⟩
  exact Fk.rd_enc h1 (by cases x <;> exact h2)
/-- The groups behind a request's record. -/
def Fk.next (L : List Fk.G) (parts : Int) (q : Fk.Q) : List Fk.G := Fk.step L (Fk.decide L parts q)
theorem Gk.next {k : Int} {L : List Fk.G} (h : Gk k L) (h0 : 0 ≤ k) (hk : k ≤ 1000) (parts : Int) (q : Fk.Q) : Gk (k + 1) (Fk.next L parts q) := h.step (h.word hk parts q).1 h0
end Go.Proofs.YtjccfilbihkfpaaGreatDoor

/- WHAT A RECORD DOES TO EACH GROUP. -/
namespace Go.Proofs.YtjccfilbihkfpaaGreatDoor
open Go.RowKit

theorem Fk.fnd_iff {L : List Fk.G} (hk : Fk.Ok L) {n : ByteArray} {g : Fk.G} : Fk.fnd L n = some g ↔ g ∈ L ∧ g.name = n := by
  constructor
  · intro h
    obtain ⟨h1, h2⟩ := Fk.fnd_some h
    exact ⟨List.mem_of_getElem? h1, h2⟩
  · rintro ⟨h1, rfl⟩
    exact Fk.fnd_of_mem hk h1
theorem Fk.fnd_ext {A B : List Fk.G} (ha : Fk.Ok A) (hb : Fk.Ok B) {n : ByteArray} (h : ∀ g : Fk.G, g.name = n → (g ∈ A ↔ g ∈ B)) : Fk.fnd A n = Fk.fnd B n := by
  apply Option.ext
  intro g
  rw [Fk.fnd_iff ha, Fk.fnd_iff hb]
  constructor
  · rintro ⟨h1, h2⟩
    exact ⟨(h g h2).1 h1, h2⟩
  · rintro ⟨h1, h2⟩
    exact ⟨(h g h2).2 h1, h2⟩
theorem Fk.fnd_set_other {L : List Fk.G} (hk : Fk.Ok L) {i : Nat} {o z : Fk.G} (hk' : Fk.Ok (L.set i z)) (hi : L[i]? = some o) (hz : z.name = o.name) {n : ByteArray} (hn : n ≠ z.name) : Fk.fnd (L.set i z) n = Fk.fnd L n := by
  refine Fk.fnd_ext hk' hk fun g hg => ⟨fun h => ?_, fun h => ?_⟩
  · rcases List.mem_or_eq_of_mem_set h with h | h
    · exact h
    · exact absurd (hg.symm.trans (by rw [h])) hn
  · obtain ⟨j, hj, rfl⟩ := List.getElem_of_mem h
    have hij : i ≠ j := fun e => by
      subst e
      rw [List.getElem?_eq_getElem hj] at hi
      have := Option.some.inj hi
      rw [this] at hg
      exact hn (hg.symm.trans hz.symm)
    have : (L.set i z)[j]? = some L[j] := by rw [List.getElem?_set_ne hij, List.getElem?_eq_getElem hj]
    exact List.mem_of_getElem? this
theorem Fk.fnd_set_same {L : List Fk.G} {i : Nat} {o z : Fk.G} (hk' : Fk.Ok (L.set i z)) (hi : L[i]? = some o) : Fk.fnd (L.set i z) z.name = some z := by
  refine Fk.fnd_of_mem hk' ?_
  have : (L.set i z)[i]? = some z := List.getElem?_set_self (List.getElem?_eq_some_iff.1 hi).1
  exact List.mem_of_getElem? this
theorem Fk.fnd_ins_other {L : List Fk.G} (hk : Fk.Ok L) {i : Nat} {z : Fk.G} (hk' : Fk.Ok (Fk.ins L i z)) {n : ByteArray} (hn : n ≠ z.name) : Fk.fnd (Fk.ins L i z) n = Fk.fnd L n := by
  refine Fk.fnd_ext hk' hk fun g hg => ?_
  rw [Fk.ins_mem]
  exact ⟨fun h => h.resolve_left fun e => hn (hg.symm.trans (by rw [e])), .inr⟩
namespace Fk
/-- The group that a record names. -/
def wName : Wd → Option ByteArray
  | .turn n _ _ _ => some n
  | .point n _ _ _ => some n
  | _ => none
/-- What a record makes of the group that it names. -/
def stepF (f : Option G) : Wd → Option G
  | .turn n g p ms => match f with
    | some o => if g = o.gen + 1 then some ⟨n, g, p, ms, o.pts⟩ else some o
    | none => if g = 1 then some ⟨n, g, p, ms, []⟩ else none
  | .point _ p o g => match f with
    | some x => if x.gen = g then some { x with pts := putPt x.pts p o } else some x
    | none => none
  | _ => f
theorem step_other {L : List G} {x : Wd} (hk : Ok L) (hx : OkW x) {n : ByteArray} (hn : wName x ≠ some n) : fnd (step L x) n = fnd L n := by
  have hk' := step_ok hk hx
  cases x with
  | none => rfl
  | no c => rfl
  | turn m g p ms =>
    have hnm : n ≠ m := fun e => hn (by rw [e]; rfl)
    simp only [step] at hk' ⊢
    cases hf : fnd L m with
    | none =>
      simp only [hf] at hk' ⊢
      split
      case isFalse => rfl
      case isTrue hc =>
        rw [if_pos hc] at hk'
        exact fnd_ins_other hk hk' hnm
    | some o =>
      simp only [hf] at hk' ⊢
      obtain ⟨h1, h2⟩ := fnd_some hf
      split
      case isFalse => rfl
      case isTrue hc =>
        rw [if_pos hc] at hk'
        exact fnd_set_other hk hk' h1 h2.symm hnm
  | point m p o g =>
    have hnm : n ≠ m := fun e => hn (by rw [e]; rfl)
    simp only [step] at hk' ⊢
    cases hf : fnd L m with
    | none => rfl
    | some y =>
      simp only [hf] at hk' ⊢
      obtain ⟨h1, h2⟩ := fnd_some hf
      split
      case isFalse => rfl
      case isTrue hc =>
        rw [if_pos hc] at hk'
        exact fnd_set_other hk hk' h1 rfl (by rw [← h2] at hnm; exact hnm)
theorem step_same {L : List G} {x : Wd} (hk : Ok L) (hx : OkW x) {n : ByteArray} (hn : wName x = some n) (hl : fnd L n = none → L.length < 4) : fnd (step L x) n = stepF (fnd L n) x := by
  have hk' := step_ok hk hx
  cases x with
  | none => cases hn
  | no c => cases hn
  | turn m g p ms =>
    obtain rfl : m = n := Option.some.inj hn
    simp only [step, stepF] at hk' ⊢
    cases hf : fnd L m with
    | none =>
      simp only [hf] at hk' ⊢
      by_cases hc : g = 1
      · rw [if_pos ⟨hc, hl hf⟩] at hk' ⊢
        rw [if_pos hc]
        exact fnd_of_mem hk' (ins_mem.2 (.inl rfl))
      · rw [if_neg (fun h => hc h.1), if_neg hc]
        exact hf
    | some o =>
      simp only [hf] at hk' ⊢
      obtain ⟨h1, h2⟩ := fnd_some hf
      split
      case isFalse => exact hf
      case isTrue hc =>
        rw [if_pos hc] at hk'
        exact fnd_set_same hk' h1
  | point m p o g =>
    obtain rfl : m = n := Option.some.inj hn
    simp only [step, stepF] at hk' ⊢
    cases hf : fnd L m with
    | none => exact hf
    | some y =>
      simp only [hf] at hk' ⊢
      obtain ⟨h1, h2⟩ := fnd_some hf
      split
      case isFalse => exact hf
      case isTrue hc =>
        rw [if_pos hc] at hk'
        exact (congrArg (fnd _) h2.symm).trans (fnd_set_same hk' h1)
end Fk
theorem Fk.decide_name (L : List Fk.G) (parts : Int) (q : Fk.Q) : Fk.wName (Fk.decide L parts q) = some q.group ∨ Fk.wName (Fk.decide L parts q) = none := by
  unfold Fk.decide
  split
  · unfold Fk.decJ
    split
    · split
      · exact .inr rfl
      · split
        · exact .inr rfl
        · exact .inl rfl
    · exact .inr rfl
  · split
    · unfold Fk.decL
      split
      · split
        · exact .inr rfl
        · exact .inl rfl
      · exact .inr rfl
    · split
      · unfold Fk.decC
        split
        · split
          · exact .inl rfl
          · exact .inr rfl
        · exact .inr rfl
      · exact .inr rfl
theorem Gk.next_other {k : Int} {L : List Fk.G} (h : Gk k L) (hk : k ≤ 1000) (parts : Int) (q : Fk.Q) {n : ByteArray} (hn : n ≠ q.group) : Fk.fnd (Fk.next L parts q) n = Fk.fnd L n := by
  refine Fk.step_other h.ok (h.word hk parts q).1 ?_
  rcases Fk.decide_name L parts q with e | e
  · rw [e]; intro e2; exact hn (Option.some.inj e2).symm
  · rw [e]; exact fun e => by cases e
theorem Gk.next_same {k : Int} {L : List Fk.G} (h : Gk k L) (hk : k ≤ 1000) (parts : Int) (q : Fk.Q) (hl : Fk.fnd L q.group = none → L.length < 4) : Fk.fnd (Fk.next L parts q) q.group = Fk.stepF (Fk.fnd L q.group) (Fk.decide L parts q) := by
  rcases Fk.decide_name L parts q with e | e
  · exact Fk.step_same h.ok (h.word hk parts q).1 e hl
  · have h1 := Fk.step_other (n := q.group) h.ok (h.word hk parts q).1 (by rw [e]; exact fun e => by cases e)
    unfold Fk.next
    rw [h1]
    cases hd : Fk.decide L parts q with
    | none => rfl
    | no c => rfl
    | turn n g p ms => rw [hd] at e; cases e
    | point n p o g => rw [hd] at e; cases e
/-- What a request brings hangs on its own group, where there is room. -/
theorem Fk.decide_own {A B : List Fk.G} (parts : Int) (q : Fk.Q) (h : Fk.fnd A q.group = Fk.fnd B q.group) (ha : A.length < 4) (hb : B.length < 4) : Fk.decide A parts q = Fk.decide B parts q := by
  have hd : Fk.fndD A q.group = Fk.fndD B q.group := by unfold Fk.fndD; rw [h]
  have h1 : (4 ≤ A.length) = False := by simp; omega
  have h2 : (4 ≤ B.length) = False := by simp; omega
  unfold Fk.decide Fk.decJ Fk.decL Fk.decC
  rw [hd, h]
  simp only [h1, h2]
theorem Fk.look_own {A B : List Fk.G} (q : Fk.Q) (h : Fk.fnd A q.group = Fk.fnd B q.group) : Fk.look A q = Fk.look B q := by
  have hd : Fk.fndD A q.group = Fk.fndD B q.group := by unfold Fk.fndD; rw [h]
  unfold Fk.look
  rw [hd]
/-- Groups of two names are two at most. -/
theorem Fk.two {L : List Fk.G} (hk : Fk.Ok L) (a b : ByteArray) (h : ∀ g ∈ L, g.name = a ∨ g.name = b) : L.length ≤ 2 := by
  rcases Nat.lt_or_ge 2 L.length with hl | hl
  · have hp := List.pairwise_iff_getElem.1 hk.rise
    have h01 := Fk.lt_ne (hp 0 1 (by omega) (by omega) (by omega))
    have h02 := Fk.lt_ne (hp 0 2 (by omega) (by omega) (by omega))
    have h12 := Fk.lt_ne (hp 1 2 (by omega) (by omega) (by omega))
    rcases h _ (List.getElem_mem (by omega : 0 < L.length)) with e0 | e0 <;> rcases h _ (List.getElem_mem (by omega : 1 < L.length)) with e1 | e1 <;> rcases h _ (List.getElem_mem (by omega : 2 < L.length)) with e2 | e2
    all_goals first
      | exact absurd (e0.trans e1.symm) h01
      | exact absurd (e0.trans e2.symm) h02
      | exact absurd (e1.trans e2.symm) h12
  · exact hl
/-- No names but those that were, and the request's own. -/
theorem Gk.next_names {k : Int} {L : List Fk.G} (h : Gk k L) (h0 : 0 ≤ k) (hk : k ≤ 1000) (parts : Int) (q : Fk.Q) {g : Fk.G} (hg : g ∈ Fk.next L parts q) : g.name = q.group ∨ ∃ o ∈ L, o.name = g.name := by
  by_cases e : g.name = q.group
  · exact .inl e
  · have h1 := (Fk.fnd_iff (h.next h0 hk parts q).ok).2 ⟨hg, rfl⟩
    rw [h.next_other hk parts q e] at h1
    exact .inr ⟨g, ((Fk.fnd_iff h.ok).1 h1).1, rfl⟩
end Go.Proofs.YtjccfilbihkfpaaGreatDoor

/- WHAT THE LAWS' awake MEETS. -/
namespace Go.Proofs.YtjccfilbihkfpaaGreatDoor
open Go.RowKit

def sg : ByteArray := ⟨#[103]⟩
def sa : ByteArray := ⟨#[97]⟩
theorem sa_list : sa.toList = [97] := by rw [Lib.toList_data]; rfl
theorem ga_name : Sh.nameB sg = true ∧ Sh.nameB sa = true := ⟨by decide, by decide⟩
def awW : Fk.Wd := .turn sg 1 4 [sa]
def awG : Fk.G := ⟨sg, 1, 4, [sa], []⟩
theorem aw_decide : Fk.decide [] 4 ⟨3, 4, 3, 0, 0, 0, 0, 0, sg, sa⟩ = awW := by
  unfold Fk.decide Fk.decJ
  rw [if_pos rfl, if_pos ga_name]
  rfl
theorem aw_good : Sh.goodB [sa] = true := Fk.good_of (by decide) (fun m hm => by rw [List.mem_singleton.1 hm]; exact ga_name.2) (List.pairwise_singleton _ _)
theorem aw_ok : Fk.OkW awW := ⟨ga_name.1, by decide, by decide, aw_good⟩
theorem aw_rd : Fk.rd ⟨(Fk.enc awW).1.toArray⟩ ⟨(Fk.enc awW).2.toArray⟩ false = awW := Fk.rd_enc aw_ok ⟨by decide, by decide⟩
theorem aw_key : (⟨(Fk.enc awW).1.toArray⟩ : ByteArray) = ⟨#[116, 103]⟩ := rfl
theorem aw_val : (⟨(Fk.enc awW).2.toArray⟩ : ByteArray) = ⟨#[108, 105, 49, 101, 105, 52, 101, 108, 49, 58, 97, 101, 101]⟩ := by
  kernel_rfl
theorem aw_step : Fk.step [] awW = [awG] := rfl
theorem aw_fnd : Fk.fnd [awG] sg = some awG := Fk.fnd_of_mem (Fk.step_ok Fk.ok_nil aw_ok) (List.mem_singleton.2 rfl)
theorem aw_fndD : Fk.fndD [awG] sg = awG := by unfold Fk.fndD; rw [aw_fnd]; rfl
theorem aw_step2 : Fk.step [awG] awW = [awG] := by
  simp only [Fk.step, awW, aw_fnd]
  rw [if_neg (by decide)]
theorem aw_ms : Sh.msOf 4 [sa] = [sa, sa, sa] := by
  unfold Sh.msOf
  rw [if_pos ⟨aw_good, by decide, by decide⟩]
  rfl
theorem aw_own : Fk.own awG sa = [1, 2, 3] := by
  have h1 : Sh.eqB sa sa = true := Sh.eqB_iff.2 rfl
  unfold Fk.own awG
  rw [aw_ms]
  simp [Sh.pOf, h1]
theorem aw_answer : Fk.answer [awG] awW ⟨3, 4, 3, 0, 0, 0, 0, 0, sg, sa⟩ = ⟨0, 0, 1, [1, 2, 3]⟩ := by
  simp only [Fk.answer, awW, aw_fndD, aw_own]
  rfl
theorem aw_hit : (Fk.hit (Fk.cS sa) [sa]).isSome = true := by
  have : Fk.cmp sa sa = 0 := Fk.cmp_eq.2 rfl
  simp [Fk.hit, Fk.low, Fk.cS, this]
theorem aw_look : Fk.look [awG] ⟨3, 4, 5, 0, 0, 0, 0, 1, sg, sa⟩ = ⟨0, 0, 1, [1, 2, 3]⟩ := by
  have hb : Fk.beat awG ⟨3, 4, 5, 0, 0, 0, 0, 1, sg, sa⟩ = 0 := by
    unfold Fk.beat
    rw [if_neg (by rw [show (Fk.hit (Fk.cS sa) awG.mem).isSome = true from aw_hit]; decide)]
    exact if_pos rfl
  unfold Fk.look
  rw [if_pos rfl]
  simp only [aw_fndD, hb, aw_own]
  rfl
theorem aw_told (o1 o2 : Int) : Fk.told [(o1, ⟨(Fk.enc awW).1.toArray⟩, ⟨(Fk.enc awW).2.toArray⟩, false), (o2, ⟨(Fk.enc awW).1.toArray⟩, ⟨(Fk.enc awW).2.toArray⟩, false)] = [awG] := by
  unfold Fk.told
  simp only [List.foldl_cons, List.foldl_nil, aw_rd, aw_step, aw_step2]
end Go.Proofs.YtjccfilbihkfpaaGreatDoor

/- THE CONTRACT of the laws' awake. -/
namespace Go.Proofs.YtjccfilbihkfpaaGreatDoor
open Go.RowKit

abbrev kTg : ByteArray := ⟨#[116, 103]⟩
abbrev vTg : ByteArray := ⟨#[108, 105, 49, 101, 105, 52, 101, 108, 49, 58, 97, 101, 101]⟩
theorem aw_rd' : Fk.rd kTg vTg false = awW := by
  have := aw_rd
  rw [aw_key, aw_val] at this
  exact this
theorem aw_gk : Gk 1 [awG] := by
  have := Gk.nil.step aw_ok (by omega)
  exact this
theorem aw_told' : Fk.told [(0, kTg, vTg, false), (0, kTg, vTg, false)] = [awG] := by
  have := aw_told 0 0
  rw [aw_key, aw_val] at this
  exact this
set_option maxHeartbeats 4000000 in
set_option maxRecDepth 100000 in
theorem awake_any (w : World) (lb : Lb w) : Calls Tryz.prog 8 #[] w fun e w' => e = .returned (.bool true) ∧ Below w.heap.size w w' := by
  have HLB : Hid (∀ wx, Below w.heap.size w wx → Lb wx) := Lib.hid fun wx hb => lb.below lb.size hb
  have HD : Hid (∀ wx, Below w.heap.size w wx → Calls Tryz.prog 14 #[.slice none 0 0, .int .i64 4, qval ⟨3, 4, 3, 0, 0, 0, 0, 0, ⟨#[103]⟩, ⟨#[97]⟩⟩ (.slice none 0 0)] wx fun e w' => ∃ K V : ByteArray, e = .returned (.agg #[.int .i64 0, .string K, .string V, .bool false]) ∧ (K = kTg ∧ V = vTg) ∧ Below wx.heap.size wx w') := Lib.hid fun wx hb => by
    have h := decide_any (A := fun _ => True) (.slice none 0 0) [] 4 ⟨3, 4, 3, 0, 0, 0, 0, 0, sg, sa⟩ (.slice none 0 0) 0 wx (HLB.out wx hb) (GsR.nil _ _) Gk.nil (by decide)
    rw [aw_decide] at h
    refine h.mono ?_
    rintro e w' ⟨K, V, rfl, ⟨rfl, rfl⟩, hb⟩
    exact ⟨_, _, rfl, ⟨aw_key, aw_val⟩, hb⟩
  have HA : Hid (∀ wx, Below w.heap.size w wx → Calls Tryz.prog 10 #[.slice none 0 0, .agg #[.int .i64 0, .string kTg, .string vTg, .bool false]] wx fun e w' => TrnOut wx.heap.size wx [awG] e w') := Lib.hid fun wx hb => by
    have h := apply_any (A := fun _ => True) (.slice none 0 0) [] 0 kTg vTg false wx (HLB.out wx hb) (GsR.nil _ _) (Gk.nil.sm (by decide)) (by decide) (by decide)
    rw [aw_rd', aw_step] at h
    exact h
  have HN : Hid (∀ (B : Nat → Prop) v wx, Below w.heap.size w wx → GsR B wx v [awG] → Calls Tryz.prog 15 #[v, .agg #[.int .i64 0, .string kTg, .string vTg, .bool false], qval ⟨3, 4, 3, 0, 0, 0, 0, 0, ⟨#[103]⟩, ⟨#[97]⟩⟩ (.slice none 0 0)] wx fun e w' => RspOut wx 3 4 ⟨0, 0, 1, [1, 2, 3]⟩ e w') := Lib.hid fun B v wx hb hv => by
    have h := answer_any v [awG] 0 kTg vTg false ⟨3, 4, 3, 0, 0, 0, 0, 0, sg, sa⟩ (.slice none 0 0) 1 wx (HLB.out wx hb) hv aw_gk (by decide) (by decide) (by decide)
    rw [aw_rd', aw_answer] at h
    exact h
  have HK : Hid (∀ (B : Nat → Prop) v wx, Below w.heap.size w wx → GsR B wx v [awG] → Calls Tryz.prog 20 #[v, qval ⟨3, 4, 5, 0, 0, 0, 0, 1, ⟨#[103]⟩, ⟨#[97]⟩⟩ (.slice none 0 0)] wx fun e w' => RspOut wx 3 4 ⟨0, 0, 1, [1, 2, 3]⟩ e w') := Lib.hid fun B v wx hb hv => by
    have h := look_any v [awG] ⟨3, 4, 5, 0, 0, 0, 0, 1, sg, sa⟩ (.slice none 0 0) 1 wx hv aw_gk (by decide)
    rw [aw_look] at h
    exact h
  have HF : Hid (∀ wx, Below w.heap.size w wx → Calls Tryz.prog 13 #[.slice (some ⟨wx.heap.size, 0, none⟩) 2 2] (wx.alloc (.cells #[.int .i64 0, .string kTg, .string vTg, .bool false, .int .i64 0, .string kTg, .string vTg, .bool false] 28)) fun e w' => TrnOut (wx.alloc (.cells #[.int .i64 0, .string kTg, .string vTg, .bool false, .int .i64 0, .string kTg, .string vTg, .bool false] 28)).heap.size (wx.alloc (.cells #[.int .i64 0, .string kTg, .string vTg, .bool false, .int .i64 0, .string kTg, .string vTg, .bool false] 28)) [awG] e w') := Lib.hid fun wx hb => by
    have hr : Rcs (fun b => b = wx.heap.size) (wx.alloc (.cells #[.int .i64 0, .string kTg, .string vTg, .bool false, .int .i64 0, .string kTg, .string vTg, .bool false] 28)) (.slice (some ⟨wx.heap.size, 0, none⟩) 2 2) [(0, kTg, vTg, false), (0, kTg, vTg, false)] := Rds.lit (n := 2) (size := 4) 28 rfl
    have h := fold_any _ _ _ (HLB.out _ (hb.alloc hb.size _)) hr (by decide) (fun x hx => by
      simp only [List.mem_cons, List.not_mem_nil, or_false] at hx
      rcases hx with rfl | rfl <;> exact ⟨by decide, by decide⟩)
    rw [aw_told'] at h
    exact h
  clear lb
  go_enter Tryz.func8, Tryz.ntmps8
  go_upto_region 2 with fail
  obtain ⟨W1, hW1⟩ : ∃ W, w.alloc (.cells #[.int .i64 3, .int .i64 4, .int .i64 3, .int .i64 0, .int .i64 0, .int .i64 0, .int .i64 0, .int .i64 0, .string ⟨#[103]⟩, .string ⟨#[97]⟩, .slice none 0 0] 34) = W := ⟨_, rfl⟩
  have hb1 : Below w.heap.size w W1 := by rw [← hW1]; exact (Below.refl _ _).alloc (Nat.le_refl _) _
  have k1 : Blk W1 w.heap.size #[.int .i64 3, .int .i64 4, .int .i64 3, .int .i64 0, .int .i64 0, .int .i64 0, .int .i64 0, .int .i64 0, .string ⟨#[103]⟩, .string ⟨#[97]⟩, .slice none 0 0] 34 := by rw [← hW1]; exact Blk.new _ _ _
  rw [hW1]
  clear hW1
  have HB1 := Lib.hid hb1
  have HQ1 := Lib.hid k1
  obtain ⟨d0, d1, d2, d3, d4, d5, d6, d7, d8, d9, d10⟩ := k1.cells11
  clear hb1 k1
  go_wp2_with fail
  refine (HD.out _ HB1.out).mono ?_
  rintro e w2 ⟨K, V, rfl, ⟨rfl, rfl⟩, hb2⟩
  have HB2 := Lib.hid (HB1.out.trans (hb2.mono HB1.out.size))
  have HQ2 := Lib.hid (HQ1.out.below hb2)
  clear hb2
  go_upto_region 3 with fail
  obtain ⟨W3, hW3⟩ : ∃ W, w2.alloc (.cells #[.int .i64 0, .string kTg, .string vTg, .bool false] 28) = W := ⟨_, rfl⟩
  have hb3 : Below w2.heap.size w2 W3 := by rw [← hW3]; exact (Below.refl _ _).alloc (Nat.le_refl _) _
  have k3 : Blk W3 w2.heap.size #[.int .i64 0, .string kTg, .string vTg, .bool false] 28 := by rw [← hW3]; exact Blk.new _ _ _
  rw [hW3]
  clear hW3
  have HB3 := Lib.hid (HB2.out.trans (hb3.mono HB2.out.size))
  have HQ3 := Lib.hid (HQ2.out.below hb3)
  have HX3 := Lib.hid k3
  obtain ⟨x0, x1, x2, x3⟩ := k3.cells4
  clear hb3 k3
  go_wp2_with fail
  refine (HA.out _ HB3.out).mono ?_
  rintro e w4 ⟨hb4, lab, v4, rfl, hO⟩
  obtain ⟨a4, c4, rfl⟩ := hO.form
  have HB4 := Lib.hid (HB3.out.trans (hb4.mono HB3.out.size))
  have HQ4 := Lib.hid (HQ3.out.below hb4)
  have HX4 := Lib.hid (HX3.out.below hb4)
  have hz3 : w.heap.size < W3.heap.size := by have := HB2.out.size; have := HX3.out.lt; omega
  have HO4 := Lib.hid (And.intro hz3 hO)
  have HG4 := Lib.hid hO.rd
  obtain ⟨x0, x1, x2, x3⟩ := HX4.out.cells4
  obtain ⟨d0, d1, d2, d3, d4, d5, d6, d7, d8, d9, d10⟩ := HQ4.out.cells11
  clear hb4 hO hz3
  go_wp2_with fail
  refine (HN.out _ _ _ HB4.out HG4.out).mono ?_
  rintro e w5 ⟨p5, rfl, hp5, hb5⟩
  obtain ⟨a5, c5, rfl⟩ := hp5.form
  have HB5 := Lib.hid (HB4.out.trans (hb5.mono HB4.out.size))
  have HQ5 := Lib.hid (HQ4.out.below hb5)
  have HX5 := Lib.hid (HX4.out.below hb5)
  have HO5 := Lib.hid (And.intro HO4.out.1 (HO4.out.2.below hb5))
  clear hb5 hp5
  go_upto_region 5 with fail
  obtain ⟨W6, hW6⟩ : ∃ W, w5.alloc (.cells (rsp 3 4 0 0 1 (.slice a5 3 c5)) 39) = W := ⟨_, rfl⟩
  have hb6 : Below w5.heap.size w5 W6 := by rw [← hW6]; exact (Below.refl _ _).alloc (Nat.le_refl _) _
  have k6 : Blk W6 w5.heap.size (rsp 3 4 0 0 1 (.slice a5 3 c5)) 39 := by rw [← hW6]; exact Blk.new _ _ _
  rw [hW6]
  clear hW6
  have HB6 := Lib.hid (HB5.out.trans (hb6.mono HB5.out.size))
  have HQ6 := Lib.hid (HQ5.out.below hb6)
  have HX6 := Lib.hid (HX5.out.below hb6)
  have HO6 := Lib.hid (And.intro HO5.out.1 (HO5.out.2.below hb6))
  have HR6 := Lib.hid k6
  have HN2 : Hid (w2.heap.size ≠ w.heap.size) := Lib.hid (by have := HQ2.out.lt; omega)
  have HN5 : Hid (w5.heap.size ≠ w.heap.size) := Lib.hid (by have := HQ5.out.lt; omega)
  have d2 : W6.cell? ⟨w.heap.size, 2, none⟩ = some (.int .i64 3) := HQ6.out.cell rfl
  have d7 : W6.cell? ⟨w.heap.size, 7, none⟩ = some (.int .i64 0) := HQ6.out.cell rfl
  have f2 : W6.frozen? ⟨w.heap.size, 2, none⟩ = false := HQ6.out.free
  have f7 : W6.frozen? ⟨w.heap.size, 7, none⟩ = false := HQ6.out.free
  clear hb6 k6
  go_upto_region 7 with fail
  obtain ⟨W7, hW7⟩ : ∃ W, (W6.setCell ⟨w.heap.size, 2, none⟩ (.int .i64 5)).setCell ⟨w.heap.size, 7, none⟩ (.int .i64 1) = W := ⟨_, rfl⟩
  have hk7 : Kb w.heap.size W6 W7 := by rw [← hW7]; exact (Kb.setCell _ _).trans (Kb.setCell _ _)
  have kq7 : Blk W7 w.heap.size #[.int .i64 3, .int .i64 4, .int .i64 5, .int .i64 0, .int .i64 0, .int .i64 0, .int .i64 0, .int .i64 1, .string ⟨#[103]⟩, .string ⟨#[97]⟩, .slice none 0 0] 34 := by rw [← hW7]; exact (HQ6.out.set (i := 2) (.int .i64 5)).set (i := 7) (.int .i64 1)
  rw [hW7]
  clear hW7 d2 d7 f2 f7
  have HB7 := Lib.hid (HB6.out.trans (hk7.below (Nat.le_refl _) HQ6.out.lt))
  have HX7 := Lib.hid (HX6.out.kb hk7 HN2.out)
  have HR7 := Lib.hid (HR6.out.kb hk7 HN5.out)
  have HO7 := Lib.hid (And.intro HO6.out.1 (HO6.out.2.keep hk7.size fun b hl hz => ⟨hk7.block b hl (by have := HO6.out.1; omega), rfl⟩))
  have HG7 := Lib.hid HO7.out.2.rd
  obtain ⟨d0, d1, d2, d3, d4, d5, d6, d7, d8, d9, d10⟩ := kq7.cells11
  clear hk7 kq7
  go_wp2_with fail
  refine (HK.out _ _ _ HB7.out HG7.out).mono ?_
  rintro e w8 ⟨p8, rfl, hp8, hb8⟩
  obtain ⟨a8, c8, rfl⟩ := hp8.form
  have HB8 := Lib.hid (HB7.out.trans (hb8.mono HB7.out.size))
  have HX8 := Lib.hid (HX7.out.below hb8)
  have HR8 := Lib.hid (HR7.out.below hb8)
  clear hb8 hp8
  go_upto_region 8 with fail
  obtain ⟨W9, hW9⟩ : ∃ W, w8.alloc (.cells (rsp 3 4 0 0 1 (.slice a8 3 c8)) 39) = W := ⟨_, rfl⟩
  have hb9 : Below w8.heap.size w8 W9 := by rw [← hW9]; exact (Below.refl _ _).alloc (Nat.le_refl _) _
  have k9 : Blk W9 w8.heap.size (rsp 3 4 0 0 1 (.slice a8 3 c8)) 39 := by rw [← hW9]; exact Blk.new _ _ _
  rw [hW9]
  clear hW9
  have HB9 := Lib.hid (HB8.out.trans (hb9.mono HB8.out.size))
  obtain ⟨x0, x1, x2, x3⟩ := (HX8.out.below hb9).cells4
  obtain ⟨y0, y1, y2, y3, y4, y5, y6, y7⟩ := (HR8.out.below hb9).cells8
  obtain ⟨z0, z1, z2, z3, z4, z5, z6, z7⟩ := k9.cells8
  clear hb9 k9
  go_wp2_with fail
  refine (HF.out _ HB9.out).mono ?_
  rintro e wa ⟨hba, labA, va, rfl, hA⟩
  obtain ⟨aa, ca, rfl⟩ := hA.form
  have HBA := Lib.hid ((HB9.out.alloc HB9.out.size _).trans (hba.mono (HB9.out.alloc HB9.out.size _).size))
  clear hba hA x0 x1 x2 x3 y0 y1 y2 y3 y4 y5 y6 y7 z0 z1 z2 z3 z4 z5 z6 z7
  go_wp2_with fail
  go_ret
  exact ⟨rfl, HBA.out⟩
end Go.Proofs.YtjccfilbihkfpaaGreatDoor

/- ROWS OF REQUESTS; a request's record, read at once. -/
namespace Go.Proofs.YtjccfilbihkfpaaGreatDoor
open Go.RowKit

def rqCells (x : Fk.Q × Value) : List Value := [.int .i64 x.1.client, .int .i64 x.1.n, .int .i64 x.1.kind, .int .i64 x.1.part, .int .i64 x.1.seq, .int .i64 x.1.off, .int .i64 x.1.max, .int .i64 x.1.gen, .string x.1.group, .string x.1.member, x.2]
/-- A slice that reads as these requests; their own records are not looked at. -/
def Rqs (A : Nat → Prop) (w : World) (v : Value) (l : List (Fk.Q × Value)) : Prop := Rds A w v 11 l.length (l.flatMap rqCells) ∧ ∀ x ∈ l, ∃ a n c, x.2 = .slice a n c
section
variable {A : Nat → Prop} {w w' : World} {v : Value} {l : List (Fk.Q × Value)}
theorem Rqs.form (h : Rqs A w v l) : ∃ a cap, v = .slice a l.length cap := Rds.form h.1
theorem Rqs.below (h : Rqs A w v l) (hb : Below w.heap.size w w') : Rqs A w' v l := ⟨Rds.below h.1 hb, h.2⟩
theorem Rqs.at (h : Rqs A w v l) {j : Nat} {x : Fk.Q × Value} (hj : l[j]? = some x) : ∃ b p cap, v = .slice (some ⟨b, p, none⟩) l.length cap ∧ A b ∧ b < w.heap.size ∧ ∀ i u, (rqCells x)[i]? = some u → w.cell? ⟨b, p + j * 11 + i, none⟩ = some u := by
  obtain ⟨b, p, cap, h1, h2, h3, h4⟩ := Rds.at h.1 (Nat.lt_of_le_of_lt (Nat.zero_le _) (List.getElem?_eq_some_iff.1 hj).1)
  refine ⟨b, p, cap, h1, h2, h3, fun i u hu => ?_⟩
  have hi : i < 11 := by have := (List.getElem?_eq_some_iff.1 hu).1; exact this
  have h0 := flat_at rqCells 11 (fun _ => rfl) l j x hj i hi
  rw [Nat.add_assoc]
  exact h4 _ _ (h0.trans hu)
end
theorem encMs_len {ms : List ByteArray} (hl : ms.length ≤ 4) (h8 : ∀ m ∈ ms, m.size ≤ 8) : (Fk.encMs ms).length ≤ 170 := by
  have := msT_len hl h8
  rw [← enc_ms]
  simp only [List.length_cons, List.length_append, List.length_nil]
  omega
/-- What a request brings is short. -/
theorem enc_len {x : Fk.Wd} (h : Fk.OkW x) (hg : match (generalizing := false) x with | .turn _ g _ _ => Pl.I64 g | .point _ _ _ g => Pl.I64 g | .no c => Pl.I64 c | .none => True) : (Fk.enc x).1.length ≤ 60 ∧ (Fk.enc x).2.length ≤ 300 := by
  cases x with
  | none => exact ⟨by simp [Fk.enc], by simp [Fk.enc]⟩
  | no c =>
    have := wInt_len hg
    exact ⟨by simp [Fk.enc], by simp [Fk.enc, Fk.encNv]; omega⟩
  | turn n g p ms =>
    obtain ⟨h1, h2, h3, h4⟩ := h
    have k1 := (Fk.name_len h1).1
    have k2 := wInt_len (c := g) hg
    have k3 := wInt_len (c := p) ⟨by omega, by omega⟩
    have k4 := encMs_len (Sh.good_len h4) fun m hm => (Fk.name_len (good_mem h4 m hm)).1
    have k5 := Fk.data_len n
    refine ⟨?_, ?_⟩
    · show (116 :: n.data.toList).length ≤ 60
      rw [List.length_cons, k5]; omega
    · show (108 :: (Pl.wInt g ++ (Pl.wInt p ++ Fk.encMs ms) ++ [101])).length ≤ 300
      simp only [List.length_cons, List.length_append, List.length_nil]
      omega
  | point n p o g =>
    obtain ⟨h1, h2, h3, h4, h5⟩ := h
    have k1 := (Fk.name_len h1).1
    have k2 := wInt_len (c := g) hg
    have k3 := wInt_len (c := o) ⟨by omega, by omega⟩
    have k5 := Fk.data_len n
    obtain ⟨d, hd, -⟩ := Fk.itoa_digit ⟨h2, h3⟩
    refine ⟨?_, ?_⟩
    · show (99 :: (Lib.itoa p ++ n.data.toList)).length ≤ 60
      rw [hd, List.length_cons, List.length_append, k5]; simp; omega
    · show (108 :: (Pl.wInt o ++ Pl.wInt g ++ [101])).length ≤ 300
      simp only [List.length_cons, List.length_append, List.length_nil]
      omega
/-- A request's record, with what is known of it. -/
def DecN (w : World) (x : Fk.Wd) (e : Ending) (w' : World) : Prop := ∃ K V : ByteArray, e = .returned (.agg #[.int .i64 0, .string K, .string V, .bool false]) ∧ (Fk.rd K V false = x ∧ K.size ≤ 60 ∧ V.size ≤ 300) ∧ Below w.heap.size w w'
theorem dec_any {A : Nat → Prop} (v : Value) (L : List Fk.G) (parts : Int) (q : Fk.Q) (rv : Value) (k : Int) (w : World) (lb : Lb w) (h : GsR A w v L) (hG : Gk k L) (hk : k ≤ 1000) :
    Calls Tryz.prog 14 #[v, .int .i64 parts, qval q rv] w fun e w' => DecN w (Fk.decide L parts q) e w' := by
  refine (decide_any v L parts q rv k w lb h hG (by omega)).mono ?_
  rintro e w' ⟨K, V, rfl, ⟨rfl, rfl⟩, hb⟩
  have hw := hG.word hk parts q
  have hl := enc_len hw.1 (by
    have := hw.2
    revert this
    generalize Fk.decide L parts q = x
    intro h
    cases x <;> exact h)
  refine ⟨_, _, rfl, ⟨hG.back hk parts q, ?_, ?_⟩, hb⟩
  · show (Fk.enc (Fk.decide L parts q)).1.toArray.size ≤ 60
    rw [List.size_toArray]; exact hl.1
  · show (Fk.enc (Fk.decide L parts q)).2.toArray.size ≤ 300
    rw [List.size_toArray]; exact hl.2
/-- The groups behind it. -/
theorem next_any {A : Nat → Prop} (v : Value) (L : List Fk.G) (parts : Int) (q : Fk.Q) (K V : ByteArray) (k : Int) (w : World) (lb : Lb w) (h : GsR A w v L) (hG : Gk k L) (hk : k ≤ 1000) (hr : Fk.rd K V false = Fk.decide L parts q) (h1 : K.size ≤ 60) (h2 : V.size ≤ 300) :
    Calls Tryz.prog 10 #[v, .agg #[.int .i64 0, .string K, .string V, .bool false]] w fun e w' => TrnOut w.heap.size w (Fk.next L parts q) e w' := by
  have h := apply_any v L 0 K V false w lb h (hG.sm (by omega)) (by omega) (by omega)
  rw [hr] at h
  exact h
end Go.Proofs.YtjccfilbihkfpaaGreatDoor
