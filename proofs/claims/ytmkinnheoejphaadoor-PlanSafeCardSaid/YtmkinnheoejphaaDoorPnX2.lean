/- PLAIN FACTS ABOUT PLANS: what is refused the second time, who is left out, who comes back. Nothing here knows the program. -/
import Derived.Test.YtmkinnheoejphaaDoorPnX
namespace Go.Proofs.YtmkinnheoejphaaDoor
theorem Pn.GoodG.parts_pos {p : Pn.P} (h : Pn.GoodG p) : 0 < p.parts.length := by have := Pn.lay_iff.1 h.lay; omega
namespace Pn
/-! ### What is refused the second time; who is left out; who comes back -/
theorem getD_at {p : P} {k : Nat} {a : Pt} (h : p.parts[k]? = some a) (x : Ev) (hx : x.part = (k : Int)) : at' p x = a := by
  unfold at'
  rw [hx, Int.toNat_natCast, List.getD_eq_getElem?_getD, h]
  rfl
/-- The places behind an event. -/
theorem fin_at {p q : P} {ps : List Pt} {ls : List (Int × Int)} {t t' : List Nat} (h : fin p ps ls t = .ok q t') (hn : t.Nodup) (k : Nat) (b : Pt) (hb : ps[k]? = some b) : q.parts[k]? = some (if k ∈ t then ⟨b.ep + 1, b.ch, b.le⟩ else b) ∧ q.lives = ls ∧ q.nodes = p.nodes ∧ q.copies = p.copies ∧ t' = t ∧ q.parts.length = ps.length := by
  obtain ⟨rfl, qs, hr, rfl⟩ := fin_ok h
  obtain ⟨h1, h2⟩ := rise_some _ _ _ hr hn
  exact ⟨(h2 k b hb).1, rfl, rfl, rfl, rfl, h1⟩
theorem again {p q : P} {x : Ev} {t : List Nat} (h : apply p x = .ok q t) (h4 : x.kind ≠ 4) : apply q x = .bad 21 := by
  have hs := step_of h
  have hok := apply_ok h
  obtain ⟨hg, hev, hn, hp⟩ := okB_iff.1 hok
  have hok2 : okB q x = true := okB_iff.2 ⟨hs.good, hev, by rw [hs.nodes]; exact hn, by have := hs.len1; omega⟩
  rw [apply_kind hok2]
  rw [apply_kind hok] at h
  rcases ev_cases hev with ⟨hk, h1, h0, h3⟩ | ⟨hk, h1, h0⟩ | ⟨hk, h1, h0⟩ | hk | ⟨hk, h1, h0⟩
  · rw [if_pos hk] at h ⊢
    unfold apply1 at h ⊢
    split at h
    · cases h
    · have hl := hg.parts_pos
      obtain ⟨a, ha⟩ : ∃ a, p.parts[0]? = some a := ⟨_, List.getElem?_eq_getElem hl⟩
      have hlv := (fin_at h (idx_nodup _ _ _) 0 a ha).2.1
      rw [hlv, life_put ((lives_iff _ _ _).1 hg.lv).1, if_pos rfl, if_pos (Int.le_refl _)]
  · rw [if_neg (by omega), if_pos hk] at h ⊢
    unfold apply2 at h ⊢
    split at h
    · cases h
    · rw [if_pos]
      have : ∀ k, k ∉ idx (loseB x.node) 0 q.parts := fun k hk => by
        obtain ⟨b, hb, hlb⟩ := (idx_mem0 _ _ _).1 hk
        have hkq := (List.getElem?_eq_some_iff.1 hb).1
        obtain ⟨a0, ha0⟩ : ∃ a, p.parts[0]? = some a := ⟨_, List.getElem?_eq_getElem hg.parts_pos⟩
        have hlen := (fin_at h (idx_nodup _ _ _) 0 (lose x.node a0) (by rw [List.getElem?_map, ha0]; rfl)).2.2.2.2.2
        rw [List.length_map] at hlen
        obtain ⟨a, ha⟩ : ∃ a, p.parts[k]? = some a := ⟨_, List.getElem?_eq_getElem (by omega)⟩
        have hq := (fin_at h (idx_nodup _ _ _) k (lose x.node a) (by rw [List.getElem?_map, ha]; rfl)).1
        rw [hb] at hq
        injection hq with hq
        have hgone := lose_gone (hg.pl a (List.mem_of_getElem? ha)) h1
        have hl2 : loseB x.node b = loseB x.node (lose x.node a) := by
          rw [hq]
          split <;> rfl
        rw [hl2, hgone] at hlb
        cases hlb
      exact List.eq_nil_iff_forall_not_mem.2 this
  · rw [if_neg (by omega), if_neg (by omega), if_pos hk] at h ⊢
    unfold apply3 at h ⊢
    split at h
    · rename_i he
      have hat := at_some (p := p) h0 hp
      have hkl := (List.getElem?_eq_some_iff.1 hat).1
      have hq := (fin_at h (by simp) x.part.toNat ⟨(at' p x).ep, (at' p x).ch ++ [x.node], 0⟩ (by rw [List.getElem?_set]; simp [hkl])).1
      rw [if_pos (List.mem_singleton.2 rfl)] at hq
      have hq2 := getD_at hq x (by omega)
      rw [hq2, if_neg]
      rintro ⟨e, -⟩
      simp only at e
      omega
    · cases h
  · exact absurd hk h4
  · rw [if_neg (by omega), if_neg (by omega), if_neg (by omega), if_neg (by omega)] at h ⊢
    unfold apply5 at h ⊢
    split at h
    · cases h
    · have hat := at_some (p := p) h0 hp
      have hkl := (List.getElem?_eq_some_iff.1 hat).1
      have hq := (fin_at h (by simp) x.part.toNat ⟨(at' p x).ep, (at' p x).ch, x.node⟩ (by rw [List.getElem?_set]; simp [hkl])).1
      rw [if_pos (List.mem_singleton.2 rfl)] at hq
      have hq2 := getD_at hq x (by omega)
      rw [hq2, if_pos]
      right
      unfold wantB
      have : (x.node == 0) = false := by simp; omega
      simp [this]
/-- A number of a plan's list, the other ones. -/
def keepB (c : List Int) (n m : Int) : Bool := !(m == n && !c.contains n)
theorem keep_all {l c : List Int} {n : Int} (h : c.contains n = true) : l.filter (keepB c n) = l := by
  rw [List.filter_eq_self]
  intro m hm
  unfold keepB
  rw [h]
  simp
theorem wo_filter {l : List Int} {n : Int} (h : n ∈ l) (hn : l.Nodup) : wo l n = l.filter (keepB (wo l n) n) := by
  have hno : (wo l n).contains n = false := by have := wo_not h hn; simpa using this
  have : ∀ m, keepB (wo l n) n m = (m != n) := fun m => by unfold keepB; rw [hno]; cases hmn : (m == n) <;> simp [bne, hmn]
  rw [show keepB (wo l n) n = fun m => m != n from funext this, wo_erase h]
  exact hn.erase_eq_filter n
theorem lose_filter {x : Pt} {nodes : Int} (h : PlaceG x nodes) (n : Int) : (lose n x).ch = x.ch.filter (keepB (lose n x).ch n) := by
  unfold lose
  split
  · rename_i e
    have : n ∉ x.ch := by rw [← e]; exact h.le
    symm
    rw [List.filter_eq_self]
    intro m hm
    have : (m == n) = false := by
      cases hb : (m == n) with
      | false => rfl
      | true => have := eq_of_beq hb; subst this; contradiction
    unfold keepB
    rw [this]
    rfl
  · split
    · rename_i hc
      exact wo_filter (by have := hc.1; simpa using this) h.nd
    · rename_i e hc
      symm
      by_cases hm : x.ch.contains n = true
      · exact keep_all hm
      · rw [List.filter_eq_self]
        intro m hmm
        have : (m == n) = false := by
          cases hb : (m == n) with
          | false => rfl
          | true => have := eq_of_beq hb; subst this; exact absurd (by simpa using hmm) hm
        unfold keepB
        rw [this]
        rfl
/-- What the law PlanLeaves looks at: a place and what it was. -/
structure Left (n : Int) (a b : Pt) : Prop where
  le : b.le ≠ n
  ch : b.ch.contains n = true → ¬ (1 < b.ch.length)
  fl : b.ch = a.ch.filter (keepB b.ch n)
theorem left_lose {x : Pt} {nodes : Int} (h : PlaceG x nodes) {n : Int} (hn : 1 ≤ n) : Left n x (lose n x) := by
  have hg := lose_gone h hn
  unfold loseB at hg
  simp only [Bool.or_eq_false_iff, beq_eq_false_iff_ne, ne_eq, Bool.and_eq_false_iff, decide_eq_false_iff_not, Decidable.not_not] at hg
  refine ⟨hg.1, fun hc => ?_, lose_filter h n⟩
  rcases hg.2 with h2 | h2
  · rw [hc] at h2; cases h2
  · omega
theorem dead_ok {p : P} {n : Int} (hg : GoodG p) (h1 : 1 ≤ n) (h2 : n ≤ p.nodes) (hlo : ∀ x ∈ p.parts, x.ep < 1073741824) :
    (∃ q t, apply p ⟨2, n, 0, 0⟩ = .ok q t ∧ t ≠ [] ∧ q.parts.length = p.parts.length ∧ ∀ (k : Nat) (a : Pt), p.parts[k]? = some a → ∃ b, q.parts[k]? = some b ∧ Left n a b) ∨
    (apply p ⟨2, n, 0, 0⟩ = .bad 21 ∧ ∀ (k : Nat) (a : Pt), p.parts[k]? = some a → Left n a a) := by
  have hl := lay_iff.1 hg.lay
  have hok : okB p ⟨2, n, 0, 0⟩ = true := okB_iff.2 ⟨hg, by unfold evB; simp; omega, h2, by simp only; omega⟩
  rw [apply_kind hok, if_neg (show ¬ ((2 : Int) = 1) by decide), if_pos rfl]
  unfold apply2
  simp only
  by_cases he : idx (loseB n) 0 p.parts = []
  · right
    rw [if_pos he]
    refine ⟨rfl, fun k a ha => ?_⟩
    have hf : loseB n a = false := by
      cases hb : loseB n a with
      | false => rfl
      | true =>
        have := (idx_mem0 (loseB n) p.parts k).2 ⟨a, ha, hb⟩
        rw [he] at this
        cases this
    have := left_lose (hg.pl a (List.mem_of_getElem? ha)) h1
    rw [lose_same hf] at this
    exact this
  · left
    rw [if_neg he]
    obtain ⟨qs, hqs⟩ := rise_can (idx (loseB n) 0 p.parts) (p.parts.map (lose n)) (idx_nodup _ _ _) (fun k x hx => by
      rw [List.getElem?_map] at hx
      cases ha : p.parts[k]? with
      | none => rw [ha] at hx; cases hx
      | some a =>
        rw [ha] at hx
        simp only [Option.map_some, Option.some.injEq] at hx
        rw [← hx, lose_ep']
        exact hlo a (List.mem_of_getElem? ha))
    unfold fin
    rw [hqs]
    obtain ⟨r1, r2⟩ := rise_some _ _ _ hqs (idx_nodup _ _ _)
    refine ⟨_, _, rfl, he, by rw [r1, List.length_map], fun k a ha => ?_⟩
    have hb := (r2 k (lose n a) (by rw [List.getElem?_map, ha]; rfl)).1
    refine ⟨_, hb, ?_⟩
    have hL := left_lose (hg.pl a (List.mem_of_getElem? ha)) h1
    split
    · exact ⟨hL.le, hL.ch, hL.fl⟩
    · exact hL
end Pn
namespace Pn
/-! ### Who is left out can come back -/
theorem boot_ok {p : P} {n : Int} (hg : GoodG p) (h1 : 1 ≤ n) (h2 : n ≤ p.nodes) (hl0 : life p.lives n = 0) (hlo : ∀ x ∈ p.parts, x.ep < 1073741824) : ∃ q t, apply p ⟨1, n, 0, 1⟩ = .ok q t ∧ life q.lives n = 1 := by
  have hl := lay_iff.1 hg.lay
  have hok : okB p ⟨1, n, 0, 1⟩ = true := okB_iff.2 ⟨hg, by unfold evB epB; simp; omega, h2, by simp only; omega⟩
  rw [apply_kind hok, if_pos rfl]
  unfold apply1
  simp only
  rw [hl0, if_neg (by decide)]
  obtain ⟨qs, hqs⟩ := rise_can (idx (hasB n) 0 p.parts) p.parts (idx_nodup _ _ _) (fun k x hx => hlo x (List.mem_of_getElem? hx))
  unfold fin
  rw [hqs]
  exact ⟨_, _, rfl, by rw [life_put ((lives_iff _ _ _).1 hg.lv).1, if_pos rfl]⟩
theorem idx_set {f : Pt → Bool} : ∀ (l : List Pt) (i k : Nat) (ks : List Nat) (y : Pt), idx f i l = k :: ks → f y = false → idx f i (l.set (k - i) y) = ks ∧ ∀ j ∈ ks, k < j
  | [], i, k, ks, y, h, _ => by cases h
  | x :: l, i, k, ks, y, h, hy => by
    unfold idx at h
    split at h
    · rename_i hx
      injection h with h1 h2
      subst h1
      rw [Nat.sub_self, List.set_cons_zero]
      unfold idx
      rw [if_neg (by rw [hy]; decide)]
      refine ⟨h2, fun j hj => ?_⟩
      rw [← h2] at hj
      have := ((idx_mem f l (i + 1) j).1 hj).1
      omega
    · rename_i hx
      have hk : i + 1 ≤ k := ((idx_mem f l (i + 1) k).1 (by rw [h]; exact List.mem_cons_self ..)).1
      have ih := idx_set l (i + 1) k ks y h hy
      rw [show k - i = (k - (i + 1)) + 1 by omega, List.set_cons_succ]
      unfold idx
      rw [if_neg hx]
      exact ih
/-- One round of the law: a learner, a late word, a word in time. -/
structure Rnd (p q r : P) (n : Int) (k : Nat) (ks : List Nat) (a : Pt) : Prop where
  at0 : p.parts[k]? = some a
  join : apply p ⟨5, n, (k : Int), 0⟩ = .ok q [k]
  qat : q.parts[k]? = some ⟨a.ep + 1, a.ch, n⟩
  late : apply q ⟨3, n, (k : Int), a.ep⟩ = .bad 21
  ready : apply q ⟨3, n, (k : Int), a.ep + 1⟩ = .ok r [k]
  rat : r.parts[k]? = some ⟨a.ep + 2, a.ch ++ [n], 0⟩
  wants : wants r n = ks
  good : GoodG q
  good2 : GoodG r
  nodes : r.nodes = p.nodes
  life : life r.lives n = life p.lives n
  other : ∀ j ∈ ks, ∀ b, r.parts[j]? = some b → p.parts[j]? = some b
theorem round {p : P} {n : Int} {k : Nat} {ks : List Nat} (hg : GoodG p) (h1 : 1 ≤ n) (h2 : n ≤ p.nodes) (hl0 : life p.lives n ≠ 0) (hw : wants p n = k :: ks) (hlo : ∀ x, p.parts[k]? = some x → x.ep ≤ 1000000) :
    ∃ q r a, Rnd p q r n k ks a := by
  have hl := lay_iff.1 hg.lay
  have hw' := hw
  unfold wants at hw
  rw [if_pos ⟨h1, h2⟩] at hw
  obtain ⟨a, ha, hwa⟩ := (idx_mem0 _ _ _).1 (show k ∈ idx (wantB p.copies n) 0 p.parts by rw [hw]; exact List.mem_cons_self ..)
  have hkl := (List.getElem?_eq_some_iff.1 ha).1
  have hep := hlo a ha
  have hpl := hg.pl a (List.mem_of_getElem? ha)
  have hep1 := hpl.e1
  -- the learner
  have hok : okB p ⟨5, n, (k : Int), 0⟩ = true := okB_iff.2 ⟨hg, by unfold evB; simp; omega, h2, by simp only; omega⟩
  have hat : at' p ⟨5, n, (k : Int), 0⟩ = a := getD_at ha _ rfl
  have hj : apply p ⟨5, n, (k : Int), 0⟩ = fin p (p.parts.set k ⟨a.ep, a.ch, n⟩) p.lives [k] := by
    rw [apply_kind hok, if_neg (show ¬ ((5 : Int) = 1) by decide), if_neg (show ¬ ((5 : Int) = 2) by decide), if_neg (show ¬ ((5 : Int) = 3) by decide), if_neg (show ¬ ((5 : Int) = 4) by decide)]
    unfold apply5
    rw [hat]
    simp only [Int.toNat_natCast]
    rw [if_neg]
    rintro (h | h)
    · exact hl0 h
    · rw [hwa] at h; cases h
  have hset1 : (p.parts.set k ⟨a.ep, a.ch, n⟩)[k]? = some ⟨a.ep, a.ch, n⟩ := by rw [List.getElem?_set]; simp [hkl]
  obtain ⟨qs, hqs⟩ : ∃ qs, rise (p.parts.set k ⟨a.ep, a.ch, n⟩) [k] = some qs := by
    unfold rise
    rw [hset1]
    simp only
    rw [if_neg (by omega)]
    exact ⟨_, rfl⟩
  have hq1 : apply p ⟨5, n, (k : Int), 0⟩ = .ok ⟨p.nodes, p.copies, qs, p.lives⟩ [k] := by rw [hj]; unfold fin; rw [hqs]
  obtain ⟨hql, hqat⟩ := rise_some _ _ _ hqs (by simp)
  have hqk := (hqat k _ hset1).1
  rw [if_pos (List.mem_singleton.2 rfl)] at hqk
  have hgq := (step_of hq1).good
  have hqo : ∀ j, j ≠ k → ∀ b, qs[j]? = some b → p.parts[j]? = some b := fun j hjk b hb => by
    have hjl := (List.getElem?_eq_some_iff.1 hb).1
    rw [hql, List.length_set] at hjl
    have h3 := (hqat j p.parts[j] (by rw [List.getElem?_set, if_neg (fun e => hjk e.symm)]; exact List.getElem?_eq_getElem hjl)).1
    rw [if_neg (by simp [hjk]), hb] at h3
    rw [List.getElem?_eq_getElem hjl]
    exact h3.symm
  -- the words
  have hokr : ∀ N : Int, 1 ≤ N → N ≤ 1073741824 → okB ⟨p.nodes, p.copies, qs, p.lives⟩ ⟨3, n, (k : Int), N⟩ = true := fun N hN1 hN2 => okB_iff.2 ⟨hgq, by unfold evB epB; simp; omega, h2, by simp only; rw [hql, List.length_set]; omega⟩
  have hat2 : ∀ N : Int, at' ⟨p.nodes, p.copies, qs, p.lives⟩ ⟨3, n, (k : Int), N⟩ = ⟨a.ep + 1, a.ch, n⟩ := fun N => getD_at (p := ⟨p.nodes, p.copies, qs, p.lives⟩) hqk _ rfl
  have hlate : apply ⟨p.nodes, p.copies, qs, p.lives⟩ ⟨3, n, (k : Int), a.ep⟩ = .bad 21 := by
    rw [apply_kind (hokr _ (by omega) (by omega)), if_neg (show ¬ ((3 : Int) = 1) by decide), if_neg (show ¬ ((3 : Int) = 2) by decide), if_pos rfl]
    unfold apply3
    rw [hat2, if_neg]
    rintro ⟨e, -⟩
    simp only at e
    omega
  have hr0 : apply ⟨p.nodes, p.copies, qs, p.lives⟩ ⟨3, n, (k : Int), a.ep + 1⟩ = fin ⟨p.nodes, p.copies, qs, p.lives⟩ (qs.set k ⟨a.ep + 1, a.ch ++ [n], 0⟩) p.lives [k] := by
    rw [apply_kind (hokr _ (by omega) (by omega)), if_neg (show ¬ ((3 : Int) = 1) by decide), if_neg (show ¬ ((3 : Int) = 2) by decide), if_pos rfl]
    unfold apply3
    rw [hat2, if_pos ⟨rfl, rfl⟩]
    simp only [Int.toNat_natCast]
  have hkq : k < qs.length := by rw [hql, List.length_set]; exact hkl
  have hset2 : (qs.set k ⟨a.ep + 1, a.ch ++ [n], 0⟩)[k]? = some ⟨a.ep + 1, a.ch ++ [n], 0⟩ := by rw [List.getElem?_set]; simp [hkq]
  obtain ⟨rs, hrs⟩ : ∃ rs, rise (qs.set k ⟨a.ep + 1, a.ch ++ [n], 0⟩) [k] = some rs := by
    unfold rise
    rw [hset2]
    simp only
    rw [if_neg (by omega)]
    exact ⟨_, rfl⟩
  have hrr : rs = p.parts.set k ⟨a.ep + 2, a.ch ++ [n], 0⟩ := by
    unfold rise at hqs hrs
    rw [hset1] at hqs
    rw [hset2] at hrs
    simp only at hqs hrs
    rw [if_neg (by omega)] at hqs hrs
    unfold rise at hqs hrs
    injection hqs with hqs
    injection hrs with hrs
    rw [← hrs, ← hqs]
    simp only [List.set_set]
    rw [show a.ep + 1 + 1 = a.ep + 2 by omega]
  have hr1 : apply ⟨p.nodes, p.copies, qs, p.lives⟩ ⟨3, n, (k : Int), a.ep + 1⟩ = .ok ⟨p.nodes, p.copies, rs, p.lives⟩ [k] := by rw [hr0]; unfold fin; rw [hrs]
  have hno : wantB p.copies n ⟨a.ep + 2, a.ch ++ [n], 0⟩ = false := by unfold wantB; simp
  have hset := idx_set p.parts 0 k ks ⟨a.ep + 2, a.ch ++ [n], 0⟩ hw hno
  rw [Nat.sub_zero] at hset
  refine ⟨_, _, a, ⟨ha, hq1, hqk, hlate, hr1, ?_, ?_, hgq, (step_of hr1).good, rfl, rfl, fun j hj b hb => ?_⟩⟩
  · simp only
    rw [hrr, List.getElem?_set]
    simp [hkl]
  · unfold wants
    simp only
    rw [if_pos ⟨h1, h2⟩, hrr]
    exact hset.1
  · simp only at hb
    rw [hrr, List.getElem?_set, if_neg (by have := hset.2 j hj; omega)] at hb
    exact hb
end Pn
end Go.Proofs.YtmkinnheoejphaaDoor
