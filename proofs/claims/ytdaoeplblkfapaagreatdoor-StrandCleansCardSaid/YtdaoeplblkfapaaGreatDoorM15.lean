import Derived.Test.YtdaoeplblkfapaaGreatDoorM14
import Derived.Test.YtdaoeplblkfapaaGreatDoorM13

/- PLAIN MATHEMATICS OF A LOG's SEGMENTS AND THEIR FILES: each begins where the one ahead of it ends; what its names hold; a batch more. -/
namespace Go.Proofs.YtdaoeplblkfapaaGreatDoor

/-- Segments one behind the other, from x on; but for the last none is empty. -/
def Lk : Int → List Sg → Prop
  | _, [] => True
  | x, g :: G => g.first = x ∧ Chain x g.l ∧ (G ≠ [] → g.l ≠ []) ∧ Lk (lend x g.l) G
/-- A log's segments. -/
def Log (G : List Sg) : Prop := ∀ g G', G = g :: G' → (0 ≤ g.first ∧ g.first ≤ 1099511627776) ∧ Lk g.first G
def fla (G : List Sg) : List Pl.Bt := G.flatMap Sg.l
theorem fla_append (G H : List Sg) : fla (G ++ H) = fla G ++ fla H := by simp [fla]
theorem fla_one (g : Sg) : fla [g] = g.l := by simp [fla]
theorem Chain.low {x : Int} {l : List Pl.Bt} (h : Chain x l) (hx : 0 ≤ x ∧ x ≤ 1099511627776) : x ≤ lend x l ∧ lend x l ≤ 1099511627776 ∧ (l ≠ [] → x < lend x l) := by
  obtain ⟨h1, h2⟩ := h.ends
  refine ⟨by omega, ?_, fun hn => ?_⟩
  · cases l with
    | nil => exact hx.2
    | cons b l => exact (h2 (by simp)).1
  · cases l with
    | nil => exact absurd rfl hn
    | cons b l => simp only [List.length_cons] at h1; omega
section
variable {x : Int} {G : List Sg}
theorem Lk.append {H : List Sg} : Lk x (G ++ H) ↔ (Lk x G ∧ (H ≠ [] → ∀ g ∈ G, g.l ≠ []) ∧ Lk (lend x (fla G)) H) := by
  induction G generalizing x with
  | nil => simp [Lk, fla, lend]
  | cons g G ih =>
    have e : lend x (fla (g :: G)) = lend (lend x g.l) (fla G) := by rw [show fla (g :: G) = g.l ++ fla G from rfl, lend_append]
    rw [e, List.cons_append]
    show (g.first = x ∧ Chain x g.l ∧ (G ++ H ≠ [] → g.l ≠ []) ∧ Lk (lend x g.l) (G ++ H)) ↔ ((g.first = x ∧ Chain x g.l ∧ (G ≠ [] → g.l ≠ []) ∧ Lk (lend x g.l) G) ∧ (H ≠ [] → ∀ y ∈ g :: G, y.l ≠ []) ∧ _)
    rw [ih]
    constructor
    · rintro ⟨h1, h2, h3, h4, h5, h6⟩
      refine ⟨⟨h1, h2, fun hn => h3 (by simp [hn]), h4⟩, fun hn y hy => ?_, h6⟩
      rcases List.mem_cons.1 hy with rfl | hy
      · exact h3 (by simp [hn])
      · exact h5 hn y hy
    · rintro ⟨⟨h1, h2, h3, h4⟩, h5, h6⟩
      refine ⟨h1, h2, fun hn => ?_, h4, fun hn y hy => h5 hn y (List.mem_cons_of_mem _ hy), h6⟩
      by_cases hG : G = []
      · subst hG
        exact h5 (by simpa using hn) g List.mem_cons_self
      · exact h3 hG
theorem Lk.chain (h : Lk x G) : Chain x (fla G) := by
  induction G generalizing x with
  | nil => trivial
  | cons g G ih => exact Chain.append.2 ⟨h.2.1, ih h.2.2.2⟩
theorem Lk.firsts (h : Lk x G) (hx : 0 ≤ x ∧ x ≤ 1099511627776) : ∀ g ∈ G, (x ≤ g.first ∧ g.first ≤ 1099511627776) ∧ Chain g.first g.l := by
  induction G generalizing x with
  | nil => intro g hg; cases hg
  | cons y G ih =>
    obtain ⟨h1, h2, h3, h4⟩ := h
    have hl := h2.low hx
    intro g hg
    rcases List.mem_cons.1 hg with rfl | hg
    · exact ⟨by omega, h1 ▸ h2⟩
    · have := ih h4 ⟨by omega, hl.2.1⟩ g hg
      exact ⟨by omega, this.2⟩
theorem Lk.strict (h : Lk x G) (hx : 0 ≤ x ∧ x ≤ 1099511627776) : ∀ (i j : Nat) (a b : Sg), i < j → G[i]? = some a → G[j]? = some b → a.first < b.first := by
  induction G generalizing x with
  | nil => intro i j a b _ h1; simp at h1
  | cons y G ih =>
    obtain ⟨h1, h2, h3, h4⟩ := h
    have hl := h2.low hx
    intro i j a b hij ha hb
    cases j with
    | zero => omega
    | succ j =>
      rw [List.getElem?_cons_succ] at hb
      cases i with
      | zero =>
        rw [List.getElem?_cons_zero] at ha
        cases ha
        have hm := List.mem_of_getElem? hb
        have := (h4.firsts ⟨by omega, hl.2.1⟩ b hm).1
        have := hl.2.2 (h3 (by rintro rfl; cases hm))
        omega
      | succ i => exact ih h4 ⟨by omega, hl.2.1⟩ i j a b (by omega) (by simpa using ha) hb
end
section
variable {G : List Sg}
theorem Log.nil : Log [] := fun g G' h => by cases h
theorem Log.get (h : Log G) : ∃ x, (0 ≤ x ∧ x ≤ 1099511627776) ∧ Lk x G := by
  cases G with
  | nil => exact ⟨0, by omega, trivial⟩
  | cons g G => obtain ⟨h1, h2⟩ := h g G rfl; exact ⟨_, h1, h2⟩
theorem Log.of {x : Int} (hx : 0 ≤ x ∧ x ≤ 1099511627776) (h : Lk x G) : Log G := by
  rintro g G' rfl
  obtain rfl := h.1
  exact ⟨hx, h⟩
theorem Log.chs (h : Log G) : Chs G := fun g hg => let ⟨_, hx, hk⟩ := h.get; (hk.firsts hx g hg).2
theorem Log.firsts (h : Log G) : ∀ g ∈ G, 0 ≤ g.first ∧ g.first ≤ 1099511627776 := fun g hg => let ⟨_, hx, hk⟩ := h.get; by have := (hk.firsts hx g hg).1; omega
theorem Log.strict (h : Log G) : ∀ (i j : Nat) (a b : Sg), i < j → G[i]? = some a → G[j]? = some b → a.first < b.first := let ⟨_, hx, hk⟩ := h.get; hk.strict hx
theorem Log.rises (h : Log G) : Rises G := fun i j a b hij ha hb => by
  rcases Nat.eq_or_lt_of_le hij with rfl | hlt
  · rw [ha] at hb; cases hb; exact Int.le_refl _
  · exact Int.le_of_lt (h.strict i j a b hlt ha hb)
theorem Log.one (h : Log G) {i j : Nat} {a b : Sg} (ha : G[i]? = some a) (hb : G[j]? = some b) (e : a.first = b.first) : i = j := by
  rcases Nat.lt_trichotomy i j with hlt | rfl | hlt
  · have := h.strict i j a b hlt ha hb; omega
  · rfl
  · have := h.strict j i b a hlt hb ha; omega
theorem Log.left {H : List Sg} (h : Log (G ++ H)) : Log G := let ⟨_, hx, hk⟩ := h.get; Log.of hx (Lk.append.1 hk).1
theorem Log.right {H : List Sg} (h : Log (G ++ H)) : Log H := by
  obtain ⟨x, hx, hk⟩ := h.get
  obtain ⟨h1, h2, h3⟩ := Lk.append.1 hk
  have := h1.chain.low hx
  exact Log.of ⟨by omega, this.2.1⟩ h3
theorem Log.end {g : Sg} (h : Log (G ++ [g])) : 0 ≤ gsEnd (G ++ [g]) ∧ gsEnd (G ++ [g]) ≤ 1099511627776 := by
  rw [gsEnd_snoc]
  have hg := h.firsts g (by simp)
  have := (h.chs g (by simp)).low hg
  omega
theorem Log.good (h : Log G) : ∀ b ∈ fla G, Pl.goodB b = true := let ⟨_, _, hk⟩ := h.get; hk.chain.good
/-- The last segment's batches are others. -/
theorem Log.last {g : Sg} (h : Log (G ++ [g])) {l : List Pl.Bt} (hl : Chain g.first l) : Log (G ++ [⟨g.first, l⟩]) := by
  obtain ⟨x, hx, hk⟩ := h.get
  obtain ⟨h1, h2, h3⟩ := Lk.append.1 hk
  exact Log.of hx (Lk.append.2 ⟨h1, fun _ => h2 (by simp), h3.1, h3.1 ▸ hl, fun h => absurd rfl h, trivial⟩)
/-- A segment more. -/
theorem Log.snoc {g : Sg} (h : Log (G ++ [g])) (hn : g.l ≠ []) {l : List Pl.Bt} (hl : Chain (gsEnd (G ++ [g])) l) : Log (G ++ [g] ++ [⟨gsEnd (G ++ [g]), l⟩]) := by
  obtain ⟨x, hx, hk⟩ := h.get
  obtain ⟨h1, h2, h3⟩ := Lk.append.1 hk
  have e : lend x (fla (G ++ [g])) = gsEnd (G ++ [g]) := by rw [gsEnd_snoc, fla_append, lend_append, fla_one, h3.1]
  refine Log.of hx (Lk.append.2 ⟨hk, fun _ y hy => ?_, e.symm, e ▸ hl, fun h => absurd rfl h, trivial⟩)
  rcases List.mem_append.1 hy with hy | hy
  · exact h2 (by simp) y hy
  · rw [List.mem_singleton.1 hy]; exact hn
end

/-- What the names hold of a log's segments: all is safe but of the last. -/
structure Fl (P : List UInt8) (f : Ta.View) (G : List Sg) (sf : Nat) : Prop where
  hold : ∀ (j : Nat) (g : Sg), G[j]? = some g → f (nm P g.first) = some (frs g.l, if j + 1 = G.length then sf else (frs g.l).length)
  rest : ∀ k, (∀ g ∈ G, nm P g.first ≠ k) → f k = none
/-- A batch more; how much of the last segment is safe then. -/
def push (G : List Sg) (seg : Int) (b : Pl.Bt) : List Sg :=
  match G.getLast? with
  | none => [⟨b.base, [b]⟩]
  | some g => if ((frs g.l).length : Int) < seg then G.dropLast ++ [⟨g.first, g.l ++ [b]⟩] else G ++ [⟨b.base, [b]⟩]
def pushSf (G : List Sg) (seg : Int) (sf : Nat) : Nat :=
  match G.getLast? with
  | none => 0
  | some g => if ((frs g.l).length : Int) < seg then sf else 0
theorem push_nil (seg : Int) (b : Pl.Bt) : push [] seg b = [⟨b.base, [b]⟩] := rfl
theorem push_some {G : List Sg} {g : Sg} {seg : Int} {b : Pl.Bt} (h : ((frs g.l).length : Int) < seg) : push (G ++ [g]) seg b = G ++ [⟨g.first, g.l ++ [b]⟩] := by
  simp [push, h]
theorem push_more {G : List Sg} {g : Sg} {seg : Int} {b : Pl.Bt} (h : ¬ ((frs g.l).length : Int) < seg) : push (G ++ [g]) seg b = G ++ [g] ++ [⟨b.base, [b]⟩] := by
  simp [push, h]
theorem pushSf_nil (seg : Int) (sf : Nat) : pushSf [] seg sf = 0 := rfl
theorem pushSf_some {G : List Sg} {g : Sg} {seg : Int} {sf : Nat} (h : ((frs g.l).length : Int) < seg) : pushSf (G ++ [g]) seg sf = sf := by
  simp [pushSf, h]
theorem pushSf_more {G : List Sg} {g : Sg} {seg : Int} {sf : Nat} (h : ¬ ((frs g.l).length : Int) < seg) : pushSf (G ++ [g]) seg sf = 0 := by
  simp [pushSf, h]
theorem snoc_or {α : Type} (G : List α) : G = [] ∨ ∃ G0 g, G = G0 ++ [g] := by
  rcases List.eq_nil_or_concat G with h | ⟨G0, g, h⟩
  · exact .inl h
  · exact .inr ⟨G0, g, by rw [h, List.concat_eq_append]⟩
theorem push_flat (G : List Sg) (seg : Int) (b : Pl.Bt) : fla (push G seg b) = fla G ++ [b] := by
  rcases snoc_or G with rfl | ⟨G, g, rfl⟩
  · rfl
  · by_cases h : ((frs g.l).length : Int) < seg
    · rw [push_some h, fla_append, fla_append, fla_one, fla_one, List.append_assoc]
    · rw [push_more h, fla_append _ [_], fla_one]
theorem push_log {G : List Sg} {seg : Int} {b : Pl.Bt} (h : Log G) (hs : 1 ≤ seg) (hg : Pl.goodB b = true) (hb : b.base = gsEnd G) : Log (push G seg b) := by
  rcases snoc_or G with rfl | ⟨G, g, rfl⟩
  · have := good_bend hg
    rw [push_nil]
    exact Log.of (x := b.base) ⟨by omega, by omega⟩ ⟨rfl, ⟨hg, rfl, trivial⟩, fun h => absurd rfl h, trivial⟩
  · have he := gsEnd_snoc G g
    by_cases hl : ((frs g.l).length : Int) < seg
    · rw [push_some hl]
      exact h.last (Chain.append.2 ⟨h.chs g (by simp), hg, by rw [hb, he], trivial⟩)
    · rw [push_more hl, hb]
      refine h.snoc (fun e => ?_) ⟨hg, hb, trivial⟩
      rw [e, frs_nil] at hl
      simp at hl
      omega
theorem push_length (G : List Sg) (seg : Int) (b : Pl.Bt) : (push G seg b).length ≤ G.length + 1 := by
  rcases snoc_or G with rfl | ⟨G, g, rfl⟩
  · simp [push]
  · by_cases hl : ((frs g.l).length : Int) < seg
    · rw [push_some hl]; simp
    · rw [push_more hl]; simp
section
variable {P : List UInt8} {f : Ta.View} {G : List Sg} {sf : Nat}
theorem Fl.nil (P : List UInt8) : Fl P (fun _ => none) [] 0 := ⟨fun j g h => by simp at h, fun _ _ => rfl⟩
theorem Fl.last {g : Sg} (h : Fl P f (G ++ [g]) sf) : f (nm P g.first) = some (frs g.l, sf) := by
  have := h.hold G.length g (by simp)
  simpa using this
/-- The last segment's file is another one. -/
theorem Fl.change {g : Sg} (h : Fl P f (G ++ [g]) sf) (hg : Log (G ++ [g])) (l : List Pl.Bt) (s : Nat) : Fl P (Ta.upd f (nm P g.first) (some (frs l, s))) (G ++ [⟨g.first, l⟩]) s := by
  have hlg : (G ++ [g])[G.length]? = some g := by simp
  refine ⟨fun j y hy => ?_, fun k hk => ?_⟩
  · by_cases hj : j = G.length
    · subst hj
      rw [List.getElem?_append_right (Nat.le_refl _), Nat.sub_self] at hy
      cases hy
      rw [Ta.upd_same]
      simp
    · have hlt : j < G.length := by
        have := (List.getElem?_eq_some_iff.1 hy).1
        simp only [List.length_append, List.length_cons, List.length_nil] at this
        omega
      rw [List.getElem?_append_left hlt] at hy
      have hy' : (G ++ [g])[j]? = some y := by rw [List.getElem?_append_left hlt]; exact hy
      rw [Ta.upd_other _ _ fun e => hj (hg.one hy' hlg (nm_inj (hg.firsts y (List.mem_of_getElem? hy')) (hg.firsts g (by simp)) e))]
      have := h.hold j y hy'
      simpa [hj] using this
  · rw [Ta.upd_other _ _ fun e => hk ⟨g.first, l⟩ (by simp) e.symm]
    refine h.rest k fun y hy => ?_
    rcases List.mem_append.1 hy with hy | hy
    · exact hk y (by simp [hy])
    · rw [List.mem_singleton.1 hy]; exact hk ⟨g.first, l⟩ (by simp)
/-- A segment more, when all was safe. -/
theorem Fl.snoc (h : Fl P f G sf) (hs : ∀ G0 g, G = G0 ++ [g] → sf = (frs g.l).length) {y : Int} {l : List Pl.Bt} (hg : Log (G ++ [⟨y, l⟩])) (s : Nat) : Fl P (Ta.upd f (nm P y) (some (frs l, s))) (G ++ [⟨y, l⟩]) s := by
  have hlg : (G ++ [(⟨y, l⟩ : Sg)])[G.length]? = some ⟨y, l⟩ := by simp
  refine ⟨fun j z hz => ?_, fun k hk => ?_⟩
  · by_cases hj : j = G.length
    · subst hj
      rw [hlg] at hz
      cases hz
      rw [Ta.upd_same]
      simp
    · have hlt : j < G.length := by
        have := (List.getElem?_eq_some_iff.1 hz).1
        simp only [List.length_append, List.length_cons, List.length_nil] at this
        omega
      rw [Ta.upd_other _ _ fun e => hj (hg.one hz hlg (nm_inj (hg.firsts z (List.mem_of_getElem? hz)) (hg.firsts ⟨y, l⟩ (by simp)) e))]
      rw [List.getElem?_append_left hlt] at hz
      have := h.hold j z hz
      rw [this]
      simp only [List.length_append, List.length_cons, List.length_nil]
      rw [if_neg (show ¬ (j + 1 = G.length + (0 + 1)) by omega)]
      split
      · rename_i he
        rcases snoc_or G with rfl | ⟨G0, g, rfl⟩
        · cases hz
        · rw [hs G0 g rfl]
          have : j = G0.length := by simp at he; omega
          subst this
          rw [List.getElem?_append_right (Nat.le_refl _), Nat.sub_self] at hz
          cases hz
          rfl
      · rfl
  · rw [Ta.upd_other _ _ fun e => hk ⟨y, l⟩ (by simp) e.symm]
    exact h.rest k fun z hz => hk z (by simp [hz])
theorem Fl.fresh (h : Fl P f G sf) {y : Int} {l : List Pl.Bt} (hg : Log (G ++ [⟨y, l⟩])) : f (nm P y) = none := by
  refine h.rest _ fun g hm e => ?_
  have hy := hg.firsts ⟨y, l⟩ (by simp)
  have hgm := hg.firsts g (by simp [hm])
  obtain ⟨j, hj⟩ := List.getElem?_of_mem hm
  have hlt := (List.getElem?_eq_some_iff.1 hj).1
  have := hg.strict j G.length g ⟨y, l⟩ hlt (by rw [List.getElem?_append_left hlt]; exact hj) (by simp)
  have e2 := nm_inj hgm hy e
  simp only at this e2
  omega
theorem Fl.push_new (h : Fl P f G sf) (hs : ∀ G0 g, G = G0 ++ [g] → sf = (frs g.l).length) (hlog : Log G) {seg : Int} {b : Pl.Bt} (hseg : 1 ≤ seg) (hg : Pl.goodB b = true) (hb : b.base = gsEnd G) (hp : push G seg b = G ++ [⟨b.base, [b]⟩]) :
    f (nm P b.base) = none ∧ Fl P (Ta.upd f (nm P b.base) (some (fr b, 0))) (push G seg b) 0 := by
  have hl := push_log hlog hseg hg hb
  rw [hp] at hl ⊢
  have := h.snoc hs hl 0
  rw [frs_one] at this
  exact ⟨h.fresh hl, this⟩
theorem Fl.push_old {g : Sg} (h : Fl P f (G ++ [g]) sf) (hlog : Log (G ++ [g])) {seg : Int} {b : Pl.Bt} (hlt : ((frs g.l).length : Int) < seg) :
    f (nm P g.first) = some (frs g.l, sf) ∧ Fl P (Ta.upd f (nm P g.first) (some (frs g.l ++ fr b, sf))) (push (G ++ [g]) seg b) sf := by
  have := h.change hlog (g.l ++ [b]) sf
  rw [frs_append, frs_one] at this
  rw [push_some hlt]
  exact ⟨h.last, this⟩
end
end Go.Proofs.YtdaoeplblkfapaaGreatDoor

/- A segment's list that is appended to: what lies then. -/
namespace Go.Proofs.YtdaoeplblkfapaaGreatDoor
open Go.RowKit

/-- .. where own blocks, too, have changed. -/
theorem Moved.trans' {A B C own : Nat → Prop} {u v w : World} (h : Moved A B u v) (k : Moved (fun b => own b ∨ B b) C v w) (ho : ∀ b, own b → u.heap.size ≤ b) : Moved A C u w :=
  (h.mono (fun _ h => h) (B' := fun b => own b ∨ B b) fun b hb => hb.elim (fun h1 => .inr (ho b h1)) (h.new b)).trans k
/-- The segment that takes a batch: the last one, or a new one behind all. -/
def Takes (X : List Sx) (i : Nat) (x : Sx) : Prop := (X[i]? = some x ∧ i + 1 = X.length) ∨ (i = X.length ∧ x.lv = .slice none 0 0 ∧ x.lb = none ∧ x.L = [])
section
variable {w : World} {s : Nat} {h : Hs} {B : Nat → Prop} {f : Ta.View} {tot n : Nat} {c : Ta.Sc} {K : Kx} {i : Nat} {x : Sx}
theorem Takes.sl (k : Sd w s h B f tot n c K) (t : Takes K.X i x) : Sl w x.lv x.lb 34 6 x.L.length (x.L.flatMap bc6) := by
  rcases t with ⟨h1, -⟩ | ⟨-, h2, h3, h4⟩
  · exact k.lies.lists x (List.mem_of_getElem? h1)
  · rw [h2, h3, h4]; exact Sl.nil _ _ _
theorem Takes.rec (k : Sd w s h B f tot n c K) (t : Takes K.X i x) : All (fun k => ¬ B k ∧ K.A k) w x.L := by
  rcases t with ⟨h1, -⟩ | ⟨-, h2, h3, h4⟩
  · exact k.lies.recs x (List.mem_of_getElem? h1)
  · rw [h4]; intro p hp; cases hp
theorem Takes.ch (t : Takes K.X i x) : ∀ g, x.lb = some g → ∃ y, K.X[i]? = some y ∧ y.lb = some g := by
  rcases t with ⟨h1, -⟩ | ⟨-, h2, h3, h4⟩
  · exact fun g hg => ⟨x, h1, hg⟩
  · rw [h3]; intro g hg; cases hg
theorem Takes.lbB (k : Sd w s h B f tot n c K) (t : Takes K.X i x) : ∀ g, x.lb = some g → B g := fun g hg => by
  obtain ⟨y, h1, h2⟩ := t.ch g hg
  exact k.os g (.inr (.inr ⟨y, List.mem_of_getElem? h1, h2⟩))
theorem Takes.le (t : Takes K.X i x) : i ≤ K.X.length := by rcases t with ⟨-, h1⟩ | ⟨h1, -⟩ <;> omega
end
/-- What lies when the list has taken the batch. -/
structure Grown (w : World) (B A own : Nat → Prop) (x : Sx) (b : Pl.Bt) (gx : Nat) (x' : Sx) (wx : World) : Prop where
  first : x'.first = x.first
  bts : x'.bts = x.bts ++ [b]
  chg : Chg own x.lb w wx
  sl : Sl wx x'.lv x'.lb 34 6 x'.L.length (x'.L.flatMap bc6)
  lb : ∀ g, x'.lb = some g → x.lb = some g ∨ w.heap.size ≤ g
  rc : All (fun k => (k < w.heap.size ∧ ¬ B k ∧ A k) ∨ (w.heap.size ≤ k ∧ x'.lb ≠ some k)) wx x'.L
  gg : Blk wx gx #[.int .i64 x.first, .int .i64 ((frs x'.bts).length : Nat), x'.lv] 119
theorem flat_snoc6 (L : List (Pl.Bt × Value)) (p : Pl.Bt × Value) : (L ++ [p]).flatMap bc6 = L.flatMap bc6 ++ bc6 p := by simp
theorem grown_of {w : World} {s : Nat} {h : Hs} {B : Nat → Prop} {f : Ta.View} {tot n : Nat} {c : Ta.Sc} {K : Kx} {i : Nat} {x : Sx} (k : Sd w s h B f tot n c K) (t : Takes K.X i x) {own : Nat → Prop} (hown : ∀ b, own b → b < w.heap.size ∧ ¬ B b ∧ ¬ K.A b) {gx : Nat} (hgx : own gx) {y z : Nat} {b : Pl.Bt}
    (hgg : Blk w gx #[.int .i64 x.first, .int .i64 (y : Nat), x.lv] 119) (hz : y + (fr b).length = z) (hy : (frs x.bts).length = y)
    {wA w' : World} {rv : Value} (hA : Below (w.setCell ⟨gx, 1, none⟩ (.int .i64 z)).heap.size (w.setCell ⟨gx, 1, none⟩ (.int .i64 z)) wA) (hr : RcIn (fun k => w.heap.size ≤ k) wA rv b.recs) (cs : Array Value)
    {g q cap : Nat} {gb' : Option Nat} (hs : Sl w' (.slice (some ⟨g, q, none⟩) (x.L.length + 1) cap) gb' 34 6 (x.L.length + 1) (x.L.flatMap bc6 ++ bc6 (b, rv))) (hg : (wA.alloc (.cells cs 34)).grownBy w' x.lb) (hgb : gb' = some g) (hn : gb' = x.lb ∨ (wA.alloc (.cells cs 34)).heap.size ≤ g) :
    Grown w B K.A own x b gx ⟨x.first, .slice (some ⟨g, q, none⟩) (x.L.length + 1) cap, gb', x.L ++ [(b, rv)]⟩ (w'.setCell ⟨gx, 2, none⟩ (.slice (some ⟨g, q, none⟩) (x.L.length + 1) cap)) ∧ w'.cell? ⟨gx, 2, none⟩ = some x.lv ∧ w'.frozen? ⟨gx, 2, none⟩ = false := by
  have hsz : (w.setCell ⟨gx, 1, none⟩ (.int .i64 z)).heap.size = w.heap.size := by simp [World.setCell]
  have hsA : w.heap.size ≤ wA.heap.size := by have := hA.size; omega
  have hc1 : Chg own x.lb w (w.setCell ⟨gx, 1, none⟩ (.int .i64 z)) := (Chg.refl _ _ _).set _ hgx
  have hcA := hc1.below hA
  have hcB := hcA.alloc (.cells cs 34)
  have hcC := hcB.grown hg
  have hxB := t.lbB k
  have hgxl : x.lb ≠ some gx := fun e => (hown gx hgx).2.1 (hxB gx e)
  have hgl := (hown gx hgx).1
  have hG1 : Blk w' gx #[.int .i64 x.first, .int .i64 (z : Nat), x.lv] 119 := by
    have h1 := hgg.set (i := 1) (.int .i64 z)
    have h2 := (Blk.below h1 hA).alloc (.cells cs 34)
    exact h2.grown hg fun e => hgxl e.symm
  have hlb : ∀ g', gb' = some g' → x.lb = some g' ∨ w.heap.size ≤ g' := fun g' e => by
    rcases hn with h1 | h1
    · exact .inl (h1 ▸ e)
    · rw [hgb] at e
      cases e
      refine .inr ?_
      simp at h1
      omega
  refine ⟨⟨rfl, by simp [Sx.bts], hcC.set _ hgx, ?_, hlb, ?_, ?_⟩, hG1.cell rfl, hG1.free⟩
  · simp only [List.length_append, List.length_cons, List.length_nil, flat_snoc6]
    refine hs.same fun b' hb' => Below.heap_setCell _ _ _ _ ?_
    rintro rfl
    rcases hlb _ hb' with h1 | h1
    · exact hgxl h1
    · omega
  · intro p hp
    have hsz' : (w'.setCell ⟨gx, 2, none⟩ (.slice (some ⟨g, q, none⟩) (x.L.length + 1) cap)).heap.size = w'.heap.size := by simp [World.setCell]
    rcases List.mem_append.1 hp with hp | hp
    · refine (t.rec k p hp).keep (by rw [hsz']; exact hcC.size) fun b' hb' hl => ?_
      have ho : ¬ own b' := fun ho => (hown b' ho).2.2 hb'.2
      refine ⟨(Below.heap_setCell _ _ _ _ (by rintro rfl; exact ho hgx)).trans (hcC.block b' hl fun h => h.elim ho fun e => hb'.1 (hxB b' e)), .inl ⟨hl, hb'⟩⟩
    · rw [List.mem_singleton.1 hp]
      refine Rds.keep hr (by rw [hsz']; have h1 := hg.size; have h2 : (wA.alloc (.cells cs 34)).heap.size = wA.heap.size + 1 := by simp
                             omega) fun b' hb' hl => ?_
      have hne : x.lb ≠ some b' := fun e => by have := k.lt b' (hxB b' e); omega
      refine ⟨(Below.heap_setCell _ _ _ _ (by rintro rfl; omega)).trans ((hg.block b' (by simp; omega) fun e => hne e.symm).trans (Below.heap_alloc _ _ _ hl)), .inr ⟨hb', fun e => ?_⟩⟩
      simp only at e
      rcases hn with h1 | h1
      · exact hne (h1 ▸ e)
      · rw [hgb] at e
        cases e
        simp at h1
        omega
  · have e : (frs (Sx.bts ⟨x.first, .slice (some ⟨g, q, none⟩) (x.L.length + 1) cap, gb', x.L ++ [(b, rv)]⟩)).length = z := by
      rw [show Sx.bts ⟨x.first, .slice (some ⟨g, q, none⟩) (x.L.length + 1) cap, gb', x.L ++ [(b, rv)]⟩ = x.bts ++ [b] by simp [Sx.bts], frs_append, frs_one, List.length_append, hy, hz]
    rw [e]
    exact hG1.set (i := 2) _
/-- The segments' slice up to a place. -/
theorem segs_upto {w w1 : World} {s : Nat} {h : Hs} {B : Nat → Prop} {f : Ta.View} {tot n : Nat} {c : Ta.Sc} {K : Kx} {i : Nat} (k : Sd w s h B f tot n c K) (hi : i ≤ K.X.length) (hs : ∀ g, K.gb = some g → w1.heap[g]? = w.heap[g]?) :
    (K.v = .slice none 0 0 ∧ K.gb = none ∧ K.X = [] ∧ i = 0) ∨ ∃ g p cap, K.gb = some g ∧ K.v = .slice (some ⟨g, p, none⟩) K.X.length cap ∧ K.X.length ≤ cap ∧ Sl w1 (.slice (some ⟨g, p, none⟩) i cap) (some g) 119 3 i ((K.X.take i).flatMap sc3) := by
  have hsg := (k.lies.segs).same (w' := w1) hs
  have h2 := hsg.2
  rcases h2 with ⟨h3, h4, h5⟩ | ⟨g, p, cap, cur, h3, h4, h5, h6, h7⟩
  · exact .inl ⟨h3, h4, List.eq_nil_of_length_eq_zero h5, by omega⟩
  · rw [h3, h4] at hsg
    have := hsg.take hi
    rw [flat_take sc3 3 sc3_length] at this
    exact .inr ⟨g, p, cap, h3, h4, h6, this⟩
/-- The segment is put in its place. -/
theorem put_of {w wd w5 : World} {s : Nat} {h : Hs} {B : Nat → Prop} {f : Ta.View} {tot n : Nat} {c : Ta.Sc} {K : Kx} {i : Nat} {x x' : Sx} {b : Pl.Bt} (k : Sd w s h B f tot n c K) (t : Takes K.X i x) {own : Nat → Prop} (hown : ∀ b, own b → b < w.heap.size ∧ ¬ B b ∧ ¬ K.A b) {gx : Nat} (hG : Grown w B K.A own x b gx x' wd) (o : Obj)
    {g p cap : Nat} {gb' : Option Nat} (hs : Sl w5 (.slice (some ⟨g, p, none⟩) (i + 1) cap) gb' 119 3 (i + 1) ((K.X.take i).flatMap sc3 ++ sc3 x')) (hg : (wd.alloc o).grownBy w5 K.gb) (hgb : gb' = some g) (hn : gb' = K.gb ∨ (wd.alloc o).heap.size ≤ g) :
    (∃ B' K', Sd (w5.setCell ⟨s, 4, none⟩ (.slice (some ⟨g, p, none⟩) (i + 1) cap)) s h B' f tot n c K' ∧ Moved (fun b => own b ∨ B b) B' w (w5.setCell ⟨s, 4, none⟩ (.slice (some ⟨g, p, none⟩) (i + 1) cap)) ∧ K'.G = K.G.take i ++ [⟨x.first, x.bts ++ [b]⟩] ∧ ∀ b, K'.A b → K.A b ∨ w.heap.size ≤ b) ∧
      w5.cell? ⟨s, 4, none⟩ = some K.v ∧ w5.frozen? ⟨s, 4, none⟩ = false := by
  have m2 : Chg own K.gb wd w5 := ((Chg.refl _ _ _).alloc o).grown hg
  have hsB : B s := k.os s (.inl rfl)
  have hlow : ∀ g', gb' = some g' → K.gb = some g' ∨ wd.heap.size ≤ g' := fun g' e => by
    rcases hn with h1 | h1
    · exact .inl (h1 ▸ e)
    · rw [hgb] at e
      cases e
      refine .inr ?_
      simp at h1
      omega
  obtain ⟨B', h1, h2⟩ := k.putA hown t.le (ch := x.lb) t.ch hG.chg x' hG.sl hG.lb hG.rc m2 (.slice (some ⟨g, p, none⟩) (i + 1) cap) gb' hs hlow
  have hxs : x.lb ≠ some s := fun e => by
    obtain ⟨y, hy, e'⟩ := t.ch s e
    exact (k.lies.sl y (List.mem_of_getElem? hy)).1 e'
  have hs1 : Blk w5 s (hcells h K.v) 99 := by
    have hh := k.lies.head
    refine hh.same ((m2.block s (Nat.lt_of_lt_of_le hh.lt hG.chg.size) fun h => h.elim (fun ho => (hown s ho).2.1 hsB) k.lies.sg).trans (hG.chg.block s hh.lt fun h => h.elim (fun ho => (hown s ho).2.1 hsB) hxs))
  refine ⟨⟨B', _, h1, h2, ?_, fun b hb => hb⟩, hs1.cell rfl, hs1.free⟩
  show (K.X.take i ++ [x']).map Sx.sg = _
  rw [List.map_append, List.map_take]
  show _ ++ [x'.sg] = _
  rw [show x'.sg = ⟨x.first, x.bts ++ [b]⟩ by unfold Sx.sg; rw [hG.first, hG.bts]]
  rfl
end Go.Proofs.YtdaoeplblkfapaaGreatDoor

/- THE CONTRACT OF strand's take. -/
namespace Go.Proofs.YtdaoeplblkfapaaGreatDoor
open Go.RowKit

/-- A segment that was made is put behind all. -/
theorem snoc_put {w wd w5 : World} {s : Nat} {h : Hs} {B : Nat → Prop} {f : Ta.View} {tot n : Nat} {c : Ta.Sc} {K : Kx} (k : Sd w s h B f tot n c K) (hb : Below w.heap.size w wd) (x' : Sx) (hl : Sl wd x'.lv x'.lb 34 6 x'.L.length (x'.L.flatMap bc6)) (hlb : ∀ g, x'.lb = some g → w.heap.size ≤ g)
    (hr : All (fun k => w.heap.size ≤ k ∧ x'.lb ≠ some k) wd x'.L) (o : Obj)
    {g p cap : Nat} {gb' : Option Nat} (hs : Sl w5 (.slice (some ⟨g, p, none⟩) (K.X.length + 1) cap) gb' 119 3 (K.X.length + 1) (K.X.flatMap sc3 ++ sc3 x')) (hg : (wd.alloc o).grownBy w5 K.gb) (hgb : gb' = some g) (hn : gb' = K.gb ∨ (wd.alloc o).heap.size ≤ g) :
    (∃ B' K', Sd (w5.setCell ⟨s, 4, none⟩ (.slice (some ⟨g, p, none⟩) (K.X.length + 1) cap)) s h B' f tot n c K' ∧ Moved B B' w (w5.setCell ⟨s, 4, none⟩ (.slice (some ⟨g, p, none⟩) (K.X.length + 1) cap)) ∧ K'.G = K.G ++ [x'.sg] ∧ K'.A = fun _ => True) ∧
      w5.cell? ⟨s, 4, none⟩ = some K.v ∧ w5.frozen? ⟨s, 4, none⟩ = false := by
  have m1 : Chg (fun _ => False) none w wd := Moved.of_below hb
  have m2 : Chg (fun _ => False) K.gb wd w5 := ((Chg.refl _ _ _).alloc o).grown hg
  have hlow : ∀ g', gb' = some g' → K.gb = some g' ∨ wd.heap.size ≤ g' := fun g' e => by
    rcases hn with h1 | h1
    · exact .inl (h1 ▸ e)
    · rw [hgb] at e
      cases e
      refine .inr ?_
      simp at h1
      omega
  obtain ⟨B', h1, h2⟩ := k.put (own := fun _ => False) (fun b hb => hb.elim) (Nat.le_refl _) (ch := none) (fun g hg => by cases hg) m1 x' hl (fun g hg => .inr (hlb g hg)) (fun p hp => (hr p hp).mono fun _ h => .inr h) m2 (.slice (some ⟨g, p, none⟩) (K.X.length + 1) cap) gb' (by rw [List.take_length]; exact hs) hlow
  have hs1 : Blk w5 s (hcells h K.v) 99 := by
    have hh := k.lies.head
    refine hh.same ((m2.block s (Nat.lt_of_lt_of_le hh.lt hb.size) fun h => h.elim id k.lies.sg).trans (hb.block s hh.lt))
  refine ⟨⟨B', _, h1, h2.mono (fun b hb => hb.elim False.elim id) (fun b hb => ?_), ?_, rfl⟩, hs1.cell rfl, hs1.free⟩
  · rcases h2.new b hb with h3 | h3
    · exact h3.elim False.elim .inl
    · exact .inr h3
  · show (K.X.take K.X.length ++ [x']).map Sx.sg = _
    rw [List.take_length, List.map_append]
    rfl

/-- What take leaves of a tape that isn't armed. -/
def TakeOut (w : World) (s : Nat) (h : Hs) (B : Nat → Prop) (f : Ta.View) (tot n : Nat) (c : Ta.Sc) (K : Kx) (z : Int) (L : List UInt8) (sf a : Nat) (e : Ending) (w' : World) : Prop :=
  ∃ (B' : Nat → Prop) (K' : Kx), K'.G = K.G ++ [⟨z, (found L z).1⟩] ∧ Moved B B' w w' ∧ (found L z).2 ≤ L.length ∧
    (((found L z).2 = L.length ∧ e = .returned (.tuple #[.bool true, .int .i64 0]) ∧ Sd w' s h B' f tot n c K') ∨
     ((found L z).2 ≠ L.length ∧ e = .returned (.tuple #[.bool false, .int .i64 0]) ∧ ∃ c', Sd w' s h B' (Ta.upd f (nm h.P z) (some (L.take (found L z).2, min sf (found L z).2))) (tot - L.length + (found L z).2) n c' K' ∧ Run c' (a + 1) h.life ∧ c'.armed = 0 ∧ c'.room = c.room))
set_option maxHeartbeats 4000000 in
set_option maxRecDepth 100000 in
theorem take_any {w : World} {s : Nat} {h : Hs} {B : Nat → Prop} {f : Ta.View} {tot n : Nat} {c : Ta.Sc} {K : Kx} (kk : Sd w s h B f tot n c K) (lb : Lb w) (hB : ∀ b, B b → 8 ≤ b) (hP : h.P.length ≤ 1048576) (hX : K.X.length ≤ 1048576)
    {a : Nat} (q : Run c a h.life) (harm : c.armed = 0) (ha : a + 1 ≤ 1099511627776) (hl : h.life ≤ 1099511627776) (hroom : c.room ≤ 1048576) (z : Int) (hz : 0 ≤ z ∧ z ≤ 1099511627776) (L : List UInt8) (sf : Nat) (hf : f (nm h.P z) = some (L, sf)) :
    Calls Tryz.prog 108 #[.pointer (some ⟨s, 0, none⟩), .int .i64 z] w (TakeOut w s h B f tot n c K z L sf a) := by
  have c0 : w.cell? ⟨s, 0, none⟩ = some (.pointer (some ⟨h.t, 0, none⟩)) := kk.lies.head.cell rfl
  have hks := kk.lies.head.lt
  obtain ⟨Tt, hst, -⟩ := kk.tape
  have hLt : L.length ≤ 1048576 := by have h1 := hst.sized hf; have h2 := hst.fit; omega
  have hNM := fun (wx : World) (hbx : Below w.heap.size w wx) => name_any wx (lb.below lb.size hbx) s h _ (kk.lies.head.below hbx) hP z hz.1 hz.2
  have hRD := fun (wx : World) (hbx : Below w.heap.size w wx) => show Calls Tryz.prog 144 #[.pointer (some ⟨h.t, 0, none⟩), .string ⟨(nm h.P z).toArray⟩] wx fun e w' => e = .returned (.tuple #[.string ⟨L.toArray⟩, .int .i64 0]) ∧ Below wx.heap.size wx w' from (Ta.s_read (hst.below hbx) q.on (nm h.P z) L sf hf).mono fun e w' ⟨he, hw⟩ => ⟨he, hw ▸ Below.refl _ _⟩
  obtain ⟨M, hM⟩ : ∃ M : ByteArray, (⟨(nm h.P z).toArray⟩ : ByteArray) = M := ⟨_, rfl⟩
  obtain ⟨T, hT⟩ : ∃ T : ByteArray, (⟨L.toArray⟩ : ByteArray) = T := ⟨_, rfl⟩
  rw [hM] at hNM
  rw [hM, hT] at hRD
  have hTs : T.size = L.length := by rw [← hT]; exact size_list _
  have hTl : T.data.toList = L := by rw [← hT]
  have k0 : ∀ d os, _ := cell_regrown c0
  have HNM := Lib.hid fun d os => Calls.regrown_of (hNM _ (below_regrown w d os))
  have HRD := Lib.hid fun d os => Calls.regrown_of (hRD _ (below_regrown w d os))
  have HNM2 := Lib.hid hNM
  have HKK := Lib.hid kk
  have HLB := Lib.hid lb
  have HM := Lib.hid hM
  have HTS := Lib.hid hTs
  have HTL := Lib.hid hTl
  have HF := Lib.hid hf
  have HQ := Lib.hid q
  clear kk hst lb hNM hRD hM hT hTs hTl hf q
  go_enter Tryz.func108, Tryz.ntmps108
  go_wp2_with fail
  refine wp_region_quiet_below (by kernel_rfl) (by kernel_rfl) ?_
  repeat (go_big_quiet_step (first | (go_at_call 81; with_reducible exact HNM.out _ _) | (go_at_call 144; with_reducible exact HRD.out _ _)))
  refine wpQuiet_nil ?_
  intro w1 hw1
  obtain ⟨⟨dq, osq⟩, hw1'⟩ := hw1
  have H1 : Hid (Below w.heap.size w w1) := by rw [hw1']; exact below_regrown w dq osq
  clear hw1' HNM HRD k0 c0
  have HBA := Lib.hid (batches_any T z w1 (HLB.out.below HLB.out.size H1.out) (by rw [HTS.out]; exact hLt) (by omega))
  go_wp2_with fail
  refine HBA.out.mono ?_
  rintro e w2 ⟨v, gb, Lq, rfl, hLq, hsl, hnew, hall, hb2⟩
  rw [HTL.out] at hLq ⊢
  have hlow := H1.out.trans (hb2.mono H1.out.size)
  obtain ⟨va, vc, hv⟩ := hsl.form
  obtain ⟨m, hm⟩ : ∃ m, Lq.length = m := ⟨_, rfl⟩
  obtain ⟨N, hN⟩ : ∃ N, K.X.length = N := ⟨_, rfl⟩
  obtain ⟨n2, hn2⟩ : ∃ n2, (found L z).2 = n2 := ⟨_, rfl⟩
  rw [hv, hm] at hsl
  rw [hv, hm, hn2]
  obtain ⟨ka, kc, hkv⟩ := HKK.out.lies.segs.form
  rw [hN] at hkv
  have hfd := (found_chain _ L z (Nat.lt_succ_self _)).2
  have hfl : (found L z).2 ≤ L.length := by
    have h1 := congrArg List.length hfd.2
    rw [List.length_take, ← hfd.1] at h1
    omega
  have hk2 := HKK.out.below hlow
  have d4 : w2.cell? ⟨s, 4, none⟩ = some (.slice ka N kc) := by rw [← hkv]; exact hk2.lies.head.cell rfl
  have hs2 : s < w2.heap.size := hk2.lies.head.lt
  have HSG : Hid (∀ o : Obj, Sl (w2.alloc o) (.slice ka N kc) K.gb 119 3 N (K.X.flatMap sc3)) := Lib.hid fun o => by
    have := hk2.lies.segs.alloc o
    rw [hkv, hN] at this
    exact this
  have hsc3 : sc3 ⟨z, .slice va m vc, gb, Lq⟩ = [.int .i64 z, .int .i64 n2, .slice va m vc] := by
    unfold sc3 Sx.bts
    simp only
    rw [hLq, ← hfd.1, hn2]
  have HPUT : Hid (∀ (w5 : World) (o : Obj) (g p cap : Nat) (gb' : Option Nat), Sl w5 (.slice (some ⟨g, p, none⟩) (N + 1) cap) gb' 119 3 (N + 1) (K.X.flatMap sc3 ++ [.int .i64 z, .int .i64 n2, .slice va m vc]) → (w2.alloc o).grownBy w5 K.gb → gb' = some g → (gb' = K.gb ∨ (w2.alloc o).heap.size ≤ g) →
      (∃ B' K', Sd (w5.setCell ⟨s, 4, none⟩ (.slice (some ⟨g, p, none⟩) (N + 1) cap)) s h B' f tot n c K' ∧ Moved B B' w (w5.setCell ⟨s, 4, none⟩ (.slice (some ⟨g, p, none⟩) (N + 1) cap)) ∧ K'.G = K.G ++ [⟨z, (found L z).1⟩]) ∧ w5.cell? ⟨s, 4, none⟩ = some (.slice ka N kc) ∧ w5.frozen? ⟨s, 4, none⟩ = false) := Lib.hid fun w5 o g p cap gb' h1 h2 h3 h4 => by
    rw [← hsc3, ← hN] at h1
    obtain ⟨⟨B', K', k1, k2, k3, -⟩, k4, k5⟩ := snoc_put HKK.out hlow ⟨z, .slice va m vc, gb, Lq⟩ (by show Sl w2 _ gb _ 6 Lq.length _; rw [hm]; exact hsl) (fun g hg => by have := hnew g hg; have := H1.out.size; omega) (hall.mono fun k hk => ⟨by have := H1.out.size; omega, hk.2⟩) o h1 h2 h3 h4
    rw [hN] at k1 k2
    rw [hkv] at k4
    refine ⟨⟨B', K', k1, k2, ?_⟩, k4, k5⟩
    rw [k3]
    unfold Sx.sg Sx.bts
    simp only
    rw [hLq]
  have HNWS : Hid (∀ (W : World) (cs : Array Value) j u, cs.toList[j]? = some u → World.cell? (W.alloc (.cells cs 119)) (Addr.add ⟨W.heap.size, 0, none⟩ j) = some u) := Lib.hid fun W cs => World.news_of_block (cs := cs) (t := 119) (fr := (0, 0)) (heap_alloc_new W _)
  obtain ⟨i1, hi1, hy0, hy1, hy2⟩ := infoSg
  have HBY : Hid ((N + 1) * 40 ≤ 140737488355328) := by show _ ≤ _; omega
  have H63 : Hid (N + 1 ≤ 9223372036854775807) := by show _ ≤ _; omega
  have HN2 := Lib.hid hn2
  have HFL := Lib.hid hfl
  have HTS' := HTS.out
  obtain ⟨Z, hZ⟩ : ∃ Z, L.length = Z := ⟨_, rfl⟩
  have HZ := Lib.hid hZ
  rw [hZ] at HTS'
  clear hk2 hkv hn2 hfl hfd hsc3 hm hv hN hLq hsl hnew hall HTS hZ
  by_cases hq : n2 = Z
  · have hqb : ((n2 : Int) == (Z : Int)) = true := by simp [hq]
    have HQE := Lib.hid hq
    clear hq
    go_wp2_with (at_builtin; refine wpList_append_sl _ (by rfl) _ _ _ (by rfl) 119 i1 (.agg #[.int .i64 0, .int .i64 0, .slice none 0 0]) 3 40 Tryz.underlying97 hi1 hy0 hy1 hy2 rfl (.slice ka N kc) K.gb N (K.X.flatMap sc3) (by rfl) (HSG.out _) ⟨w2.heap.size, 0, none⟩ 1 1 [.int .i64 z, .int .i64 n2, .slice va m vc] (by rfl) (by rfl) (HNWS.out w2 #[.int .i64 z, .int .i64 n2, .slice va m vc]) (by simp [Value.oneCell']) (by decide) HBY.out H63.out ?_; intro g9 q9 cap9 w9' gb9 hown9 hgrow9 hgb9 hnew9; obtain ⟨⟨B', K', hT9, hm9, hK9⟩, c9, f9⟩ := HPUT.out w9' _ g9 q9 cap9 gb9 hown9 hgrow9 hgb9 (hnew9.imp id (fun h => by simpa using h)); have HT9 := Lib.hid hT9; have HM9 := Lib.hid hm9; have HK9 := Lib.hid hK9; clear hT9 hown9 hgrow9 hgb9 hnew9 hm9 hK9)
    go_ret2
    exact ⟨B', K', HK9.out, HM9.out, HFL.out, .inl ⟨by rw [HN2.out, HZ.out, HQE.out], rfl, HT9.out⟩⟩
  · have hqb : ((n2 : Int) == (Z : Int)) = false := by simp; omega
    go_wp2_with (at_builtin; refine wpList_append_sl _ (by rfl) _ _ _ (by rfl) 119 i1 (.agg #[.int .i64 0, .int .i64 0, .slice none 0 0]) 3 40 Tryz.underlying97 hi1 hy0 hy1 hy2 rfl (.slice ka N kc) K.gb N (K.X.flatMap sc3) (by rfl) (HSG.out _) ⟨w2.heap.size, 0, none⟩ 1 1 [.int .i64 z, .int .i64 n2, .slice va m vc] (by rfl) (by rfl) (HNWS.out w2 #[.int .i64 z, .int .i64 n2, .slice va m vc]) (by simp [Value.oneCell']) (by decide) HBY.out H63.out ?_; intro g9 q9 cap9 w9' gb9 hown9 hgrow9 hgb9 hnew9; obtain ⟨⟨B', K', hT9, hm9, hK9⟩, c9, f9⟩ := HPUT.out w9' _ g9 q9 cap9 gb9 hown9 hgrow9 hgb9 (hnew9.imp id (fun h => by simpa using h)); have HT9 := Lib.hid hT9; have HM9 := Lib.hid hm9; have HK9 := Lib.hid hK9; clear hT9 hown9 hgrow9 hgb9 hnew9 hm9 hK9)
    have c0 : (w9'.setCell ⟨s, 4, none⟩ (.slice (some ⟨g9, q9, none⟩) (N + 1) cap9)).cell? ⟨s, 0, none⟩ = some (.pointer (some ⟨h.t, 0, none⟩)) := HT9.out.lies.head.cell rfl
    obtain ⟨lb9, h8⟩ := HLB.out.moved hB HM9.out
    have hNM := fun (wx : World) (hbx : Below (w9'.setCell ⟨s, 4, none⟩ (.slice (some ⟨g9, q9, none⟩) (N + 1) cap9)).heap.size (w9'.setCell ⟨s, 4, none⟩ (.slice (some ⟨g9, q9, none⟩) (N + 1) cap9)) wx) => name_any wx (lb9.below lb9.size hbx) s h _ (HT9.out.lies.head.below hbx) hP z hz.1 hz.2
    rw [HM.out] at hNM
    obtain ⟨W9, hW9⟩ : ∃ W9, (w9'.setCell ⟨s, 4, none⟩ (.slice (some ⟨g9, q9, none⟩) (N + 1) cap9)) = W9 := ⟨_, rfl⟩
    rw [hW9] at HT9 HM9 c0 hNM ⊢
    have HNM := Lib.hid fun d os => Calls.regrown_of (hNM _ (below_regrown W9 d os))
    have k0 : ∀ d os, _ := cell_regrown c0
    clear hNM lb9 h8 hW9
    refine wp_region_below_tail 8 (by kernel_rfl) (by kernel_rfl) ?_
    simp only [List.take_succ_cons, List.take_zero, List.drop_succ_cons, List.drop_zero]
    repeat (go_big_quiet_step ((go_at_call 81; with_reducible exact HNM.out _ _)))
    refine wpQuiet_nil ?_
    intro w3 hw3
    obtain ⟨⟨dq, osq⟩, hw3'⟩ := hw3
    have H3 : Hid (Below W9.heap.size W9 w3) := by rw [hw3']; exact below_regrown W9 dq osq
    clear hw3' HNM k0 c0
    have k2 := HT9.out.below H3.out
    obtain ⟨Tt3, hst, hup⟩ := k2.tape
    have hlt : n2 < Z := by have h1 := HFL.out; rw [HN2.out, HZ.out] at h1; omega
    have hcut := Ta.s_cut hst (HQ.out.small (by omega) hl) (nm h.P z) L sf n2 HF.out (by rw [HZ.out]; omega) (by rw [HZ.out]; omega)
    rw [HM.out] at hcut
    have HCUT := Lib.hid hcut
    have HUP := Lib.hid hup
    clear k2 hst hcut hup
    go_wp2_with fail
    refine HCUT.out.mono ?_
    rintro e w4 ⟨rfl, Tt4, hS4, hm4⟩
    obtain ⟨B4, hSd4, hmv4⟩ := HUP.out _ _ _ _ _ _ hS4 hm4
    have hroom4 := Ta.actS_room c
    rcases HQ.out.split with ⟨ha0, hrun, harm4⟩ | ⟨ha0, hgone, harm4⟩
    · rw [ha0]
      have hres : TakeOut w s h B f tot n c K z L sf a (.returned (.tuple #[.bool false, .int .i64 0])) w4 :=
        ⟨B4, K', HK9.out, HM9.out.trans ((Moved.of_below H3.out).trans hmv4), HFL.out, .inr ⟨by rw [HN2.out, HZ.out]; exact hq, rfl, Ta.actS c, by rw [HN2.out]; exact hSd4, hrun, harm4 harm, hroom4⟩⟩
      have HRES := Lib.hid hres
      clear ha0 hrun harm4 hroom4 hSd4 hmv4 hS4 hm4 hres HCUT HUP
      go_wp2_with fail
      go_ret2
      exact HRES.out
    · omega
end Go.Proofs.YtdaoeplblkfapaaGreatDoor

/- PLAIN MATHEMATICS OF OPENING: which numbers the names tell; what is found, what goes. -/
namespace Go.Proofs.YtdaoeplblkfapaaGreatDoor
open Go.RowKit

theorem mem_nums {P : List UInt8} {ss : List (List UInt8)} {z : Int} : z ∈ numsOf P ss ↔ (0 ≤ z ∧ z ≤ 1099511627776) ∧ nm P z ∈ ss := by
  unfold numsOf
  rw [List.mem_filterMap]
  constructor
  · rintro ⟨k, hk, e⟩
    obtain ⟨h0, h1, h2⟩ := numOf_some e
    exact ⟨⟨h0, h1⟩, h2 ▸ hk⟩
  · rintro ⟨⟨h0, h1⟩, hm⟩
    exact ⟨_, hm, numOf_nm h0 h1⟩
theorem nums_rise {P : List UInt8} {ss : List (List UInt8)} (hs : ss.Pairwise fun x y => x ≤ y) (hn : ss.Nodup) : (numsOf P ss).Pairwise fun x y => x < y := by
  have h : ss.Pairwise fun x y => x ≤ y ∧ x ≠ y := List.pairwise_and_iff.2 ⟨hs, hn⟩
  unfold numsOf
  rw [List.pairwise_filterMap]
  refine h.imp fun {x y} hxy a ha b hb => ?_
  obtain ⟨a0, a1, ea⟩ := numOf_some ha
  obtain ⟨b0, b1, eb⟩ := numOf_some hb
  rcases Int.lt_trichotomy a b with h1 | rfl | h1
  · exact h1
  · exact absurd (ea.trans eb.symm) hxy.2
  · have := nm_lt (P := P) b0 h1 a1
    rw [← ea, ← eb] at this
    exact absurd this (List.not_lt.2 hxy.1)
/-- What is read behind a place. -/
theorem Rds.suffix {A : Nat → Prop} {w : World} {b p N cap size : Nat} {xs : List Value} (h : Rds A w (.slice (some ⟨b, p, none⟩) N cap) size N xs) {j : Nat} (hj : j ≤ N) (ad : Addr) (cap' : Nat) (hd : j < N → ad = ⟨b, p + j * size, none⟩) : Rds A w (.slice (some ad) (N - j) cap') size (N - j) (xs.drop (j * size)) := by
  refine ⟨by rw [List.length_drop, h.1, Nat.sub_mul], .inr ⟨ad, cap', rfl, fun h0 => ?_⟩⟩
  obtain ⟨b', p', c', e, ha, hb, hc⟩ := h.at (by omega)
  injection e with e1 e2 e3
  injection e1 with e1
  injection e1 with e4 e5
  subst e4 e5
  exact ⟨b, p + j * size, hd (by omega), ha, hb, fun i x hx => by rw [List.getElem?_drop] at hx; rw [Nat.add_assoc]; exact hc _ x hx⟩
theorem Rds.prefix {A : Nat → Prop} {w : World} {ad : Addr} {N cap size : Nat} {xs : List Value} (h : Rds A w (.slice (some ad) N cap) size N xs) {j : Nat} (hj : j ≤ N) (cap' : Nat) : Rds A w (.slice (some ad) j cap') size j (xs.take (j * size)) := by
  refine ⟨by rw [List.length_take, h.1]; exact Nat.min_eq_left (Nat.mul_le_mul_right _ hj), .inr ⟨ad, cap', rfl, fun h0 => ?_⟩⟩
  obtain ⟨b', p', c', e, ha, hb, hc⟩ := h.at (by omega)
  injection e with e1 e2 e3
  injection e1 with e1
  subst e1
  refine ⟨b', p', rfl, ha, hb, fun i x hx => hc _ x ?_⟩
  rw [List.getElem?_take] at hx
  split at hx
  · exact hx
  · cases hx
def byt (P : List UInt8) (f : Ta.View) (z : Int) : List UInt8 := match f (nm P z) with
  | some (L, _) => L
  | none => []
def sfo (P : List UInt8) (f : Ta.View) (z : Int) : Nat := match f (nm P z) with
  | some (_, s) => s
  | none => 0
/-- The segments that are found of files, in order, and what the names hold then. -/
def walkF (P : List UInt8) (f : Ta.View) : List Int → List Sg → Ta.View × List Sg
  | [], G => (f, G)
  | z :: zs, G =>
    if G ≠ [] ∧ z ≠ gsEnd G then (fdrop P f (z :: zs), G)
    else if (found (byt P f z) z).2 = (byt P f z).length then walkF P f zs (G ++ [⟨z, (found (byt P f z) z).1⟩])
    else (fdrop P (Ta.upd f (nm P z) (some ((byt P f z).take (found (byt P f z) z).2, min (sfo P f z) (found (byt P f z) z).2))) zs, G ++ [⟨z, (found (byt P f z) z).1⟩])
theorem walkF_gap {P : List UInt8} {f : Ta.View} {z : Int} {zs : List Int} {G : List Sg} (h : G ≠ []) (hz : z ≠ gsEnd G) : walkF P f (z :: zs) G = (fdrop P f (z :: zs), G) := by
  simp only [walkF]
  rw [if_pos ⟨h, hz⟩]
theorem walkF_whole {P : List UInt8} {f : Ta.View} {z : Int} {zs : List Int} {G : List Sg} {L : List UInt8} {sf : Nat} (h : G = [] ∨ z = gsEnd G) (hf : f (nm P z) = some (L, sf)) (hw : (found L z).2 = L.length) : walkF P f (z :: zs) G = walkF P f zs (G ++ [⟨z, (found L z).1⟩]) := by
  have hb : byt P f z = L := by unfold byt; rw [hf]
  have hc : ¬ (G ≠ [] ∧ z ≠ gsEnd G) := fun hc => h.elim hc.1 hc.2
  simp only [walkF]
  rw [if_neg hc, hb, if_pos hw]
theorem walkF_part {P : List UInt8} {f : Ta.View} {z : Int} {zs : List Int} {G : List Sg} {L : List UInt8} {sf : Nat} (h : G = [] ∨ z = gsEnd G) (hf : f (nm P z) = some (L, sf)) (hw : (found L z).2 ≠ L.length) :
    walkF P f (z :: zs) G = (fdrop P (Ta.upd f (nm P z) (some (L.take (found L z).2, min sf (found L z).2))) zs, G ++ [⟨z, (found L z).1⟩]) := by
  have hb : byt P f z = L := by unfold byt; rw [hf]
  have hs : sfo P f z = sf := by unfold sfo; rw [hf]
  have hc : ¬ (G ≠ [] ∧ z ≠ gsEnd G) := fun hc => h.elim hc.1 hc.2
  simp only [walkF]
  rw [if_neg hc, hb, hs, if_neg hw]
end Go.Proofs.YtdaoeplblkfapaaGreatDoor
