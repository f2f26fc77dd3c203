/- PLAIN MATHEMATICS OF BATCHES READ: what a reader meets in a batch's bytes; what bytes are a batch's. -/
import Derived.Test.YthhlegfmikidpaaDoorCPlain
import Derived.Test.YthhlegfmikidpaaDoorWalk4
namespace Go.Proofs.YthhlegfmikidpaaDoor

theorem int_good {u : St} (hb : (St.int u).2.bad = false) : u.bad = false ∧ u.s = Pl.wInt (St.int u).1 ++ (St.int u).2.s ∧ Pl.I64 (St.int u).1 := by
  obtain ⟨s, bad⟩ := u
  cases bad with
  | true => exact absurd hb (by simp [St.int])
  | false =>
    cases hr : Pl.rInt s with
    | none => simp [St.int, hr] at hb
    | some p =>
      obtain ⟨n, r⟩ := p
      have h := Pl.rInt_some hr
      simp [St.int, hr]
      exact h
theorem text_good {most : Int} {u : St} (hb : (St.text most u).2.bad = false) : u.bad = false ∧ u.s = Pl.wText (St.text most u).1 ++ (St.text most u).2.s ∧ ((St.text most u).1.length : Int) ≤ most := by
  obtain ⟨s, bad⟩ := u
  cases bad with
  | true => exact absurd hb (by simp [St.text])
  | false =>
    cases hr : Pl.rText most s with
    | none => simp [St.text, hr] at hb
    | some p =>
      obtain ⟨t, r⟩ := p
      obtain ⟨h1, h2, -⟩ := Pl.rText_some hr
      simp [St.text, hr]
      exact ⟨h1, h2⟩
theorem byte_good {c : UInt8} {u : St} (hb : (St.byte c u).bad = false) : u.bad = false ∧ u.s = c :: (St.byte c u).s := by
  obtain ⟨s, bad⟩ := u
  cases bad with
  | true => exact absurd hb (by simp [St.byte])
  | false =>
    cases hr : Pl.rByte c s with
    | none => simp [St.byte, hr] at hb
    | some r =>
      have h := Pl.rByte_some hr
      simp [St.byte, hr]
      exact h
theorem int_w (n : Int) (h : Pl.I64 n) (r : List UInt8) : St.int ⟨Pl.wInt n ++ r, false⟩ = (n, ⟨r, false⟩) := by
  simp [St.int, Pl.rInt_w n h r]
theorem text_w (t : List UInt8) (most : Int) (h : (t.length : Int) ≤ most) (hb : (t.length : Int) ≤ 9223372036854775807) (r : List UInt8) : St.text most ⟨Pl.wText t ++ r, false⟩ = (t, ⟨r, false⟩) := by
  simp [St.text, Pl.rText_w t most h hb r]
theorem byte_w (c : UInt8) (r : List UInt8) : St.byte c ⟨c :: r, false⟩ = ⟨r, false⟩ := by simp [St.byte, Pl.rByte]

/-- A record read: the record, its last number, where the reader stands then. -/
def rdR (u : St) : Pl.Rc × Int × St :=
  (⟨(St.int (St.byte 108 u)).1, (St.text 16 (St.int (St.byte 108 u)).2).1, (St.text 64 (St.text 16 (St.int (St.byte 108 u)).2).2).1, (St.int (St.text 64 (St.text 16 (St.int (St.byte 108 u)).2).2).2).1 == 1⟩,
    (St.int (St.text 64 (St.text 16 (St.int (St.byte 108 u)).2).2).2).1, St.byte 101 (St.int (St.text 64 (St.text 16 (St.int (St.byte 108 u)).2).2).2).2)
theorem goneN_64 (g : Bool) : Pl.I64 (Pl.goneN g) := by unfold Pl.I64 Pl.goneN; cases g <;> simp
theorem rdR_w (x : Pl.Rc) (hx : Pl.recB x = true) (ho : Pl.I64 x.off) (r : List UInt8) : rdR ⟨Pl.encR x ++ r, false⟩ = (x, Pl.goneN x.gone, ⟨r, false⟩) := by
  obtain ⟨hk, hv, -⟩ := Pl.recB_iff.1 hx
  have e : Pl.encR x ++ r = 108 :: (Pl.wInt x.off ++ (Pl.wText x.key ++ (Pl.wText x.val ++ (Pl.wInt (Pl.goneN x.gone) ++ (101 :: r))))) := by simp [Pl.encR]
  unfold rdR
  rw [e, byte_w, int_w _ ho]
  simp only
  rw [text_w _ _ (by omega) (by omega)]
  simp only
  rw [text_w _ _ (by omega) (by omega)]
  simp only
  rw [int_w _ (goneN_64 _)]
  simp only
  rw [byte_w]
  have : (Pl.goneN x.gone == 1) = x.gone := by unfold Pl.goneN; cases x.gone <;> rfl
  rw [this]
theorem rdR_good {u : St} (hb : (rdR u).2.2.bad = false) (hg : (rdR u).2.1 = 0 ∨ (rdR u).2.1 = 1) : u.bad = false ∧ u.s = Pl.encR (rdR u).1 ++ (rdR u).2.2.s := by
  unfold rdR at hb hg ⊢
  simp only at hb hg ⊢
  obtain ⟨b5, e5⟩ := byte_good hb
  obtain ⟨b4, e4, -⟩ := int_good b5
  obtain ⟨b3, e3, -⟩ := text_good b4
  obtain ⟨b2, e2, -⟩ := text_good b3
  obtain ⟨b1, e1, -⟩ := int_good b2
  obtain ⟨b0, e0⟩ := byte_good b1
  refine ⟨b0, ?_⟩
  generalize hn : (St.int (St.text 64 (St.text 16 (St.int (St.byte 108 u)).2).2).2).1 = g at *
  have hgn : Pl.goneN (g == 1) = g := by rcases hg with rfl | rfl <;> rfl
  rw [e0, e1, e2, e3, e4, e5]
  simp only [Pl.encR, hgn]
  simp

/-- The document's loop: at most n records more. -/
def loopR : Nat → St → List Pl.Rc → Option (List Pl.Rc × St)
  | 0, u, acc => some (acc, u)
  | n + 1, u, acc => if u.more = true then (if (rdR u).2.1 < 0 ∨ 1 < (rdR u).2.1 then none else loopR n (rdR u).2.2 (acc ++ [(rdR u).1])) else some (acc, u)
theorem more_rec (x : Pl.Rc) (r : List UInt8) : St.more ⟨Pl.encR x ++ r, false⟩ = true := rfl
theorem more_end (r : List UInt8) : St.more ⟨101 :: r, false⟩ = false := rfl
theorem loop_w (l : List Pl.Rc) (hl : ∀ x ∈ l, Pl.recB x = true ∧ Pl.I64 x.off) (r : List UInt8) : ∀ (n : Nat) (acc : List Pl.Rc), l.length ≤ n → loopR n ⟨Pl.encRs l ++ 101 :: r, false⟩ acc = some (acc ++ l, ⟨101 :: r, false⟩) := by
  induction l with
  | nil =>
    intro n acc _
    cases n with
    | zero => simp [loopR, Pl.encRs]
    | succ n =>
      simp only [loopR]
      rw [show Pl.encRs [] ++ 101 :: r = 101 :: r from rfl, if_neg (by rw [more_end]; decide)]
      simp
  | cons x l ih =>
    intro n acc hn
    cases n with
    | zero => simp at hn
    | succ n =>
      obtain ⟨h1, h2⟩ := hl x List.mem_cons_self
      have e : Pl.encRs (x :: l) ++ 101 :: r = Pl.encR x ++ (Pl.encRs l ++ 101 :: r) := by rw [Pl.encRs_cons, List.append_assoc]
      simp only [loopR]
      rw [e, if_pos (more_rec _ _), rdR_w x h1 h2]
      simp only
      rw [if_neg (by unfold Pl.goneN; split <;> omega), ih (fun y hy => hl y (List.mem_cons_of_mem _ hy)) n _ (by simp at hn; omega)]
      simp
theorem loop_good : ∀ (n : Nat) (u : St) (acc rs : List Pl.Rc) (u' : St), loopR n u acc = some (rs, u') → u'.bad = false → ∃ l, rs = acc ++ l ∧ l.length ≤ n ∧ u.bad = false ∧ u.s = Pl.encRs l ++ u'.s := by
  intro n
  induction n with
  | zero =>
    intro u acc rs u' h hb
    simp only [loopR, Option.some.injEq, Prod.mk.injEq] at h
    obtain ⟨rfl, rfl⟩ := h
    exact ⟨[], by simp, Nat.le_refl _, hb, rfl⟩
  | succ n ih =>
    intro u acc rs u' h hb
    simp only [loopR] at h
    split at h
    · split at h
      · cases h
      · rename_i hg
        obtain ⟨l, h1, h2, h3, h4⟩ := ih _ _ _ _ h hb
        obtain ⟨h5, h6⟩ := rdR_good h3 (by omega)
        refine ⟨(rdR u).1 :: l, by rw [h1]; simp, by simp; omega, h5, ?_⟩
        rw [h6, h4, Pl.encRs_cons, List.append_assoc]
    · simp only [Option.some.injEq, Prod.mk.injEq] at h
      obtain ⟨rfl, rfl⟩ := h
      exact ⟨[], by simp, Nat.zero_le _, hb, rfl⟩

/-- The head of a batch read. -/
def rdH (u : St) : (Int × Int × Int × Int × Int) × St :=
  (((St.int (St.byte 108 u)).1, (St.int (St.int (St.byte 108 u)).2).1, (St.int (St.int (St.int (St.byte 108 u)).2).2).1, (St.int (St.int (St.int (St.int (St.byte 108 u)).2).2).2).1, (St.int (St.int (St.int (St.int (St.int (St.byte 108 u)).2).2).2).2).1),
    (St.int (St.int (St.int (St.int (St.int (St.byte 108 u)).2).2).2).2).2)
/-- What the document's Decode answers. -/
def decB (s : List UInt8) : Option Pl.Bt :=
  match loopR 9 (rdH ⟨s, false⟩).2 [] with
  | none => none
  | some (rs, u) => if (St.byte 101 u).done = 0 ∧ Pl.goodB ⟨(rdH ⟨s, false⟩).1.1, (rdH ⟨s, false⟩).1.2.1, (rdH ⟨s, false⟩).1.2.2.1, (rdH ⟨s, false⟩).1.2.2.2.1, (rdH ⟨s, false⟩).1.2.2.2.2, rs⟩ = true then some ⟨(rdH ⟨s, false⟩).1.1, (rdH ⟨s, false⟩).1.2.1, (rdH ⟨s, false⟩).1.2.2.1, (rdH ⟨s, false⟩).1.2.2.2.1, (rdH ⟨s, false⟩).1.2.2.2.2, rs⟩ else none
theorem num_64 {n : Int} (h0 : 0 ≤ n) (h1 : n ≤ 1099511627776) : Pl.I64 n := ⟨by omega, by omega⟩
theorem rdH_w {b : Pl.Bt} (h : Pl.goodB b = true) : rdH ⟨Pl.enc b, false⟩ = ((b.base, b.count, b.prod, b.seq, b.time), ⟨Pl.encRs b.recs ++ [101], false⟩) := by
  obtain ⟨h1, h2, h3, h4, h5, h6, -⟩ := Pl.goodB_iff.1 h
  have e : Pl.enc b = 108 :: (Pl.wInt b.base ++ (Pl.wInt b.count ++ (Pl.wInt b.prod ++ (Pl.wInt b.seq ++ (Pl.wInt b.time ++ (Pl.encRs b.recs ++ [101])))))) := by simp [Pl.enc]
  unfold rdH
  rw [e, byte_w, int_w _ (num_64 h1.1 h1.2)]
  simp only
  rw [int_w _ (num_64 (by omega) (by omega))]
  simp only
  rw [int_w _ (num_64 h3.1 h3.2)]
  simp only
  rw [int_w _ (num_64 h4.1 h4.2)]
  simp only
  rw [int_w _ (num_64 h5.1 h5.2)]
theorem dec_enc {b : Pl.Bt} (h : Pl.goodB b = true) : decB (Pl.enc b) = some b := by
  have hr := Pl.good_recs h
  have h8 := (Pl.enc_short h).2.2
  unfold decB
  rw [rdH_w h]
  simp only
  rw [show ([101] : List UInt8) = 101 :: [] from rfl, loop_w b.recs (fun x hx => ⟨(hr x hx).1, num_64 (hr x hx).2.1 (hr x hx).2.2⟩) [] 9 [] (by omega)]
  simp only [List.nil_append]
  rw [byte_w, if_pos ⟨rfl, h⟩]
theorem enc_dec {s : List UInt8} {b : Pl.Bt} (h : decB s = some b) : Pl.goodB b = true ∧ s = Pl.enc b := by
  unfold decB at h
  cases hl : loopR 9 (rdH ⟨s, false⟩).2 [] with
  | none => rw [hl] at h; cases h
  | some p =>
    obtain ⟨rs, u⟩ := p
    rw [hl] at h
    simp only at h
    split at h
    · rename_i hc
      obtain ⟨hd, hg⟩ := hc
      have hb := Option.some.inj h
      have hbad : (St.byte 101 u).bad = false ∧ (St.byte 101 u).s = [] := by
        generalize St.byte 101 u = q at hd
        obtain ⟨qs, qb⟩ := q
        cases qb with
        | true => exact absurd hd (by simp [St.done])
        | false => cases qs with
          | nil => exact ⟨rfl, rfl⟩
          | cons x r => exact absurd hd (by simp [St.done])
      obtain ⟨b9, e9⟩ := byte_good hbad.1
      obtain ⟨l, h1, h2, h3, h4⟩ := loop_good 9 _ _ _ _ hl b9
      rw [List.nil_append] at h1
      subst h1
      refine ⟨hb ▸ hg, ?_⟩
      rw [← hb]
      unfold rdH at h3 h4 ⊢
      simp only at h3 h4 ⊢
      obtain ⟨c5, f5, -⟩ := int_good h3
      obtain ⟨c4, f4, -⟩ := int_good c5
      obtain ⟨c3, f3, -⟩ := int_good c4
      obtain ⟨c2, f2, -⟩ := int_good c3
      obtain ⟨c1, f1, -⟩ := int_good c2
      obtain ⟨-, f0⟩ := byte_good c1
      have f0' : s = 108 :: (St.byte 108 ⟨s, false⟩).s := f0
      rw [hbad.2] at e9
      rw [e9] at h4
      conv => lhs; rw [f0', f1, f2, f3, f4, f5, h4]
      simp [Pl.enc]
    · cases h
theorem enc_inj {a b : Pl.Bt} (ha : Pl.goodB a = true) (hb : Pl.goodB b = true) (h : Pl.enc a = Pl.enc b) : a = b := by
  have h1 := dec_enc ha
  rw [h, dec_enc hb] at h1
  exact (Option.some.inj h1).symm
/-- What Decode answers, whoever decodes: the batch whose bytes these are, or none. -/
def Decoded (s : List UInt8) (r : Option Pl.Bt) : Prop := (∃ b, r = some b ∧ Pl.goodB b = true ∧ s = Pl.enc b) ∨ (r = none ∧ ∀ b, Pl.goodB b = true → s ≠ Pl.enc b)
theorem decB_decoded (s : List UInt8) : Decoded s (decB s) := by
  cases h : decB s with
  | some b => exact Or.inl ⟨b, rfl, enc_dec h⟩
  | none => exact Or.inr ⟨rfl, fun b hb e => by rw [e, dec_enc hb] at h; cases h⟩
theorem decoded_eq {s : List UInt8} {r q : Option Pl.Bt} (h : Decoded s r) (k : Decoded s q) : r = q := by
  rcases h with ⟨a, rfl, ha, ea⟩ | ⟨rfl, ha⟩ <;> rcases k with ⟨b, rfl, hb, eb⟩ | ⟨rfl, hb⟩
  · rw [enc_inj ha hb (ea.symm.trans eb)]
  · exact absurd ea (hb a ha)
  · exact absurd eb (ha b hb)
  · rfl
end Go.Proofs.YthhlegfmikidpaaDoor
