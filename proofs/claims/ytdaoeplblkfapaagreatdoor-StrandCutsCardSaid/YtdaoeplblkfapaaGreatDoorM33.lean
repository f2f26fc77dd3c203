import Derived.Test.YtdaoeplblkfapaaGreatDoorM24
import Derived.Test.YtdaoeplblkfapaaGreatDoorM29
import Derived.Test.YtdaoeplblkfapaaGreatDoorM23

/- A STRAND WHOSE TAPE MAY BE ARMED, as the laws meet it: what each call does to it. -/
namespace Go.Proofs.YtdaoeplblkfapaaGreatDoor
open Go.RowKit

/-- Other blocks have changed. -/
theorem Sd.apart {w w' : World} {s : Nat} {h : Hs} {B : Nat → Prop} {f : Ta.View} {tot n : Nat} {c : Ta.Sc} {K : Kx} (k : Sd w s h B f tot n c K) (hs : w.heap.size ≤ w'.heap.size) (hb : ∀ b, b < w.heap.size → (B b ∨ K.A b) → w'.heap[b]? = w.heap[b]?) : Sd w' s h B f tot n c K := by
  have hlt := k.lt
  obtain ⟨T, h1, h2, h4, h5⟩ := k
  refine ⟨T, h1.same fun b ht => ?_, h2.keep hs (fun b ho => ?_) (fun b ha hl => ⟨hb b hl (.inr ha.2), ha⟩), h4, h5⟩
  · have := (h4 b).2 (.inl ht); exact hb b (hlt b this) (.inl this)
  · have := (h4 b).2 (.inr ho); exact hb b (hlt b this) (.inl this)
section
variable {w0 W W' : World} {t s m l : Nat} {E : En} {G : List Sg} {sf : Nat} {Q : Nat → Prop} {z : Bool}
/-- A strand over a tape that may be armed (z: it isn't): its log, how many bytes of the last file are safe. Blocks of Q are none of theirs, and none of its records'. -/
def Pwr (w0 : World) (t s : Nat) (E : En) (m l : Nat) (G : List Sg) (sf : Nat) (Q : Nat → Prop) (z : Bool) (W : World) : Prop :=
  ∃ B f tot n c K, Lw w0 t s E m l B f tot n c K sf W ∧ K.G = G ∧ (z = true → c.armed = 0) ∧ (∀ b, Q b → ¬ B b ∧ ¬ K.A b) ∧ (∀ b, K.A b → b < W.heap.size)
/-- The power is gone (z: and nothing is armed); its files hold a log. -/
def Dwn (w0 : World) (t s : Nat) (E : En) (m l : Nat) (G : List Sg) (sf : Nat) (Q : Nat → Prop) (z : Bool) (W : World) : Prop :=
  ∃ B f tot n c K, Sd W s ⟨t, l, E.P, E.sv⟩ B f tot n c K ∧ Lb w0 ∧ Below w0.heap.size w0 W ∧ (∀ b, B b → w0.heap.size ≤ b) ∧ Log G ∧ Fl E.P f G sf ∧ c.down = true ∧ (z = true → c.armed = 0) ∧ c.acts ≤ 1000 * m ∧ c.life = l + 1 ∧ c.room = E.R ∧ n ≤ m + 2 ∧ (fla G).length ≤ m ∧ l ≤ m ∧ m ≤ E.M ∧ E.ok ∧ (∀ b, Q b → ¬ B b ∧ ¬ K.A b) ∧ (∀ b, K.A b → b < W.heap.size)
/-- It is back. -/
def Bak (w0 : World) (t s : Nat) (E : En) (m l : Nat) (G : List Sg) (sf : Nat) (Q : Nat → Prop) (zs : List Int) (W : World) : Prop :=
  ∃ B f0 f tot n c K, Sd W s ⟨t, l, E.P, E.sv⟩ B f tot n c K ∧ Lb w0 ∧ Below w0.heap.size w0 W ∧ (∀ b, B b → w0.heap.size ≤ b) ∧ Log G ∧ Fl E.P f0 G sf ∧ Ta.Left zs f0 f ∧ c.down = false ∧ c.armed = 0 ∧ c.acts ≤ 1000 * m ∧ c.life = l + 1 ∧ c.room = E.R ∧ n ≤ m + 2 ∧ (fla G).length ≤ m ∧ l ≤ m ∧ m ≤ E.M ∧ E.ok ∧ (∀ b, Q b → ¬ B b)
theorem Opd.pwr {y : Bool} (L : Opd w0 t s E m l G Q y W) : ∃ sf, Pwr w0 t s E m l G sf (fun _ => False) true W ∧ (y = true → ∀ G0 g, G = G0 ++ [g] → sf = (frs g.l).length) := by
  obtain ⟨B, f, tot, n, c, K, sf, h1, h2, h3, h4, h5⟩ := L
  exact ⟨sf, ⟨B, f, tot, n, c, { K with A := fun b => K.A b ∧ b < W.heap.size }, { h1 with sd := h1.sd.known _ fun b hb ha => ⟨ha, hb⟩ }, h2, fun _ => h3, fun b hb => hb.elim, fun b hb => hb.2⟩, h5⟩
theorem Pwr.opd (L : Pwr w0 t s E m l G sf Q true W) : Opd w0 t s E m l G Q false W := by
  obtain ⟨B, f, tot, n, c, K, h1, h2, h3, h4, h5⟩ := L
  exact ⟨B, f, tot, n, c, K, sf, h1, h2, h3 rfl, fun b hb => (h4 b hb).1, fun h => by cases h⟩
theorem Pwr.below (L : Pwr w0 t s E m l G sf Q z W) (b : Below W.heap.size W W') : Pwr w0 t s E m l G sf (fun k => Q k ∨ W.heap.size ≤ k) z W' := by
  obtain ⟨B, f, tot, n, c, K, h1, h2, h3, h4, h5⟩ := L
  refine ⟨B, f, tot, n, c, K, h1.below b, h2, h3, fun k hk => ?_, fun k hk => Nat.lt_of_lt_of_le (h5 k hk) b.size⟩
  rcases hk with hk | hk
  · exact h4 k hk
  · exact ⟨fun hB => by have := h1.sd.lt k hB; omega, fun hA => by have := h5 k hA; omega⟩
theorem Pwr.mono {Q' : Nat → Prop} (L : Pwr w0 t s E m l G sf Q z W) (h : ∀ b, b < W.heap.size → Q' b → Q b) : Pwr w0 t s E m l G sf Q' z W := by
  obtain ⟨B, f, tot, n, c, K, h1, h2, h3, h4, h5⟩ := L
  exact ⟨B, f, tot, n, c, K, h1, h2, h3, fun k hk => ⟨fun hB => (h4 k (h k (h1.sd.lt k hB) hk)).1 hB, fun hA => (h4 k (h k (h5 k hA) hk)).2 hA⟩, h5⟩
theorem Pwr.grow {m' : Nat} (L : Pwr w0 t s E m l G sf Q z W) (h : m ≤ m') (h2 : m' ≤ E.M) : Pwr w0 t s E m' l G sf Q z W := by
  obtain ⟨B, f, tot, n, c, K, h1, hr⟩ := L
  exact ⟨B, f, tot, n, c, K, h1.more h h2, hr⟩
/-- A block of the law's own has grown. -/
theorem Pwr.grown {r : Option Nat} (L : Pwr w0 t s E m l G sf Q z W) (h : W.grownBy W' r) (hr : ∀ k, r = some k → Q k ∧ w0.heap.size ≤ k) : Pwr w0 t s E m l G sf (fun k => Q k ∨ W.heap.size ≤ k) z W' := by
  obtain ⟨B, f, tot, n, c, K, h1, h2, h3, h4, h5⟩ := L
  refine ⟨B, f, tot, n, c, K, { h1 with sd := h1.sd.apart h.size fun b hb hab => h.block b hb fun e => ?_, low := h1.low.grown h h1.low.size fun k e => (hr k e).2 }, h2, h3, fun k hk => ?_, fun k hk => Nat.lt_of_lt_of_le (h5 k hk) h.size⟩
  · have := h4 b (hr b e.symm).1
    exact hab.elim this.1 this.2
  · rcases hk with hk | hk
    · exact h4 k hk
    · exact ⟨fun hB => by have := h1.sd.lt k hB; omega, fun hA => by have := h5 k hA; omega⟩
theorem Pwr.low (L : Pwr w0 t s E m l G sf Q z W) : Below w0.heap.size w0 W := let ⟨_, _, _, _, _, _, h1, _⟩ := L; h1.low
theorem Pwr.log (L : Pwr w0 t s E m l G sf Q z W) : Log G := let ⟨_, _, _, _, _, _, h1, h2, _⟩ := L; h2 ▸ h1.log
theorem Pwr.len (L : Pwr w0 t s E m l G sf Q z W) : (fla G).length ≤ m ∧ m ≤ 200 := by
  obtain ⟨B, f, tot, n, c, K, h1, h2, -⟩ := L
  exact ⟨h2 ▸ h1.len, Nat.le_trans h1.max_ h1.ok.2.2.1⟩
theorem Pwr.end_ (L : Pwr w0 t s E m l G sf Q z W) : Calls Tryz.prog 29 #[.pointer (some ⟨s, 0, none⟩)] W fun e W' => e = .returned (.int .i64 (gsEnd G)) ∧ Below W.heap.size W W' := by
  obtain ⟨B, f, tot, n, c, K, h1, rfl, -⟩ := L
  exact h1.end_
theorem Pwr.all (L : Pwr w0 t s E m l G sf Q z W) : Calls Tryz.prog 34 #[.pointer (some ⟨s, 0, none⟩)] W (AllOut W (fla G)) := by
  obtain ⟨B, f, tot, n, c, K, h1, rfl, -⟩ := L
  exact all_any h1.sd.lies h1.log.chs h1.log.pos h1.small (by have := h1.len; have := h1.max_; have := h1.ok.2.2.1; show (fla K.G).length ≤ _; omega)
/-- What Append of a good batch at the end leaves. -/
def PApp (w0 : World) (t s : Nat) (E : En) (m l : Nat) (G : List Sg) (sf : Nat) (Q : Nat → Prop) (z : Bool) (b : Pl.Bt) (W : World) (e : Ending) (W' : World) : Prop :=
  Kq (fun k => Q k ∧ k < W.heap.size) W W' ∧ ((e = .returned (.int .i64 0) ∧ Pwr w0 t s E (m + 1) l (push G E.sv b) (pushSf G E.sv sf) (fun k => Q k ∧ k < W.heap.size) z W') ∨
    (z = false ∧ e = .returned (.int .i64 10) ∧ ∃ G' sf', (G' = G ∧ sf' = sf ∨ G' = push G E.sv b ∧ sf' = pushSf G E.sv sf) ∧ Dwn w0 t s E (m + 1) l G' sf' (fun k => Q k ∧ k < W.heap.size) false W'))
theorem Pwr.append {b : Pl.Bt} {rv : Value} (L : Pwr w0 t s E m l G sf Q z W) (hm : m < E.M) (hr : RcIn Q W rv b.recs) (hg : Pl.goodB b = true) (hb : b.base = gsEnd G) :
    Calls Tryz.prog 30 #[.pointer (some ⟨s, 0, none⟩), bv (b, rv)] W (PApp w0 t s E m l G sf Q z b W) := by
  obtain ⟨base, count, prod, seq, time, recs⟩ := b
  obtain ⟨B, f, tot, n, c, K, L1, rfl, hz, hQ, hA⟩ := L
  have hsz := L1.sizes
  obtain ⟨-, -, ok3, ok4, ok5⟩ := L1.ok
  have hlen : K.G.length ≤ m + 1 := by have := L1.X; have e : K.G.length = K.X.length := List.length_map _; omega
  have hlife := L1.life
  have hfl := L1.len
  refine (appendS_any L1.sd L1.lbW L1.b8 L1.ok.2.1 L1.ok.1 L1.log L1.fit L1.run.life L1.run (by omega) (by show l ≤ _; omega) L1.fl base count prod seq time recs rv (Rds.mono hr fun k hk => (hQ k hk).1) hg hb (by omega) (by rw [L1.room]; omega)).mono ?_
  rintro e W' ⟨B', f', tot', n', c', K', er, rfl, hmv, hsd, hroom, htot, hn', hkA, hor⟩
  have hQB : ∀ k, Q k ∧ k < W.heap.size → ¬ B' k := hmv.keepQ fun b hb => (hQ b hb).1
  have hQA : ∀ k, Q k ∧ k < W.heap.size → ¬ K'.A k := fun k hk ha => by
    rcases hkA k ha with h | h
    · exact (hQ k hk.1).2 h
    · omega
  have hpl : Log (push K.G E.sv ⟨base, count, prod, seq, time, recs⟩) := push_log L1.log L1.ok.1.1 hg hb
  have hpf : (fla (push K.G E.sv ⟨base, count, prod, seq, time, recs⟩)).length ≤ m + 1 := by rw [push_flat, List.length_append]; simp; omega
  refine ⟨Kq.moved hmv fun k hk => (hQ k hk.1).1, ?_⟩
  rcases hor with ⟨rfl, hG, hfl, hrun, harm'⟩ | ⟨rfl, hG, hfl, hgone, hna⟩
  · refine .inl ⟨rfl, B', f', tot', n', c', { K' with A := fun k => K'.A k ∧ k < W'.heap.size }, ⟨hsd.known _ fun _ hb ha => ⟨ha, hb⟩, L1.lb, moved_low L1.new L1.low hmv, moved_new L1.new L1.low.size hmv, ?_, ?_, hrun.more (by omega), by rw [hroom, L1.room], ?_, by omega, by omega, L1.ok⟩, hG, fun h => harm' (hz h), fun k hk => ⟨hQB k hk, fun h => hQA k hk h.1⟩, fun k hk => hk.2⟩
    · show Log K'.G; rw [hG]; exact hpl
    · show Fl _ _ K'.G _; rw [hG]; exact hfl
    · show (fla K'.G).length ≤ _; rw [hG]; exact hpf
  · refine .inr ⟨?_, rfl, ?_⟩
    · cases z with
      | false => rfl
      | true => exact absurd (hz rfl) hna
    · rcases hfl with hfl | hfl
      · exact ⟨K.G, sf, .inl ⟨rfl, rfl⟩, B', f', tot', n', c', { K' with A := fun k => K'.A k ∧ k < W'.heap.size }, hsd.known _ fun _ hb ha => ⟨ha, hb⟩, L1.lb, moved_low L1.new L1.low hmv, moved_new L1.new L1.low.size hmv, L1.log, hfl, hgone.off, (fun h => by cases h), by have := hgone.acts; omega, hgone.life, by rw [hroom, L1.room], by omega, by omega, by omega, by omega, L1.ok, fun k hk => ⟨hQB k hk, fun h => hQA k hk h.1⟩, fun k hk => hk.2⟩
      · exact ⟨_, _, .inr ⟨rfl, rfl⟩, B', f', tot', n', c', { K' with A := fun k => K'.A k ∧ k < W'.heap.size }, hsd.known _ fun _ hb ha => ⟨ha, hb⟩, L1.lb, moved_low L1.new L1.low hmv, moved_new L1.new L1.low.size hmv, hpl, hfl, hgone.off, (fun h => by cases h), by have := hgone.acts; omega, hgone.life, by rw [hroom, L1.room], by omega, hpf, by omega, by omega, L1.ok, fun k hk => ⟨hQB k hk, fun h => hQA k hk h.1⟩, fun k hk => hk.2⟩
/-- What Sync leaves. -/
def PSyn (w0 : World) (t s : Nat) (E : En) (m l : Nat) (G : List Sg) (sf : Nat) (Q : Nat → Prop) (z : Bool) (W : World) (e : Ending) (W' : World) : Prop :=
  Kq (fun k => Q k ∧ k < W.heap.size) W W' ∧ ((e = .returned (.int .i64 0) ∧ ∃ sf', Pwr w0 t s E (m + 1) l G sf' (fun k => Q k ∧ k < W.heap.size) z W' ∧ ∀ G0 g, G = G0 ++ [g] → sf' = (frs g.l).length) ∨
    (z = false ∧ e = .returned (.int .i64 10) ∧ Dwn w0 t s E (m + 1) l G sf (fun k => Q k ∧ k < W.heap.size) false W'))
theorem Pwr.sync (L : Pwr w0 t s E m l G sf Q z W) (hm : m < E.M) :
    Calls Tryz.prog 31 #[.pointer (some ⟨s, 0, none⟩)] W (PSyn w0 t s E m l G sf Q z W) := by
  obtain ⟨B, f, tot, n, c, K, L1, rfl, hz, hQ, hA⟩ := L
  have hlife := L1.life
  have ok3 := L1.ok.2.2.1
  have hlen := L1.len
  have hn : n ≤ m + 1 := by have := L1.sizes.1; have := L1.X; have e : K.G.length = K.X.length := List.length_map _; omega
  rcases snoc_or K.G with hG | ⟨G, g, hG⟩
  · have hX : K.X = [] := List.map_eq_nil_iff.1 hG
    refine (syncS_none L1.sd hX L1.run.life (by show l ≤ _; omega)).mono ?_
    rintro e W' ⟨rfl, hb⟩
    have hL : Pwr w0 t s E m l K.G sf (fun k => Q k ∨ W.heap.size ≤ k) z W' := Pwr.below ⟨B, f, tot, n, c, K, L1, rfl, hz, hQ, hA⟩ hb
    exact ⟨Kq.below hb, .inl ⟨rfl, sf, (hL.mono fun k _ hk => .inl hk.1).grow (by omega) (by omega), fun G g e => by rw [hG] at e; simp at e⟩⟩
  · have hf := L1.fl
    rw [hG] at hf
    refine (syncS_any L1.sd hG L1.lbW L1.b8 (by have := L1.ok.2.1.2; show E.P.length ≤ _; omega) (hG ▸ L1.fit) L1.run.life L1.run (by omega) (by show l ≤ _; omega) _ _ hf.last).mono ?_
    rintro e W' ⟨B', c', er, rfl, hmv, hroom, hor⟩
    have hQB : ∀ k, Q k ∧ k < W.heap.size → ¬ B' k := hmv.keepQ fun b hb => (hQ b hb).1
    have hlog := L1.log
    rw [hG] at hlog
    refine ⟨Kq.moved hmv fun k hk => (hQ k hk.1).1, ?_⟩
    rcases hor with ⟨rfl, hsd, hrun, harm'⟩ | ⟨rfl, hsd, hgone, hna⟩
    · have hfl := hf.change hlog g.l (frs g.l).length
      rw [show ({ first := g.first, l := g.l } : Sg) = g from rfl, ← hG] at hfl
      refine .inl ⟨rfl, (frs g.l).length, ⟨B', _, tot, n, c', K, ⟨hsd, L1.lb, moved_low L1.new L1.low hmv, moved_new L1.new L1.low.size hmv, L1.log, hfl, hrun.more (by omega), by rw [hroom, L1.room], by omega, by omega, by omega, L1.ok⟩, rfl, fun h => harm' (hz h), fun k hk => ⟨hQB k hk, (hQ k hk.1).2⟩, fun k hk => Nat.lt_of_lt_of_le (hA k hk) hmv.size⟩, fun G' g' e => ?_⟩
      rw [hG] at e
      obtain ⟨-, e2⟩ := List.append_inj' e rfl
      injection e2 with e2
      rw [e2]
    · have hfl := hf.change hlog g.l sf
      rw [show ({ first := g.first, l := g.l } : Sg) = g from rfl, ← hG] at hfl
      refine .inr ⟨?_, rfl, B', _, tot, n, c', K, hsd, L1.lb, moved_low L1.new L1.low hmv, moved_new L1.new L1.low.size hmv, L1.log, hfl, hgone.off, (fun h => by cases h), by have := hgone.acts; omega, hgone.life, by rw [hroom, L1.room], by omega, by omega, by omega, by omega, L1.ok, fun k hk => ⟨hQB k hk, (hQ k hk.1).2⟩, fun k hk => Nat.lt_of_lt_of_le (hA k hk) hmv.size⟩
      cases z with
      | false => rfl
      | true => exact absurd (hz rfl) hna
/-- The power goes. -/
theorem Pwr.off (L : Pwr w0 t s E m l G sf Q z W) :
    Calls Tryz.prog 32 #[.pointer (some ⟨t, 0, none⟩)] W fun e W' => (∃ v, e = .returned v) ∧ Dwn w0 t s E m l G sf (fun k => Q k ∧ k < W.heap.size) true W' ∧ Kq (fun k => Q k ∧ k < W.heap.size) W W' := by
  obtain ⟨B, f, tot, n, c, K, h1, rfl, hz, hQ, hA⟩ := L
  have hl := h1.run.life
  have hlm := h1.life
  have hmx := h1.max_
  have hok3 := h1.ok.2.2.1
  refine (h1.sd.off (by rw [hl]; omega)).mono ?_
  rintro e W' ⟨hv, B', hsd, hmv⟩
  have hoff : Ta.offS c = { c with armed := 0, down := true, life := c.life + 1 } := by unfold Ta.offS; rw [h1.run.on]; rfl
  rw [hoff] at hsd
  have hn : n ≤ m + 1 := by have := h1.sizes.1; have := h1.X; have e : K.G.length = K.X.length := List.length_map _; omega
  exact ⟨hv, ⟨B', f, tot, n, _, K, hsd, h1.lb, moved_low h1.new h1.low hmv, moved_new h1.new h1.low.size hmv, h1.log, h1.fl, rfl, fun _ => rfl, h1.run.acts, by rw [← hl], h1.room, by omega, h1.len, hlm, hmx, h1.ok, fun k hk => ⟨hmv.keepQ (fun b hb => (hQ b hb).1) k hk, (hQ k hk.1).2⟩, fun k hk => Nat.lt_of_lt_of_le (hA k hk) hmv.size⟩, Kq.moved hmv fun k hk => (hQ k hk.1).1⟩
theorem Dwn.off (L : Dwn w0 t s E m l G sf Q z W) :
    Calls Tryz.prog 32 #[.pointer (some ⟨t, 0, none⟩)] W fun e W' => (∃ v, e = .returned v) ∧ Dwn w0 t s E m l G sf (fun k => Q k ∧ k < W.heap.size) true W' ∧ Kq (fun k => Q k ∧ k < W.heap.size) W W' := by
  obtain ⟨B, f, tot, n, c, K, h1, h2, h3, h4, h5, h6, h7, h8, h9, h10, h11, h12, h13, h14, h15, h16, h17, h18⟩ := L
  have hok3 := h16.2.2.1
  refine (h1.off (by rw [h10]; omega)).mono ?_
  rintro e W' ⟨hv, B', hsd, hmv⟩
  have hoff : Ta.offS c = { c with armed := 0 } := by unfold Ta.offS; rw [h7]; rfl
  rw [hoff] at hsd
  exact ⟨hv, ⟨B', f, tot, n, _, K, hsd, h2, moved_low h4 h3 hmv, moved_new h4 h3.size hmv, h5, h6, h7, fun _ => rfl, h9, h10, h11, h12, h13, h14, h15, h16, fun k hk => ⟨hmv.keepQ (fun b hb => (h17 b hb).1) k hk, (h17 k hk.1).2⟩, fun k hk => Nat.lt_of_lt_of_le (h18 k hk) hmv.size⟩, Kq.moved hmv fun k hk => (h17 k hk.1).1⟩
theorem Dwn.on (L : Dwn w0 t s E m l G sf Q true W) (fv : Value) (zs : List Int) (hf : Ta.Nums W fv zs) (hfo : 0 < zs.length → ∀ a c d, fv = .slice (some a) c d → a.block < w0.heap.size) :
    Calls Tryz.prog 33 #[.pointer (some ⟨t, 0, none⟩), fv] W fun e W' => (∃ v, e = .returned v) ∧ Bak w0 t s E m l G sf (fun k => Q k ∧ k < W.heap.size) zs W' ∧ Kq (fun k => Q k ∧ k < W.heap.size) W W' := by
  obtain ⟨B, f, tot, n, c, K, h1, h2, h3, h4, h5, h6, h7, h8, h9, h10, h11, h12, h13, h14, h15, h16, h17, h18⟩ := L
  refine (h1.on h7 fv zs hf fun h0 a c d e hB => by have := hfo h0 a c d e; have := h4 _ hB; omega).mono ?_
  rintro e W' ⟨hv, B', f', tot', hsd, hleft, hmv⟩
  exact ⟨hv, ⟨B', f, f', tot', n, _, K, hsd, h2, moved_low h4 h3 hmv, moved_new h4 h3.size hmv, h5, h6, hleft, rfl, h8 rfl, h9, h10, h11, h12, h13, h14, h15, h16, hmv.keepQ fun b hb => (h17 b hb).1⟩, Kq.moved hmv fun k hk => (h17 k hk.1).1⟩
theorem Dwn.below (L : Dwn w0 t s E m l G sf Q z W) (b : Below W.heap.size W W') : Dwn w0 t s E m l G sf (fun k => Q k ∨ W.heap.size ≤ k) z W' := by
  obtain ⟨B, f, tot, n, c, K, h1, h2, h3, h4, h5, h6, h7, h8, h9, h10, h11, h12, h13, h14, h15, h16, h17, h18⟩ := L
  refine ⟨B, f, tot, n, c, K, h1.below b, h2, h3.trans (b.mono h3.size), h4, h5, h6, h7, h8, h9, h10, h11, h12, h13, h14, h15, h16, fun k hk => ?_, fun k hk => Nat.lt_of_lt_of_le (h18 k hk) b.size⟩
  rcases hk with hk | hk
  · exact h17 k hk
  · exact ⟨fun hB => by have := h1.lt k hB; omega, fun hA => by have := h18 k hA; omega⟩
theorem Dwn.grown {r : Option Nat} (L : Dwn w0 t s E m l G sf Q z W) (h : W.grownBy W' r) (hr : ∀ k, r = some k → Q k ∧ w0.heap.size ≤ k) : Dwn w0 t s E m l G sf (fun k => Q k ∨ W.heap.size ≤ k) z W' := by
  obtain ⟨B, f, tot, n, c, K, h1, h2, h3, h4, h5, h6, h7, h8, h9, h10, h11, h12, h13, h14, h15, h16, h17, h18⟩ := L
  refine ⟨B, f, tot, n, c, K, h1.apart h.size fun b hb hab => h.block b hb fun e => ?_, h2, h3.grown h h3.size fun k e => (hr k e).2, h4, h5, h6, h7, h8, h9, h10, h11, h12, h13, h14, h15, h16, fun k hk => ?_, fun k hk => Nat.lt_of_lt_of_le (h18 k hk) h.size⟩
  · have := h17 b (hr b e.symm).1
    exact hab.elim this.1 this.2
  · rcases hk with hk | hk
    · exact h17 k hk
    · exact ⟨fun hB => by have := h1.lt k hB; omega, fun hA => by have := h18 k hA; omega⟩
theorem Bak.open_ {zs : List Int} (L : Bak w0 t s E m l G sf Q zs W) (hm : m < E.M) :
    Calls Tryz.prog 18 #[.pointer (some ⟨t, 0, none⟩), .string ⟨E.P.toArray⟩, .int .i64 E.sv] W fun e W' => ∃ p G' sf', e = .returned (.tuple #[.pointer (some ⟨p, 0, none⟩), .int .i64 0]) ∧ Pwr w0 t p E (m + 1) (l + 1) G' sf' (fun _ => False) true W' ∧ Rest G sf G' ∧ (∀ G0 g, G' = G0 ++ [g] → sf' = (frs g.l).length) ∧ Kq (fun k => Q k ∧ k < W.heap.size) W W' := by
  obtain ⟨B, f0, f, tot, n, c, K, h1, h2, h3, h4, h5, h6, h7, h8, h9, h10, h11, h12, h13, h14, h15, h16, h17, h18⟩ := L
  refine (h1.open_ (E := E) (m := m) (l := l + 1) h2 h3 h4 h17 hm ⟨h8, h10, h11, by rw [h9]; omega⟩ (by omega) h9 h12 h13 h6.fm h5 h14 h7).mono ?_
  rintro e W' ⟨p, B', f', tot', n', c', K', sf', rfl, hL, ha, hr, hs, -, hmv⟩
  exact ⟨p, K'.G, sf', rfl, ⟨B', f', tot', n', c', { K' with A := fun b => K'.A b ∧ b < W'.heap.size }, { hL with sd := hL.sd.known _ fun b hb ha => ⟨ha, hb⟩ }, rfl, fun _ => ha, fun b hb => hb.elim, fun b hb => hb.2⟩, hr, hs, Kq.moved hmv fun k hk => h18 k hk.1⟩
theorem Pwr.arm (L : Pwr w0 t s E m l G sf Q z W) (i : Int) (hi : 0 ≤ i ∧ i ≤ 1000) :
    Calls Tryz.prog 27 #[.pointer (some ⟨t, 0, none⟩), .int .i64 i] W fun e W' => (∃ v, e = .returned v) ∧ Pwr w0 t s E m l G sf (fun k => Q k ∧ k < W.heap.size) false W' ∧ Kq (fun k => Q k ∧ k < W.heap.size) W W' := by
  obtain ⟨B, f, tot, n, c, K, h1, rfl, hz, hQ, hA⟩ := L
  obtain ⟨T, hst, hup⟩ := h1.sd.tape
  refine (Ta.s_arm hst i).mono ?_
  rintro e W' ⟨hv, T', hs, hm⟩
  obtain ⟨B', hsd, hmv⟩ := hup _ _ _ _ _ _ hs hm
  exact ⟨hv, ⟨B', f, tot, n, _, K, { h1 with sd := hsd, low := moved_low h1.new h1.low hmv, new := moved_new h1.new h1.low.size hmv, run := ⟨h1.run.on, h1.run.acts, h1.run.life, by show 0 ≤ max i 0 ∧ max i 0 ≤ 1000; omega⟩, room := h1.room }, rfl, (fun h => by cases h), fun k hk => ⟨hmv.keepQ (fun b hb => (hQ b hb).1) k hk, (hQ k hk.1).2⟩, fun k hk => Nat.lt_of_lt_of_le (hA k hk) hmv.size⟩, Kq.moved hmv fun k hk => (hQ k hk.1).1⟩
end
/-- So many batches are sure to be found, of a log whose last file has so many safe bytes. -/
def Sure (G : List Sg) (sf k : Nat) : Prop := k ≤ (fla G).length ∧ ∀ G0 g, G = G0 ++ [g] → ∃ j, j ≤ g.l.length ∧ (frs (g.l.take j)).length ≤ sf ∧ k ≤ (fla G0).length + j
theorem snoc_same {G0 G1 : List Sg} {g g' : Sg} (e : G0 ++ [g] = G1 ++ [g']) : G0 = G1 ∧ g = g' := by
  obtain ⟨e1, e2⟩ := List.append_inj' e rfl
  injection e2 with e2
  exact ⟨e1, e2⟩
theorem Sure.whole {G : List Sg} {sf : Nat} (h : ∀ G0 g, G = G0 ++ [g] → sf = (frs g.l).length) : Sure G sf (fla G).length := by
  refine ⟨Nat.le_refl _, fun G0 g e => ⟨g.l.length, Nat.le_refl _, by rw [List.take_length, h G0 g e]; exact Nat.le_refl _, ?_⟩⟩
  rw [e, fla_append, fla_one, List.length_append]
  exact Nat.le_refl _
theorem Sure.push {G : List Sg} {sf k : Nat} (h : Sure G sf k) (sv : Int) (b : Pl.Bt) : Sure (push G sv b) (pushSf G sv sf) k := by
  refine ⟨by rw [push_flat, List.length_append]; exact Nat.le_trans h.1 (Nat.le_add_right _ _), fun G0 g e => ?_⟩
  rcases snoc_or G with rfl | ⟨G1, g1, rfl⟩
  · rw [push_nil] at e
    obtain ⟨e1, e2⟩ := snoc_same (show [] ++ [_] = G0 ++ [g] from e)
    exact ⟨0, Nat.zero_le _, by simp [frs], by have := h.1; simp [fla] at this; omega⟩
  · by_cases hlt : ((frs g1.l).length : Int) < sv
    · rw [push_some hlt] at e
      obtain ⟨rfl, rfl⟩ := snoc_same e
      rw [pushSf_some hlt]
      obtain ⟨j, h1, h2, h3⟩ := h.2 G1 g1 rfl
      refine ⟨j, by simp; omega, ?_, h3⟩
      rw [List.take_append_of_le_length h1]
      exact h2
    · rw [push_more hlt] at e
      obtain ⟨rfl, rfl⟩ := snoc_same e
      exact ⟨0, Nat.zero_le _, by simp [frs], h.1⟩
/-- What is found is a beginning, and all that is sure is in it. -/
theorem Rest.sure {G G' : List Sg} {sf k : Nat} (r : Rest G sf G') (h : Sure G sf k) : k ≤ (fla G').length ∧ ∃ n, n ≤ (fla G).length ∧ fla G' = (fla G).take n := by
  rcases r with ⟨rfl, rfl⟩ | ⟨G0, g, i, rfl, h1, h2, rfl⟩
  · exact ⟨h.1, 0, Nat.zero_le _, rfl⟩
  · obtain ⟨j, h3, h4, h5⟩ := h.2 G0 g rfl
    have h6 := h2 j h3 h4
    have e : (fla G0 ++ g.l).take ((fla G0).length + i) = fla G0 ++ g.l.take i := by rw [List.take_append, List.take_of_length_le (Nat.le_add_right _ _), Nat.add_sub_cancel_left]
    refine ⟨?_, (fla G0).length + i, ?_, ?_⟩
    · rw [fla_append, fla_one, List.length_append, List.length_take]
      omega
    · rw [fla_append, fla_one, List.length_append]
      omega
    · rw [fla_append, fla_one, fla_append, fla_one, e]
end Go.Proofs.YtdaoeplblkfapaaGreatDoor

/- Lists that a law holds beside a strand; the law's 'begins'. -/
namespace Go.Proofs.YtdaoeplblkfapaaGreatDoor
open Go.RowKit

/-- A list of batches that the law reads; one that it appends to. -/
def Hv (A : Nat → Prop) (v : Value) (l : List Pl.Bt) (W : World) : Prop := ∃ L, BtIn A W v L ∧ L.map (·.1) = l
def Gv (A : Nat → Prop) (gb : Option Nat) (v : Value) (l : List Pl.Bt) (W : World) : Prop :=
  ∃ L, Sl W v gb 34 6 L.length (L.flatMap bc6) ∧ (∀ b, gb = some b → A b) ∧ All (fun b => A b ∧ gb ≠ some b) W L ∧ L.map (·.1) = l
section
variable {A A' : Nat → Prop} {gb gb9 : Option Nat} {v v9 : Value} {l : List Pl.Bt} {W W' : World}
theorem Hv.keep (h : Hv A v l W) (hs : W.heap.size ≤ W'.heap.size) (k : ∀ b, A b → b < W.heap.size → W'.heap[b]? = W.heap[b]? ∧ A' b) : Hv A' v l W' :=
  let ⟨L, h1, h2⟩ := h
  ⟨L, ⟨Rds.keep h1.1 hs k, fun p hp => Rds.keep (h1.2 p hp) hs k⟩, h2⟩
theorem Gv.keep (h : Gv A gb v l W) (hs : W.heap.size ≤ W'.heap.size) (k : ∀ b, A b → b < W.heap.size → W'.heap[b]? = W.heap[b]? ∧ A' b) : Gv A' gb v l W' :=
  let ⟨L, h1, h2, h3, h4⟩ := h
  ⟨L, h1.same fun b hb => (k b (h2 b hb) (h1.lt b hb)).1, fun b hb => (k b (h2 b hb) (h1.lt b hb)).2, fun p hp => Rds.keep (h3 p hp) hs fun b hb hl => ⟨(k b hb.1 hl).1, (k b hb.1 hl).2, hb.2⟩, h4⟩
theorem Hv.below (h : Hv A v l W) (b : Below W.heap.size W W') : Hv A v l W' := h.keep b.size fun k hk hl => ⟨b.block k hl, hk⟩
theorem Gv.below (h : Gv A gb v l W) (b : Below W.heap.size W W') : Gv A gb v l W' := h.keep b.size fun k hk hl => ⟨b.block k hl, hk⟩
theorem Hv.mono (h : Hv A v l W) (k : ∀ b, b < W.heap.size → A b → A' b) : Hv A' v l W := h.keep (Nat.le_refl _) fun b hb hl => ⟨rfl, k b hl hb⟩
theorem Gv.mono (h : Gv A gb v l W) (k : ∀ b, b < W.heap.size → A b → A' b) : Gv A' gb v l W := h.keep (Nat.le_refl _) fun b hb hl => ⟨rfl, k b hl hb⟩
theorem Hv.kq {Q : Nat → Prop} (h : Hv A v l W) (k : Kq Q W W') (hq : ∀ b, b < W.heap.size → A b → Q b) : Hv (fun b => A b ∧ b < W.heap.size) v l W' := h.keep k.size fun b hb hl => ⟨k.block b hl (hq b hl hb), hb, hl⟩
theorem Gv.kq {Q : Nat → Prop} (h : Gv A gb v l W) (k : Kq Q W W') (hq : ∀ b, b < W.heap.size → A b → Q b) : Gv (fun b => A b ∧ b < W.heap.size) gb v l W' := h.keep k.size fun b hb hl => ⟨k.block b hl (hq b hl hb), hb, hl⟩
theorem Gv.hv (h : Gv A gb v l W) : Hv A v l W :=
  let ⟨L, h1, h2, h3, h4⟩ := h
  ⟨L, ⟨Rds.of_sl h1 h2, fun p hp => Rds.mono (h3 p hp) fun _ hb => hb.1⟩, h4⟩
/-- It has been appended to. -/
theorem Gv.more {L M : List (Pl.Bt × Value)} (h2 : ∀ b, gb = some b → A b) (_hlt : ∀ b, gb = some b → b < W.heap.size) (h3 : All (fun b => A b ∧ gb ≠ some b) W L) (hM : All (fun b => A b ∧ gb ≠ some b) W M)
    (h9 : Sl W' v9 gb9 34 6 (L.length + M.length) (L.flatMap bc6 ++ M.flatMap bc6)) (hg : W.grownBy W' gb) (hn : gb9 = gb ∨ ∃ g, gb9 = some g ∧ W.heap.size ≤ g) :
    Gv (fun b => A b ∨ W.heap.size ≤ b) gb9 v9 (L.map (·.1) ++ M.map (·.1)) W' := by
  have hne : ∀ b, b < W.heap.size → gb ≠ some b → gb9 ≠ some b := fun b hl hgb e => by
    rcases hn with h | ⟨g, h, hs⟩
    · exact hgb (h ▸ e)
    · rw [h] at e; cases e; omega
  refine ⟨L ++ M, by rw [List.length_append, List.flatMap_append]; exact h9, fun b e => ?_, fun p hp => ?_, List.map_append ..⟩
  · rcases hn with h | ⟨g, h, hs⟩
    · exact .inl (h2 b (h ▸ e))
    · rw [h] at e; cases e; exact .inr hs
  · have key : ∀ b, (A b ∧ gb ≠ some b) → b < W.heap.size → W'.heap[b]? = W.heap[b]? ∧ (A b ∨ W.heap.size ≤ b) ∧ gb9 ≠ some b := fun b hb hl => ⟨hg.block b hl fun e => hb.2 e.symm, .inl hb.1, hne b hl hb.2⟩
    rcases List.mem_append.1 hp with hp | hp
    · exact Rds.keep (h3 p hp) hg.size key
    · exact Rds.keep (hM p hp) hg.size key
theorem Hv.grown (h : Hv (fun b => A b ∧ gb ≠ some b) v l W) (_hlt : ∀ b, gb = some b → b < W.heap.size) (hg : W.grownBy W' gb) (hn : gb9 = gb ∨ ∃ g, gb9 = some g ∧ W.heap.size ≤ g) : Hv (fun b => (A b ∨ W.heap.size ≤ b) ∧ gb9 ≠ some b) v l W' :=
  h.keep hg.size fun b hb hl => ⟨hg.block b hl fun e => hb.2 e.symm, .inl hb.1, by
    rcases hn with h | ⟨g, h, hs⟩
    · rw [h]; exact hb.2
    · rw [h]; intro e; cases e; omega⟩
end
theorem Sl.cap {w : World} {v : Value} {gb : Option Nat} {e size n : Nat} {xs : List Value} (h : Sl w v gb e size n xs) : ∀ a c, v = .slice a n c → n ≤ c := fun a c hv => by
  rcases h.2 with ⟨rfl, -, rfl⟩ | ⟨g, p, cap, cur, -, rfl, -, hc, -⟩
  · exact Nat.zero_le _
  · injection hv with h1 h2 h3
    omega
set_option maxHeartbeats 1000000 in
set_option maxRecDepth 100000 in
/-- The law's 'begins': a list is the beginning of another one. -/
theorem begins_any {A A' : Nat → Prop} (u v : Value) (L M : List (Pl.Bt × Value)) (w : World) (hu : BtIn A w u L) (hv : BtIn A' w v M) (hcap : ∀ a c, v = .slice a M.length c → M.length ≤ c) (hLM : L.map (·.1) = (M.map (·.1)).take L.length) (hl : M.length ≤ 1000) (hr : ∀ p ∈ L, p.1.recs.length ≤ 1099511627776) :
    Calls Tryz.prog 35 #[u, v] w fun e w' => e = .returned (.bool true) ∧ Below w.heap.size w w' := by
  have hle : L.length ≤ M.length := by have := congrArg List.length hLM; simp only [List.length_map, List.length_take] at this; omega
  obtain ⟨ua, uc, rfl⟩ := hu.1.form
  obtain ⟨va, vc, rfl⟩ := hv.1.form
  have hc := hcap _ _ rfl
  have hpk : BtIn A' w (.slice va L.length vc) (M.take L.length) := by
    cases va with
    | none =>
      have h1 := hv.1.2
      rcases h1 with ⟨h1, h2⟩ | ⟨ad, cap, h1, -⟩
      · injection h1 with _ h3 h4
        have h0 : L.length = 0 := by omega
        rw [h0, h4, List.take_zero]
        exact ⟨Rds.nil _ _ _, fun p hp => by cases hp⟩
      · cases h1
    | some ad =>
      have h2 := hv.1.prefix (j := L.length) hle vc
      rw [flat_take bc6 6 bc6_length] at h2
      exact ⟨by rw [List.length_take, Nat.min_eq_left hle]; exact h2, fun p hp => hv.2 p (List.mem_of_mem_take hp)⟩
  have HB := Lib.hid (batches_true _ _ L (M.take L.length) w hu hpk (by rw [List.map_take]; exact hLM) (by omega) hr)
  obtain ⟨n, hn⟩ : ∃ n, L.length = n := ⟨_, rfl⟩
  obtain ⟨k, hk⟩ : ∃ k, M.length = k := ⟨_, rfl⟩
  rw [hn] at HB hle ⊢
  rw [hk] at hc hle hl ⊢
  have hd : decide ((n : Int) ≤ (k : Int)) = true := by simp; omega
  have hnc : n ≤ vc := by omega
  clear hu hv hcap hLM hr hpk hn hk hc
  go_enter Tryz.func35, Tryz.ntmps35
  go_wp2_with fail
  refine HB.out.mono ?_
  rintro e w1 ⟨rfl, hb⟩
  have HF := Lib.hid hb
  clear hb HB
  go_wp2_with fail
  go_ret
  exact ⟨rfl, HF.out⟩
end Go.Proofs.YtdaoeplblkfapaaGreatDoor

/- An Append at the end, be the batch good or not, over a tape that may be armed; a batch in a box of its own. -/
namespace Go.Proofs.YtdaoeplblkfapaaGreatDoor
open Go.RowKit

/-- What an Append at the end leaves. -/
def PFed (w0 : World) (t s : Nat) (E : En) (m l : Nat) (G : List Sg) (sf : Nat) (Q : Nat → Prop) (z : Bool) (b : Pl.Bt) (W : World) (e : Ending) (W' : World) : Prop :=
  ∃ er : Int, e = .returned (.int .i64 er) ∧ Kq (fun k => Q k ∧ k < W.heap.size) W W' ∧
    ((Pl.goodB b = true ∧ er = 0 ∧ Pwr w0 t s E (m + 1) l (push G E.sv b) (pushSf G E.sv sf) (fun k => Q k ∧ k < W.heap.size) z W') ∨
     (er = 1 ∧ Pwr w0 t s E (m + 1) l G sf (fun k => Q k ∧ k < W.heap.size) z W') ∨
     (z = false ∧ er = 10 ∧ Pl.goodB b = true ∧ ∃ G' sf', (G' = G ∧ sf' = sf ∨ G' = push G E.sv b ∧ sf' = pushSf G E.sv sf) ∧ Dwn w0 t s E (m + 1) l G' sf' (fun k => Q k ∧ k < W.heap.size) false W'))
section
variable {w0 W W' : World} {t s m l : Nat} {E : En} {G : List Sg} {sf : Nat} {Q : Nat → Prop} {z : Bool}
theorem Pwr.bad {b : Pl.Bt} {rv : Value} (L : Pwr w0 t s E m l G sf Q z W) (hr : RcIn Q W rv b.recs) (hrl : b.recs.length ≤ 1048576) (hg : Pl.goodB b = false) :
    Calls Tryz.prog 30 #[.pointer (some ⟨s, 0, none⟩), bv (b, rv)] W fun e W' => e = .returned (.int .i64 1) ∧ Below W.heap.size W W' := by
  obtain ⟨base, count, prod, seq, time, recs⟩ := b
  obtain ⟨B, f, tot, n, c, K, L1, rfl, hz, hQ, hA⟩ := L
  have hlm := L1.life
  have hmx := L1.max_
  have hok3 := L1.ok.2.2.1
  exact appendS_bad L1.sd L1.lbW L1.run.life (by show l ≤ _; omega) base count prod seq time recs rv (Rds.mono hr fun k hk => (hQ k hk).1) hrl hg
theorem Pwr.feed {b : Pl.Bt} {rv : Value} (L : Pwr w0 t s E m l G sf Q z W) (hm : m < E.M) (hr : RcIn Q W rv b.recs) (hrl : b.recs.length ≤ 1048576) (he : b.base = gsEnd G) :
    Calls Tryz.prog 30 #[.pointer (some ⟨s, 0, none⟩), bv (b, rv)] W (PFed w0 t s E m l G sf Q z b W) := by
  cases hg : Pl.goodB b with
  | true =>
    refine (L.append hm hr hg he).mono ?_
    rintro e W' ⟨h1, ⟨rfl, h2⟩ | ⟨h2, rfl, h3⟩⟩
    · exact ⟨0, rfl, h1, .inl ⟨hg, rfl, h2⟩⟩
    · exact ⟨10, rfl, h1, .inr (.inr ⟨h2, rfl, hg, h3⟩)⟩
  | false =>
    refine (L.bad hr hrl hg).mono ?_
    rintro e W' ⟨rfl, h1⟩
    exact ⟨1, rfl, Kq.below h1, .inr (.inl ⟨rfl, ((L.below h1).mono fun k _ hk => .inl hk.1).grow (by omega) hm⟩)⟩
theorem Pwr.read (L : Pwr w0 t s E m l G sf Q z W) (off most : Int) (hmo : 1 ≤ most ∧ most ≤ 1048576) :
    Calls Tryz.prog 42 #[.pointer (some ⟨s, 0, none⟩), .int .i64 off, .int .i64 most] W (ReadOut W ((fromF off (rcs (fla G))).take most.toNat)) := by
  obtain ⟨B, f, tot, n, c, K, h1, rfl, hr⟩ := L
  exact readS_any h1.sd.lies h1.log.chs h1.log.good h1.small off most hmo
end
/-- A batch in a box y, all that is new behind V. -/
def Nx (V : World) (y : Nat) (b : Pl.Bt) (rv : Value) (W : World) : Prop :=
  V.heap.size ≤ y ∧ Below V.heap.size V W ∧ Blk W y #[.int .i64 b.base, .int .i64 b.count, .int .i64 b.prod, .int .i64 b.seq, .int .i64 b.time, rv] 34 ∧ RcIn (fun k => V.heap.size ≤ k) W rv b.recs
theorem Below.six {n y : Nat} {a w : World} (h : Below n a w) (hy : n ≤ y) (v0 v1 v2 v3 v4 v5 : Value) : Below n a ((((((w.setCell ⟨y, 0, none⟩ v0).setCell ⟨y, 1, none⟩ v1).setCell ⟨y, 2, none⟩ v2).setCell ⟨y, 3, none⟩ v3).setCell ⟨y, 4, none⟩ v4).setCell ⟨y, 5, none⟩ v5) :=
  Below.setCell (p := ⟨y, 5, none⟩) (Below.setCell (p := ⟨y, 4, none⟩) (Below.setCell (p := ⟨y, 3, none⟩) (Below.setCell (p := ⟨y, 2, none⟩) (Below.setCell (p := ⟨y, 1, none⟩) (Below.setCell (p := ⟨y, 0, none⟩) h hy v0) hy v1) hy v2) hy v3) hy v4) hy v5
theorem Below.undrew {n : Nat} {a w : World} (h : Below n a.drew w) : Below n a w := ⟨h.os, h.tape, h.output, h.size, h.block⟩
theorem box6 {X W : World} {c0 c1 c2 c3 c4 c5 : Value} {T : TypeId} (h : Below (X.alloc (.cells #[c0, c1, c2, c3, c4, c5] T)).heap.size (X.alloc (.cells #[c0, c1, c2, c3, c4, c5] T)) W) :
    W.cell? ⟨X.heap.size, 0, none⟩ = some c0 ∧ W.cell? ⟨X.heap.size, 1, none⟩ = some c1 ∧ W.cell? ⟨X.heap.size, 2, none⟩ = some c2 ∧ W.cell? ⟨X.heap.size, 3, none⟩ = some c3 ∧ W.cell? ⟨X.heap.size, 4, none⟩ = some c4 ∧ W.cell? ⟨X.heap.size, 5, none⟩ = some c5 ∧
    W.frozen? ⟨X.heap.size, 0, none⟩ = false ∧ W.frozen? ⟨X.heap.size, 1, none⟩ = false ∧ W.frozen? ⟨X.heap.size, 2, none⟩ = false ∧ W.frozen? ⟨X.heap.size, 3, none⟩ = false ∧ W.frozen? ⟨X.heap.size, 4, none⟩ = false ∧ W.frozen? ⟨X.heap.size, 5, none⟩ = false ∧ Blk W X.heap.size #[c0, c1, c2, c3, c4, c5] T := by
  have hy := (Blk.new X #[c0, c1, c2, c3, c4, c5] T).below h
  exact ⟨hy.cell rfl, hy.cell rfl, hy.cell rfl, hy.cell rfl, hy.cell rfl, hy.cell rfl, hy.free, hy.free, hy.free, hy.free, hy.free, hy.free, hy⟩
theorem six_block (w : World) (y k : Nat) (hk : k ≠ y) (v0 v1 v2 v3 v4 v5 : Value) : ((((((w.setCell ⟨y, 0, none⟩ v0).setCell ⟨y, 1, none⟩ v1).setCell ⟨y, 2, none⟩ v2).setCell ⟨y, 3, none⟩ v3).setCell ⟨y, 4, none⟩ v4).setCell ⟨y, 5, none⟩ v5).heap[k]? = w.heap[k]? := by
  rw [Below.heap_setCell _ _ _ _ hk, Below.heap_setCell _ _ _ _ hk, Below.heap_setCell _ _ _ _ hk, Below.heap_setCell _ _ _ _ hk, Below.heap_setCell _ _ _ _ hk, Below.heap_setCell _ _ _ _ hk]
theorem Nx.fresh {V W : World} {b : Pl.Bt} {rv : Value} {z : Nat} (h : Below V.heap.size V W) (hz : V.heap.size ≤ z) (hr : RcIn (fun k => z ≤ k) W rv b.recs) :
    Nx V W.heap.size b rv (W.alloc (.cells #[.int .i64 b.base, .int .i64 b.count, .int .i64 b.prod, .int .i64 b.seq, .int .i64 b.time, rv] 34)) :=
  ⟨h.size, h.alloc h.size _, Blk.new _ _ _, Rds.mono (hr.below ((Below.refl _ _).alloc (Nat.le_refl _) _)) fun _ hk => Nat.le_trans hz hk⟩
theorem Nx.old {V W : World} {b : Pl.Bt} {rv c0 c1 c2 c3 c4 c5 : Value} {y z : Nat} (h : Below V.heap.size V W) (hy : V.heap.size ≤ y) (hb : Blk W y #[c0, c1, c2, c3, c4, c5] 34) (hyz : y < z) (hr : RcIn (fun k => z ≤ k) W rv b.recs) :
    Nx V y b rv ((((((W.setCell ⟨y, 0, none⟩ (.int .i64 b.base)).setCell ⟨y, 1, none⟩ (.int .i64 b.count)).setCell ⟨y, 2, none⟩ (.int .i64 b.prod)).setCell ⟨y, 3, none⟩ (.int .i64 b.seq)).setCell ⟨y, 4, none⟩ (.int .i64 b.time)).setCell ⟨y, 5, none⟩ rv) :=
  ⟨hy, Below.six h hy _ _ _ _ _ _, Blk.six hb _ _ _ _ _ _, Rds.keep hr (by simp [World.setCell]) fun k hk hl => ⟨six_block W y k (by omega) _ _ _ _ _ _, by omega⟩⟩
end Go.Proofs.YtdaoeplblkfapaaGreatDoor

/- PLAIN: how many records a log has; what is read on. -/
namespace Go.Proofs.YtdaoeplblkfapaaGreatDoor
open Go.RowKit

theorem rcs_len {l : List Pl.Bt} (h : ∀ b ∈ l, Pl.goodB b = true) : (rcs l).length ≤ 8 * l.length := by
  induction l with
  | nil => exact Nat.le_refl _
  | cons b l ih =>
    have h1 := ih fun c hc => h c (List.mem_cons_of_mem _ hc)
    have h2 := (Pl.enc_short (h b List.mem_cons_self)).2.2
    show (b.recs ++ rcs l).length ≤ _
    rw [List.length_append, List.length_cons]
    omega
theorem rcs_push (G : List Sg) (sv : Int) (b : Pl.Bt) : rcs (fla (push G sv b)) = rcs (fla G) ++ b.recs := by
  rw [push_flat, rcs_append, rcs_one]
theorem Log.rise {G : List Sg} (h : Log G) : (rcs (fla G)).Pairwise (fun r s => r.off < s.off) ∧ ∀ r ∈ rcs (fla G), 0 ≤ r.off ∧ r.off ≤ 1099511627776 := by
  have hg := h.good
  refine ⟨?_, fun r hr => ?_⟩
  · by_cases hG : G = []
    · subst hG; exact List.Pairwise.nil
    · obtain ⟨x, -, hk⟩ := h.get
      exact (rcs_rise hk.chain).1
  · obtain ⟨b, hb, hrb⟩ := List.mem_flatMap.1 hr
    have h1 := good_bend (hg b hb)
    have h2 := (Pl.rise_mem (good_rise (hg b hb)) r hrb).2
    omega
/-- Read on, so many at a time: the next ones. -/
theorem read_next {rs : List Pl.Rc} (h : rs.Pairwise fun r s => r.off < s.off) {off : Int} {n st : Nat} (_hn : fromF off rs = rs.drop n) (hnl : n < rs.length) (hst : 1 ≤ st) :
    ∃ r : Pl.Rc, ((rs.drop n).take st)[((rs.drop n).take st).length - 1]? = some r ∧ r ∈ rs ∧ fromF (r.off + 1) rs = rs.drop (n + ((rs.drop n).take st).length) := by
  obtain ⟨k, hk⟩ : ∃ k, ((rs.drop n).take st).length = k := ⟨_, rfl⟩
  have hk' : k = min st (rs.length - n) := by rw [← hk, List.length_take, List.length_drop]
  have hk1 : 1 ≤ k := by omega
  have hk2 : n + k ≤ rs.length := by omega
  obtain ⟨r, hr⟩ : ∃ r, rs[n + k - 1]? = some r := ⟨_, List.getElem?_eq_getElem (by omega)⟩
  rw [hk]
  refine ⟨r, ?_, List.mem_of_getElem? hr, ?_⟩
  · rw [List.getElem?_take, if_pos (by omega), List.getElem?_drop, show n + (k - 1) = n + k - 1 by omega]
    exact hr
  · have e : rs = rs.take (n + k - 1) ++ r :: rs.drop (n + k) := by
      have h1 := List.take_append_drop (n + k - 1) rs
      rw [List.drop_eq_getElem_cons (by omega : n + k - 1 < rs.length)] at h1
      have h2 : rs[n + k - 1]'(by omega) = r := (List.getElem?_eq_some_iff.1 hr).2
      rw [h2, show n + k - 1 + 1 = n + k by omega] at h1
      exact h1.symm
    have h3 := h
    rw [e] at h3
    have h4 := fromF_behind h3
    rw [← e] at h4
    exact h4
theorem take_on {rs : List Pl.Rc} {n st k : Nat} (hk : ((rs.drop n).take st).length = k) : rs.take (n + k) = rs.take n ++ (rs.drop n).take st := by
  have h : (rs.drop n).take k = (rs.drop n).take st := by
    rw [List.length_take] at hk
    rw [← hk, List.take_eq_take_iff]
    omega
  rw [← h, List.take_add]
end Go.Proofs.YtdaoeplblkfapaaGreatDoor

/- THE CONTRACTS of a strand that is nil: Append, Sync, Read. -/
namespace Go.Proofs.YtdaoeplblkfapaaGreatDoor
open Go.RowKit Go.Shelf
attribute [local go_sem] Oper.semAt_some

/-- The going over nothing. -/
theorem goes_nil (n : Nat) (l bs bo : Nat) (W : World) (hc : W.cell? ⟨bs, 0, none⟩ = some (.pointer none)) :
    CallsIn Fence.wide n Tryz.prog 115 #[.func (.yield l) #[] #[], .pointer (some ⟨bs, 0, none⟩), .pointer (some ⟨bo, 0, none⟩)] W fun e W' => (∃ v, e = .returned v) ∧ W = W' := by
  refine callsIn_of_wp Tryz.func115 rfl trivial ?_ rfl
  simp only [Tryz.ntmps115, List.size_toArray, List.length_cons, List.length_nil, Nat.reduceAdd, Nat.reduceSub, Array.replicate_succ, Array.replicate_zero, List.push_toArray, List.append_toArray, List.nil_append, List.cons_append]
  gi_wp2_with fail
  refine bodyPost_ret (results_none rfl _ _ _) rfl ?_
  exact ⟨⟨_, rfl⟩, rfl⟩
theorem gives_nil {bs bo : Nat} {w : World} (n : Nat) (hc : w.cell? ⟨bs, 0, none⟩ = some (.pointer none)) :
    Gives Fence.wide n Tryz.prog 115 #[.pointer (some ⟨bs, 0, none⟩), .pointer (some ⟨bo, 0, none⟩)] (fun x => #[bv x]) (fun _ _ => True) (fun _ _ _ => False) (fun xs => xs = []) (fun _ => False) w :=
  fun l _J _Jx W hW _ _ _ h0 => (goes_nil n l bs bo W ((hW.cell (p := ⟨bs, 0, none⟩) (block_lt_of_cell hc)).trans hc)).mono fun _e _W' ⟨hv, hw⟩ => ⟨hv, .inl ⟨[], rfl, hw ▸ h0⟩⟩
set_option maxHeartbeats 1000000 in
theorem syncS_nil (w : World) : Calls Tryz.prog 31 #[.pointer none] w fun e w' => e = .returned (.int .i64 2) ∧ w = w' := by
  have HR := Lib.hid (readyS_nil w)
  go_enter Tryz.func31, Tryz.ntmps31
  go_wp2_with fail
  refine HR.out.mono ?_
  rintro e w1 ⟨rfl, rfl⟩
  go_wp2_with fail
  go_ret
  exact ⟨rfl, rfl⟩
set_option maxHeartbeats 1000000 in
theorem appendS_nil (w : World) (a b c d e f : Value) : Calls Tryz.prog 30 #[.pointer none, .agg #[a, b, c, d, e, f]] w fun e w' => e = .returned (.int .i64 2) ∧ Below w.heap.size w w' := by
  have HR := Lib.hid fun wx => readyS_nil wx
  have HB : Hid (Below w.heap.size w (w.alloc (.cells #[a, b, c, d, e, f] 34))) := Lib.hid ((Below.refl _ _).alloc (Nat.le_refl _) _)
  go_enter Tryz.func30, Tryz.ntmps30
  go_wp2_with fail
  refine (HR.out _).mono ?_
  rintro e w1 ⟨rfl, rfl⟩
  go_wp2_with fail
  go_ret
  exact ⟨rfl, HB.out⟩
/-- While Read of nil goes on. -/
def NlI (w : World) (z : Nat) (pre : List (Pl.Bt × Value)) (W : World) : Prop := pre = [] ∧ Below z w W ∧ (∃ u, Blk W (z + 2) #[u] 32) ∧ Blk W (z + 3) #[.slice none 0 0] 32
set_option maxRecDepth 100000 in
set_option maxHeartbeats 4000000 in
theorem readS_nil (w : World) (off most : Int) :
    Calls Tryz.prog 42 #[.pointer none, .int .i64 off, .int .i64 most] w fun e w' => e = .returned (.slice none 0 0) ∧ Below w.heap.size w w' := by
  refine (callsIn_wide (n := 6)).1 ?_
  refine callsIn_of_wp_marks Tryz.func42 rfl trivial ?_ rfl
  simp only [Tryz.ntmps42, List.size_toArray, List.length_cons, List.length_nil, Nat.reduceAdd, Nat.reduceSub, Array.replicate_succ, Array.replicate_zero, List.push_toArray, List.append_toArray, List.nil_append, List.cons_append]
  gi_wp2_with fail
  refine ⟨trivial, (callsIn_wide.2 (batches_fn _ _ _)).mono ?_⟩
  rintro e w3 ⟨rfl, rfl⟩
  gi_wp2_with fail
  have hnew := fun (V : World) (cs : Array Value) (T : TypeId) => Blk.new V cs T
  obtain ⟨z, hz⟩ : ∃ z, w.heap.size = z := ⟨_, rfl⟩
  rw [hz]
  simp only [Nat.add_assoc, Nat.reduceAdd]
  obtain ⟨W1, hW1⟩ : ∃ V, w.alloc (.cells #[.int .i64 off] 3) = V := ⟨_, rfl⟩
  obtain ⟨W2, hW2⟩ : ∃ V, W1.alloc (.cells #[.int .i64 most] 3) = V := ⟨_, rfl⟩
  obtain ⟨W3, hW3⟩ : ∃ V, W2.alloc (.cells #[.slice none 0 0] 32) = V := ⟨_, rfl⟩
  obtain ⟨W4, hW4⟩ : ∃ V, W3.alloc (.cells #[.slice none 0 0] 32) = V := ⟨_, rfl⟩
  obtain ⟨W5, hW5⟩ : ∃ V, W4.alloc (.cells #[.pointer none] 42) = V := ⟨_, rfl⟩
  obtain ⟨WL, hWL⟩ : ∃ V, W5.alloc (.cells #[.int .i64 off] 3) = V := ⟨_, rfl⟩
  rw [hW1, hW2, hW3, hW4, hW5, hWL]
  have s1 : W1.heap.size = z + 1 := by rw [← hW1, World.size_alloc, hz]
  have s2 : W2.heap.size = z + 2 := by rw [← hW2, World.size_alloc, s1]
  have s3 : W3.heap.size = z + 3 := by rw [← hW3, World.size_alloc, s2]
  have s4 : W4.heap.size = z + 4 := by rw [← hW4, World.size_alloc, s3]
  have s5 : W5.heap.size = z + 5 := by rw [← hW5, World.size_alloc, s4]
  have s6 : WL.heap.size = z + 6 := by rw [← hWL, World.size_alloc, s5]
  have b1 : Below z w W1 := by rw [← hW1, ← hz]; exact (Below.refl _ _).alloc (Nat.le_refl _) _
  have b2 : Below z w W2 := by rw [← hW2]; exact b1.alloc (by omega) _
  have b3 : Below z w W3 := by rw [← hW3]; exact b2.alloc (by omega) _
  have b4 : Below z w W4 := by rw [← hW4]; exact b3.alloc (by omega) _
  have b5 : Below z w W5 := by rw [← hW5]; exact b4.alloc (by omega) _
  have b6 : Below z w WL := by rw [← hWL]; exact b5.alloc (by omega) _
  have k3 : Blk W3 (z + 2) #[.slice none 0 0] 32 := by have := hnew W2 #[.slice none 0 0] 32; rwa [hW3, s2] at this
  have k4 : Blk W4 (z + 3) #[.slice none 0 0] 32 := by have := hnew W3 #[.slice none 0 0] 32; rwa [hW4, s3] at this
  have k5 : Blk W5 (z + 4) #[.pointer none] 42 := by have := hnew W4 #[.pointer none] 42; rwa [hW5, s4] at this
  have q5 : Blk WL (z + 4) #[.pointer none] 42 := by rw [← hWL]; exact k5.alloc _
  have q4 : Blk WL (z + 3) #[.slice none 0 0] 32 := by rw [← hWL, ← hW5]; exact (k4.alloc _).alloc _
  have q3 : Blk WL (z + 2) #[.slice none 0 0] 32 := by rw [← hWL, ← hW5, ← hW4]; exact ((k3.alloc _).alloc _).alloc _
  have hI0 : NlI w z [] WL := ⟨rfl, b6, ⟨_, q3⟩, q4⟩
  have HGV := Lib.hid (gives_nil (bo := z + 5) (w := WL) 5 (q5.cell rfl))
  have HI0 := Lib.hid hI0
  have HSZ := Lib.hid s6
  have HZ := Lib.hid hz
  clear hnew hI0 hW1 hW2 hW3 hW4 hW5 hWL s1 s2 s3 s4 s5 s6 b1 b2 b3 b4 b5 b6 k3 k4 k5 q3 q4 q5 hz
  refine wpIn_gives rfl (by omega) (gf := 115) (lb := #[.pointer (some ⟨z + 4, 0, none⟩), .pointer (some ⟨z + 5, 0, none⟩)]) rfl trivial (enters_of Tryz.func115 (by kernel_rfl) rfl)
    HGV.out (Below.refl _ _) (fun _ => rfl) (fun _ _ => trivial) (fun W l o o' hl h1 h2 => trivial)
    (fun pre W => NlI w z pre W) (fun _ _ _ => False) (fun _ _ _ => False)
    ?hI (fun _ _ _ _ _ h _ _ => h) (fun _ _ _ _ _ h _ _ => h) (fun _ _ _ _ _ h _ _ => h) HI0.out ?assign ?body ?done ?stop
  case hI =>
    rintro pre W W' row ⟨h1, h2, ⟨u, h3⟩, h4⟩ hg hr
    have hr2 := fun r e => (hr r e).2
    exact ⟨h1, h2.grown hg (by have := h4.lt; omega) fun k e => by have := (hr k e).1; rw [HSZ.out] at this; omega, ⟨u, h3.same (turn_block h3 rfl hg hr2)⟩, h4.same (turn_block h4 rfl hg hr2)⟩
  case assign => rintro l pre x W K hA h; exact h.elim
  case body => rintro l pre x a' W hl hA h; exact h.elim
  case stop => rintro D c pre W hD h; exact h.elim
  case done =>
    rintro D xs W hD hS ⟨h1, h2, ⟨u, h3⟩, h4⟩ hK
    have c0 : W.cell? ⟨z + 3, 0, none⟩ = some (.slice none 0 0) := h4.cell rfl
    have c1 : W.cell? ⟨z + 2, 0, none⟩ = some u := h3.cell rfl
    have f1 : W.frozen? ⟨z + 2, 0, none⟩ = false := h3.free
    have HA := Lib.hid h2
    have HU := Lib.hid h3
    have H4 := Lib.hid h4
    have HK := Lib.hid hK
    have HD := Lib.hid hD
    clear h1 h2 h3 h4 hK hD hS
    gi_wp2_with fail
    have hk1 : (W.setCell ⟨z + 2, 0, none⟩ (.slice none 0 0)).heap[D]? = some (.deferred (some [])) := (KeepsOthers.setCell W ⟨z + 2, 0, none⟩ (.slice none 0 0)).same D _ HK.out rfl
    have hgr := grownBy_putObj' (W.setCell ⟨z + 2, 0, none⟩ (.slice none 0 0)) D (.deferred none)
    have hrr : ∀ r, some D = some r → ∃ o : Obj, (W.setCell ⟨z + 2, 0, none⟩ (.slice none 0 0)).heap[r]? = some o ∧ o.isCells = false := fun r e => by cases e; exact ⟨_, hk1, rfl⟩
    refine ⟨by simp, .inl ⟨_, _, rfl, run_takeDeferred hk1, ?_⟩⟩
    have m1 : Blk (W.setCell ⟨z + 2, 0, none⟩ (.slice none 0 0)) (z + 2) #[.slice none 0 0] 32 := HU.out.set (i := 0) (.slice none 0 0)
    have m2 := m1.same (turn_block m1 rfl hgr hrr)
    have c5 := m2.cell (i := 0) rfl
    refine ⟨.slice none 0 0, ?_, rfl, ?_⟩
    · simp [results, Tryz.f42, go_sem, c5]
    · rw [HZ.out]
      exact (HA.out.setCell (p := ⟨z + 2, 0, none⟩) (by show z ≤ z + 2; omega) _).grown hgr (by have := H4.out.lt; simp [World.setCell]; omega) fun k e => by cases e; have := HD.out; rw [HSZ.out] at this; omega
end Go.Proofs.YtdaoeplblkfapaaGreatDoor
