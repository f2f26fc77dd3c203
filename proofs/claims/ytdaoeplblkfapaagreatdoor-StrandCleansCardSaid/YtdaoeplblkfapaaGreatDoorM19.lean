import Derived.Test.YtdaoeplblkfapaaGreatDoorM16
import Derived.Test.YtdaoeplblkfapaaGreatDoorM17
import Derived.Test.YtdaoeplblkfapaaGreatDoorM18
import Derived.Test.YtdaoeplblkfapaaGreatDoorM14
import Derived.RangeFuncNested
import Derived.RangeFuncLeaves
import Derived.Test.YtdaoeplblkfapaaGreatDoorM02
import Derived.Test.YtdaoeplblkfapaaGreatDoorM08

/- A STRAND OVER A TAPE, as the laws meet it: what each call does to it. -/
namespace Go.Proofs.YtdaoeplblkfapaaGreatDoor
open Go.RowKit

theorem perm_of_mem {α : Type} [DecidableEq α] : ∀ {l m : List α}, l.Nodup → m.Nodup → (∀ a, a ∈ l ↔ a ∈ m) → l.Perm m
  | [], [], _, _, _ => .nil
  | [], b :: m, _, _, h => absurd ((h b).2 List.mem_cons_self) (by simp)
  | a :: l, m, hl, hm, h => by
    have hl' := List.nodup_cons.1 hl
    have ha : a ∈ m := (h a).1 List.mem_cons_self
    have hp : m.Perm (a :: m.erase a) := List.perm_cons_erase ha
    refine (List.Perm.cons a (perm_of_mem hl'.2 (hm.erase a) fun x => ?_)).trans hp.symm
    rw [hm.mem_erase_iff]
    constructor
    · intro hx
      exact ⟨fun e => hl'.1 (e ▸ hx), (h x).1 (List.mem_cons_of_mem _ hx)⟩
    · rintro ⟨hne, hx⟩
      rcases List.mem_cons.1 ((h x).2 hx) with e | e
      · exact absurd e hne
      · exact e
def lens : List (List UInt8 × List UInt8) → Nat
  | [] => 0
  | e :: E => e.2.length + lens E
theorem lens_perm {E E' : List (List UInt8 × List UInt8)} (h : E.Perm E') : lens E = lens E' := by
  induction h with
  | nil => rfl
  | cons _ _ ih => simp only [lens, ih]
  | swap => simp only [lens]; omega
  | trans _ _ h1 h2 => exact h1.trans h2
theorem lens_total (E : List Ta.Ent) : lens (E.map fun e => (e.key, e.L)) = Ta.total E := by
  induction E with
  | nil => rfl
  | cons e E ih => simp only [List.map_cons, lens, Ta.total, ih]
theorem lens_segs {P : List UInt8} {G : List Sg} (hg : ∀ b ∈ fla G, Pl.goodB b = true) : lens (G.map fun g => (nm P g.first, frs g.l)) ≤ 1130 * (fla G).length := by
  induction G with
  | nil => exact Nat.le_refl _
  | cons g G ih =>
    have e : fla (g :: G) = g.l ++ fla G := rfl
    rw [e] at hg ⊢
    have h1 := ih fun b hb => hg b (List.mem_append.2 (.inr hb))
    have h2 : (frs g.l).length ≤ 1130 * g.l.length := by
      have hgl : ∀ b ∈ g.l, Pl.goodB b = true := fun b hb => hg b (List.mem_append.2 (.inl hb))
      generalize g.l = l at hgl
      induction l with
      | nil => simp [frs]
      | cons b l ih2 =>
        have h3 := ih2 fun c hc => hgl c (List.mem_cons_of_mem _ hc)
        have h4 := (good_enc (hgl b List.mem_cons_self)).2.2
        rw [frs_cons, List.length_append, List.length_cons]
        omega
    rw [List.map_cons, lens, List.length_append]
    simp only
    omega
/-- A log's files: how many there are, and how many bytes they have at most. -/
theorem Fl.sizes {w : World} {t : Nat} {B : Nat → Prop} {f : Ta.View} {tot n : Nat} {c : Ta.Sc} {P : List UInt8} {G : List Sg} {sf : Nat} (hs : Ta.St w t B f tot n c) (hf : Fl P f G sf) (hg : Log G) : n = G.length ∧ tot ≤ 1130 * (fla G).length := by
  obtain ⟨m, E, h1, -, h3, h4, h5⟩ := hs
  have hp : (E.map fun e => (e.key, e.L)).Perm (G.map fun g => (nm P g.first, frs g.l)) := by
    refine perm_of_mem ?_ ?_ fun x => ?_
    · have := h1.keys
      rw [List.Nodup, List.pairwise_map] at this ⊢
      exact this.imp fun h e => h (congrArg Prod.fst e)
    · have := hg.sorted
      rw [List.pairwise_map] at this
      rw [List.Nodup, List.pairwise_map]
      refine (List.Pairwise.and_mem.1 this).imp fun {a b} h e => ?_
      have := nm_inj (hg.firsts a h.1) (hg.firsts b h.2.1) (congrArg Prod.fst e)
      have := h.2.2
      omega
    · obtain ⟨k, L⟩ := x
      rw [List.mem_map, List.mem_map]
      constructor
      · rintro ⟨e, he, hx⟩
        injection hx with e1 e2
        subst e1 e2
        have hfk := (h3 e.key e.L e.safe).2 ⟨e, he, rfl, rfl, rfl⟩
        refine Classical.byContradiction fun hno => ?_
        have : f e.key = none := hf.rest _ fun g hgm hnm => by
          obtain ⟨j, hj⟩ := List.getElem?_of_mem hgm
          have hh := hf.hold j g hj
          rw [hnm, hfk] at hh
          injection hh with hh
          injection hh with hh1 hh2
          exact hno ⟨g, hgm, by rw [hnm, hh1]⟩
        rw [this] at hfk
        cases hfk
      · rintro ⟨g, hgm, hx⟩
        injection hx with e1 e2
        subst e1 e2
        obtain ⟨j, hj⟩ := List.getElem?_of_mem hgm
        obtain ⟨e, he, k1, k2, -⟩ := (h3 _ _ _).1 (hf.hold j g hj)
        exact ⟨e, he, by rw [k1, k2]⟩
  constructor
  · rw [← h5, ← List.length_map (f := fun e : Ta.Ent => (e.key, e.L)), hp.length_eq, List.length_map]
  · rw [← h4, ← lens_total, lens_perm hp]
    exact lens_segs hg.good
/-- How a strand is opened: the segments' size, the prefix, the tape's room; how many calls at most. -/
structure En where
  sv : Int
  P : List UInt8
  R : Nat
  M : Nat
def En.ok (E : En) : Prop := (1 ≤ E.sv ∧ E.sv ≤ 1048576) ∧ (1 ≤ E.P.length ∧ E.P.length ≤ 16) ∧ E.M ≤ 200 ∧ 1130 * (E.M + 1) ≤ E.R ∧ E.R ≤ 1048576
/-- A strand over a tape, all of it newer than w0; behind m calls. -/
structure Lw (w0 : World) (t s : Nat) (E : En) (m l : Nat) (B : Nat → Prop) (f : Ta.View) (tot n : Nat) (c : Ta.Sc) (K : Kx) (sf : Nat) (W : World) : Prop where
  sd : Sd W s ⟨t, l, E.P, E.sv⟩ B f tot n c K
  lb : Lb w0
  low : Below w0.heap.size w0 W
  new : ∀ b, B b → w0.heap.size ≤ b
  log : Log K.G
  fl : Fl E.P f K.G sf
  run : Run c (1000 * m) l
  room : c.room = E.R
  len : (fla K.G).length ≤ m
  life : l ≤ m
  max_ : m ≤ E.M
  ok : E.ok
theorem Log.count {G : List Sg} (h : Log G) : G.length ≤ (fla G).length + 1 := by
  obtain ⟨x, -, hk⟩ := h.get
  clear h
  induction G generalizing x with
  | nil => simp
  | cons g G ih =>
    obtain ⟨-, -, h3, h4⟩ := hk
    show G.length + 1 ≤ (g.l ++ fla G).length + 1
    rw [List.length_append]
    by_cases hG : G = []
    · subst hG; simp
    · have := ih _ h4
      have := List.length_pos_iff.2 (h3 hG)
      omega
section
variable {w0 W : World} {t s : Nat} {E : En} {m l : Nat} {B : Nat → Prop} {f : Ta.View} {tot n : Nat} {c : Ta.Sc} {K : Kx} {sf : Nat}
theorem Lw.below {W' : World} (L : Lw w0 t s E m l B f tot n c K sf W) (b : Below W.heap.size W W') : Lw w0 t s E m l B f tot n c K sf W' :=
  { L with sd := L.sd.below b, low := L.low.trans (b.mono L.low.size) }
theorem Lw.lbW (L : Lw w0 t s E m l B f tot n c K sf W) : Lb W := L.lb.below L.lb.size L.low
theorem Lw.b8 (L : Lw w0 t s E m l B f tot n c K sf W) : ∀ b, B b → 8 ≤ b := fun b hb => by have := L.new b hb; have := L.lb.size; omega
theorem Lw.X (L : Lw w0 t s E m l B f tot n c K sf W) : K.X.length ≤ m + 1 := by
  have := L.log.count
  have := L.len
  have e : K.G.length = K.X.length := List.length_map _
  omega
theorem Lw.lists (L : Lw w0 t s E m l B f tot n c K sf W) : ∀ x ∈ K.X, x.L.length ≤ 1048576 := fun x hx => by
  have h1 := L.len
  have h2 := L.max_
  have h5 := L.ok.2.2.1
  have h3 : x.sg.l.length ≤ (fla K.G).length := by
    obtain ⟨A, C, e⟩ := List.append_of_mem (List.mem_map.2 ⟨x, hx, rfl⟩ : x.sg ∈ K.G)
    have e' : K.G = A ++ x.sg :: C := e
    rw [e', fla_append, show fla (x.sg :: C) = x.sg.l ++ fla C from rfl]
    simp only [List.length_append]
    omega
  have h4 : x.sg.l.length = x.L.length := by simp [Sx.sg, Sx.bts]
  omega
theorem Lw.small (L : Lw w0 t s E m l B f tot n c K sf W) : K.X.length ≤ 1048576 ∧ ∀ x ∈ K.X, x.L.length ≤ 1048576 := ⟨by have := L.X; have := L.max_; have := L.ok.2.2.1; omega, L.lists⟩
theorem Lw.fit (L : Lw w0 t s E m l B f tot n c K sf W) : Fit K.G := by
  refine ⟨by have := L.small.1; simpa [Kx.G] using this, fun g hg => ?_, L.log.firsts⟩
  obtain ⟨x, hx, rfl⟩ := List.mem_map.1 hg
  have := L.lists x hx
  simpa [Sx.sg, Sx.bts] using this
theorem Lw.sizes (L : Lw w0 t s E m l B f tot n c K sf W) : n = K.G.length ∧ tot ≤ 1130 * m := by
  obtain ⟨T, hs, -⟩ := L.sd
  obtain ⟨h1, h2⟩ := L.fl.sizes hs L.log
  have := L.len
  exact ⟨h1, by omega⟩
theorem Lw.more {m' : Nat} (L : Lw w0 t s E m l B f tot n c K sf W) (h : m ≤ m') (h2 : m' ≤ E.M) : Lw w0 t s E m' l B f tot n c K sf W :=
  { L with run := L.run.more (by omega), len := Nat.le_trans L.len h, life := Nat.le_trans L.life h, max_ := h2 }
/-- End. -/
theorem Lw.end_ (L : Lw w0 t s E m l B f tot n c K sf W) : Calls Tryz.prog 29 #[.pointer (some ⟨s, 0, none⟩)] W fun e W' => e = .returned (.int .i64 (gsEnd K.G)) ∧ Below W.heap.size W W' :=
  endS_any L.sd.lies L.small.1 L.log.chs L.lists
theorem Lw.start_ (L : Lw w0 t s E m l B f tot n c K sf W) : Calls Tryz.prog 46 #[.pointer (some ⟨s, 0, none⟩)] W fun e W' => e = .returned (.int .i64 (gsStart K.G)) ∧ W = W' :=
  start_any L.sd.lies L.small.1
/-- What Append of a good batch leaves. -/
def AppL (w0 : World) (t s : Nat) (E : En) (m l : Nat) (B A : Nat → Prop) (c : Ta.Sc) (G : List Sg) (sf : Nat) (b : Pl.Bt) (W : World) (e : Ending) (W' : World) : Prop :=
  ∃ (B' : Nat → Prop) (f' : Ta.View) (tot' n' : Nat) (c' : Ta.Sc) (K' : Kx), e = .returned (.int .i64 0) ∧ Moved B B' W W' ∧ Lw w0 t s E (m + 1) l B' f' tot' n' c' K' (pushSf G E.sv sf) W' ∧ K'.G = push G E.sv b ∧ c'.armed = 0 ∧ c.armed = 0 ∧ ∀ b, K'.A b → A b ∨ W.heap.size ≤ b
theorem moved_new {B' : Nat → Prop} {W' : World} (hn : ∀ b, B b → w0.heap.size ≤ b) (hs : w0.heap.size ≤ W.heap.size) (m : Moved B B' W W') : ∀ b, B' b → w0.heap.size ≤ b := fun b hb => by
  rcases m.new b hb with h | h
  · exact hn b h
  · omega
theorem moved_low {B' : Nat → Prop} {W' : World} (hn : ∀ b, B b → w0.heap.size ≤ b) (hl : Below w0.heap.size w0 W) (m : Moved B B' W W') : Below w0.heap.size w0 W' := (m.below hl hn).1
theorem Lw.append (L : Lw w0 t s E m l B f tot n c K sf W) (hm : m < E.M) (harm : c.armed = 0) (base count prod seq time : Int) (recs : List Pl.Rc) (rv : Value) (hr : RcIn (fun b => ¬ B b) W rv recs) (hg : Pl.goodB ⟨base, count, prod, seq, time, recs⟩ = true) (hb : base = gsEnd K.G) :
    Calls Tryz.prog 30 #[.pointer (some ⟨s, 0, none⟩), .agg #[.int .i64 base, .int .i64 count, .int .i64 prod, .int .i64 seq, .int .i64 time, rv]] W (AppL w0 t s E m l B K.A c K.G sf ⟨base, count, prod, seq, time, recs⟩ W) := by
  have hsz := L.sizes
  obtain ⟨-, -, ok3, ok4, ok5⟩ := L.ok
  have hlen : K.G.length ≤ m + 1 := by have := L.X; have e : K.G.length = K.X.length := List.length_map _; omega
  have hlife := L.life
  refine (appendS_any L.sd L.lbW L.b8 L.ok.2.1 L.ok.1 L.log L.fit L.run.life L.run (by omega) (by show l ≤ _; omega) L.fl base count prod seq time recs rv hr hg hb (by omega) (by rw [L.room]; omega)).mono ?_
  rintro e W' ⟨B', f', tot', n', c', K', er, rfl, hmv, hsd, hroom, htot, hn', hkA, hor⟩
  rcases hor with ⟨rfl, hG, hfl, hrun, harm'⟩ | ⟨-, -, -, -, hna⟩
  · refine ⟨B', f', tot', n', c', K', rfl, hmv, ⟨hsd, L.lb, moved_low L.new L.low hmv, moved_new L.new L.low.size hmv, ?_, hG ▸ hfl, hrun.more (by omega), by rw [hroom, L.room], ?_, by omega, by omega, L.ok⟩, hG, harm' harm, harm, hkA⟩
    · rw [hG]; exact push_log L.log L.ok.1.1 hg hb
    · rw [hG, push_flat, List.length_append]
      have := L.len
      simp
      omega
  · exact absurd harm hna
/-- Sync. -/
def SynL (w0 : World) (t s : Nat) (E : En) (m l : Nat) (B : Nat → Prop) (_f : Ta.View) (tot n : Nat) (K : Kx) (W : World) (e : Ending) (W' : World) : Prop :=
  ∃ (B' : Nat → Prop) (f' : Ta.View) (c' : Ta.Sc) (sf' : Nat), e = .returned (.int .i64 0) ∧ Moved B B' W W' ∧ Lw w0 t s E (m + 1) l B' f' tot n c' K sf' W' ∧ c'.armed = 0 ∧ ∀ G g, K.G = G ++ [g] → sf' = (frs g.l).length
theorem Lw.sync (L : Lw w0 t s E m l B f tot n c K sf W) (hm : m < E.M) (harm : c.armed = 0) :
    Calls Tryz.prog 31 #[.pointer (some ⟨s, 0, none⟩)] W (SynL w0 t s E m l B f tot n K W) := by
  have hlife := L.life
  have ok3 := L.ok.2.2.1
  rcases snoc_or K.G with hG | ⟨G, g, hG⟩
  · have hX : K.X = [] := List.map_eq_nil_iff.1 hG
    refine (syncS_none L.sd hX L.run.life (by show l ≤ _; omega)).mono ?_
    rintro e W' ⟨rfl, hb⟩
    exact ⟨B, f, c, sf, rfl, .of_below hb, (L.below hb).more (by omega) (by omega), harm, fun G g e => by rw [hG] at e; simp at e⟩
  · have hf := L.fl
    rw [hG] at hf
    refine (syncS_any L.sd hG L.lbW L.b8 (by have := L.ok.2.1.2; show E.P.length ≤ _; omega) (hG ▸ L.fit) L.run.life L.run (by omega) (by show l ≤ _; omega) _ _ hf.last).mono ?_
    rintro e W' ⟨B', c', er, rfl, hmv, hroom, hor⟩
    rcases hor with ⟨rfl, hsd, hrun, harm'⟩ | ⟨-, -, -, hna⟩
    · have hlog := L.log
      rw [hG] at hlog
      have hfl := hf.change hlog g.l (frs g.l).length
      rw [show ({ first := g.first, l := g.l } : Sg) = g from rfl, ← hG] at hfl
      refine ⟨B', _, c', (frs g.l).length, rfl, hmv, ⟨hsd, L.lb, moved_low L.new L.low hmv, moved_new L.new L.low.size hmv, L.log, hfl, hrun.more (by omega), by rw [hroom, L.room], Nat.le_succ_of_le L.len, by omega, by omega, L.ok⟩, harm' harm, fun G' g' e => ?_⟩
      rw [hG] at e
      obtain ⟨-, e2⟩ := List.append_inj' e rfl
      injection e2 with e2
      rw [e2]
    · exact absurd harm hna
/-- Off, On. -/
theorem Sd.off {h : Hs} (k : Sd W s h B f tot n c K) (hl : c.life ≤ 1099511627776) :
    Calls Tryz.prog 32 #[.pointer (some ⟨h.t, 0, none⟩)] W fun e W' => (∃ v, e = .returned v) ∧ ∃ B', Sd W' s h B' f tot n (Ta.offS c) K ∧ Moved B B' W W' := by
  obtain ⟨T, hs, hup⟩ := k.tape
  refine (Ta.s_off hs hl).mono ?_
  rintro e W' ⟨hv, T', h1, h2⟩
  obtain ⟨B', h3, h4⟩ := hup _ _ _ _ _ _ h1 h2
  exact ⟨hv, B', h3, h4⟩
theorem Sd.on {h : Hs} (k : Sd W s h B f tot n c K) (hd : c.down = true) (fv : Value) (zs : List Int) (hf : Ta.Nums W fv zs) (hfo : 0 < zs.length → ∀ a c d, fv = .slice (some a) c d → ¬ B a.block) :
    Calls Tryz.prog 33 #[.pointer (some ⟨h.t, 0, none⟩), fv] W fun e W' => (∃ v, e = .returned v) ∧ ∃ B' f' tot', Sd W' s h B' f' tot' n { c with down := false } K ∧ Ta.Left zs f f' ∧ Moved B B' W W' := by
  obtain ⟨T, h1, h2, h4, h5⟩ := k
  refine (Ta.s_on h1 hd fv zs hf fun h0 a c d e hT => hfo h0 a c d e ((h4 _).2 (.inl hT))).mono ?_
  rintro e W' ⟨hv, T', f', tot', k1, k2, k3⟩
  obtain ⟨B', q1, q2, q3, q4⟩ := taped h2 h4 h5 k3
  exact ⟨hv, B', f', tot', ⟨T', k1, q1, q2, q3⟩, k2, q4⟩
/-- Opened again: what is found of a log. -/
def Rest (G : List Sg) (sf : Nat) (G' : List Sg) : Prop := (G = [] ∧ G' = []) ∨ ∃ G0 g k, G = G0 ++ [g] ∧ k ≤ g.l.length ∧ (∀ j, j ≤ g.l.length → (frs (g.l.take j)).length ≤ sf → j ≤ k) ∧ G' = G0 ++ [⟨g.first, g.l.take k⟩]
theorem Rest.len {G G' : List Sg} {sf : Nat} (h : Rest G sf G') : (fla G').length ≤ (fla G).length := by
  rcases h with ⟨rfl, rfl⟩ | ⟨G0, g, k, rfl, -, -, rfl⟩
  · exact Nat.le_refl _
  · rw [fla_append, fla_append, fla_one, fla_one, List.length_append, List.length_append, List.length_take]
    omega
theorem Rest.whole {G G' : List Sg} {sf : Nat} (h : Rest G sf G') (hw : ∀ G0 g, G = G0 ++ [g] → sf = (frs g.l).length) : G' = G := by
  rcases h with ⟨rfl, rfl⟩ | ⟨G0, g, k, rfl, hk, hm, rfl⟩
  · rfl
  · have := hm g.l.length (Nat.le_refl _) (by rw [List.take_length, hw G0 g rfl]; exact Nat.le_refl _)
    rw [List.take_of_length_le (by omega)]
/-- What Open leaves: another strand; the old one lies as it lay. -/
def OpnL (w0 : World) (t s : Nat) (E : En) (m l : Nat) (B : Nat → Prop) (K : Kx) (h0 : Hs) (G : List Sg) (sf : Nat) (W : World) (e : Ending) (W' : World) : Prop :=
  ∃ (p : Nat) (B' : Nat → Prop) (f' : Ta.View) (tot' n' : Nat) (c' : Ta.Sc) (K' : Kx) (sf' : Nat), e = .returned (.tuple #[.pointer (some ⟨p, 0, none⟩), .int .i64 0]) ∧ Lw w0 t p E (m + 1) l B' f' tot' n' c' K' sf' W' ∧ c'.armed = 0 ∧ Rest G sf K'.G ∧ (∀ G0 g, K'.G = G0 ++ [g] → sf' = (frs g.l).length) ∧ Lies W' s h0 K.X K.v K.gb (fun _ => True) ∧ Moved B B' W W'
theorem Sd.open_ {h : Hs} {f0 : Ta.View} {G : List Sg} {fates : List Int} (k : Sd W s h B f tot n c K) (lb : Lb w0) (hlow : Below w0.heap.size w0 W) (hnew : ∀ b, B b → w0.heap.size ≤ b) (hok : E.ok) (hm : m < E.M) (q : Run c (1000 * m) l) (hlm : l ≤ m + 1) (harm : c.armed = 0) (hroom : c.room = E.R) (hn : n ≤ m + 2)
    (hfm : Fm E.P f0 G sf) (hlog : Log G) (hG : (fla G).length ≤ m) (hleft : Ta.Left fates f0 f) :
    Calls Tryz.prog 18 #[.pointer (some ⟨h.t, 0, none⟩), .string ⟨E.P.toArray⟩, .int .i64 E.sv] W (OpnL w0 h.t s E m l B K h G sf W) := by
  obtain ⟨-, -, ok3, ok4, ok5⟩ := (id hok : E.ok)
  obtain ⟨T, h1, h2, h4, h5⟩ := k
  have hTB : ∀ b, T b → B b := fun b hb => (h4 b).2 (.inl hb)
  have hl : c.life = l := q.life
  have hkn : ∀ k, f k ≠ none → k.length ≤ 1048576 := fun k hk => by
    refine Classical.byContradiction fun hno => hk ?_
    have h0 : f0 k = none := hfm.rest k (fun g hg e => hno (by rw [← e, nm_length (hlog.firsts g hg).1 (hlog.firsts g hg).2]; have := hok.2.1.2; omega)) (by rintro rfl; exact hno (by have := hok.2.1.2; simp [nmNew]; omega))
    have := hleft k
    rw [h0] at this
    exact this
  refine (open_any h1 (lb.below lb.size hlow) (fun b hb => by have := hnew b (hTB b hb); have := lb.size; omega) E.P hok.2.1 E.sv hok.1 (a := 1000 * m) (hl ▸ q) harm (by omega) (by omega) (by omega) (by omega) hkn).mono ?_
  rintro e W' ⟨p, zs, B', tot', n', c', K', rfl, hz1, hz2, hmv, hsd, hKG, ht', hn', hr', hrun, harm'⟩
  have hnewT : ∀ b, T b → w0.heap.size ≤ b := fun b hb => hnew b (hTB b hb)
  have hlies : Lies W' s h K.X K.v K.gb (fun _ => True) := h2.keep hmv.size (fun b hb => hmv.block b (h2.lt b hb) fun ht => h5 b ht hb) fun b hb hl => ⟨hmv.block b hl fun ht => hb.1 (hTB b ht), trivial⟩
  have hfin : ∃ sf', Rest G sf K'.G ∧ Fl E.P (walkF E.P (Ta.upd f (nmNew E.P) none) zs []).1 K'.G sf' ∧ Log K'.G ∧ ∀ G0 g, K'.G = G0 ++ [g] → sf' = (frs g.l).length := by
    rcases snoc_or G with rfl | ⟨G0, g, rfl⟩
    · obtain ⟨e1, e2⟩ := hfm.left_none hleft hz1 hz2
      have e3 : K'.G = [] := by rw [hKG, e1]
      exact ⟨0, .inl ⟨rfl, e3⟩, by rw [e3, e1]; exact e2, by rw [e3]; exact Log.nil, fun G0 g e => by rw [e3] at e; simp at e⟩
    · obtain ⟨k, k1, k2, k3, k4, k5⟩ := hfm.left_some hlog hleft hz1 hz2
      have e3 : K'.G = G0 ++ [⟨g.first, g.l.take k⟩] := by rw [hKG, k3]
      refine ⟨_, .inr ⟨G0, g, k, rfl, k1, k2, e3⟩, by rw [e3]; exact k4, by rw [e3]; exact k5, fun G1 g1 e => ?_⟩
      rw [e3] at e
      obtain ⟨-, e2⟩ := List.append_inj' e rfl
      injection e2 with e2
      rw [← e2]
  obtain ⟨sf', r1, r2, r3, r4⟩ := hfin
  rw [hl] at hsd hrun
  refine ⟨p, B', _, tot', n', c', K', sf', rfl, ⟨hsd, lb, moved_low hnewT hlow hmv, moved_new hnewT hlow.size hmv, r3, r2, hrun.more (by omega), by rw [hr', hroom], by have := r1.len; omega, by omega, by omega, hok⟩, harm', r1, r4, hlies, hmv.mono hTB fun b hb => (hmv.new b hb).imp (hTB b) id⟩
end
end Go.Proofs.YtdaoeplblkfapaaGreatDoor

/- A STRAND OVER A NEW TAPE; the contract of the law's 'opened'. -/
namespace Go.Proofs.YtdaoeplblkfapaaGreatDoor
open Go.RowKit

/-- A strand over a tape, behind m calls, in the life l, nothing armed: its log. Blocks of Q are none of theirs. y: all is safe. -/
def Opd (w0 : World) (t s : Nat) (E : En) (m l : Nat) (G : List Sg) (Q : Nat → Prop) (y : Bool) (W : World) : Prop :=
  ∃ B f tot n c K sf, Lw w0 t s E m l B f tot n c K sf W ∧ K.G = G ∧ c.armed = 0 ∧ (∀ b, Q b → ¬ B b) ∧ (y = true → ∀ G0 g, G = G0 ++ [g] → sf = (frs g.l).length)
/-- Blocks of Q are as they were. -/
structure Kq (Q : Nat → Prop) (W W' : World) : Prop where
  size : W.heap.size ≤ W'.heap.size
  block : ∀ b, b < W.heap.size → Q b → W'.heap[b]? = W.heap[b]?
theorem Kq.refl (Q : Nat → Prop) (W : World) : Kq Q W W := ⟨Nat.le_refl _, fun _ _ _ => rfl⟩
theorem Kq.below {Q : Nat → Prop} {W W' : World} (b : Below W.heap.size W W') : Kq Q W W' := ⟨b.size, fun k hk _ => b.block k hk⟩
theorem Kq.trans {Q : Nat → Prop} {A B C : World} (h : Kq Q A B) (k : Kq Q B C) : Kq Q A C := ⟨Nat.le_trans h.size k.size, fun b hb hq => (k.block b (Nat.lt_of_lt_of_le hb h.size) hq).trans (h.block b hb hq)⟩
theorem Kq.mono {Q Q' : Nat → Prop} {A B : World} (h : Kq Q A B) (k : ∀ b, b < A.heap.size → Q' b → Q b) : Kq Q' A B := ⟨h.size, fun b hb hq => h.block b hb (k b hb hq)⟩
theorem Kq.rds {Q : Nat → Prop} {W W' : World} (k : Kq Q W W') {u : Value} {size m : Nat} {xs : List Value} (h : Rds Q W u size m xs) : Rds Q W' u size m xs := h.keep k.size fun b hb hl => ⟨k.block b hl hb, hb⟩
theorem Kq.bts {Q : Nat → Prop} {W W' : World} (k : Kq Q W W') {u : Value} {L : List (Pl.Bt × Value)} (h : BtIn Q W u L) : BtIn Q W' u L := ⟨k.rds h.1, fun p hp => k.rds (h.2 p hp)⟩
theorem Kq.moved {Q B B' : Nat → Prop} {W W' : World} (h : Moved B B' W W') (hq : ∀ b, Q b → ¬ B b) : Kq Q W W' := ⟨h.size, fun b hb hQ => h.block b hb (hq b hQ)⟩
theorem Moved.keepQ {Q B B' : Nat → Prop} {W W' : World} (h : Moved B B' W W') (hq : ∀ b, Q b → ¬ B b) : ∀ b, (Q b ∧ b < W.heap.size) → ¬ B' b := fun b hQ hB => by
  rcases h.new b hB with h1 | h1
  · exact hq b hQ.1 h1
  · omega
section
variable {w0 W W' : World} {t s m l : Nat} {E : En} {G : List Sg} {Q : Nat → Prop} {y : Bool}
theorem Opd.below (L : Opd w0 t s E m l G Q y W) (b : Below W.heap.size W W') : Opd w0 t s E m l G (fun k => Q k ∨ (W.heap.size ≤ k)) y W' := by
  obtain ⟨B, f, tot, n, c, K, sf, h1, h2, h3, h4, h5⟩ := L
  exact ⟨B, f, tot, n, c, K, sf, h1.below b, h2, h3, fun k hk hB => hk.elim (fun h => h4 k h hB) fun h => by have := h1.sd.lt k hB; omega, h5⟩
theorem Opd.mono {Q' : Nat → Prop} (L : Opd w0 t s E m l G Q y W) (h : ∀ b, b < W.heap.size → Q' b → Q b) : Opd w0 t s E m l G Q' y W := by
  obtain ⟨B, f, tot, n, c, K, sf, h1, h2, h3, h4, h5⟩ := L
  exact ⟨B, f, tot, n, c, K, sf, h1, h2, h3, fun k hk hB => h4 k (h k (h1.sd.lt k hB) hk) hB, h5⟩
theorem Opd.low (L : Opd w0 t s E m l G Q y W) : Below w0.heap.size w0 W := let ⟨_, _, _, _, _, _, _, h1, _⟩ := L; h1.low
theorem Opd.log (L : Opd w0 t s E m l G Q y W) : Log G := let ⟨_, _, _, _, _, _, _, h1, h2, _⟩ := L; h2 ▸ h1.log
theorem Opd.len (L : Opd w0 t s E m l G Q y W) : (fla G).length ≤ m ∧ m ≤ 200 ∧ G.length ≤ m + 1 := by
  obtain ⟨B, f, tot, n, c, K, sf, h1, h2, -⟩ := L
  have e : K.G.length = K.X.length := List.length_map _
  have := h1.X
  exact ⟨h2 ▸ h1.len, Nat.le_trans h1.max_ h1.ok.2.2.1, by rw [← h2]; omega⟩
theorem Opd.append {rv : Value} {base count prod seq time : Int} {recs : List Pl.Rc} (L : Opd w0 t s E m l G Q y W) (b : Below W.heap.size W W') (hm : m < E.M) (hr : RcIn (fun k => W.heap.size ≤ k) W' rv recs) (hg : Pl.goodB ⟨base, count, prod, seq, time, recs⟩ = true) (hb : base = gsEnd G) :
    Calls Tryz.prog 30 #[.pointer (some ⟨s, 0, none⟩), .agg #[.int .i64 base, .int .i64 count, .int .i64 prod, .int .i64 seq, .int .i64 time, rv]] W' fun e W'' => e = .returned (.int .i64 0) ∧ Opd w0 t s E (m + 1) l (push G E.sv ⟨base, count, prod, seq, time, recs⟩) (fun k => Q k ∧ k < W.heap.size) false W'' ∧ Kq (fun k => Q k ∧ k < W.heap.size) W W'' := by
  obtain ⟨B, f, tot, n, c, K, sf, h1, rfl, h3, h4, h5⟩ := L
  refine ((h1.below b).append hm h3 base count prod seq time recs rv (Rds.mono hr fun k hk hB => by have := h1.sd.lt k hB; omega) hg hb).mono ?_
  rintro e W'' ⟨B', f', tot', n', c', K', rfl, hmv, hL, hG, ha, -⟩
  refine ⟨rfl, ⟨B', f', tot', n', c', K', _, hL, hG, ha, fun k hk hB => ?_, fun h => by cases h⟩, (Kq.below b).trans (Kq.moved hmv fun k hk => h4 k hk.1)⟩
  exact hmv.keepQ h4 k ⟨hk.1, Nat.lt_of_lt_of_le hk.2 b.size⟩ hB
theorem Opd.sync (L : Opd w0 t s E m l G Q y W) (hm : m < E.M) :
    Calls Tryz.prog 31 #[.pointer (some ⟨s, 0, none⟩)] W fun e W'' => e = .returned (.int .i64 0) ∧ Opd w0 t s E (m + 1) l G (fun k => Q k ∧ k < W.heap.size) true W'' ∧ Kq (fun k => Q k ∧ k < W.heap.size) W W'' := by
  obtain ⟨B, f, tot, n, c, K, sf, h1, rfl, h3, h4, h5⟩ := L
  refine (h1.sync hm h3).mono ?_
  rintro e W'' ⟨B', f', c', sf', rfl, hmv, hL, ha, hs⟩
  exact ⟨rfl, ⟨B', f', tot, n, c', K, sf', hL, rfl, ha, hmv.keepQ h4, fun _ => hs⟩, Kq.moved hmv fun k hk => h4 k hk.1⟩
theorem Opd.end_ (L : Opd w0 t s E m l G Q y W) : Calls Tryz.prog 29 #[.pointer (some ⟨s, 0, none⟩)] W fun e W' => e = .returned (.int .i64 (gsEnd G)) ∧ Below W.heap.size W W' := by
  obtain ⟨B, f, tot, n, c, K, sf, h1, rfl, -⟩ := L
  exact h1.end_
theorem Opd.start_ (L : Opd w0 t s E m l G Q y W) : Calls Tryz.prog 46 #[.pointer (some ⟨s, 0, none⟩)] W fun e W' => e = .returned (.int .i64 (gsStart G)) ∧ W = W' := by
  obtain ⟨B, f, tot, n, c, K, sf, h1, rfl, -⟩ := L
  exact h1.start_
/-- The power is gone; the power is back. -/
def Ofd (w0 : World) (t s : Nat) (E : En) (m l : Nat) (G : List Sg) (Q : Nat → Prop) (y : Bool) (fates : Option (List Int)) (W : World) : Prop :=
  ∃ B f0 f tot n c K sf, Sd W s ⟨t, l, E.P, E.sv⟩ B f tot n c K ∧ Lb w0 ∧ Below w0.heap.size w0 W ∧ (∀ b, B b → w0.heap.size ≤ b) ∧ Log G ∧ Fl E.P f0 G sf ∧ (match fates with | none => f = f0 ∧ c.down = true | some zs => Ta.Left zs f0 f ∧ c.down = false) ∧ c.armed = 0 ∧ c.acts ≤ 1000 * m ∧ c.life = l + 1 ∧ c.room = E.R ∧ n ≤ m + 2 ∧ (fla G).length ≤ m ∧ l ≤ m ∧ m ≤ E.M ∧ E.ok ∧ K.G = G ∧ (∀ b, Q b → ¬ B b) ∧ (y = true → ∀ G0 g, G = G0 ++ [g] → sf = (frs g.l).length)
theorem Opd.off (L : Opd w0 t s E m l G Q y W) :
    Calls Tryz.prog 32 #[.pointer (some ⟨t, 0, none⟩)] W fun e W' => (∃ v, e = .returned v) ∧ Ofd w0 t s E m l G (fun k => Q k ∧ k < W.heap.size) y none W' ∧ Kq (fun k => Q k ∧ k < W.heap.size) W W' := by
  obtain ⟨B, f, tot, n, c, K, sf, h1, rfl, h3, h4, h5⟩ := L
  have hl := h1.run.life
  have hlm := h1.life
  have hmx := h1.max_
  have hok3 := h1.ok.2.2.1
  refine (h1.sd.off (by rw [hl]; omega)).mono ?_
  rintro e W' ⟨hv, B', hsd, hmv⟩
  have hoff : Ta.offS c = { c with armed := 0, down := true, life := c.life + 1 } := by unfold Ta.offS; rw [h1.run.on]; rfl
  rw [hoff] at hsd
  have hn : n ≤ m + 1 := by have := h1.sizes.1; have := h1.X; have e : K.G.length = K.X.length := List.length_map _; omega
  exact ⟨hv, ⟨B', f, f, tot, n, _, K, sf, hsd, h1.lb, moved_low h1.new h1.low hmv, moved_new h1.new h1.low.size hmv, h1.log, h1.fl, ⟨rfl, rfl⟩, rfl, h1.run.acts, by rw [← hl], h1.room, by omega, h1.len, hlm, hmx, h1.ok, rfl, hmv.keepQ h4, h5⟩, Kq.moved hmv fun k hk => h4 k hk.1⟩
theorem Ofd.on (L : Ofd w0 t s E m l G Q y none W) (fv : Value) (zs : List Int) (hf : Ta.Nums W fv zs) (hfo : 0 < zs.length → ∀ a c d, fv = .slice (some a) c d → a.block < w0.heap.size) :
    Calls Tryz.prog 33 #[.pointer (some ⟨t, 0, none⟩), fv] W fun e W' => (∃ v, e = .returned v) ∧ Ofd w0 t s E m l G (fun k => Q k ∧ k < W.heap.size) y (some zs) W' ∧ Kq (fun k => Q k ∧ k < W.heap.size) W W' := by
  obtain ⟨B, f0, f, tot, n, c, K, sf, h1, h2, h3, h4, h5, h6, ⟨rfl, h7⟩, h8, h9, h10, h11, h12, h13, h14, h15, h16, rfl, h17, h18⟩ := L
  refine (h1.on h7 fv zs hf fun h0 a c d e hB => by have := hfo h0 a c d e; have := h4 _ hB; omega).mono ?_
  rintro e W' ⟨hv, B', f', tot', hsd, hleft, hmv⟩
  exact ⟨hv, ⟨B', f, f', tot', n, _, K, sf, hsd, h2, moved_low h4 h3 hmv, moved_new h4 h3.size hmv, h5, h6, ⟨hleft, rfl⟩, h8, h9, h10, h11, h12, h13, h14, h15, h16, rfl, hmv.keepQ h17, h18⟩, Kq.moved hmv fun k hk => h17 k hk.1⟩
/-- .. and opened again: all of it is found if all was safe; the old strand is as it was. -/
theorem Ofd.open_ {zs : List Int} (L : Ofd w0 t s E m l G Q true (some zs) W) (hm : m < E.M) :
    Calls Tryz.prog 18 #[.pointer (some ⟨t, 0, none⟩), .string ⟨E.P.toArray⟩, .int .i64 E.sv] W fun e W' => ∃ p, e = .returned (.tuple #[.pointer (some ⟨p, 0, none⟩), .int .i64 0]) ∧ Opd w0 t p E (m + 1) (l + 1) G (fun k => Q k ∧ k < W.heap.size) true W' ∧ Kq (fun k => Q k ∧ k < W.heap.size) W W' ∧
      ∃ (X : List Sx) (v : Value) (gb : Option Nat), Lies W' s ⟨t, l, E.P, E.sv⟩ X v gb (fun _ => True) ∧ X.map Sx.sg = G := by
  obtain ⟨B, f0, f, tot, n, c, K, sf, h1, h2, h3, h4, h5, h6, ⟨hleft, hdn⟩, h8, h9, h10, h11, h12, h13, h14, h15, h16, rfl, h17, h18⟩ := L
  refine (h1.open_ (E := E) (m := m) (l := l + 1) h2 h3 h4 h16 hm ⟨hdn, h9, h10, by rw [h8]; omega⟩ (by omega) h8 h11 h12 h6.fm h5 h13 hleft).mono ?_
  rintro e W' ⟨p, B', f', tot', n', c', K', sf', rfl, hL, ha, hr, hs, hlies, hmv⟩
  have hw := hr.whole (h18 rfl)
  exact ⟨p, rfl, ⟨B', f', tot', n', c', K', sf', hL, hw, ha, hmv.keepQ h17, fun _ => hw ▸ hs⟩, Kq.moved hmv fun k hk => h17 k hk.1, K.X, K.v, K.gb, hlies, rfl⟩
end
theorem open_fresh {w0 w1 : World} {t : Nat} {B : Nat → Prop} {E : En} (hs : Ta.St w1 t B (fun _ => none) 0 0 ⟨E.R, false, 0, 0, 0⟩) (lb : Lb w0) (low : Below w0.heap.size w0 w1) (new : ∀ b, B b → w0.heap.size ≤ b) (ok : E.ok) (hM : 1 ≤ E.M) :
    Calls Tryz.prog 18 #[.pointer (some ⟨t, 0, none⟩), .string ⟨E.P.toArray⟩, .int .i64 E.sv] w1 fun e w' => ∃ s, e = .returned (.tuple #[.pointer (some ⟨s, 0, none⟩), .int .i64 0]) ∧ Opd w0 t s E 1 0 [] (fun _ => False) true w' := by
  obtain ⟨ok1, ok2, ok3, ok4, ok5⟩ := (id ok : E.ok)
  refine (open_any hs (lb.below lb.size low) (fun b hb => by have := new b hb; have := lb.size; omega) E.P ok2 E.sv ok1 (a := 0) ⟨rfl, Nat.zero_le _, rfl, by simp⟩ rfl (by omega) (by show (0 : Nat) ≤ _; omega) ok5 (by omega) (fun k hk => absurd rfl hk)).mono ?_
  rintro e w' ⟨s, zs, B', tot', n', c', K', rfl, hz1, hz2, hmv, hsd, hKG, ht', hn', hr', hrun, harm'⟩
  have hzn : zs = [] := List.eq_nil_iff_forall_not_mem.2 fun z hz => by
    have := ((hz2 z).1 hz).2
    exact this rfl
  subst hzn
  have e3 : K'.G = [] := hKG
  refine ⟨s, rfl, B', _, tot', n', c', K', 0, ⟨hsd, lb, moved_low new low hmv, moved_new new low.size hmv, by rw [e3]; exact Log.nil, ?_, hrun.more (by omega), hr', by rw [e3]; exact Nat.zero_le _, Nat.zero_le _, hM, ok⟩, e3, harm', fun _ h => h.elim, fun _ G0 g e => by simp at e⟩
  rw [e3]
  refine ⟨fun j g h => by simp at h, fun k _ => ?_⟩
  show Ta.upd (fun _ => none) (nmNew E.P) none k = none
  unfold Ta.upd
  split <;> rfl
theorem mod_nat (n q : Int) (hq : 0 < q) (hb : q ≤ 1099511627776) : ∃ K : Nat, wrap64 ((IntKind.u64.wrap n).tmod q) = K ∧ (K : Int) < q ∧ (IntKind.u64.wrap n).tmod q = K := by
  have h0 : 0 ≤ IntKind.u64.wrap n := by rw [IntKind.wrap_u64]; omega
  have h1 : (IntKind.u64.wrap n).tmod q = (IntKind.u64.wrap n) % q := Int.tmod_eq_emod_of_nonneg h0
  have h2 : 0 ≤ (IntKind.u64.wrap n) % q := Int.emod_nonneg _ (by omega)
  have h3 : (IntKind.u64.wrap n) % q < q := Int.emod_lt_of_pos _ hq
  rw [h1]
  refine ⟨((IntKind.u64.wrap n) % q).toNat, ?_, by omega, by omega⟩
  generalize (IntKind.u64.wrap n) % q = r at h2 h3
  unfold wrap64
  omega
/-- The laws' segments' size. -/
def sgv (seg : Int) : Int := wrap64 (1 + wrap64 ((IntKind.u64.wrap seg).tmod 400))
theorem sgv_in (seg : Int) : 1 ≤ sgv seg ∧ sgv seg ≤ 1048576 := by
  obtain ⟨K, h1, h2, -⟩ := mod_nat seg 400 (by omega) (by omega)
  unfold sgv
  rw [h1]
  unfold wrap64
  omega
def enL (seg : Int) : En := ⟨sgv seg, [112, 97, 114, 116], 1048576, 200⟩
theorem enL_ok (seg : Int) : (enL seg).ok := ⟨sgv_in seg, by show 1 ≤ 4 ∧ 4 ≤ 16; omega, by show 200 ≤ 200; omega, by show 1130 * (200 + 1) ≤ 1048576; omega, by show 1048576 ≤ 1048576; omega⟩
set_option maxRecDepth 100000 in
set_option maxHeartbeats 1000000 in
theorem opened_any {w0 : World} (seg : Int) (w : World) (lb : Lb w0) (low : Below w0.heap.size w0 w) :
    Calls Tryz.prog 26 #[.int .i64 seg] w fun e w' => ∃ t s, e = .returned (.tuple #[.pointer (some ⟨t, 0, none⟩), .pointer (some ⟨s, 0, none⟩)]) ∧ Opd w0 t s (enL seg) 1 0 [] (fun _ => False) true w' := by
  have HN := Lib.hid (Ta.s_new 1048576 w (by decide) (by decide))
  have HLB := Lib.hid lb
  have HLOW := Lib.hid low
  obtain ⟨sv, hsv⟩ : ∃ sv, wrap64 (1 + wrap64 ((IntKind.u64.wrap seg).tmod 400)) = sv := ⟨_, rfl⟩
  have HSV := Lib.hid hsv
  clear lb low hsv
  go_enter Tryz.func26, Tryz.ntmps26
  go_wp2_with fail
  refine HN.out.mono ?_
  rintro e w1 ⟨t, B, rfl, hS, hb, hB⟩
  have hop := open_fresh (E := enL seg) hS HLB.out (HLOW.out.trans (hb.mono HLOW.out.size)) (fun b hb' => Nat.le_trans HLOW.out.size (hB b hb')) (enL_ok seg) (by show 1 ≤ 200; omega)
  rw [show (enL seg).sv = sv from HSV.out, show (enL seg).P.toArray = #[112, 97, 114, 116] from rfl] at hop
  have HOP := Lib.hid hop
  clear hS hb hB HN hop
  go_wp2_with fail
  rw [HSV.out]
  refine HOP.out.mono ?_
  rintro e w2 ⟨s, rfl, ho⟩
  have HO := Lib.hid ho
  clear ho HOP
  go_wp2_with fail
  go_ret2
  exact ⟨t, s, rfl, HO.out⟩
end Go.Proofs.YtdaoeplblkfapaaGreatDoor

/- WHAT strand's Append REFUSES: a batch that isn't good, one that doesn't stand at the end. -/
namespace Go.Proofs.YtdaoeplblkfapaaGreatDoor
open Go.RowKit

set_option maxHeartbeats 1000000 in
set_option maxRecDepth 100000 in
theorem appendS_bad {w : World} {s : Nat} {h : Hs} {B : Nat → Prop} {f : Ta.View} {tot n : Nat} {c : Ta.Sc} {K : Kx} (kk : Sd w s h B f tot n c K) (lb : Lb w) (hlf : c.life = h.life) (hl : h.life ≤ 1099511627776) (base count prod seq time : Int) (recs : List Pl.Rc) (rv : Value) (hr : RcIn (fun b => ¬ B b) w rv recs) (hrl : recs.length ≤ 1048576)
    (hg : Pl.goodB ⟨base, count, prod, seq, time, recs⟩ = false) :
    Calls Tryz.prog 30 #[.pointer (some ⟨s, 0, none⟩), .agg #[.int .i64 base, .int .i64 count, .int .i64 prod, .int .i64 seq, .int .i64 time, rv]] w fun e w' => e = .returned (.int .i64 1) ∧ Below w.heap.size w w' := by
  have hks := kk.lies.head.lt
  obtain ⟨W0, hW0⟩ : ∃ W0, w.alloc (.cells #[.int .i64 base, .int .i64 count, .int .i64 prod, .int .i64 seq, .int .i64 time, rv] 34) = W0 := ⟨_, rfl⟩
  have hs0 : W0.heap.size = w.heap.size + 1 := by rw [← hW0]; simp
  have hb0 : Blk W0 w.heap.size #[.int .i64 base, .int .i64 count, .int .i64 prod, .int .i64 seq, .int .i64 time, rv] 34 := by rw [← hW0]; exact Blk.new _ _ _
  have hw0 : Below w.heap.size w W0 := by rw [← hW0]; exact (Below.refl _ _).alloc (Nat.le_refl _) _
  have kk0 : Sd W0 s h B f tot n c K := kk.below hw0
  have hr0 : RcIn (fun b => ¬ B b ∧ b < w.heap.size) W0 rv recs := Rds.keep hr hw0.size fun b hb hl => ⟨hw0.block b hl, hb, hl⟩
  have HR := Lib.hid (readyS_ok kk0 hlf hl)
  have HG := Lib.hid fun (wx : World) (hbx : Below W0.heap.size W0 wx) => dgood base count prod seq time recs rv wx (lb.below lb.size (hw0.trans (hbx.mono hw0.size))) (RcIn.recs (hr0.below hbx)) (by omega)
  rw [hg] at HG
  have c0 : W0.cell? ⟨w.heap.size, 0, none⟩ = some (.int .i64 base) := hb0.cell rfl
  have HW0 := Lib.hid hw0
  have HB0 := Lib.hid hb0
  have hlt : w.heap.size < W0.heap.size := by omega
  clear kk hg hr0 kk0 hs0 hb0 hw0 hr
  go_enter Tryz.func30, Tryz.ntmps30
  go_wp2_with fail
  refine HR.out.mono ?_
  rintro e w1 ⟨rfl, b1⟩
  have kb := HB0.out.below b1
  have d0 : w1.cell? ⟨w.heap.size, 0, none⟩ = some (.int .i64 base) := kb.cell rfl
  have d1 : w1.cell? ⟨w.heap.size, 1, none⟩ = some (.int .i64 count) := kb.cell rfl
  have d2 : w1.cell? ⟨w.heap.size, 2, none⟩ = some (.int .i64 prod) := kb.cell rfl
  have d3 : w1.cell? ⟨w.heap.size, 3, none⟩ = some (.int .i64 seq) := kb.cell rfl
  have d4 : w1.cell? ⟨w.heap.size, 4, none⟩ = some (.int .i64 time) := kb.cell rfl
  have d5 : w1.cell? ⟨w.heap.size, 5, none⟩ = some rv := kb.cell rfl
  have H1 := Lib.hid b1
  clear b1 kb c0
  go_wp2_with fail
  refine (HG.out _ H1.out).mono ?_
  rintro e w2 ⟨rfl, b2⟩
  have b3 := H1.out.trans (b2.mono H1.out.size)
  have H2 := Lib.hid b3
  clear b2 b3 H1 HG d0 d1 d2 d3 d4 d5 HR
  go_wp2_with fail
  go_ret
  exact ⟨rfl, HW0.out.trans (H2.out.mono HW0.out.size)⟩
set_option maxHeartbeats 1000000 in
set_option maxRecDepth 100000 in
theorem appendS_order {w : World} {s : Nat} {h : Hs} {B : Nat → Prop} {f : Ta.View} {tot n : Nat} {c : Ta.Sc} {K : Kx} (kk : Sd w s h B f tot n c K) (lb : Lb w) (hlog : Log K.G) (hfit : Fit K.G) (hlf : c.life = h.life) (hl : h.life ≤ 1099511627776) (base count prod seq time : Int) (recs : List Pl.Rc) (rv : Value) (hr : RcIn (fun b => ¬ B b) w rv recs) (hrl : recs.length ≤ 1048576)
    (hg : Pl.goodB ⟨base, count, prod, seq, time, recs⟩ = true) (hbase : base ≠ gsEnd K.G) :
    Calls Tryz.prog 30 #[.pointer (some ⟨s, 0, none⟩), .agg #[.int .i64 base, .int .i64 count, .int .i64 prod, .int .i64 seq, .int .i64 time, rv]] w fun e w' => e = .returned (.int .i64 20) ∧ Below w.heap.size w w' := by
  have hks := kk.lies.head.lt
  obtain ⟨W0, hW0⟩ : ∃ W0, w.alloc (.cells #[.int .i64 base, .int .i64 count, .int .i64 prod, .int .i64 seq, .int .i64 time, rv] 34) = W0 := ⟨_, rfl⟩
  have hs0 : W0.heap.size = w.heap.size + 1 := by rw [← hW0]; simp
  have hb0 : Blk W0 w.heap.size #[.int .i64 base, .int .i64 count, .int .i64 prod, .int .i64 seq, .int .i64 time, rv] 34 := by rw [← hW0]; exact Blk.new _ _ _
  have hw0 : Below w.heap.size w W0 := by rw [← hW0]; exact (Below.refl _ _).alloc (Nat.le_refl _) _
  have kk0 : Sd W0 s h B f tot n c K := kk.below hw0
  have hr0 : RcIn (fun b => ¬ B b ∧ b < w.heap.size) W0 rv recs := Rds.keep hr hw0.size fun b hb hl => ⟨hw0.block b hl, hb, hl⟩
  have HR := Lib.hid (readyS_ok kk0 hlf hl)
  have HG := Lib.hid fun (wx : World) (hbx : Below W0.heap.size W0 wx) => dgood base count prod seq time recs rv wx (lb.below lb.size (hw0.trans (hbx.mono hw0.size))) (RcIn.recs (hr0.below hbx)) (by omega)
  rw [hg] at HG
  have hLm : ∀ x ∈ K.X, x.L.length ≤ 1048576 := fun x hx => by
    have := hfit.lists x.sg (List.mem_map.2 ⟨x, hx, rfl⟩)
    simpa [Sx.sg, Sx.bts] using this
  have hXl : K.X.length ≤ 1048576 := by have := hfit.segs; simpa [Kx.G] using this
  obtain ⟨en, hen⟩ : ∃ en, gsEnd (K.X.map Sx.sg) = en := ⟨_, rfl⟩
  have HE := Lib.hid fun (wx : World) (hbx : Below W0.heap.size W0 wx) => endS_any (kk0.lies.below hbx) hXl hlog.chs hLm
  rw [hen] at HE
  have hne : (base != en) = true := by rw [← hen]; have hbase2 : ¬ base = gsEnd (K.X.map Sx.sg) := hbase; simpa using hbase2
  have c0 : W0.cell? ⟨w.heap.size, 0, none⟩ = some (.int .i64 base) := hb0.cell rfl
  have HW0 := Lib.hid hw0
  have HB0 := Lib.hid hb0
  have hlt : w.heap.size < W0.heap.size := by omega
  clear kk hg hr0 kk0 hs0 hb0 hw0 hr
  go_enter Tryz.func30, Tryz.ntmps30
  go_wp2_with fail
  refine HR.out.mono ?_
  rintro e w1 ⟨rfl, b1⟩
  have kb := HB0.out.below b1
  have d0 : w1.cell? ⟨w.heap.size, 0, none⟩ = some (.int .i64 base) := kb.cell rfl
  have d1 : w1.cell? ⟨w.heap.size, 1, none⟩ = some (.int .i64 count) := kb.cell rfl
  have d2 : w1.cell? ⟨w.heap.size, 2, none⟩ = some (.int .i64 prod) := kb.cell rfl
  have d3 : w1.cell? ⟨w.heap.size, 3, none⟩ = some (.int .i64 seq) := kb.cell rfl
  have d4 : w1.cell? ⟨w.heap.size, 4, none⟩ = some (.int .i64 time) := kb.cell rfl
  have d5 : w1.cell? ⟨w.heap.size, 5, none⟩ = some rv := kb.cell rfl
  have H1 := Lib.hid b1
  clear b1 kb c0
  go_wp2_with fail
  refine (HG.out _ H1.out).mono ?_
  rintro e w2 ⟨rfl, b2⟩
  have b3 := H1.out.trans (b2.mono H1.out.size)
  have H2 := Lib.hid b3
  have e0 : w2.cell? ⟨w.heap.size, 0, none⟩ = some (.int .i64 base) := (HB0.out.below b3).cell rfl
  have k0 : ∀ d os, _ := cell_regrown e0
  have HE2 := Lib.hid fun d os => Calls.regrown_of (HE.out _ (b3.trans ((below_regrown w2 d os).mono b3.size)))
  clear b2 b3 H1 HG d0 d1 d2 d3 d4 d5 HR HE
  go_wp2_with fail
  refine wp_region_quiet_below (by kernel_rfl) (by kernel_rfl) ?_
  repeat (go_big_quiet_step ((go_at_call 29; with_reducible exact HE2.out _ _)))
  refine wpQuiet_nil ?_
  intro w3 hw3
  obtain ⟨⟨dq, osq⟩, hw3'⟩ := hw3
  have H3 : Hid (Below W0.heap.size W0 w3) := by rw [hw3']; exact H2.out.trans ((below_regrown w2 dq osq).mono H2.out.size)
  clear hw3' k0 HE2 H2 e0
  go_wp2_with fail
  go_ret
  exact ⟨rfl, HW0.out.trans (H3.out.mono HW0.out.size)⟩
end Go.Proofs.YtdaoeplblkfapaaGreatDoor

/- A RANGE OVER A FUNCTION WHOSE ELEMENTS LIE IN MEMORY: of each element something is known (R) in the world in which it comes. -/
namespace Go.Proofs.YtdaoeplblkfapaaGreatDoor
open Go.RowKit

section
variable {F : Fence} {n : Nat} {P : Program} {α : Type}
/-- The function goes over elements, of each of which R holds when it comes; all of them make S, those that came ahead of a stop Sp. -/
def Gives (F : Fence) (n : Nat) (P : Program) (g : Nat) (lb : Array Value) (encs : α → Array Value) (Kp : World → World → Prop) (R : List α → α → World → Prop) (S Sp : List α → Prop) (w : World) : Prop :=
  ∀ (l : Nat) (J Jx : List α → World → Prop) (W : World), Below w.heap.size w W → AbidesFrom W.heap.size J → AbidesFrom W.heap.size Jx →
    (∀ pre x V, J pre V → R pre x V → YieldAt F (n - 1) P l (encs x) V fun e V' => (e = .returned (.bool true) ∧ J (pre ++ [x]) V' ∧ Kp V V') ∨ (e = .returned (.bool false) ∧ Jx (pre ++ [x]) V')) → J [] W →
    CallsIn F n P g (#[.func (.yield l) #[] #[]] ++ lb) W fun e W' => (∃ v, e = .returned v) ∧ ((∃ xs, S xs ∧ J xs W') ∨ (∃ pre, Sp pre ∧ Jx pre W'))

/-- The two blocks of a loop's own: its record, and the one of its deferred calls. -/
def Two (d : Nat) (r : Loop) (W : World) : Prop := W.heap[d + 1]? = some (.loop r) ∧ W.heap[d]? = some (.deferred (some []))
theorem Two.grown {d : Nat} {r : Loop} {A B : World} {row : Option Nat} (h : Two d r A) (hg : A.grownBy B row) (hr : ∀ k, row = some k → d + 1 < k) : Two d r B :=
  ⟨(hg.block _ (lt_of_block h.1) (fun e => by have := hr _ e.symm; omega)).trans h.1, (hg.block _ (lt_of_block h.2) (fun e => by have := hr _ e.symm; omega)).trans h.2⟩
theorem Two.keeps {d : Nat} {r : Loop} {A B : World} (h : Two d r A) (k : KeepsFrom d A B) : Two d r B := ⟨k.same _ _ (by omega) h.1 rfl, k.same _ _ (Nat.le_refl _) h.2 rfl⟩
theorem Two.put {d : Nat} {r : Loop} {A : World} (h : Two d r A) (r' : Loop) : Two d r' (A.putObj (d + 1) (.loop r')) := ⟨World.putObj_heap_same (lt_of_block h.1), (World.putObj_heap_other (by omega)).trans h.2⟩

theorem wpIn_gives {g : Operand} {ps : Array Tmp} {assign body : Code} {Q : Exit → Act → World → Prop} {a : Act} {w : World} (hro : F.round = none) (h1 : 1 ≤ n)
    {gf : Nat} {lb : Array Value} (hg : a.eval g = .func (.func gf) #[] lb) (hF : F.fn gf) (eg : ∀ args w, (callFunc gf args).run P w = .ok (.enter gf args) w)
    {encs : α → Array Value} {Kp : World → World → Prop} {R : List α → α → World → Prop} {S Sp : List α → Prop} {w0 : World} (hs : Gives F (n - 1) P gf lb encs Kp R S Sp w0) (hw0 : Below w0.heap.size w0 w) (hps : ∀ x, (encs x).size = ps.size)
    (hKt : ∀ {A B C : World}, Kp A B → Kp B C → Kp A C) (hKb : ∀ (W : World) (l : Nat) (o o' : Obj), w.heap.size ≤ l → W.heap[l]? = some o → o.isCells = false → Kp W (W.putObj l o'))
    (I : List α → World → Prop) (Ix : Code → List α → World → Prop) (Ax : α → Act → World → Prop) (hI : OwnFrom w.heap.size I) (hIx : ∀ c, OwnFrom w.heap.size (Ix c)) (hR : ∀ pre, OwnFrom w.heap.size (R pre)) (hAx : ∀ a', OwnFrom w.heap.size fun x => Ax x a') (h0 : I [] w)
    (hassign : ∀ (l : Nat) (pre : List α) (x : α) (W : World) (K : Act → World → Prop), I pre W → R pre x W → (∀ a' W', KeepsFrom w.heap.size W W' → Kp W W' → I pre W' → R pre x W' → Ax x a' W' → K a' W') →
      assign.wpIn (F.inRound l) (n - 1 - 1) P (Exit.then K (fun _ _ _ => False)) { tmps := (ps.zip (encs x)).foldl (fun t (p, v) => t.setIfInBounds p v) a.tmps, defers := [] } W)
    (hbody : ∀ (l : Nat) (pre : List α) (x : α) (a' : Act) (W : World), w.heap.size ≤ l → I pre W → R pre x W → Ax x a' W → body.wpIn (F.inRound l) (n - 1 - 1) P (ownPostG w.heap.size Kp I Ix (pre ++ [x]) W) a' W)
    (hdone : ∀ (D : Nat) (xs : List α) (W : World), w.heap.size ≤ D → S xs → I xs W → W.heap[D]? = some (.deferred (some [])) → Q .normal { a with defers := { target := .collected D, args := #[] } :: a.defers } W)
    (hstop : ∀ (D : Nat) (c : Code) (pre : List α) (W : World), w.heap.size ≤ D → Sp pre → Ix c pre W → W.heap[D]? = some (.deferred (some [])) → c.wpIn F n P Q { a with defers := { target := .collected D, args := #[] } :: a.defers } W) :
    (Code.rangeFunc g ps assign body).wpIn F n P Q a w := by
  refine wpIn_rangeFunc ?_
  intro fn hfn
  rw [hro]
  obtain ⟨d, hd⟩ : ∃ d, w.heap.size = d := ⟨_, rfl⟩
  rw [hd] at hKb hI hIx hR hAx hassign hbody hdone hstop
  obtain ⟨rec, hrec⟩ : ∃ rec : LoopState → Option Code → Loop, rec = fun st pe => { state := st, pending := pe, fn, tmps := a.tmps, params := ps, assign, body, defers := d } := ⟨_, rfl⟩
  obtain ⟨V, hV⟩ : ∃ V, (w.alloc (.deferred (some []))).alloc (.loop (rec .ready none)) = V := ⟨_, rfl⟩
  have hVs : V.heap.size = d + 2 := by rw [← hV, World.size_alloc, World.size_alloc, hd]
  have htwo : Two d (rec .ready none) V := by
    constructor
    · rw [← hV, ← hd]; have := World.alloc_heap_new (w.alloc (.deferred (some []))) (.loop (rec .ready none)); rwa [World.size_alloc] at this
    · rw [← hV, ← hd]; exact (Below.heap_alloc _ _ _ (by simp)).trans (World.alloc_heap_new w _)
  have hIV : I [] V := by rw [← hV]; exact hI.alloc _ (hI.alloc _ h0)
  have hbV : Below w0.heap.size w0 V := by
    rw [← hV]; exact hw0.trans ((((Below.refl _ w).alloc (Nat.le_refl _) _).alloc (by simp) _).mono hw0.size)
  refine ⟨d + 1, [{ target := .collected d, args := #[] }], V, { target := .fn (.func gf) lb, args := #[.func (.yield (d + 1)) #[] #[]] }, V, gf, #[.func (.yield (d + 1)) #[] #[]] ++ lb, V, ?_, ?_, ?_, ?_, fun _ => h1, ?_⟩
  · rw [← hV, hrec, ← hd]; exact run_enterLoop_outer _ _ _ _ _
  · simp only [resolve, hg]
    simp [go_sem]
  · intro f' hf'; simp [Target.leads] at hf'; subst hf'; exact hF
  · simp [invoke, go_sem, eg]
  · have hfar : ∀ {A B : World} {row : Option Nat}, (∀ r, row = some r → V.heap.size ≤ r ∧ ∃ o : Obj, A.heap[r]? = some o ∧ o.isWalk = true) → (∀ r, row = some r → d ≤ r ∧ ∃ o : Obj, A.heap[r]? = some o ∧ o.isCells = false) ∧ (∀ r, row = some r → d + 1 < r) :=
      fun hr => ⟨fun r e => by obtain ⟨hB, o, ho, hw⟩ := hr r e; exact ⟨by omega, o, ho, Obj.not_cells_of_walk hw⟩, fun r e => by have := (hr r e).1; omega⟩
    refine (hs (d + 1) (fun pre W => I pre W ∧ Two d (rec .ready none) W) (fun pre W => ∃ c, Ix c pre W ∧ Two d (rec .done (some c)) W) V hbV
      (fun s A B row h hg' hr => ⟨hI s A B row h.1 hg' (hfar (B := B) hr).1, h.2.grown hg' (hfar (B := B) hr).2⟩)
      (fun s A B row h hg' hr => let ⟨c, hc, ht⟩ := h; ⟨c, hIx c s A B row hc hg' (hfar (B := B) hr).1, ht.grown hg' (hfar (B := B) hr).2⟩) ?_ ⟨hIV, htwo⟩).mono ?_
    · rintro pre x W ⟨hi, ht⟩ hr
      have hy := run_yield (P := P) (args := encs x) ht.1 (by rw [hrec]; exact hps x)
      rw [hrec] at hy
      refine ⟨fn, _, assign, body, hy, roundIn_of_wpIn hfn (hassign _ pre x W _ hi hr ?_)⟩
      clear hy
      intro a' Wa k1 k2 hia hra hax
      have hta := ht.keeps k1
      refine ⟨_, run_beginRound hta.1 (by rw [hrec]), ?_⟩
      have htb := hta.put { rec .ready none with state := .busy }
      have hkb : Kp Wa (Wa.putObj (d + 1) (.loop { rec .ready none with state := .busy })) := hKb _ _ _ _ (by omega) hta.1 rfl
      refine wpIn_mono (hbody _ pre x a' _ (by omega) (hI.putObj _ hia (by omega) hta.1 rfl) ((hR pre).putObj _ hra (by omega) hta.1 rfl) ((hAx a').putObj _ hax (by omega) hta.1 rfl)) ?_
      have fin : ∀ (jump : Option Code) (W3 : World), Two d { rec .ready none with state := .busy } W3 →
          (Instr.endRound (d + 1) jump).run P W3 = .ok (.bool jump.isNone) (W3.putObj (d + 1) (.loop (rec (if jump.isNone then .ready else .done) jump))) := fun jump W3 h3 => by
        have hl3 := h3.1
        rw [hrec] at hl3
        have := run_endRound (P := P) jump hl3
        rw [hrec]
        exact this
      rintro e a3 W3 hp
      cases e with
      | normal =>
        obtain ⟨k3, k4, hi3⟩ := hp
        have ht3 := htb.keeps k3
        exact ⟨_, _, fin none W3 ht3, .inl ⟨rfl, ⟨hI.putObj _ hi3 (by omega) ht3.1 rfl, ht3.put _⟩, hKt k2 (hKt (hKt hkb k4) (hKb _ _ _ _ (by omega) ht3.1 rfl))⟩⟩
      | ret =>
        have ht3 := htb.keeps hp.1
        exact ⟨_, _, fin (some .ret) W3 ht3, .inr ⟨rfl, .ret, (hIx _).putObj _ hp.2 (by omega) ht3.1 rfl, ht3.put _⟩⟩
      | exit id =>
        have ht3 := htb.keeps hp.1
        exact ⟨_, _, fin (some (.exit id)) W3 ht3, .inr ⟨rfl, .exit id, (hIx _).putObj _ hp.2 (by omega) ht3.1 rfl, ht3.put _⟩⟩
      | goto t =>
        have ht3 := htb.keeps hp.1
        exact ⟨_, _, fin (some (.goto t)) W3 ht3, .inr ⟨rfl, .goto t, (hIx _).putObj _ hp.2 (by omega) ht3.1 rfl, ht3.put _⟩⟩
      | panic ch => exact hp.elim
      | outgrown => exact hp.elim
    · rintro e W2 ⟨⟨v, rfl⟩, (⟨xs, hS, hi, ht⟩ | ⟨pre, hSp, c, hi, ht⟩)⟩
      · have hend := run_endLoop (P := P) ht.1 (by rw [hrec]; simp)
        rw [hrec] at hend
        exact ⟨none, _, hend, hdone _ xs _ (Nat.le_refl _) hS (hI.putObj _ hi (by omega) ht.1 rfl) ((World.putObj_heap_other (by omega)).trans ht.2)⟩
      · have hend := run_endLoop (P := P) ht.1 (by rw [hrec]; simp)
        rw [hrec] at hend
        exact ⟨some c, _, hend, hstop _ c pre _ (Nat.le_refl _) hSp ((hIx c).putObj _ hi (by omega) ht.1 rfl) ((World.putObj_heap_other (by omega)).trans ht.2)⟩
end
end Go.Proofs.YtdaoeplblkfapaaGreatDoor

/- strand's Batches: the function that goes over the batches. -/
namespace Go.Proofs.YtdaoeplblkfapaaGreatDoor
open Go.RowKit

theorem batches_fn (w : World) (p : Option Addr) (off : Int) : Calls Tryz.prog 73 #[.pointer p, .int .i64 off] w fun e w' =>
    e = .returned (.func (.func 115) #[] #[.pointer (some ⟨w.heap.size, 0, none⟩), .pointer (some ⟨w.heap.size + 1, 0, none⟩)]) ∧ w' = (w.alloc (.cells #[.pointer p] 42)).alloc (.cells #[.int .i64 off] 3) := by
  go_enter Tryz.func73, Tryz.ntmps73
  go_wp2_with fail
  go_ret
  exact ⟨rfl, rfl⟩
end Go.Proofs.YtdaoeplblkfapaaGreatDoor
