import Derived.Test.YtdaoeplblkfapaaGreatDoorM33
import Derived.StillTail
import Derived.Deep.RegionHeld3
import Derived.Test.YtdaoeplblkfapaaGreatDoorM27

/- WHAT THE LAW OF THE POWER HOLDS: a strand, its log, and two lists of batches beside it. -/
namespace Go.Proofs.YtdaoeplblkfapaaGreatDoor
open Go.RowKit

/-- The lists that the law holds, in blocks of Q: one that it reads, one that it appends to. -/
def Ct (w : World) (Q : Nat → Prop) (gb : Option Nat) (sv gv : Value) (S D : List Pl.Bt) (W : World) : Prop :=
  (∀ b, Q b → w.heap.size ≤ b) ∧ Hv (fun b => Q b ∧ gb ≠ some b) sv S W ∧ Gv Q gb gv D W
/-- The power is on. -/
def Up (w : World) (t s : Nat) (E : En) (M : Nat) (G : List Sg) (sf k : Nat) (Q : Nat → Prop) (W : World) : Prop :=
  ∃ m l, m ≤ M ∧ Pwr w t s E m l G sf Q false W ∧ Sure G sf k
/-- It is gone. -/
def Dn (w : World) (t : Nat) (E : En) (M : Nat) (G : List Sg) (sf k : Nat) (Q : Nat → Prop) (z : Bool) (W : World) : Prop :=
  ∃ s m l, m ≤ M ∧ Dwn w t s E m l G sf Q z W ∧ Sure G sf k
section
variable {w W W' : World} {t s M k sf : Nat} {E : En} {G : List Sg} {Q : Nat → Prop} {gb : Option Nat} {sv gv : Value} {S D : List Pl.Bt} {z : Bool}
theorem Ct.kq (h : Ct w Q gb sv gv S D W) (q : Kq (fun b => Q b ∧ b < W.heap.size) W W') : Ct w (fun b => Q b ∧ b < W.heap.size) gb sv gv S D W' :=
  ⟨fun b hb => h.1 b hb.1, h.2.1.keep q.size fun b hb hl => ⟨q.block b hl ⟨hb.1, hl⟩, ⟨hb.1, hl⟩, hb.2⟩, h.2.2.keep q.size fun b hb hl => ⟨q.block b hl ⟨hb, hl⟩, hb, hl⟩⟩
theorem Ct.below (h : Ct w Q gb sv gv S D W) (hle : w.heap.size ≤ W.heap.size) (q : Below W.heap.size W W') : Ct w (fun b => Q b ∨ W.heap.size ≤ b) gb sv gv S D W' :=
  ⟨fun b hb => hb.elim (h.1 b) fun hb => Nat.le_trans hle hb, h.2.1.keep q.size fun b hb hl => ⟨q.block b hl, .inl hb.1, hb.2⟩, h.2.2.keep q.size fun b hb hl => ⟨q.block b hl, .inl hb⟩⟩
theorem Up.low (h : Up w t s E M G sf k Q W) : Below w.heap.size w W := let ⟨_, _, _, h1, _⟩ := h; h1.low
theorem Up.log (h : Up w t s E M G sf k Q W) : Log G := let ⟨_, _, _, h1, _⟩ := h; h1.log
theorem Up.len (h : Up w t s E M G sf k Q W) : (fla G).length ≤ 200 ∧ k ≤ (fla G).length := let ⟨_, _, _, h1, h2⟩ := h; ⟨by have := h1.len; omega, h2.1⟩
theorem Up.below (h : Up w t s E M G sf k Q W) (b : Below W.heap.size W W') : Up w t s E M G sf k (fun b => Q b ∨ W.heap.size ≤ b) W' := let ⟨m, l, h0, h1, h2⟩ := h; ⟨m, l, h0, h1.below b, h2⟩
theorem Up.grown {r : Option Nat} (L : Up w t s E M G sf k Q W) (h : W.grownBy W' r) (hr : ∀ k, r = some k → Q k ∧ w.heap.size ≤ k) : Up w t s E M G sf k (fun b => Q b ∨ W.heap.size ≤ b) W' := let ⟨m, l, h0, h1, h2⟩ := L; ⟨m, l, h0, h1.grown h hr, h2⟩
theorem Up.mono {M' : Nat} (L : Up w t s E M G sf k Q W) (h : M ≤ M') : Up w t s E M' G sf k Q W := let ⟨m, l, h0, h1, h2⟩ := L; ⟨m, l, Nat.le_trans h0 h, h1, h2⟩
theorem Up.end_ (h : Up w t s E M G sf k Q W) : Calls Tryz.prog 29 #[.pointer (some ⟨s, 0, none⟩)] W fun e W' => e = .returned (.int .i64 (gsEnd G)) ∧ Below W.heap.size W W' := let ⟨_, _, _, h1, _⟩ := h; h1.end_
theorem Up.all (h : Up w t s E M G sf k Q W) : Calls Tryz.prog 34 #[.pointer (some ⟨s, 0, none⟩)] W (AllOut W (fla G)) := let ⟨_, _, _, h1, _⟩ := h; h1.all
theorem Up.arm (h : Up w t s E M G sf k Q W) (i : Int) (hi : 0 ≤ i ∧ i ≤ 1000) : Calls Tryz.prog 27 #[.pointer (some ⟨t, 0, none⟩), .int .i64 i] W fun e W' => (∃ v, e = .returned v) ∧ Up w t s E M G sf k (fun b => Q b ∧ b < W.heap.size) W' ∧ Kq (fun b => Q b ∧ b < W.heap.size) W W' := by
  obtain ⟨m, l, h0, h1, h2⟩ := h
  exact (h1.arm i hi).mono fun _ _ ⟨a, b, c⟩ => ⟨a, ⟨m, l, h0, b, h2⟩, c⟩
theorem Dn.low (h : Dn w t E M G sf k Q z W) : Below w.heap.size w W := let ⟨_, _, _, _, ⟨_, _, _, _, _, _, _, _, h1, _⟩, _⟩ := h; h1
theorem Dn.below (h : Dn w t E M G sf k Q z W) (b : Below W.heap.size W W') : Dn w t E M G sf k (fun b => Q b ∨ W.heap.size ≤ b) z W' := let ⟨s, m, l, h0, h1, h2⟩ := h; ⟨s, m, l, h0, h1.below b, h2⟩
theorem Dn.grown {r : Option Nat} (L : Dn w t E M G sf k Q z W) (h : W.grownBy W' r) (hr : ∀ k, r = some k → Q k ∧ w.heap.size ≤ k) : Dn w t E M G sf k (fun b => Q b ∨ W.heap.size ≤ b) z W' := let ⟨s, m, l, h0, h1, h2⟩ := L; ⟨s, m, l, h0, h1.grown h hr, h2⟩
theorem Dn.off (h : Dn w t E M G sf k Q z W) : Calls Tryz.prog 32 #[.pointer (some ⟨t, 0, none⟩)] W fun e W' => (∃ v, e = .returned v) ∧ Dn w t E M G sf k (fun b => Q b ∧ b < W.heap.size) true W' ∧ Kq (fun b => Q b ∧ b < W.heap.size) W W' := by
  obtain ⟨s, m, l, h0, h1, h2⟩ := h
  exact h1.off.mono fun _ _ ⟨a, b, c⟩ => ⟨a, ⟨s, m, l, h0, b, h2⟩, c⟩
theorem Up.off (h : Up w t s E M G sf k Q W) : Calls Tryz.prog 32 #[.pointer (some ⟨t, 0, none⟩)] W fun e W' => (∃ v, e = .returned v) ∧ Dn w t E M G sf k (fun b => Q b ∧ b < W.heap.size) true W' ∧ Kq (fun b => Q b ∧ b < W.heap.size) W W' := by
  obtain ⟨m, l, h0, h1, h2⟩ := h
  exact h1.off.mono fun _ _ ⟨a, b, c⟩ => ⟨a, ⟨s, m, l, h0, b, h2⟩, c⟩
/-- The power is back. -/
def Bk (w : World) (t : Nat) (E : En) (M : Nat) (G : List Sg) (sf k : Nat) (Q : Nat → Prop) (zs : List Int) (W : World) : Prop :=
  ∃ s m l, m ≤ M ∧ Bak w t s E m l G sf Q zs W ∧ Sure G sf k
theorem Dn.on (h : Dn w t E M G sf k Q true W) (fv : Value) (zs : List Int) (hf : Ta.Nums W fv zs) (hfo : 0 < zs.length → ∀ a c d, fv = .slice (some a) c d → a.block < w.heap.size) :
    Calls Tryz.prog 33 #[.pointer (some ⟨t, 0, none⟩), fv] W fun e W' => (∃ v, e = .returned v) ∧ Bk w t E M G sf k (fun b => Q b ∧ b < W.heap.size) zs W' ∧ Kq (fun b => Q b ∧ b < W.heap.size) W W' := by
  obtain ⟨s, m, l, h0, h1, h2⟩ := h
  exact (h1.on fv zs hf hfo).mono fun _ _ ⟨a, b, c⟩ => ⟨a, ⟨s, m, l, h0, b, h2⟩, c⟩
theorem Bk.open_ {zs : List Int} (h : Bk w t E M G sf k Q zs W) (hM : M < E.M) :
    Calls Tryz.prog 18 #[.pointer (some ⟨t, 0, none⟩), .string ⟨E.P.toArray⟩, .int .i64 E.sv] W fun e W' => ∃ p G' sf', e = .returned (.tuple #[.pointer (some ⟨p, 0, none⟩), .int .i64 0]) ∧ Up w t p E (M + 1) G' sf' (fla G').length (fun _ => False) W' ∧
      (fla G).take k = (fla G').take k ∧ k ≤ (fla G').length ∧ (∃ n, fla G' = (fla G).take n) ∧ Kq (fun b => Q b ∧ b < W.heap.size) W W' := by
  obtain ⟨s, m, l, h0, h1, h2⟩ := h
  refine (h1.open_ (by omega)).mono ?_
  rintro e W' ⟨p, G', sf', rfl, hp, hr, hw, hq⟩
  obtain ⟨h3, n, h4, h5⟩ := hr.sure h2
  obtain ⟨B, f, tot, n', c, K, j1, j2, j3, j4, j5⟩ := hp
  refine ⟨p, G', sf', rfl, ⟨m + 1, l + 1, by omega, ⟨B, f, tot, n', c, K, j1, j2, fun h => (by cases h), j4, j5⟩, Sure.whole hw⟩, ?_, h3, ⟨n, h5⟩, hq⟩
  rw [h5] at h3
  rw [List.length_take] at h3
  rw [h5, List.take_take, Nat.min_eq_left (by omega)]
/-- What an Append at the end leaves. -/
def UFed (w : World) (t s : Nat) (E : En) (M : Nat) (G : List Sg) (sf k : Nat) (Q : Nat → Prop) (b : Pl.Bt) (W : World) (e : Ending) (W' : World) : Prop :=
  Kq (fun k => Q k ∧ k < W.heap.size) W W' ∧
    ((e = .returned (.int .i64 0) ∧ ∃ G' sf', fla G' = fla G ++ [b] ∧ Up w t s E (M + 1) G' sf' k (fun k => Q k ∧ k < W.heap.size) W') ∨
     (e = .returned (.int .i64 1) ∧ Up w t s E (M + 1) G sf k (fun k => Q k ∧ k < W.heap.size) W') ∨
     (e = .returned (.int .i64 10) ∧ ∃ G' sf' n, fla G' = (fla G ++ [b]).take n ∧ k ≤ (fla G').length ∧ Dn w t E (M + 1) G' sf' k (fun k => Q k ∧ k < W.heap.size) false W'))
theorem Up.feed {b : Pl.Bt} {rv : Value} (h : Up w t s E M G sf k Q W) (hM : M < E.M) (hr : RcIn Q W rv b.recs) (hrl : b.recs.length ≤ 1048576) (he : b.base = gsEnd G) :
    Calls Tryz.prog 30 #[.pointer (some ⟨s, 0, none⟩), bv (b, rv)] W (UFed w t s E M G sf k Q b W) := by
  obtain ⟨m, l, h0, h1, h2⟩ := h
  refine (h1.feed (by omega) hr hrl he).mono ?_
  rintro e W' ⟨er, rfl, hq, ⟨hg, rfl, hp⟩ | ⟨rfl, hp⟩ | ⟨-, rfl, hg, G', sf', hG, hd⟩⟩
  · exact ⟨hq, .inl ⟨rfl, _, _, push_flat _ _ _, m + 1, l, by omega, hp, h2.push _ _⟩⟩
  · exact ⟨hq, .inr (.inl ⟨rfl, m + 1, l, by omega, hp, h2⟩)⟩
  · rcases hG with ⟨rfl, rfl⟩ | ⟨rfl, rfl⟩
    · exact ⟨hq, .inr (.inr ⟨rfl, G', sf', (fla G').length, by rw [List.take_append_of_le_length (Nat.le_refl _), List.take_length], h2.1, s, m + 1, l, by omega, hd, h2⟩)⟩
    · exact ⟨hq, .inr (.inr ⟨rfl, _, _, (fla G).length + 1, by rw [push_flat, List.take_of_length_le (by simp)], (h2.push _ _).1, s, m + 1, l, by omega, hd, h2.push _ _⟩)⟩
/-- What Sync leaves. -/
def USyn (w : World) (t s : Nat) (E : En) (M : Nat) (G : List Sg) (sf k : Nat) (Q : Nat → Prop) (W : World) (e : Ending) (W' : World) : Prop :=
  Kq (fun k => Q k ∧ k < W.heap.size) W W' ∧
    ((e = .returned (.int .i64 0) ∧ ∃ sf', Up w t s E (M + 1) G sf' (fla G).length (fun k => Q k ∧ k < W.heap.size) W') ∨
     (e = .returned (.int .i64 10) ∧ Dn w t E (M + 1) G sf k (fun k => Q k ∧ k < W.heap.size) false W'))
theorem Up.sync (h : Up w t s E M G sf k Q W) (hM : M < E.M) : Calls Tryz.prog 31 #[.pointer (some ⟨s, 0, none⟩)] W (USyn w t s E M G sf k Q W) := by
  obtain ⟨m, l, h0, h1, h2⟩ := h
  refine (h1.sync (by omega)).mono ?_
  rintro e W' ⟨hq, ⟨rfl, sf', hp, hw⟩ | ⟨-, rfl, hd⟩⟩
  · exact ⟨hq, .inl ⟨rfl, sf', m + 1, l, by omega, hp, Sure.whole hw⟩⟩
  · exact ⟨hq, .inr ⟨rfl, s, m + 1, l, by omega, hd, h2⟩⟩
/-- A batch has been appended to the list. -/
theorem Ct.more {L : List (Pl.Bt × Value)} {b : Pl.Bt} {rv v9 : Value} {gb9 : Option Nat} (hQ : ∀ b, Q b → w.heap.size ≤ b) (hle : w.heap.size ≤ W.heap.size) (hS : Hv (fun b => Q b ∧ gb ≠ some b) sv S W) (h2 : ∀ b, gb = some b → Q b) (hlt : ∀ b, gb = some b → b < W.heap.size) (h3 : All (fun b => Q b ∧ gb ≠ some b) W L)
    (hr : RcIn (fun b => Q b ∧ gb ≠ some b) W rv b.recs) (h9 : Sl W' v9 gb9 34 6 (L.length + 1) (L.flatMap bc6 ++ bc6 (b, rv))) (hg : W.grownBy W' gb) (hn : gb9 = gb ∨ ∃ g, gb9 = some g ∧ W.heap.size ≤ g) :
    Ct w (fun b => Q b ∨ W.heap.size ≤ b) gb9 sv v9 S (L.map (·.1) ++ [b]) W' :=
  ⟨fun b hb => hb.elim (hQ b) fun hb => Nat.le_trans hle hb, hS.grown hlt hg hn, Gv.more (M := [(b, rv)]) h2 hlt h3 (fun p hp => by rw [List.mem_singleton.1 hp]; exact hr) (by simpa using h9) hg hn⟩
/-- A list has been copied. -/
theorem Gv.copy {A : Nat → Prop} {L : List (Pl.Bt × Value)} {v9 : Value} {gb9 : Option Nat} {b0 : Nat} (hA : BtIn A W gv L) (hQ : ∀ b, b < W.heap.size → A b → Q b ∧ b ≠ b0) (_hb0 : b0 < W.heap.size) (hq0 : Q b0)
    (h9 : Sl W' v9 gb9 34 6 L.length (L.flatMap bc6)) (hg : W.grownBy W' (some b0)) (hn : gb9 = some b0 ∨ ∃ g, gb9 = some g ∧ W.heap.size ≤ g) :
    Gv (fun b => Q b ∨ W.heap.size ≤ b) gb9 v9 (L.map (·.1)) W' ∧ Hv (fun b => (Q b ∨ W.heap.size ≤ b) ∧ gb9 ≠ some b) gv (L.map (·.1)) W' := by
  have key : ∀ b, A b → b < W.heap.size → W'.heap[b]? = W.heap[b]? ∧ (Q b ∨ W.heap.size ≤ b) ∧ gb9 ≠ some b := fun b hb hl => by
    obtain ⟨h1, h2⟩ := hQ b hl hb
    refine ⟨hg.block b hl (fun e => h2 (Option.some.inj e)), .inl h1, fun e => ?_⟩
    rcases hn with h | ⟨g, h, hs⟩
    · rw [h] at e; exact h2 (Option.some.inj e).symm
    · rw [h] at e; have := Option.some.inj e; omega
  refine ⟨⟨L, h9, fun b e => ?_, fun p hp => Rds.keep (hA.2 p hp) hg.size key, rfl⟩, ⟨L, ⟨Rds.keep hA.1 hg.size key, fun p hp => Rds.keep (hA.2 p hp) hg.size key⟩, rfl⟩⟩
  rcases hn with h | ⟨g, h, hs⟩
  · rw [h] at e; rw [← Option.some.inj e]; exact .inl hq0
  · rw [h] at e; rw [← Option.some.inj e]; exact .inr hs
end
end Go.Proofs.YtdaoeplblkfapaaGreatDoor

/- WHAT THE LAW OF THE POWER HOLDS: an element more; a copy. -/
namespace Go.Proofs.YtdaoeplblkfapaaGreatDoor
open Go.RowKit

theorem Sl.boxed (w : World) (T : TypeId) (c0 c1 c2 c3 c4 c5 : Value) : Sl (w.alloc (.cells #[c0, c1, c2, c3, c4, c5] T)) (.slice (some ⟨w.heap.size, 0, none⟩) 1 1) (some w.heap.size) T 6 1 [c0, c1, c2, c3, c4, c5] :=
  ⟨by simp, .inr ⟨w.heap.size, 0, 1, #[c0, c1, c2, c3, c4, c5], rfl, rfl, heap_alloc_new w _, Nat.le_refl _, by simp, by simp⟩⟩
section
variable {w W W' : World} {Q : Nat → Prop} {gb : Option Nat} {sv gv : Value} {S D : List Pl.Bt}
theorem Ct.own (h : Ct w Q gb sv gv S D W) : ∀ k, gb = some k → Q k ∧ w.heap.size ≤ k ∧ k < W.heap.size := fun k hk => let ⟨hQ, _, _, h1, h2, _, _⟩ := h; ⟨h2 k hk, hQ k (h2 k hk), h1.lt k hk⟩
/-- A batch is appended to the list: what there is ahead, and what there is behind. -/
theorem Ct.fed {b : Pl.Bt} {rv : Value} {ga : Option Addr} {gn gc : Nat} {o : Obj} (h : Ct w Q gb sv (.slice ga gn gc) S D W) (hle : w.heap.size ≤ W.heap.size) (hr : RcIn (fun x => Q x ∧ gb ≠ some x) W rv b.recs) :
    ∃ L : List (Pl.Bt × Value), L.length = gn ∧ Sl (W.alloc o) (.slice ga gn gc) gb 34 6 gn (L.flatMap bc6) ∧ ∀ v9 w9 gb9, Sl w9 v9 gb9 34 6 (gn + 1) (L.flatMap bc6 ++ bc6 (b, rv)) → (W.alloc o).grownBy w9 gb → (gb9 = gb ∨ ∃ g, gb9 = some g ∧ (W.alloc o).heap.size ≤ g) →
      Ct w (fun x => (Q x ∨ W.heap.size ≤ x) ∨ (W.alloc o).heap.size ≤ x) gb9 sv v9 S (D ++ [b]) w9 := by
  have hb : Below W.heap.size W (W.alloc o) := (Below.refl _ _).alloc (Nat.le_refl _) _
  obtain ⟨hQ, hS, L, h1, h2, h3, rfl⟩ := h.below hle hb
  obtain ⟨_, _, e⟩ := h1.form
  have e2 : gn = L.length := by injection e
  subst e2
  refine ⟨L, rfl, h1, fun v9 w9 gb9 h9 hg hn => ?_⟩
  refine Ct.more hQ (Nat.le_trans hle hb.size) hS h2 h1.lt h3 (Rds.keep hr hb.size fun k hk hl => ⟨hb.block k hl, .inl hk.1, hk.2⟩) h9 hg hn
/-- The list is copied, to be the one that is read. -/
theorem Ct.copied {ga : Option Addr} {gn gc : Nat} (h : Ct w Q gb sv (.slice ga gn gc) S D W) (hle : w.heap.size ≤ W.heap.size) :
    ∃ L : List (Pl.Bt × Value), L.length = gn ∧ Rds (fun _ => True) (W.alloc (.cells #[] 34)) (.slice ga gn gc) 6 gn (L.flatMap bc6) ∧ (∀ u ∈ L.flatMap bc6, u.oneCell' = true) ∧ ∀ v9 w9 gb9, Sl w9 v9 gb9 34 6 (0 + gn) ([] ++ L.flatMap bc6) → (W.alloc (.cells #[] 34)).grownBy w9 (some W.heap.size) → (gb9 = some W.heap.size ∨ ∃ g, gb9 = some g ∧ (W.alloc (.cells #[] 34)).heap.size ≤ g) →
      Ct w (fun x => (Q x ∨ W.heap.size ≤ x) ∨ (W.alloc (.cells #[] 34)).heap.size ≤ x) gb v9 (.slice ga gn gc) D D w9 := by
  have hb : Below W.heap.size W (W.alloc (.cells #[] 34)) := (Below.refl _ _).alloc (Nat.le_refl _) _
  have hlt := h.own
  obtain ⟨hQ, hS, L, h1, h2, h3, rfl⟩ := h
  obtain ⟨_, _, e⟩ := h1.form
  have e2 : gn = L.length := by injection e
  subst e2
  have hs1 : (W.alloc (.cells #[] 34)).heap.size = W.heap.size + 1 := by simp
  refine ⟨L, rfl, (Rds.of_sl h1 fun _ _ => trivial).below hb, bc6_one h3, fun v9 w9 gb9 h9 hg hn => ?_⟩
  rw [Nat.zero_add, List.nil_append] at h9
  have hne : ∀ k, k < W.heap.size → some k ≠ some W.heap.size := fun k hk e => by have := Option.some.inj e; omega
  have h9n : ∀ k, gb9 = some k → W.heap.size ≤ k := fun k hk => by
    rcases hn with h | ⟨g, h, hs⟩
    · rw [h] at hk; have := Option.some.inj hk; omega
    · rw [h] at hk; have := Option.some.inj hk; omega
  have hsz : W.heap.size ≤ w9.heap.size := Nat.le_trans hb.size hg.size
  have hblk : ∀ k, k < W.heap.size → w9.heap[k]? = W.heap[k]? := fun k hk => (hg.block k (by omega) (hne k hk)).trans (hb.block k hk)
  refine ⟨fun x hx => ?_, ⟨L, ⟨Rds.of_sl h9 fun k hk => ⟨?_, fun e => ?_⟩, fun p hp => Rds.keep (h3 p hp) hsz fun k hk hl => ⟨hblk k hl, .inl (.inl hk.1), hk.2⟩⟩, rfl⟩, ⟨L, h1.same fun k hk => hblk k (h1.lt k hk), fun k hk => .inl (.inl (h2 k hk)), fun p hp => Rds.keep (h3 p hp) hsz fun k hk hl => ⟨hblk k hl, .inl (.inl hk.1), hk.2⟩, rfl⟩⟩
  · rcases hx with (hx | hx) | hx
    · exact hQ x hx
    · omega
    · omega
  · exact .inl (.inr (h9n k hk))
  · have h4 := (hlt k e).2.2
    have h5 := h9n k hk
    omega
end
end Go.Proofs.YtdaoeplblkfapaaGreatDoor

/- A REGION THAT DRAWS ITS ORDER, WHERE THE CALLS STAND IN ONE FORCED ORDER, and all that may come up beside them only copies, picks or reslices: ONE WALK IN ONE ORDER, as of a plain region, serves every order, whatever the callees do to memory. -/
namespace Go.Proofs.YtdaoeplblkfapaaGreatDoor
open Go

/-- Where it returns a value, it leaves the world as it is, and returns it in every world. -/
def Steady {α : Type} (x : Sem α) : Prop := ∀ (P : Program) (w : World) (v : α) (w1 : World), x.run P w = .ok v w1 → w1 = w ∧ ∀ w', x.run P w' = .ok v w'
theorem Steady.pure {α : Type} (v : α) : Steady (Pure.pure v : Sem α) := fun P w u w1 h => by
  have h : (Result.ok v w : Result α) = .ok u w1 := h
  injection h with h1 h2
  subst h1 h2
  exact ⟨rfl, fun _ => rfl⟩
theorem Steady.halt {α : Type} (x : Halt) : Steady (Sem.halt x : Sem α) := fun P w u w1 h => by
  have h : (Result.halt x w : Result α) = .ok u w1 := h
  cases h
theorem Steady.program {α : Type} {k : Program → Sem α} (h : ∀ p, Steady (k p)) : Steady (Sem.program k) := fun P w v w1 e => h P P w v w1 e
theorem Steady.bind {α β : Type} {x : Sem α} {f : α → Sem β} (hx : Steady x) (hf : ∀ a, Steady (f a)) : Steady (x >>= f) := fun P w v w1 h => by
  rw [Sem.run_bind] at h
  cases hr : x.run P w with
  | ok u w2 =>
    rw [hr] at h
    obtain ⟨rfl, h2⟩ := hx P w u w2 hr
    obtain ⟨h3, h4⟩ := hf u P w2 v w1 h
    refine ⟨h3, fun w' => ?_⟩
    rw [Sem.run_bind, h2 w']
    exact h4 w'
  | halt y w2 => rw [hr] at h; cases h
theorem Steady.never {α : Type} {x : Sem α} (h : ∀ P w v w1, x.run P w ≠ .ok v w1) : Steady x := fun P w v w1 e => absurd e (h P w v w1)
theorem never_bind {α β : Type} {x : Sem α} {f : α → Sem β} (hf : ∀ a P w v w1, (f a).run P w ≠ .ok v w1) (P : Program) (w : World) (v : β) (w1 : World) : (x >>= f).run P w ≠ .ok v w1 := fun h => by
  rw [Sem.run_bind] at h
  cases hr : x.run P w with
  | ok u w2 => rw [hr] at h; exact hf u P w2 v w1 h
  | halt y w2 => rw [hr] at h; cases h
theorem bounds_never {α : Type} (x y : Int) (s : Bool) (c : BoundsCode) (P : Program) (w : World) (v : α) (w1 : World) : (runtimePanic (.bounds x y s c) : Sem α).run P w ≠ .ok v w1 := fun h => by
  unfold runtimePanic at h
  cases h
theorem nil_never {α : Type} (P : Program) (w : World) (v : α) (w1 : World) : (runtimePanic .nilDeref : Sem α).run P w ≠ .ok v w1 := fun h => by
  unfold runtimePanic at h
  cases h
theorem boundsPanic_never {α : Type} (k : IntKind) (x y : Int) (c : BoundsCode) (P : Program) (w : World) (v : α) (w1 : World) : (boundsPanic k x y c : Sem α).run P w ≠ .ok v w1 := by
  unfold boundsPanic
  split
  · exact never_bind (fun _ => bounds_never _ _ _ _) P w v w1
  · exact never_bind (fun _ => bounds_never _ _ _ _) P w v w1
theorem steady_underlying (t : TypeId) : Steady (underlying t) := by
  unfold underlying
  refine Steady.bind (Steady.program fun p => Steady.pure p) fun p => ?_
  split
  · exact Steady.pure _
  · exact Steady.halt _
theorem steady_sizeOf (t : TypeId) : Steady (sizeOf t) := by
  unfold sizeOf typeInfo
  refine Steady.bind (Steady.bind (Steady.program fun p => Steady.pure p) fun p => ?_) fun _ => Steady.pure _
  split
  · exact Steady.pure _
  · exact Steady.halt _
theorem steady_asIntOf (v : Value) : Steady (asIntOf v) := by
  unfold asIntOf
  split <;> first | exact Steady.pure _ | exact Steady.halt _
theorem steady_sliceBound (x : Value) (y : Nat) (c : BoundsCode) : Steady (Instr.sliceBound x y c) := by
  unfold Instr.sliceBound
  refine Steady.bind (steady_asIntOf x) fun p => ?_
  split
  split
  · exact Steady.pure _
  · exact Steady.never (boundsPanic_never _ _ _ _)
theorem steady_sliceBounds (s : Bool) (len cap : Nat) (l h m : Option Value) : Steady (Instr.sliceBounds s len cap l h m) := by
  unfold Instr.sliceBounds
  cases m <;> cases h <;> cases l <;> dsimp only <;> repeat (first | exact steady_sliceBound _ _ _ | with_reducible exact Steady.pure _ | exact Steady.halt _ | refine Steady.bind ?_ fun _ => ?_)
theorem steady_asAddr (v : Value) : Steady (asAddr v) := by
  unfold asAddr
  split <;> first | exact Steady.pure _ | exact Steady.never nil_never | exact Steady.halt _
theorem steady_sureAddr (v : Value) : Steady (Instr.sureAddr v) := by
  unfold Instr.sureAddr
  split <;> first | exact Steady.pure _ | exact Steady.halt _
theorem steady_slice (t : TypeId) (x : Value) (l h m : Option Value) : Steady (Instr.slice t x l h m) := by
  unfold Instr.slice
  refine Steady.bind (steady_underlying t) fun d => ?_
  split
  · split
    · exact Steady.bind (Steady.halt _) fun _ => Steady.bind (steady_sliceBounds _ _ _ _ _ _) fun _ => Steady.pure _
    · exact Steady.bind (steady_sliceBounds _ _ _ _ _ _) fun _ => Steady.pure _
  · exact Steady.bind (steady_sliceBounds _ _ _ _ _ _) fun _ => Steady.bind (steady_sizeOf _) fun _ => Steady.pure _
  · refine Steady.bind (steady_asAddr _) fun a => Steady.bind (steady_underlying _) fun d => ?_
    split
    · exact Steady.bind (steady_sliceBounds _ _ _ _ _ _) fun _ => Steady.bind (steady_sizeOf _) fun _ => Steady.pure _
    · exact Steady.halt _
  · exact Steady.halt _
theorem steady_sliceAt (t : TypeId) (x : Value) (l h m : Option Value) : Steady (Instr.sliceAt t x l h m) := by
  unfold Instr.sliceAt
  refine Steady.bind (steady_underlying t) fun d => ?_
  split
  · exact Steady.bind (steady_sureAddr _) fun a => Steady.bind (steady_sliceBounds _ _ _ _ _ _) fun _ => Steady.bind (steady_sizeOf _) fun _ => Steady.pure _
  · exact steady_slice _ _ _ _ _
theorem steady_asBool (v : Value) : Steady (asBool v) := by
  unfold asBool
  split <;> first | exact Steady.pure _ | exact Steady.halt _
/-- It copies, picks or reslices. -/
def Oper.inert (o : Oper) : Bool := match o.op with
  | .move _ | .assign _ | .pick _ _ _ | .slice _ _ _ _ _ => true
  | _ => false
theorem inert_ok {o : Oper} (h : Oper.inert o = true) (ρ : Operand → Value) (P : Program) (w : World) (n : Next) (w1 : World) (hr : (execOp ρ o).run P w = .ok n w1) :
    w1 = w ∧ ∃ v, n = .value v ∧ ∀ w', (execOp ρ o).run P w' = .ok (.value v) w' := by
  have key : ∀ (s : Sem Value), Steady s → (do pure (.value (← s)) : Sem Next).run P w = .ok n w1 → w1 = w ∧ ∃ v, n = .value v ∧ ∀ w', (do pure (.value (← s)) : Sem Next).run P w' = .ok (.value v) w' := fun s hs e => by
    obtain ⟨h1, h2⟩ := Steady.bind hs (fun v => Steady.pure (Next.value v)) P w n w1 e
    rw [Sem.run_bind] at e
    cases hq : s.run P w with
    | ok u w2 =>
      rw [hq] at e
      have e : (Result.ok (Next.value u) w2 : Result Next) = .ok n w1 := e
      injection e with e1 e2
      exact ⟨h1, u, e1.symm, e1 ▸ h2⟩
    | halt y w2 => rw [hq] at e; cases e
  obtain ⟨dst, op, ty, pos, after, guard⟩ := o
  cases op <;> first | (cases h; done) | skip
  case move x =>
    have e : (Result.ok (Next.value (ρ x)) w : Result Next) = .ok n w1 := hr
    injection e with e1 e2
    exact ⟨e2.symm, ρ x, e1.symm, fun _ => rfl⟩
  case assign x =>
    have e : (Result.ok (Next.value (ρ x)) w : Result Next) = .ok n w1 := hr
    injection e with e1 e2
    exact ⟨e2.symm, ρ x, e1.symm, fun _ => rfl⟩
  case pick c a b =>
    have hs : Steady (execOp ρ ⟨dst, .pick c a b, ty, pos, after, guard⟩) := Steady.bind (steady_asBool _) fun _ => Steady.pure _
    obtain ⟨h1, h2⟩ := hs P w n w1 hr
    have e : ((asBool (ρ c)) >>= fun q => (Pure.pure (Next.value (if q = true then ρ a else ρ b)) : Sem Next)).run P w = .ok n w1 := hr
    rw [Sem.run_bind] at e
    cases hq : (asBool (ρ c)).run P w with
    | ok u w2 =>
      rw [hq] at e
      have e : (Result.ok (Next.value (if u = true then ρ a else ρ b)) w2 : Result Next) = .ok n w1 := e
      injection e with e1 e2
      exact ⟨h1, _, e1.symm, e1 ▸ h2⟩
    | halt y w2 => rw [hq] at e; cases e
  case slice t x lo hi mx => exact key _ (steady_sliceAt t (ρ x) (lo.map ρ) (hi.map ρ) (mx.map ρ)) hr
/-- It goes on; nothing else. -/
def Calm (Q : Exit → Act → World → Prop) : Exit → Act → World → Prop
  | .normal, a, w => Q .normal a w
  | _, _, _ => False
theorem Calm.imp {Q : Exit → Act → World → Prop} (e : Exit) (a : Act) (w : World) (h : Calm Q e a w) : Q e a w := by
  cases e <;> first | exact h | exact (h : False).elim
/-- The order is one that may come up; whatever may come up beside its next operation is told by that operation, or that operation is inert and free. -/
def orderB (md : Region.Mode) (ops : Array Oper) : List Nat → Array Bool → Bool
  | [], listed => (Region.ready md ops listed).isEmpty
  | k :: l, listed => (decide (Region.ready md ops listed = [k]) || ((Region.ready md ops listed).contains k && Region.free md ops listed k && (match ops[k]? with | some o => Oper.inert o | none => false))) && orderB md ops l (listed.setIfInBounds k true)
theorem any_of_order {P : Program} {md : Region.Mode} {ops : Array Oper} {Q : Exit → Act → World → Prop} (hsel : Region.noSelect ops = true) : ∀ (l : List Nat) (listed : Array Bool) (a : Act) (w : World), orderB md ops l listed = true →
    wpList P ops (Calm Q) (l.filterMap (ops[·]?)) a w → wpAny P md ops (Calm Q) l.length listed a w
  | [], listed, a, w, hB, h => ⟨by simpa [orderB] using hB, h⟩
  | k :: l, listed, a, w, hB, h => by
    simp only [orderB, Bool.and_eq_true, Bool.or_eq_true, decide_eq_true_eq] at hB
    obtain ⟨hB1, hB2⟩ := hB
    have hkr : k ∈ Region.ready md ops listed := by
      rcases hB1 with h1 | h1
      · rw [h1]; exact List.mem_singleton.2 rfl
      · simpa using h1.1.1
    obtain ⟨hun, o, ho, -⟩ := mem_ready.1 hkr
    have hl : (k :: l).filterMap (ops[·]?) = o :: l.filterMap (ops[·]?) := by rw [List.filterMap_cons]; simp only [ho]
    rw [hl] at h
    rcases hB1 with h1 | ⟨⟨-, h2⟩, h3⟩
    · refine ⟨fun h0 => (by rw [h0] at h1; cases h1), fun i hi => ?_⟩
      rw [h1] at hi
      obtain rfl : i = k := by simpa using hi
      have hw : wpOp P ops (Calm Q) i (wpList P ops (Calm Q) (l.filterMap (ops[·]?))) a w := by unfold wpOp; simp only [ho]; exact h
      exact wpOp_mono (fun a' w' h' => any_of_order hsel l _ a' w' hB2 h') hw
    · simp only [ho] at h3
      have hy : ∃ v, Yields P ops o v a ∧ wpList P ops (Calm Q) (l.filterMap (ops[·]?)) (a.put o.dst v) w := by
        unfold wpList at h
        split at h
        · rename_i hwt
          rcases h with h | ⟨-, x, y, h⟩
          · unfold Oper.wp at h
            cases hr : (execOp a.eval o).run P w with
            | ok n w1 =>
              obtain ⟨rfl, v, rfl, hall⟩ := inert_ok h3 a.eval P w n w1 hr
              rw [hr] at h
              exact ⟨v, .inl ⟨hwt, hall⟩, h⟩
            | halt x w1 =>
              rw [hr] at h
              cases x <;> exact (h : False).elim
          · exact (h : False).elim
        · rename_i hwt
          exact ⟨undef, .inr ⟨by simpa using hwt, rfl⟩, h⟩
      obtain ⟨v, hy, hrest⟩ := hy
      exact wpAny_first ho (Region.noSelect_spec hsel) (fun _ _ _ h => h) l.length listed a w (Region.free_spec ho h2) hkr hy (any_of_order hsel l _ _ w hB2 hrest)
/-- The law. -/
theorem wp_region_order {P : Program} {id : Nat} {ops : Array Oper} {Q : Exit → Act → World → Prop} {a : Act} {w : World} (l : List Nat) (hm : P.follows .mixedOrders = true) (hB : (Region.noSelect ops && orderB .any ops l (Array.replicate ops.size false) && decide (l.length = ops.size)) = true)
    (h : wpList P ops (Calm Q) (l.filterMap (ops[·]?)) a w.drew) : (Code.region id ops true).wp P Q a w := by
  simp only [Bool.and_eq_true, decide_eq_true_eq] at hB
  obtain ⟨⟨h1, h2⟩, h3⟩ := hB
  refine Code.wp_mono Calm.imp (wp_region_any hm ?_)
  have := any_of_order (md := .any) h1 l _ a w.drew h2 h
  rw [h3] at this
  exact this
end Go.Proofs.YtdaoeplblkfapaaGreatDoor

/- An argument opened: a slice of numbers. -/
namespace Go.Proofs.YtdaoeplblkfapaaGreatDoor
open Go.ChangeShapes Go.WideShapes Go.ChangeAt Go.RowKit

theorem open_ints7 {H : Type} {enc : TypeId × Value → H} {W : World} {fuel : Nat} {v : Value} {x : DataW H × List MemPlace} (h : DataW.trod enc Tryz.prog W 0 (fun _ => true) true fuel 35 [v] = some x) :
    ∃ zs : List Int, Ta.Nums W v zs := by
  have hint : ∀ (n : Nat) (cs : List Value) (y : DataW H × List MemPlace), cs.length = 1 → DataW.trod enc Tryz.prog W 0 (fun _ => true) true n 3 cs = some y → ∃ z : Int, cs = [Value.int .i64 z] ∧ True := fun n cs y hl ht => by
    match cs, hl with
    | [u], _ =>
      obtain ⟨z, e, -, -⟩ := DataW.trod_int Tryz.underlying3 ht
      exact ⟨z, e, trivial⟩
  obtain ⟨zs, -, hl⟩ := open_rows Tryz.underlying35 (fun z : Int => [Value.int .i64 z]) 1 (by decide) (fun _ => rfl) cellsInt (fun _ => True) hint h
  exact ⟨zs, (nums_of hl).1⟩
end Go.Proofs.YtdaoeplblkfapaaGreatDoor
