/- A tape as the laws see it: what each name holds. -/
import Derived.Test.YtnenpcbofbcllaaOn
namespace Go.Proofs.Ytnenpcbofbcllaa
open Go.RowKit Go.Maps

abbrev View := Key → Option (List UInt8 × Nat)
def upd (f : View) (k : Key) (v : Option (List UInt8 × Nat)) : View := fun x => if x = k then v else f x
def Vw (E : List Ent) (f : View) : Prop := ∀ k L sf, f k = some (L, sf) ↔ ∃ e ∈ E, e.key = k ∧ e.L = L ∧ e.safe = sf
theorem Vw.perm {E E' : List Ent} {f : View} (h : Vw E f) (hp : E.Perm E') : Vw E' f := fun k L sf => (h k L sf).trans ⟨fun ⟨e, he, r⟩ => ⟨e, hp.mem_iff.1 he, r⟩, fun ⟨e, he, r⟩ => ⟨e, hp.mem_iff.2 he, r⟩⟩
theorem Vw.no {E : List Ent} {f : View} (h : Vw E f) {k : Key} (hk : f k = none) : k ∉ E.map (·.key) := by
  intro hm
  obtain ⟨e, he, rfl⟩ := List.mem_map.1 hm
  rw [(h e.key e.L e.safe).2 ⟨e, he, rfl, rfl, rfl⟩] at hk
  cases hk
theorem Vw.yes {E : List Ent} {f : View} (h : Vw E f) {k : Key} {L : List UInt8} {sf : Nat} (hk : f k = some (L, sf)) : ∃ e R, E.Perm (e :: R) ∧ e.key = k ∧ e.L = L ∧ e.safe = sf := by
  obtain ⟨e, he, h1⟩ := (h k L sf).1 hk
  obtain ⟨a, b, rfl⟩ := List.append_of_mem he
  exact ⟨e, a ++ b, List.perm_middle, h1⟩
theorem Vw.eq_none {E : List Ent} {f : View} (h : Vw E f) {k : Key} (hk : k ∉ E.map (·.key)) : f k = none := by
  cases hf : f k with
  | none => rfl
  | some p =>
    obtain ⟨e, he, h1, -⟩ := (h k p.1 p.2).1 hf
    exact absurd (List.mem_map.2 ⟨e, he, h1⟩) hk
/-- The first file holds other things, or has another name. -/
theorem Vw.head {e e' : Ent} {R : List Ent} {f : View} (h : Vw (e :: R) f) (hn : ((e :: R).map (·.key)).Nodup) (hk : e'.key = e.key) : Vw (e' :: R) (upd f e.key (.some (e'.L, e'.safe))) := by
  have hnd := (List.nodup_cons.1 (show (e.key :: R.map (·.key)).Nodup from hn)).1
  intro k L sf
  unfold upd
  by_cases hkk : k = e.key
  · subst hkk
    simp only [if_true, Option.some.injEq, Prod.mk.injEq]
    constructor
    · rintro ⟨rfl, rfl⟩
      exact ⟨e', by simp, hk, rfl, rfl⟩
    · rintro ⟨x, hx, h1, h2, h3⟩
      rcases List.mem_cons.1 hx with rfl | hx
      · exact ⟨h2, h3⟩
      · exact absurd (List.mem_map.2 ⟨x, hx, h1⟩) hnd
  · rw [if_neg hkk, h k L sf]
    constructor
    · rintro ⟨x, hx, h1, h2⟩
      rcases List.mem_cons.1 hx with rfl | hx
      · exact absurd h1.symm hkk
      · exact ⟨x, List.mem_cons_of_mem _ hx, h1, h2⟩
    · rintro ⟨x, hx, h1, h2⟩
      rcases List.mem_cons.1 hx with rfl | hx
      · exact absurd (h1.symm.trans hk) hkk
      · exact ⟨x, List.mem_cons_of_mem _ hx, h1, h2⟩
theorem Vw.fresh {e : Ent} {E : List Ent} {f : View} (h : Vw E f) (hk : e.key ∉ E.map (·.key)) : Vw (e :: E) (upd f e.key (.some (e.L, e.safe))) := by
  intro k L sf
  unfold upd
  by_cases hkk : k = e.key
  · subst hkk
    simp only [if_true, Option.some.injEq, Prod.mk.injEq]
    constructor
    · rintro ⟨rfl, rfl⟩
      exact ⟨e, by simp, rfl, rfl, rfl⟩
    · rintro ⟨x, hx, h1, h2, h3⟩
      rcases List.mem_cons.1 hx with rfl | hx
      · exact ⟨h2, h3⟩
      · exact absurd (List.mem_map.2 ⟨x, hx, h1⟩) hk
  · rw [if_neg hkk, h k L sf]
    constructor
    · rintro ⟨x, hx, h1, h2⟩
      exact ⟨x, List.mem_cons_of_mem _ hx, h1, h2⟩
    · rintro ⟨x, hx, h1, h2⟩
      rcases List.mem_cons.1 hx with rfl | hx
      · exact absurd h1.symm hkk
      · exact ⟨x, hx, h1, h2⟩
theorem Vw.swapped {e : Ent} {R : List Ent} {f : View} {k : Key} (h : Vw (e :: R) f) (hn : ((e :: R).map (·.key)).Nodup) : Vw ({ e with key := k } :: R.filter fun x => !(x.key == k)) (upd (upd f e.key .none) k (.some (e.L, e.safe))) := by
  have hnd := (List.nodup_cons.1 (show (e.key :: R.map (·.key)).Nodup from hn)).1
  intro j L sf
  unfold upd
  by_cases hj : j = k
  · subst hj
    simp only [if_true, Option.some.injEq, Prod.mk.injEq]
    constructor
    · rintro ⟨rfl, rfl⟩
      exact ⟨_, List.mem_cons_self, rfl, rfl, rfl⟩
    · rintro ⟨x, hx, h1, h2, h3⟩
      rcases List.mem_cons.1 hx with rfl | hx
      · exact ⟨h2, h3⟩
      · have := (List.mem_filter.1 hx).2
        simp [h1] at this
  · rw [if_neg hj]
    by_cases hj2 : j = e.key
    · subst hj2
      rw [if_pos rfl]
      constructor
      · intro h1; cases h1
      · rintro ⟨x, hx, h1, h2⟩
        rcases List.mem_cons.1 hx with rfl | hx
        · exact absurd h1.symm hj
        · exact absurd (List.mem_map.2 ⟨x, (List.mem_filter.1 hx).1, h1⟩) hnd
    · rw [if_neg hj2, h j L sf]
      constructor
      · rintro ⟨x, hx, h1, h2⟩
        rcases List.mem_cons.1 hx with rfl | hx
        · exact absurd h1.symm hj2
        · exact ⟨x, List.mem_cons_of_mem _ (List.mem_filter.2 ⟨hx, by simp [h1, hj]⟩), h1, h2⟩
      · rintro ⟨x, hx, h1, h2⟩
        rcases List.mem_cons.1 hx with rfl | hx
        · exact absurd h1.symm hj
        · exact ⟨x, List.mem_cons_of_mem _ (List.mem_filter.1 hx).1, h1, h2⟩

/-- The tape in block t, its blocks B, what its names hold, how many bytes, how many files. -/
def St (w : World) (t : Nat) (B : Nat → Prop) (f : View) (tot n : Nat) (s : Sc) : Prop := ∃ m E, Tp w t m E s ∧ (∀ b, B b ↔ Of t m E b) ∧ Vw E f ∧ total E = tot ∧ E.length = n
section
variable {w w' : World} {t : Nat} {B : Nat → Prop} {f : View} {tot n : Nat} {s : Sc}
theorem St.same (h : St w t B f tot n s) (hs : ∀ b, B b → w'.heap[b]? = w.heap[b]?) : St w' t B f tot n s :=
  let ⟨m, E, h1, h2, h3⟩ := h; ⟨m, E, h1.same fun b hb => hs b ((h2 b).2 hb), h2, h3⟩
theorem St.lt (h : St w t B f tot n s) : ∀ b, B b → b < w.heap.size := let ⟨_, _, h1, h2, _⟩ := h; fun b hb => h1.lt b ((h2 b).1 hb)
theorem St.below (h : St w t B f tot n s) (hb : RowKit.Below w.heap.size w w') : St w' t B f tot n s := h.same fun b hx => hb.block b (h.lt b hx)
/-- A block that is none of its is written. -/
theorem St.beside (h : St w t B f tot n s) {x : Nat} (hx : ¬ B x) (i : Nat) (v : Value) : St (w.setCell ⟨x, i, none⟩ v) t B f tot n s := h.same fun b hb => Below.heap_setCell _ _ _ _ (by rintro rfl; exact hx hb)
theorem St.fit (h : St w t B f tot n s) : tot ≤ s.room ∧ s.room ≤ 4194304 := let ⟨_, _, h1, _, _, h4, _⟩ := h; ⟨h4 ▸ h1.fit, h1.room⟩
theorem St.safe (h : St w t B f tot n s) {k : Key} {L : List UInt8} {sf : Nat} (hk : f k = some (L, sf)) : sf ≤ L.length := by
  obtain ⟨m, E, h1, h2, h3, h4⟩ := h
  obtain ⟨e, he, -, rfl, rfl⟩ := (h3 k L sf).1 hk
  exact h1.safe e he
theorem St.sized (h : St w t B f tot n s) {k : Key} {L : List UInt8} {sf : Nat} (hk : f k = some (L, sf)) : L.length ≤ tot := by
  obtain ⟨m, E, h1, h2, h3, h4, h5⟩ := h
  obtain ⟨e, he, -, rfl, rfl⟩ := (h3 k L sf).1 hk
  rw [← h4]; exact total_mem he
theorem St.one (h : St w t B f tot 1 s) {k : Key} {L : List UInt8} {sf : Nat} (hk : f k = some (L, sf)) : tot = L.length := by
  obtain ⟨m, E, h1, h2, h3, h4, h5⟩ := h
  obtain ⟨e, he, -, rfl, rfl⟩ := (h3 k L sf).1 hk
  obtain ⟨a, rfl⟩ := List.length_eq_one_iff.1 h5
  simp at he
  subst he
  rw [← h4]
  simp [total]
theorem Moved.iff {A A' C C' : Nat → Prop} (h : Moved A C w w') (h1 : ∀ b, A' b ↔ A b) (h2 : ∀ b, C' b ↔ C b) : Moved A' C' w w' :=
  ⟨h.os, h.tape, h.output, h.size, fun k hk hn => h.block k hk (fun ha => hn ((h1 k).2 ha)), fun k hk => (h.new k ((h2 k).1 hk)).imp (h1 k).2 id⟩
theorem Of.iff {m : Nat} {E E' : List Ent} (hp : E.Perm E') (b : Nat) : Of t m E b ↔ Of t m E' b := ⟨fun h => h.perm hp, fun h => h.perm hp.symm⟩

def more (v : Option (List UInt8 × Nat)) (M : List UInt8) : List UInt8 × Nat := match v with
  | none => (M, 0)
  | some (L, sf) => (L ++ M, sf)
theorem s_append (h : St w t B f tot n s) (q : Small s) (k : Key) (M : List UInt8) (hn : okName k = true) (hE : n < 256) (hM : tot + M.length ≤ s.room) :
    Calls Try.prog 11 #[.pointer (some ⟨t, 0, none⟩), .string ⟨k.toArray⟩, .string ⟨M.toArray⟩] w fun x w' => x = .returned (.int .i64 (actR s)) ∧
      ∃ B', St w' t B' (upd f k (some (more (f k) M))) (tot + M.length) (if (f k).isSome then n else n + 1) (actS s) ∧ Moved B B' w w' := by
  obtain ⟨m, E, h1, h2, h3, h4, h5⟩ := h
  rcases hf : f k with _ | ⟨L, sf⟩
  · refine (append_new k M w t m E s h1 q (h3.no hf) hn (by omega) (by omega)).mono ?_
    rintro x w' ⟨rfl, j, jb, h6, h7⟩
    exact ⟨rfl, _, ⟨m, _, h6, fun b => Iff.rfl, h3.fresh (e := ⟨k, j, jb, M, 0⟩) (h3.no hf), by simp only [total]; omega, by simp [h5]⟩, h7.iff h2 fun b => Iff.rfl⟩
  · obtain ⟨e, R, hp, rfl, rfl, rfl⟩ := h3.yes hf
    have hl := hp.length_eq
    have ht := total_perm hp
    refine (append_old M w t m e R s (h1.perm hp) q (by omega)).mono ?_
    rintro x w' ⟨rfl, jb, h6, h7⟩
    refine ⟨rfl, _, ⟨m, _, h6, fun b => Iff.rfl, (h3.perm hp).head (e' := { e with L := e.L ++ M, jb := jb }) (h1.perm hp).keys rfl, ?_, ?_⟩, h7.iff (fun b => (h2 b).trans (Of.iff hp b)) fun b => Iff.rfl⟩
    · simp only [total, List.length_append] at ht ⊢; omega
    · simp only [List.length_cons] at hl ⊢; simp; omega
theorem s_append_full (h : St w t B f tot n s) (hd : s.down = false) (k : Key) (M : List UInt8) (hn : okName k = true) (hE : n < 256) (hM : s.room < tot + M.length) :
    Calls Try.prog 11 #[.pointer (some ⟨t, 0, none⟩), .string ⟨k.toArray⟩, .string ⟨M.toArray⟩] w fun x w' => x = .returned (.int .i64 11) ∧ RowKit.Below w.heap.size w w' := by
  obtain ⟨m, E, h1, h2, h3, h4, h5⟩ := h
  exact append_full k M w t m E s h1 hd hn (by omega) (by omega)
theorem s_append_bad (h : St w t B f tot n s) (hd : s.down = false) (k : Key) (M : List UInt8) (hk : k.length ≤ 1048576) (hn : okName k = false) :
    Calls Try.prog 11 #[.pointer (some ⟨t, 0, none⟩), .string ⟨k.toArray⟩, .string ⟨M.toArray⟩] w fun x w' => x = .returned (.int .i64 1) ∧ w = w' := by
  obtain ⟨m, E, h1, -⟩ := h
  exact append_bad k M w t m E s h1 hd hk hn
theorem s_sync_none (h : St w t B f tot n s) (hd : s.down = false) (k : Key) (hk : k.length ≤ 1048576) (hf : f k = none) :
    Calls Try.prog 12 #[.pointer (some ⟨t, 0, none⟩), .string ⟨k.toArray⟩] w fun e w' => e = .returned (.int .i64 12) ∧ w = w' := by
  obtain ⟨m, E, h1, h2, h3, -⟩ := h
  exact sync_none k w t m E s h1 hd hk (h3.no hf)
theorem s_sync (h : St w t B f tot n s) (q : Small s) (k : Key) (L : List UInt8) (sf : Nat) (hf : f k = some (L, sf)) :
    Calls Try.prog 12 #[.pointer (some ⟨t, 0, none⟩), .string ⟨k.toArray⟩] w fun x w' => x = .returned (.int .i64 (actR s)) ∧
      ∃ B', St w' t B' (upd f k (some (L, if s.armed = 1 then sf else L.length))) tot n (actS s) ∧ Moved B B' w w' := by
  obtain ⟨m, E, h1, h2, h3, h4, h5⟩ := h
  obtain ⟨e, R, hp, rfl, rfl, rfl⟩ := h3.yes hf
  have hl := hp.length_eq
  have ht := total_perm hp
  refine (sync_some w t m e R s (h1.perm hp) q).mono ?_
  rintro x w' ⟨rfl, h6, h7⟩
  refine ⟨rfl, _, ⟨m, _, h6, fun b => Iff.rfl, ?_, ?_, ?_⟩, (h7.mono (fun _ h => h) (fun b hb => ?_)).iff (fun b => (h2 b).trans (Of.iff hp b)) fun b => Iff.rfl⟩
  · by_cases ha : s.armed = 1
    · simp only [if_pos ha]
      exact (h3.perm hp).head (e' := e) (h1.perm hp).keys rfl
    · simp only [if_neg ha]
      exact (h3.perm hp).head (e' := { e with safe := e.L.length }) (h1.perm hp).keys rfl
  · rw [← h4, ht]
    split <;> rfl
  · rw [← h5, hl]
    split <;> rfl
  · refine Of.file (N := w.heap.size) (e := e) ?_ ?_ hb
    · split <;> rfl
    · split <;> exact .inl rfl
theorem s_read (h : St w t B f tot n s) (hd : s.down = false) (k : Key) (L : List UInt8) (sf : Nat) (hf : f k = some (L, sf)) :
    Calls Try.prog 15 #[.pointer (some ⟨t, 0, none⟩), .string ⟨k.toArray⟩] w fun x w' => x = .returned (.tuple #[.string ⟨L.toArray⟩, .int .i64 0]) ∧ w = w' := by
  obtain ⟨m, E, h1, h2, h3, h4, h5⟩ := h
  obtain ⟨e, R, hp, rfl, rfl, rfl⟩ := h3.yes hf
  exact read_some w t m e R s (h1.perm hp) hd
theorem s_read_none (h : St w t B f tot n s) (hd : s.down = false) (k : Key) (hk : k.length ≤ 1048576) (hf : f k = none) :
    Calls Try.prog 15 #[.pointer (some ⟨t, 0, none⟩), .string ⟨k.toArray⟩] w fun x w' => x = .returned (.tuple #[.string ⟨#[]⟩, .int .i64 12]) ∧ w = w' := by
  obtain ⟨m, E, h1, h2, h3, -⟩ := h
  exact read_none k w t m E s h1 hd hk (h3.no hf)
theorem s_read_down (h : St w t B f tot n s) (hd : s.down = true) (k : Key) :
    Calls Try.prog 15 #[.pointer (some ⟨t, 0, none⟩), .string ⟨k.toArray⟩] w fun x w' => x = .returned (.tuple #[.string ⟨#[]⟩, .int .i64 10]) ∧ w = w' := by
  obtain ⟨m, E, h1, -⟩ := h
  exact read_down k w t m s h1.head hd
theorem s_swap (h : St w t B f tot n s) (q : Small s) (a k : Key) (v : List UInt8 × Nat) (hf : f a = some v) (hn : okName k = true) :
    Calls Try.prog 19 #[.pointer (some ⟨t, 0, none⟩), .string ⟨a.toArray⟩, .string ⟨k.toArray⟩] w fun x w' => x = .returned (.int .i64 (actR s)) ∧
      ∃ B' tot' n', St w' t B' (upd (upd f a none) k (some v)) tot' n' (actS s) ∧ Moved B B' w w' := by
  obtain ⟨m, E, h1, h2, h3, h4, h5⟩ := h
  obtain ⟨e, R, hp, rfl, hL, hS⟩ := h3.yes (L := v.1) (sf := v.2) hf
  refine (swap_some k w t m e R s (h1.perm hp) q hn).mono ?_
  rintro x w' ⟨rfl, h6, h7⟩
  have := (h3.perm hp).swapped (k := k) (h1.perm hp).keys
  rw [show (e.L, e.safe) = v by rw [hL, hS]] at this
  exact ⟨rfl, _, _, _, ⟨m, _, h6, fun b => Iff.rfl, this, rfl, rfl⟩, h7.iff (fun b => (h2 b).trans (Of.iff hp b)) fun b => Iff.rfl⟩
theorem s_head (h : St w t B f tot n s) : ∃ m, Hd w t m s := let ⟨m, _, h1, _⟩ := h; ⟨m, h1.head⟩
theorem s_arm (h : St w t B f tot n s) (i : Int) :
    Calls Try.prog 10 #[.pointer (some ⟨t, 0, none⟩), .int .i64 i] w fun e w' => (∃ v, e = .returned v) ∧ ∃ B', St w' t B' f tot n { s with armed := max i 0 } ∧ Moved B B' w w' := by
  obtain ⟨m, E, h1, h2, h3, h4, h5⟩ := h
  refine (arm_any i w t m s h1.head).mono ?_
  rintro x w' ⟨hx, h6, h7⟩
  exact ⟨hx, _, ⟨m, E, h1.acted h6 h7 rfl, fun b => Iff.rfl, h3, h4, h5⟩, h7.of.iff h2 fun b => Iff.rfl⟩
theorem s_off (h : St w t B f tot n s) (hl : s.life ≤ 1099511627776) :
    Calls Try.prog 13 #[.pointer (some ⟨t, 0, none⟩)] w fun e w' => (∃ v, e = .returned v) ∧ ∃ B', St w' t B' f tot n (offS s) ∧ Moved B B' w w' := by
  obtain ⟨m, E, h1, h2, h3, h4, h5⟩ := h
  refine (off_any w t m s h1.head hl).mono ?_
  rintro x w' ⟨hx, h6, h7⟩
  exact ⟨hx, _, ⟨m, E, h1.acted h6 h7 (offS_room s), fun b => Iff.rfl, h3, h4, h5⟩, h7.of.iff h2 fun b => Iff.rfl⟩
/-- What the names hold when the power is back. -/
def Left (zs : List Int) (f f' : View) : Prop := ∀ k, match f k with
  | none => f' k = none
  | some (L, sf) => ∃ x, f' k = some (L.take x, x) ∧ sf ≤ x ∧ x ≤ L.length ∧ (zs = [1] → sf < L.length → x = sf + 1)
theorem s_on (h : St w t B f tot n s) (hd : s.down = true) (fv : Value) (zs : List Int) (hf : Nums w fv zs) (hfo : 0 < zs.length → ∀ a c d, fv = .slice (some a) c d → ¬ B a.block) :
    Calls Try.prog 14 #[.pointer (some ⟨t, 0, none⟩), fv] w fun x w' => (∃ v, x = .returned v) ∧
      ∃ B' f' tot', St w' t B' f' tot' n { s with down := false } ∧ Left zs f f' ∧ Moved B B' w w' := by
  obtain ⟨m, E, h1, h2, h3, h4, h5⟩ := h
  refine (on_any w t m E s fv zs h1 hd hf (fun h0 a c d h => fun ho => hfo h0 a c d h ((h2 _).2 ho))).mono ?_
  rintro x w' ⟨hx, E', h6, h7, h8, h9⟩
  have hnd := h6.keys
  have hview : ∃ f', Vw E' f' := by
    refine ⟨fun k => (E'.find? fun e => e.key == k).map fun e => (e.L, e.safe), fun k L sf => ?_⟩
    constructor
    · intro hk
      simp only [Option.map_eq_some_iff, Prod.mk.injEq] at hk
      obtain ⟨e, he, h1, h2⟩ := hk
      exact ⟨e, List.mem_of_find?_eq_some he, by simpa using List.find?_some he, h1, h2⟩
    · rintro ⟨e, he, rfl, rfl, rfl⟩
      cases hf : E'.find? fun x => x.key == e.key with
      | none => have := List.find?_eq_none.1 hf e he; simp at this
      | some x =>
        have h1 := List.mem_of_find?_eq_some hf
        have h2 : x.key = e.key := by simpa using List.find?_some hf
        have : x = e := by
          clear hf h8 h9 h7 h6
          induction E' with
          | nil => cases he
          | cons a E ih =>
            simp only [List.map_cons, List.nodup_cons] at hnd
            rcases List.mem_cons.1 he with e1 | h3
            · rcases List.mem_cons.1 h1 with e2 | h4
              · rw [e1, e2]
              · exact absurd (List.mem_map.2 ⟨x, h4, by rw [h2, e1]⟩) hnd.1
            · rcases List.mem_cons.1 h1 with e2 | h4
              · exact absurd (List.mem_map.2 ⟨e, h3, by rw [← h2, e2]⟩) hnd.1
              · exact ih hnd.2 h3 h4
        show Option.map (fun e => (e.L, e.safe)) (E'.find? fun x => x.key == e.key) = _
        rw [hf, this]
        rfl
  obtain ⟨f', hv⟩ := hview
  refine ⟨hx, _, f', _, ⟨m, E', h6, fun b => Iff.rfl, hv, rfl, by have := h7.length_eq; simp only [List.length_map] at this; omega⟩, fun k => ?_, h9.iff h2 fun b => Iff.rfl⟩
  rcases hfk : f k with _ | ⟨L, sf⟩
  · exact hv.eq_none fun hm => h3.no hfk (h7.mem_iff.1 hm)
  · obtain ⟨e, he, rfl, rfl, rfl⟩ := (h3 k L sf).1 hfk
    obtain ⟨e', he', hk'⟩ := List.mem_map.1 (h7.mem_iff.2 (List.mem_map.2 ⟨e, he, rfl⟩))
    obtain ⟨e0, he0, hk0, x, hx1, hx2, hx3, hx4, hx5⟩ := h8 e' he'
    have h10 := (h3 e.key e0.L e0.safe).2 ⟨e0, he0, hk0.symm.trans hk', rfl, rfl⟩
    rw [hfk] at h10
    injection h10 with h10
    injection h10 with h11 h12
    exact ⟨x, (hv e.key _ _).2 ⟨e', he', hk', by rw [hx1, h11], hx2⟩, by rw [h12]; exact hx3, by rw [h11]; exact hx4, fun hz1 hz2 => by rw [h12]; exact hx5 hz1 (by rw [← h11, ← h12]; exact hz2)⟩
theorem s_down (h : St w t B f tot n s) : Calls Try.prog 16 #[.pointer (some ⟨t, 0, none⟩)] w fun e w' => e = .returned (.bool s.down) ∧ w = w' := let ⟨m, h1⟩ := s_head h; down_any w t m s h1
theorem s_acts (h : St w t B f tot n s) : Calls Try.prog 20 #[.pointer (some ⟨t, 0, none⟩)] w fun e w' => e = .returned (.int .i64 s.acts) ∧ w = w' := let ⟨m, h1⟩ := s_head h; acts_any w t m s h1
theorem s_life (h : St w t B f tot n s) : Calls Try.prog 21 #[.pointer (some ⟨t, 0, none⟩)] w fun e w' => e = .returned (.int .i64 s.life) ∧ w = w' := let ⟨m, h1⟩ := s_head h; life_any w t m s h1
theorem s_left (h : St w t B f tot n s) : Calls Try.prog 18 #[.pointer (some ⟨t, 0, none⟩)] w fun e w' => e = .returned (.int .i64 ((s.room : Int) - (tot : Int))) ∧ RowKit.Below w.heap.size w w' := by
  obtain ⟨m, E, h1, h2, h3, h4, h5⟩ := h
  rw [← h4]
  exact left_any w t m E s h1
theorem s_names (h : St w t B f tot n s) : Calls Try.prog 17 #[.pointer (some ⟨t, 0, none⟩)] w fun e w' => (∃ ao cap, e = .returned (.slice ao n cap)) ∧ RowKit.Below w.heap.size w w' := by
  obtain ⟨m, E, h1, h2, h3, h4, h5⟩ := h
  rw [← h5]
  refine (names_any w t m E s h1).mono ?_
  rintro x w' ⟨v, ss, rfl, -, hr, hb⟩
  obtain ⟨ao, cap, rfl⟩ := ownsRow_make hr
  exact ⟨⟨ao, cap, rfl⟩, hb⟩
theorem s_new (r : Int) (w : World) (h0 : 0 ≤ r) (h1 : r ≤ 4194304) :
    Calls Try.prog 9 #[.int .i64 r] w fun x w' => ∃ t B, x = .returned (.pointer (some ⟨t, 0, none⟩)) ∧ St w' t B (fun _ => none) 0 0 ⟨r.toNat, false, 0, 0, 0⟩ ∧ RowKit.Below w.heap.size w w' ∧ ∀ b, B b → w.heap.size ≤ b := by
  refine (new_any r w h0 h1).mono ?_
  rintro x w' ⟨t, m, rfl, h2, h3, h4, h5⟩
  refine ⟨t, _, rfl, ⟨m, [], h2, fun b => Iff.rfl, fun k L sf => ⟨(fun h => by cases h), (fun ⟨e, he, _⟩ => by cases he)⟩, rfl, rfl⟩, h3, ?_⟩
  rintro b (rfl | rfl | ⟨e, he, _⟩)
  · exact h4
  · exact h5
  · cases he
end
end Go.Proofs.Ytnenpcbofbcllaa
