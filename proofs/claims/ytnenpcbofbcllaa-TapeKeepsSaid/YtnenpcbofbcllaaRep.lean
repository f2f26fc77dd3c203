/- A tape as it lies in memory, and what it stands for. -/
import Derived.Test.YtnenpcbofbcllaaMap
import Derived.OneCell
import Derived.Laws.AppendOwn
import Derived.Lib.AppendStr
namespace Go.Proofs.Ytnenpcbofbcllaa
open Go.RowKit

/-- But for the blocks of B the world is as it was; the blocks of B' are of B, or new. -/
structure Moved (B B' : Nat → Prop) (w w' : World) : Prop where
  os : w'.os = w.os
  tape : w'.tape = w.tape
  output : w'.output = w.output
  size : w.heap.size ≤ w'.heap.size
  block : ∀ k, k < w.heap.size → ¬ B k → w'.heap[k]? = w.heap[k]?
  new : ∀ k, B' k → B k ∨ w.heap.size ≤ k
theorem Moved.refl (B : Nat → Prop) (w : World) : Moved B B w w := ⟨rfl, rfl, rfl, Nat.le_refl _, fun _ _ _ => rfl, fun _ h => .inl h⟩
theorem Moved.trans {A B C : Nat → Prop} {u v w : World} (h : Moved A B u v) (k : Moved B C v w) : Moved A C u w :=
  ⟨k.os.trans h.os, k.tape.trans h.tape, k.output.trans h.output, Nat.le_trans h.size k.size,
    fun i hi hn => (k.block i (Nat.lt_of_lt_of_le hi h.size) (fun hb => by rcases h.new i hb with h1 | h1; exact hn h1; omega)).trans (h.block i hi hn),
    fun i hi => by rcases k.new i hi with h1 | h1; exact h.new i h1; exact .inr (Nat.le_trans h.size h1)⟩
theorem Moved.of_below {B : Nat → Prop} {w w' : World} (h : Below w.heap.size w w') : Moved B B w w' := ⟨h.os, h.tape, h.output, h.size, fun k hk _ => h.block k hk, fun _ h => .inl h⟩
theorem Moved.of_grown {B : Nat → Prop} {w w' : World} {r : Option Nat} (h : w.grownBy w' r) (hr : ∀ k, r = some k → B k) : Moved B B w w' := ⟨h.os, h.tape, h.output, h.size, fun k hk hn => h.block k hk (fun e => hn (hr k e.symm)), fun _ h => .inl h⟩
theorem Moved.setCell {B : Nat → Prop} (w : World) (a : Addr) (v : Value) (h : B a.block) : Moved B B w (w.setCell a v) :=
  ⟨rfl, rfl, rfl, by simp [World.setCell], fun k _ hn => Below.heap_setCell _ _ _ _ (by rintro rfl; exact hn h), fun _ h => .inl h⟩
theorem Moved.alloc {B : Nat → Prop} (w : World) (o : Obj) : Moved B B w (w.alloc o) := .of_below ((Below.refl _ _).alloc (Nat.le_refl _) o)
theorem Moved.mono {A A' B B' : Nat → Prop} {w w' : World} (h : Moved A B w w') (h1 : ∀ k, A k → A' k) (h2 : ∀ k, B' k → A' k ∨ w.heap.size ≤ k) : Moved A' B' w w' :=
  ⟨h.os, h.tape, h.output, h.size, fun k hk hn => h.block k hk (fun hb => hn (h1 k hb)), h2⟩
theorem Moved.below {B B' : Nat → Prop} {w0 w w' : World} (h : Moved B B' w w') (h0 : Below w0.heap.size w0 w) (hB : ∀ k, B k → w0.heap.size ≤ k) : Below w0.heap.size w0 w' ∧ ∀ k, B' k → w0.heap.size ≤ k :=
  ⟨h0.trans ⟨h.os, h.tape, h.output, h.size, fun k hk => h.block k (Nat.lt_of_lt_of_le hk h0.size) (fun hb => by have := hB k hb; omega)⟩, fun k hk => by
    have := h0.size
    rcases h.new k hk with h1 | h1
    · exact hB k h1
    · omega⟩

/-- A block that is known whole. -/
def Blk (w : World) (b : Nat) (cs : Array Value) (T : TypeId) : Prop := w.heap[b]? = some (.cells cs T (0, 0))
section
variable {w w' : World} {b i : Nat} {cs : Array Value} {T : TypeId}
theorem Blk.lt (h : Blk w b cs T) : b < w.heap.size := (Array.getElem?_eq_some_iff.1 h).1
theorem Blk.same (h : Blk w b cs T) (e : w'.heap[b]? = w.heap[b]?) : Blk w' b cs T := e.trans h
theorem Blk.below (h : Blk w b cs T) (hb : Below w.heap.size w w') : Blk w' b cs T := h.same (hb.block b h.lt)
theorem Blk.moved {B B' : Nat → Prop} (h : Blk w b cs T) (hk : Moved B B' w w') (hn : ¬ B b) : Blk w' b cs T ∧ ¬ B' b :=
  ⟨h.same (hk.block b h.lt hn), fun hb => by have := h.lt; rcases hk.new b hb with h1 | h1; exact hn h1; omega⟩
theorem Blk.alloc (h : Blk w b cs T) (o : Obj) : Blk (w.alloc o) b cs T := h.same (Below.heap_alloc _ _ _ h.lt)
theorem Blk.grown {r : Option Nat} (h : Blk w b cs T) (hg : w.grownBy w' r) (hn : some b ≠ r) : Blk w' b cs T := h.same (hg.block _ h.lt hn)
theorem Blk.setOther (h : Blk w b cs T) (a : Addr) (v : Value) (hn : b ≠ a.block) : Blk (w.setCell a v) b cs T := h.same (Below.heap_setCell _ _ _ _ hn)
theorem Blk.cell {x : Value} (h : Blk w b cs T) (hx : cs[i]? = some x) : w.cell? ⟨b, i, none⟩ = some x := by
  unfold Blk at h
  unfold World.cell?
  rw [h]
  exact hx
theorem Blk.free (h : Blk w b cs T) : w.frozen? ⟨b, i, none⟩ = false := by
  unfold Blk at h
  simp [World.frozen?, h]
theorem Blk.new (w : World) (cs : Array Value) (T : TypeId) : Blk (w.alloc (.cells cs T)) w.heap.size cs T := by
  show (w.heap.push _)[w.heap.size]? = _
  simp
theorem Blk.set (h : Blk w b cs T) (v : Value) : Blk (w.setCell ⟨b, i, none⟩ v) b (cs.setIfInBounds i v) T := by
  have hlt := h.lt
  unfold Blk at h ⊢
  have h' : w.heap[b] = .cells cs T (0, 0) := by simpa [Array.getElem?_eq_getElem hlt] using h
  show (w.heap.modify b _)[b]? = _
  rw [Array.getElem?_eq_getElem (by simpa using hlt), Array.getElem_modify_self, h']
  rfl
end

/-- A tape's numbers. -/
structure Sc where
  room : Nat
  down : Bool
  armed : Int
  acts : Nat
  life : Nat
def scv (m : Nat) (s : Sc) : Array Value := #[.map (some m), .int .i64 s.room, .bool s.down, .int .i64 s.armed, .int .i64 s.acts, .int .i64 s.life]
/-- The head of a tape. -/
def Hd (w : World) (t m : Nat) (s : Sc) : Prop := Blk w t (scv m s) 50

def bcells (L : List UInt8) : List Value := L.map fun b => Value.int .u8 b.toNat
theorem bcells_length (L : List UInt8) : (bcells L).length = L.length := by simp [bcells]
theorem bcells_append (L M : List UInt8) : bcells (L ++ M) = bcells L ++ bcells M := by simp [bcells]
theorem bcells_one (L : List UInt8) : ∀ u ∈ bcells L, u.oneCell' = true := by
  intro u hu
  obtain ⟨b, -, rfl⟩ := List.mem_map.1 hu
  rfl
theorem strCells_list (L : List UInt8) : Lib.strCells ⟨L.toArray⟩ = bcells L := rfl
theorem size_list (L : List UInt8) : (⟨L.toArray⟩ : ByteArray).size = L.length := by show L.toArray.size = _; simp

/-- A file: its name, its block, its bytes' block, its bytes, how many are safe. -/
structure Ent where
  key : Key
  j : Nat
  jb : Option Nat
  L : List UInt8
  safe : Nat
def Ent.has (e : Ent) (b : Nat) : Prop := b = e.j ∨ e.jb = some b
/-- A file as it lies. -/
def Fo (w : World) (e : Ent) : Prop := ∃ sv, Blk w e.j #[sv, .int .i64 e.safe] 55 ∧ w.ownsRow 0 5 1 sv e.L.length (bcells e.L) ∧ sv.ownBlock = e.jb
theorem ownsRow_same {w w' : World} {base n : Nat} {T : TypeId} {v : Value} {xs : List Value} (h : w.ownsRow base T 1 v n xs) (hs : ∀ k, v.ownBlock = some k → w'.heap[k]? = w.heap[k]?) : w'.ownsRow base T 1 v n xs := by
  refine ⟨h.1, ?_⟩
  rcases h.2 with h2 | ⟨g, cap, cur, rfl, hb, hg, rest⟩
  · exact .inl h2
  · exact .inr ⟨g, cap, cur, rfl, hb, (hs g rfl).trans hg, rest⟩
theorem Fo.lt {w : World} {e : Ent} (h : Fo w e) : ∀ b, e.has b → b < w.heap.size := by
  obtain ⟨sv, h1, h2, h3⟩ := h
  rintro b (rfl | h)
  · exact h1.lt
  · exact (h2.lt b (h3.trans h)).2
theorem Fo.same {w w' : World} {e : Ent} (h : Fo w e) (hs : ∀ b, e.has b → w'.heap[b]? = w.heap[b]?) : Fo w' e := by
  obtain ⟨sv, h1, h2, h3⟩ := h
  exact ⟨sv, h1.same (hs _ (.inl rfl)), ownsRow_same h2 (fun k hk => hs k (.inr (h3.symm.trans hk))), h3⟩

def total : List Ent → Nat
  | [] => 0
  | e :: E => e.L.length + total E
theorem total_perm {E E' : List Ent} (h : E.Perm E') : total E = total E' := by
  induction h with
  | nil => rfl
  | cons _ _ ih => simp only [total, ih]
  | swap => simp only [total]; omega
  | trans _ _ h1 h2 => exact h1.trans h2
theorem total_mem {E : List Ent} {e : Ent} (h : e ∈ E) : e.L.length ≤ total E := by
  induction E with
  | nil => cases h
  | cons a E ih =>
    rcases List.mem_cons.1 h with rfl | h
    · simp only [total]; omega
    · have := ih h; simp only [total]; omega

/-- The blocks of these files. -/
def hasAny (E : List Ent) (b : Nat) : Prop := ∃ e ∈ E, e.has b
/-- The blocks of a tape. -/
def Of (t m : Nat) (E : List Ent) (b : Nat) : Prop := b = t ∨ b = m ∨ hasAny E b
def prs (E : List Ent) : List (Key × Nat) := E.map fun e => (e.key, e.j)
/-- No block is met twice. -/
def Apart (E : List Ent) : Prop := E.Pairwise fun a b => ∀ k, a.has k → ¬ b.has k
theorem Apart.perm {E E' : List Ent} (h : Apart E) (hp : E.Perm E') : Apart E' := (hp.pairwise_iff (fun {_ _} hx k h1 h2 => hx k h2 h1)).1 h

/-- The tape in block t: its map in block m, its files E. -/
structure Tp (w : World) (t m : Nat) (E : List Ent) (s : Sc) : Prop where
  head : Hd w t m s
  map : FMap w m (prs E)
  files : ∀ e ∈ E, Fo w e
  tm : t ≠ m
  tE : ¬ hasAny E t
  mE : ¬ hasAny E m
  self : ∀ e ∈ E, e.jb ≠ some e.j
  apart : Apart E
  keys : (E.map (·.key)).Nodup
  names : ∀ e ∈ E, 1 ≤ e.key.length ∧ e.key.length ≤ 32
  few : E.length ≤ 256
  fit : total E ≤ s.room
  room : s.room ≤ 4194304
  safe : ∀ e ∈ E, e.safe ≤ e.L.length
section
variable {w w' : World} {t m : Nat} {E : List Ent} {s : Sc}
theorem Tp.lt (h : Tp w t m E s) : ∀ b, Of t m E b → b < w.heap.size := by
  rintro b (rfl | rfl | ⟨e, he, hb⟩)
  · exact h.head.lt
  · exact h.map.lt
  · exact (h.files e he).lt b hb
theorem prs_keys (E : List Ent) : (prs E).map (·.1) = E.map (·.key) := by simp [prs, Function.comp_def]
theorem hasAny.perm {E E' : List Ent} {b : Nat} (hp : E.Perm E') : hasAny E b ↔ hasAny E' b :=
  ⟨fun ⟨e, he, h⟩ => ⟨e, hp.mem_iff.1 he, h⟩, fun ⟨e, he, h⟩ => ⟨e, hp.mem_iff.2 he, h⟩⟩
/-- The files' order is nobody's business. -/
theorem Tp.perm {E' : List Ent} (h : Tp w t m E s) (hp : E.Perm E') : Tp w t m E' s :=
  ⟨h.head, h.map.perm (hp.map _), fun e he => h.files e (hp.mem_iff.2 he), h.tm, fun hx => h.tE ((hasAny.perm hp).2 hx), fun hx => h.mE ((hasAny.perm hp).2 hx), fun e he => h.self e (hp.mem_iff.2 he), h.apart.perm hp, (hp.map _).nodup_iff.1 h.keys,
    fun e he => h.names e (hp.mem_iff.2 he), hp.length_eq ▸ h.few, total_perm hp ▸ h.fit, h.room, fun e he => h.safe e (hp.mem_iff.2 he)⟩
theorem Of.perm {E' : List Ent} {b : Nat} (hp : E.Perm E') (h : Of t m E b) : Of t m E' b := by
  rcases h with h | h | h
  · exact .inl h
  · exact .inr (.inl h)
  · exact .inr (.inr ((hasAny.perm hp).1 h))
/-- All its blocks are as they were. -/
theorem Tp.same (h : Tp w t m E s) (hs : ∀ b, Of t m E b → w'.heap[b]? = w.heap[b]?) : Tp w' t m E s :=
  ⟨Blk.same h.head (hs t (.inl rfl)), h.map.same (hs m (.inr (.inl rfl))), fun e he => (h.files e he).same fun b hb => hs b (.inr (.inr ⟨e, he, hb⟩)), h.tm, h.tE, h.mE, h.self, h.apart, h.keys, h.names, h.few, h.fit, h.room, h.safe⟩
theorem Tp.below (h : Tp w t m E s) (hb : Below w.heap.size w w') : Tp w' t m E s := h.same fun b hx => hb.block b (h.lt b hx)
/-- The head has changed. -/
theorem Tp.turn {s' : Sc} (h : Tp w t m E s) (hh : Hd w' t m s') (hs : ∀ k, k < w.heap.size → k ≠ t → w'.heap[k]? = w.heap[k]?) (hr : s'.room = s.room) : Tp w' t m E s' :=
  ⟨hh, h.map.same (hs m h.map.lt (Ne.symm h.tm)), fun e he => (h.files e he).same fun b hb => hs b ((h.files e he).lt b hb) (by rintro rfl; exact h.tE ⟨e, he, hb⟩), h.tm, h.tE, h.mE, h.self, h.apart, h.keys, h.names, h.few, hr ▸ h.fit, hr ▸ h.room, h.safe⟩
/-- A file has changed, or its bytes lie in another block. -/
theorem Tp.file {e e' : Ent} {R : List Ent} (h : Tp w t m (e :: R) s) (hf : Fo w' e') (hk : e'.key = e.key) (hj : e'.j = e.j) (hjb : e'.jb = e.jb ∨ ∀ k, e'.jb = some k → w.heap.size ≤ k)
    (hs : ∀ k, k < w.heap.size → ¬ e.has k → w'.heap[k]? = w.heap[k]?) (ht : total (e' :: R) ≤ s.room) (hsf : e'.safe ≤ e'.L.length) : Tp w' t m (e' :: R) s := by
  have hap := List.pairwise_cons.1 h.apart
  have hhas : ∀ k, e'.has k → e.has k ∨ w.heap.size ≤ k := by
    rintro k (rfl | hb)
    · exact .inl (.inl hj)
    · rcases hjb with e1 | e1
      · exact .inl (.inr (e1 ▸ hb))
      · exact .inr (e1 k hb)
  have hne : ∀ b, Of t m R b → ¬ e.has b := by
    rintro b (rfl | rfl | ⟨x, hx, hb⟩) he
    · exact h.tE ⟨e, by simp, he⟩
    · exact h.mE ⟨e, by simp, he⟩
    · exact hap.1 x hx b he hb
  have hlt : ∀ b, Of t m R b → b < w.heap.size := by
    rintro b (rfl | rfl | ⟨x, hx, hb⟩)
    · exact h.head.lt
    · exact h.map.lt
    · exact (h.files x (List.mem_cons_of_mem _ hx)).lt b hb
  have hst : ∀ b, Of t m R b → w'.heap[b]? = w.heap[b]? := fun b hb => hs b (hlt b hb) (hne b hb)
  have hno : ∀ b, Of t m R b → ¬ e'.has b := fun b hb he => by
    rcases hhas b he with h1 | h1
    · exact hne b hb h1
    · have := hlt b hb; omega
  have he := h.files e (by simp)
  refine ⟨Blk.same h.head (hst t (.inl rfl)), ?_, ?_, h.tm, ?_, ?_, ?_, ?_, ?_, ?_, h.few, ht, h.room, ?_⟩
  · have : prs (e' :: R) = prs (e :: R) := by simp [prs, hk, hj]
    rw [this]
    exact h.map.same (hst m (.inr (.inl rfl)))
  · intro x hx
    rcases List.mem_cons.1 hx with rfl | hx
    · exact hf
    · exact (h.files x (List.mem_cons_of_mem _ hx)).same fun b hb => hst b (.inr (.inr ⟨x, hx, hb⟩))
  · rintro ⟨x, hx, hb⟩
    rcases List.mem_cons.1 hx with rfl | hx
    · exact hno t (.inl rfl) hb
    · exact h.tE ⟨x, List.mem_cons_of_mem _ hx, hb⟩
  · rintro ⟨x, hx, hb⟩
    rcases List.mem_cons.1 hx with rfl | hx
    · exact hno m (.inr (.inl rfl)) hb
    · exact h.mE ⟨x, List.mem_cons_of_mem _ hx, hb⟩
  · intro x hx
    rcases List.mem_cons.1 hx with rfl | hx
    · intro e1
      rcases hjb with e2 | e2
      · exact h.self e (by simp) (by rw [← e2, e1, hj])
      · have h3 := e2 _ e1
        have h4 := he.lt e.j (.inl rfl)
        rw [hj] at h3
        omega
    · exact h.self x (List.mem_cons_of_mem _ hx)
  · exact List.pairwise_cons.2 ⟨fun x hx k h1 h2 => hno k (.inr (.inr ⟨x, hx, h2⟩)) h1, hap.2⟩
  · simpa [hk] using h.keys
  · intro x hx
    rcases List.mem_cons.1 hx with rfl | hx
    · rw [hk]; exact h.names e (by simp)
    · exact h.names x (List.mem_cons_of_mem _ hx)
  · intro x hx
    rcases List.mem_cons.1 hx with rfl | hx
    · exact hsf
    · exact h.safe x (List.mem_cons_of_mem _ hx)
/-- A file that is there comes to the front. -/
theorem front {k : Key} (h : k ∈ E.map (·.key)) : ∃ e R, e.key = k ∧ E.Perm (e :: R) := by
  obtain ⟨e, he, rfl⟩ := List.mem_map.1 h
  obtain ⟨a, b, rfl⟩ := List.append_of_mem he
  exact ⟨e, a ++ b, rfl, List.perm_middle⟩
end
end Go.Proofs.Ytnenpcbofbcllaa
