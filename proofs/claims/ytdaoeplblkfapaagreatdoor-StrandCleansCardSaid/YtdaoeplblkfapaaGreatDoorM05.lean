import Derived.Test.YtdaoeplblkfapaaGreatDoorM04
import Derived.Test.YtdaoeplblkfapaaGreatDoorM02
import Derived.OneCell
import Derived.Laws.AppendOwn
import Derived.Lib.AppendStr
import Derived.ScopeJumps
import Derived.WalkSpells
import Derived.WalkLawsBesides
import Derived.Handy
import Derived.Outline
import Derived.Carry
import Derived.Test.YtdaoeplblkfapaaGreatDoorTShelf
import Derived.Laws.BytesString
import Derived.Deep.Slices

/- A tape as it lies in memory, and what it stands for. -/
namespace Go.Proofs.YtdaoeplblkfapaaGreatDoor.Ta
open Go.RowKit

/-- A tape's numbers. -/
structure Sc where
  room : Nat
  down : Bool
  armed : Int
  acts : Nat
  life : Nat
def scv (m : Nat) (s : Sc) : Array Value := #[.map (some m), .int .i64 s.room, .bool s.down, .int .i64 s.armed, .int .i64 s.acts, .int .i64 s.life]
/-- The head of a tape. -/
def Hd (w : World) (t m : Nat) (s : Sc) : Prop := Blk w t (scv m s) 81

def bcells (L : List UInt8) : List Value := L.map fun b => Value.int .u8 b.toNat
theorem bcells_length (L : List UInt8) : (bcells L).length = L.length := by simp [bcells]
theorem bcells_append (L M : List UInt8) : bcells (L ++ M) = bcells L ++ bcells M := by simp [bcells]
theorem bcells_one (L : List UInt8) : ∀ u ∈ bcells L, u.oneCell' = true := by
  intro u hu
  obtain ⟨b, -, rfl⟩ := List.mem_map.1 hu
  rfl
theorem strCells_list (L : List UInt8) : Lib.strCells ⟨L.toArray⟩ = bcells L := rfl

/-- A file: its name, its block, its bytes' block, its bytes, how many are safe. -/
structure Ent where
  key : Key
  j : Nat
  jb : Option Nat
  L : List UInt8
  safe : Nat
def Ent.has (e : Ent) (b : Nat) : Prop := b = e.j ∨ e.jb = some b
/-- A file as it lies. -/
def Fo (w : World) (e : Ent) : Prop := ∃ sv, Blk w e.j #[sv, .int .i64 e.safe] 92 ∧ w.ownsRow 0 5 1 sv e.L.length (bcells e.L) ∧ sv.ownBlock = e.jb
theorem ownsRow_same {w w' : World} {base n : Nat} {T : TypeId} {v : Value} {xs : List Value} (h : w.ownsRow base T 1 v n xs) (hs : ∀ k, v.ownBlock = some k → w'.heap[k]? = w.heap[k]?) : w'.ownsRow base T 1 v n xs := by
  refine ⟨h.1, ?_⟩
  rcases h.2 with h2 | ⟨g, cap, cur, rfl, hb, hg, rest⟩
  · exact .inl h2
  · exact .inr ⟨g, cap, cur, rfl, hb, (hs g rfl).trans hg, rest⟩
theorem Fo.lt {w : World} {e : Ent} (h : Fo w e) : ∀ b, e.has b → b < w.heap.size := by
  obtain ⟨sv, h1, h2, h3⟩ := h
  rintro b (rfl | h)
  · exact h1.lt
  · exact (h2.lt b (h3.trans h)).2
theorem Fo.same {w w' : World} {e : Ent} (h : Fo w e) (hs : ∀ b, e.has b → w'.heap[b]? = w.heap[b]?) : Fo w' e := by
  obtain ⟨sv, h1, h2, h3⟩ := h
  exact ⟨sv, h1.same (hs _ (.inl rfl)), ownsRow_same h2 (fun k hk => hs k (.inr (h3.symm.trans hk))), h3⟩

def total : List Ent → Nat
  | [] => 0
  | e :: E => e.L.length + total E
theorem total_perm {E E' : List Ent} (h : E.Perm E') : total E = total E' := by
  induction h with
  | nil => rfl
  | cons _ _ ih => simp only [total, ih]
  | swap => simp only [total]; omega
  | trans _ _ h1 h2 => exact h1.trans h2
theorem total_mem {E : List Ent} {e : Ent} (h : e ∈ E) : e.L.length ≤ total E := by
  induction E with
  | nil => cases h
  | cons a E ih =>
    rcases List.mem_cons.1 h with rfl | h
    · simp only [total]; omega
    · have := ih h; simp only [total]; omega

/-- The blocks of these files. -/
def hasAny (E : List Ent) (b : Nat) : Prop := ∃ e ∈ E, e.has b
/-- The blocks of a tape. -/
def Of (t m : Nat) (E : List Ent) (b : Nat) : Prop := b = t ∨ b = m ∨ hasAny E b
def prs (E : List Ent) : List (Key × Nat) := E.map fun e => (e.key, e.j)
/-- No block is met twice. -/
def Apart (E : List Ent) : Prop := E.Pairwise fun a b => ∀ k, a.has k → ¬ b.has k
theorem Apart.perm {E E' : List Ent} (h : Apart E) (hp : E.Perm E') : Apart E' := (hp.pairwise_iff (fun {_ _} hx k h1 h2 => hx k h2 h1)).1 h

/-- The tape in block t: its map in block m, its files E. -/
structure Tp (w : World) (t m : Nat) (E : List Ent) (s : Sc) : Prop where
  head : Hd w t m s
  map : FMap w m (prs E)
  files : ∀ e ∈ E, Fo w e
  tm : t ≠ m
  tE : ¬ hasAny E t
  mE : ¬ hasAny E m
  self : ∀ e ∈ E, e.jb ≠ some e.j
  apart : Apart E
  keys : (E.map (·.key)).Nodup
  names : ∀ e ∈ E, 1 ≤ e.key.length ∧ e.key.length ≤ 32
  few : E.length ≤ 256
  fit : total E ≤ s.room
  room : s.room ≤ 4194304
  safe : ∀ e ∈ E, e.safe ≤ e.L.length
section
variable {w w' : World} {t m : Nat} {E : List Ent} {s : Sc}
theorem Tp.lt (h : Tp w t m E s) : ∀ b, Of t m E b → b < w.heap.size := by
  rintro b (rfl | rfl | ⟨e, he, hb⟩)
  · exact h.head.lt
  · exact h.map.lt
  · exact (h.files e he).lt b hb
theorem prs_keys (E : List Ent) : (prs E).map (·.1) = E.map (·.key) := by simp [prs, Function.comp_def]
theorem hasAny.perm {E E' : List Ent} {b : Nat} (hp : E.Perm E') : hasAny E b ↔ hasAny E' b :=
  ⟨fun ⟨e, he, h⟩ => ⟨e, hp.mem_iff.1 he, h⟩, fun ⟨e, he, h⟩ => ⟨e, hp.mem_iff.2 he, h⟩⟩
/-- The files' order is nobody's business. -/
theorem Tp.perm {E' : List Ent} (h : Tp w t m E s) (hp : E.Perm E') : Tp w t m E' s :=
  ⟨h.head, h.map.perm (hp.map _), fun e he => h.files e (hp.mem_iff.2 he), h.tm, fun hx => h.tE ((hasAny.perm hp).2 hx), fun hx => h.mE ((hasAny.perm hp).2 hx), fun e he => h.self e (hp.mem_iff.2 he), h.apart.perm hp, (hp.map _).nodup_iff.1 h.keys,
    fun e he => h.names e (hp.mem_iff.2 he), hp.length_eq ▸ h.few, total_perm hp ▸ h.fit, h.room, fun e he => h.safe e (hp.mem_iff.2 he)⟩
theorem Of.perm {E' : List Ent} {b : Nat} (hp : E.Perm E') (h : Of t m E b) : Of t m E' b := by
  rcases h with h | h | h
  · exact .inl h
  · exact .inr (.inl h)
  · exact .inr (.inr ((hasAny.perm hp).1 h))
/-- All its blocks are as they were. -/
theorem Tp.same (h : Tp w t m E s) (hs : ∀ b, Of t m E b → w'.heap[b]? = w.heap[b]?) : Tp w' t m E s :=
  ⟨Blk.same h.head (hs t (.inl rfl)), h.map.same (hs m (.inr (.inl rfl))), fun e he => (h.files e he).same fun b hb => hs b (.inr (.inr ⟨e, he, hb⟩)), h.tm, h.tE, h.mE, h.self, h.apart, h.keys, h.names, h.few, h.fit, h.room, h.safe⟩
theorem Tp.below (h : Tp w t m E s) (hb : Below w.heap.size w w') : Tp w' t m E s := h.same fun b hx => hb.block b (h.lt b hx)
/-- The head has changed. -/
theorem Tp.turn {s' : Sc} (h : Tp w t m E s) (hh : Hd w' t m s') (hs : ∀ k, k < w.heap.size → k ≠ t → w'.heap[k]? = w.heap[k]?) (hr : s'.room = s.room) : Tp w' t m E s' :=
  ⟨hh, h.map.same (hs m h.map.lt (Ne.symm h.tm)), fun e he => (h.files e he).same fun b hb => hs b ((h.files e he).lt b hb) (by rintro rfl; exact h.tE ⟨e, he, hb⟩), h.tm, h.tE, h.mE, h.self, h.apart, h.keys, h.names, h.few, hr ▸ h.fit, hr ▸ h.room, h.safe⟩
/-- A file has changed, or its bytes lie in another block. -/
theorem Tp.file {e e' : Ent} {R : List Ent} (h : Tp w t m (e :: R) s) (hf : Fo w' e') (hk : e'.key = e.key) (hj : e'.j = e.j) (hjb : e'.jb = e.jb ∨ ∀ k, e'.jb = some k → w.heap.size ≤ k)
    (hs : ∀ k, k < w.heap.size → ¬ e.has k → w'.heap[k]? = w.heap[k]?) (ht : total (e' :: R) ≤ s.room) (hsf : e'.safe ≤ e'.L.length) : Tp w' t m (e' :: R) s := by
  have hap := List.pairwise_cons.1 h.apart
  have hhas : ∀ k, e'.has k → e.has k ∨ w.heap.size ≤ k := by
    rintro k (rfl | hb)
    · exact .inl (.inl hj)
    · rcases hjb with e1 | e1
      · exact .inl (.inr (e1 ▸ hb))
      · exact .inr (e1 k hb)
  have hne : ∀ b, Of t m R b → ¬ e.has b := by
    rintro b (rfl | rfl | ⟨x, hx, hb⟩) he
    · exact h.tE ⟨e, by simp, he⟩
    · exact h.mE ⟨e, by simp, he⟩
    · exact hap.1 x hx b he hb
  have hlt : ∀ b, Of t m R b → b < w.heap.size := by
    rintro b (rfl | rfl | ⟨x, hx, hb⟩)
    · exact h.head.lt
    · exact h.map.lt
    · exact (h.files x (List.mem_cons_of_mem _ hx)).lt b hb
  have hst : ∀ b, Of t m R b → w'.heap[b]? = w.heap[b]? := fun b hb => hs b (hlt b hb) (hne b hb)
  have hno : ∀ b, Of t m R b → ¬ e'.has b := fun b hb he => by
    rcases hhas b he with h1 | h1
    · exact hne b hb h1
    · have := hlt b hb; omega
  have he := h.files e (by simp)
  refine ⟨Blk.same h.head (hst t (.inl rfl)), ?_, ?_, h.tm, ?_, ?_, ?_, ?_, ?_, ?_, h.few, ht, h.room, ?_⟩
  · have : prs (e' :: R) = prs (e :: R) := by simp [prs, hk, hj]
    rw [this]
    exact h.map.same (hst m (.inr (.inl rfl)))
  · intro x hx
    rcases List.mem_cons.1 hx with rfl | hx
    · exact hf
    · exact (h.files x (List.mem_cons_of_mem _ hx)).same fun b hb => hst b (.inr (.inr ⟨x, hx, hb⟩))
  · rintro ⟨x, hx, hb⟩
    rcases List.mem_cons.1 hx with rfl | hx
    · exact hno t (.inl rfl) hb
    · exact h.tE ⟨x, List.mem_cons_of_mem _ hx, hb⟩
  · rintro ⟨x, hx, hb⟩
    rcases List.mem_cons.1 hx with rfl | hx
    · exact hno m (.inr (.inl rfl)) hb
    · exact h.mE ⟨x, List.mem_cons_of_mem _ hx, hb⟩
  · intro x hx
    rcases List.mem_cons.1 hx with rfl | hx
    · intro e1
      rcases hjb with e2 | e2
      · exact h.self e (by simp) (by rw [← e2, e1, hj])
      · have h3 := e2 _ e1
        have h4 := he.lt e.j (.inl rfl)
        rw [hj] at h3
        omega
    · exact h.self x (List.mem_cons_of_mem _ hx)
  · exact List.pairwise_cons.2 ⟨fun x hx k h1 h2 => hno k (.inr (.inr ⟨x, hx, h2⟩)) h1, hap.2⟩
  · simpa [hk] using h.keys
  · intro x hx
    rcases List.mem_cons.1 hx with rfl | hx
    · rw [hk]; exact h.names e (by simp)
    · exact h.names x (List.mem_cons_of_mem _ hx)
  · intro x hx
    rcases List.mem_cons.1 hx with rfl | hx
    · exact hsf
    · exact h.safe x (List.mem_cons_of_mem _ hx)
/-- A file that is there comes to the front. -/
theorem front {k : Key} (h : k ∈ E.map (·.key)) : ∃ e R, e.key = k ∧ E.Perm (e :: R) := by
  obtain ⟨e, he, rfl⟩ := List.mem_map.1 h
  obtain ⟨a, b, rfl⟩ := List.append_of_mem he
  exact ⟨e, a ++ b, rfl, List.perm_middle⟩
end
end Go.Proofs.YtdaoeplblkfapaaGreatDoor.Ta

/- THE CONTRACTS OF tape's New, ready, isName, find, Off, act, Arm, Down, Acts, Life. -/
namespace Go.Proofs.YtdaoeplblkfapaaGreatDoor.Ta
open Go.RowKit

/-- Only block t has changed. -/
abbrev Kt (t : Nat) (w w' : World) : Prop := Moved (fun b => b = t) (fun b => b = t) w w'
theorem Kt.refl (t : Nat) (w : World) : Kt t w w := Moved.refl _ w
theorem Kt.set (t i : Nat) (w : World) (v : Value) : Kt t w (w.setCell ⟨t, i, none⟩ v) := Moved.setCell w _ v rfl

theorem ready_nil (w : World) : Calls Tryz.prog 50 #[.pointer none] w fun e w' => e = .returned (.int .i64 2) ∧ w = w' := by
  go_enter Tryz.func50, Tryz.ntmps50
  go_wp2_with fail
  go_ret
  exact ⟨rfl, rfl⟩
def rdy (s : Sc) : Int := if s.down then 10 else 0
theorem ready_any (w : World) (t m : Nat) (s : Sc) (h : Hd w t m s) : Calls Tryz.prog 50 #[.pointer (some ⟨t, 0, none⟩)] w fun e w' => e = .returned (.int .i64 (rdy s)) ∧ w = w' := by
  obtain ⟨room, down, armed, acts, life⟩ := s
  have c2 : w.cell? ⟨t, 2, none⟩ = some (.bool down) := Blk.cell h rfl
  unfold rdy
  clear h
  cases down
  · go_enter Tryz.func50, Tryz.ntmps50
    go_wp2_with fail
    go_ret
    exact ⟨rfl, rfl⟩
  · go_enter Tryz.func50, Tryz.ntmps50
    go_wp2_with fail
    go_ret
    exact ⟨rfl, rfl⟩

def okName (k : Key) : Bool := decide (1 ≤ k.length ∧ k.length ≤ 32)
theorem isName_any (k : Key) (w : World) : Calls Tryz.prog 51 #[.string ⟨k.toArray⟩] w fun e w' => e = .returned (.bool (okName k)) ∧ w = w' := by
  obtain ⟨S, hS⟩ : ∃ S : ByteArray, (⟨k.toArray⟩ : ByteArray) = S := ⟨_, rfl⟩
  have hz : S.size = k.length := by rw [← hS, size_list]
  have HK : okName k = decide ((1 : Int) ≤ S.size ∧ (S.size : Int) ≤ 32) := by
    unfold okName
    rw [hz]
    congr 1
    simp only [eq_iff_iff]
    omega
  rw [hS, HK]
  clear HK hS hz
  by_cases h1 : (1 : Int) ≤ S.size
  · by_cases h2 : (S.size : Int) ≤ 32
    · go_enter Tryz.func51, Tryz.ntmps51
      go_wp2_with fail
      go_ret
      exact ⟨by simp [h1, h2], rfl⟩
    · go_enter Tryz.func51, Tryz.ntmps51
      go_wp2_with fail
      go_ret
      exact ⟨by simp [h2], rfl⟩
  · go_enter Tryz.func51, Tryz.ntmps51
    go_wp2_with fail
    go_ret
    exact ⟨by simp; omega, rfl⟩

/-- Off: the power goes, if it is on. -/
def offS (s : Sc) : Sc := if s.down then { s with armed := 0 } else { s with armed := 0, down := true, life := s.life + 1 }
theorem off_any (w : World) (t m : Nat) (s : Sc) (h : Hd w t m s) (hl : s.life ≤ 1099511627776) : Calls Tryz.prog 32 #[.pointer (some ⟨t, 0, none⟩)] w fun e w' => (∃ v, e = .returned v) ∧ Hd w' t m (offS s) ∧ Kt t w w' := by
  obtain ⟨room, down, armed, acts, life⟩ := s
  try simp only at hl
  have f3 := Blk.free (i := 3) h
  have c3 : w.cell? ⟨t, 3, none⟩ = some (.int .i64 armed) := Blk.cell h rfl
  have s1 := Blk.set (i := 3) h (.int .i64 0)
  have c2 : (w.setCell ⟨t, 3, none⟩ (.int .i64 0)).cell? ⟨t, 2, none⟩ = some (.bool down) := Blk.cell s1 rfl
  have HB := Lib.hid h
  have H1 := Lib.hid s1
  unfold offS
  clear h s1
  cases down
  · have f2 := Blk.free (i := 2) H1.out
    have s2 := Blk.set (i := 2) H1.out (.bool true)
    have c5 : ((w.setCell ⟨t, 3, none⟩ (.int .i64 0)).setCell ⟨t, 2, none⟩ (.bool true)).cell? ⟨t, 5, none⟩ = some (.int .i64 life) := Blk.cell s2 rfl
    have f5 := Blk.free (i := 5) s2
    have H2 := Lib.hid s2
    clear s2
    go_enter Tryz.func32, Tryz.ntmps32
    go_wp2_with fail
    go_end0
    refine ⟨⟨_, rfl⟩, ?_, (Kt.set t 3 w _).trans ((Kt.set t 2 _ _).trans (Kt.set t 5 _ _))⟩
    have := Blk.set (i := 5) H2.out (.int .i64 ((life : Int) + 1))
    simpa [Hd, scv] using this
  · go_enter Tryz.func32, Tryz.ntmps32
    go_wp2_with fail
    go_end0
    exact ⟨⟨_, rfl⟩, by simpa [Hd, scv] using H1.out, Kt.set t 3 w _⟩

/-- An act is counted; the power goes in it, if it was armed. -/
def actS (s : Sc) : Sc := if s.armed = 0 then { s with acts := s.acts + 1 } else if s.armed = 1 then { s with acts := s.acts + 1, armed := 0, down := true, life := s.life + 1 } else { s with acts := s.acts + 1, armed := s.armed - 1 }
def actR (s : Sc) : Int := if s.armed = 1 then 10 else 0
theorem act_any (w : World) (t m : Nat) (s : Sc) (h : Hd w t m s) (hd : s.down = false) (ha : s.acts ≤ 1099511627776) (hl : s.life ≤ 1099511627776) (h0 : 0 ≤ s.armed) (h1 : s.armed ≤ 9223372036854775807) :
    Calls Tryz.prog 52 #[.pointer (some ⟨t, 0, none⟩)] w fun e w' => e = .returned (.int .i64 (actR s)) ∧ Hd w' t m (actS s) ∧ Kt t w w' := by
  obtain ⟨room, down, armed, acts, life⟩ := s
  try simp only at hd ha hl h0 h1
  subst hd
  have c4 : w.cell? ⟨t, 4, none⟩ = some (.int .i64 acts) := Blk.cell h rfl
  have f4 := Blk.free (i := 4) h
  have s1 := Blk.set (i := 4) h (.int .i64 ((acts : Int) + 1))
  have c3 : (w.setCell ⟨t, 4, none⟩ (.int .i64 ((acts : Int) + 1))).cell? ⟨t, 3, none⟩ = some (.int .i64 armed) := Blk.cell s1 rfl
  have f3 := Blk.free (i := 3) s1
  have H1 := Lib.hid s1
  unfold actS actR
  clear h s1
  by_cases ha0 : armed = 0
  · subst ha0
    go_enter Tryz.func52, Tryz.ntmps52
    go_wp2_with fail
    go_ret
    exact ⟨rfl, by simpa [Hd, scv] using H1.out, Kt.set t 4 w _⟩
  · have hne : (armed == 0) = false := by simpa using ha0
    have s2 := Blk.set (i := 3) H1.out (.int .i64 (armed - 1))
    have c3' : ((w.setCell ⟨t, 4, none⟩ (.int .i64 ((acts : Int) + 1))).setCell ⟨t, 3, none⟩ (.int .i64 (armed - 1))).cell? ⟨t, 3, none⟩ = some (.int .i64 (armed - 1)) := Blk.cell s2 rfl
    have H2 := Lib.hid s2
    clear s2
    by_cases ha1 : armed = 1
    · subst ha1
      have HO := fun (w : World) (h : Hd w t m ⟨room, false, 0, acts + 1, life⟩) => off_any w t m ⟨room, false, 0, acts + 1, life⟩ h hl
      have HOF := Lib.hid HO
      clear HO
      go_enter Tryz.func52, Tryz.ntmps52
      go_wp2_with fail
      refine (HOF.out _ (by simpa [Hd, scv] using H2.out)).mono ?_
      rintro e w' ⟨⟨v, rfl⟩, h1, h2⟩
      have HH := Lib.hid h1
      have HK := Lib.hid h2
      clear h1 h2
      go_wp2_with fail
      go_ret
      exact ⟨by simp, by simpa [offS] using HH.out, ((Kt.set t 4 w _).trans (Kt.set t 3 _ _)).trans HK.out⟩
    · have hgt : 0 < armed - 1 := by omega
      go_enter Tryz.func52, Tryz.ntmps52
      go_wp2_with fail
      go_ret
      exact ⟨by simp, by simpa [Hd, scv, ha0, ha1] using H2.out, (Kt.set t 4 w _).trans (Kt.set t 3 _ _)⟩

theorem arm_any (n : Int) (w : World) (t m : Nat) (s : Sc) (h : Hd w t m s) :
    Calls Tryz.prog 27 #[.pointer (some ⟨t, 0, none⟩), .int .i64 n] w fun e w' => (∃ v, e = .returned v) ∧ Hd w' t m { s with armed := max n 0 } ∧ Kt t w w' := by
  obtain ⟨room, down, armed, acts, life⟩ := s
  have f3 := Blk.free (i := 3) h
  have c3 : w.cell? ⟨t, 3, none⟩ = some (.int .i64 armed) := Blk.cell h rfl
  have HB := Lib.hid h
  clear h
  by_cases hn : n < 0
  · have hd : decide (n < 0) = true := by simpa using hn
    go_enter Tryz.func27, Tryz.ntmps27
    go_wp2_with fail
    go_end0
    rw [show max n 0 = 0 by omega]
    exact ⟨⟨_, rfl⟩, by simpa [Hd, scv] using Blk.set (i := 3) HB.out (.int .i64 0), Kt.set t 3 w _⟩
  · have hd : decide (n < 0) = false := by simpa using hn
    go_enter Tryz.func27, Tryz.ntmps27
    go_wp2_with fail
    go_end0
    rw [show max n 0 = n by omega]
    exact ⟨⟨_, rfl⟩, by simpa [Hd, scv] using Blk.set (i := 3) HB.out (.int .i64 n), Kt.set t 3 w _⟩

theorem down_nil (w : World) : Calls Tryz.prog 58 #[.pointer none] w fun e w' => e = .returned (.bool true) ∧ w = w' := by
  go_enter Tryz.func58, Tryz.ntmps58
  go_wp2_with fail
  go_ret
  exact ⟨rfl, rfl⟩
theorem down_any (w : World) (t m : Nat) (s : Sc) (h : Hd w t m s) : Calls Tryz.prog 58 #[.pointer (some ⟨t, 0, none⟩)] w fun e w' => e = .returned (.bool s.down) ∧ w = w' := by
  have c2 : w.cell? ⟨t, 2, none⟩ = some (.bool s.down) := Blk.cell h rfl
  clear h
  go_enter Tryz.func58, Tryz.ntmps58
  go_wp2_with fail
  go_ret
  exact ⟨rfl, rfl⟩
theorem life_any (w : World) (t m : Nat) (s : Sc) (h : Hd w t m s) : Calls Tryz.prog 59 #[.pointer (some ⟨t, 0, none⟩)] w fun e w' => e = .returned (.int .i64 s.life) ∧ w = w' := by
  have c2 : w.cell? ⟨t, 5, none⟩ = some (.int .i64 s.life) := Blk.cell h rfl
  clear h
  go_enter Tryz.func59, Tryz.ntmps59
  go_wp2_with fail
  go_ret
  exact ⟨rfl, rfl⟩

/-- find: the file of a name, if there is one. -/
theorem find_nil (k : Key) (w : World) : Calls Tryz.prog 129 #[.pointer none, .string ⟨k.toArray⟩] w fun e w' => e = .returned (.tuple #[.pointer none, .int .i64 2]) ∧ w = w' := by
  have HR := Lib.hid ready_nil
  go_enter Tryz.func129, Tryz.ntmps129
  go_wp2_with fail
  refine (HR.out _).mono ?_
  rintro e w' ⟨rfl, rfl⟩
  go_wp2_with fail
  go_ret2
  exact ⟨rfl, rfl⟩
theorem find_down (k : Key) (w : World) (t m : Nat) (s : Sc) (h : Hd w t m s) (hd : s.down = true) : Calls Tryz.prog 129 #[.pointer (some ⟨t, 0, none⟩), .string ⟨k.toArray⟩] w fun e w' => e = .returned (.tuple #[.pointer none, .int .i64 10]) ∧ w = w' := by
  have hr := ready_any w t m s h
  rw [show rdy s = 10 by simp [rdy, hd]] at hr
  have HR := Lib.hid hr
  clear hr h
  go_enter Tryz.func129, Tryz.ntmps129
  go_wp2_with fail
  refine HR.out.mono ?_
  rintro e w' ⟨rfl, rfl⟩
  go_wp2_with fail
  go_ret2
  exact ⟨rfl, rfl⟩
theorem find_none' (k : Key) (w : World) (t m : Nat) (E : List Ent) (s : Sc) (h : Tp w t m E s) (hd : s.down = false) (hk : k.length ≤ 1048576) (hm : k ∉ E.map (·.key)) :
    Calls Tryz.prog 129 #[.pointer (some ⟨t, 0, none⟩), .string ⟨k.toArray⟩] w fun e w' => e = .returned (.tuple #[.pointer none, .int .i64 12]) ∧ w = w' := by
  have hr := ready_any w t m s h.head
  rw [show rdy s = 0 by simp [rdy, hd]] at hr
  have HR := Lib.hid hr
  have c0 : w.cell? ⟨t, 0, none⟩ = some (.map (some m)) := Blk.cell h.head rfl
  have hlk := h.map.look_none (k := k) (by unfold maxLen; omega) (by rw [prs_keys]; exact hm)
  clear hr h hm hk
  go_enter Tryz.func129, Tryz.ntmps129
  go_wp2_with fail
  refine HR.out.mono ?_
  rintro e w' ⟨rfl, rfl⟩
  go_wp2_with fail
  go_ret2
  exact ⟨rfl, rfl⟩
theorem find_some (w : World) (t m : Nat) (e : Ent) (R : List Ent) (s : Sc) (h : Tp w t m (e :: R) s) (hd : s.down = false) :
    Calls Tryz.prog 129 #[.pointer (some ⟨t, 0, none⟩), .string ⟨e.key.toArray⟩] w fun x w' => x = .returned (.tuple #[.pointer (some ⟨e.j, 0, none⟩), .int .i64 0]) ∧ w = w' := by
  have hr := ready_any w t m s h.head
  rw [show rdy s = 0 by simp [rdy, hd]] at hr
  have HR := Lib.hid hr
  have c0 : w.cell? ⟨t, 0, none⟩ = some (.map (some m)) := Blk.cell h.head rfl
  have hk := (h.names e (by simp)).2
  have hlk := h.map.look (k := e.key) (j := e.j) (by rw [prs_keys]; exact h.keys) (by unfold maxLen; omega) (by simp [prs])
  generalize e.key = k at *
  generalize e.j = j at *
  clear hr h hk
  go_enter Tryz.func129, Tryz.ntmps129
  go_wp2_with fail
  refine HR.out.mono ?_
  rintro e w' ⟨rfl, rfl⟩
  go_wp2_with fail
  go_ret2
  exact ⟨rfl, rfl⟩
end Go.Proofs.YtdaoeplblkfapaaGreatDoor.Ta

/- THE CONTRACTS OF tape's Names and Left. -/
namespace Go.Proofs.YtdaoeplblkfapaaGreatDoor.Ta
open Go.RowKit Go.Maps Go.Sort Go.Shelf

/-- slices.Sort's two contracts at this dump, at the fence that asks nothing. -/
theorem sorts (m : Nat) : AnyZ.SortsIn Tryz.prog Tryz.sorted69_ren Fence.wide m :=
  ⟨fun blk off cap ss W hH hblk hsz => callsIn_wide.2 (AnyM.slices_Sort_string Tryz.sort113 blk off cap ss W hH hblk hsz),
   fun p cap W => callsIn_wide.2 (AnyM.slices_Sort_string_none Tryz.sort113 p cap W)⟩
theorem keys_any (m : Nat) (w : World) : Calls Tryz.prog 70 #[.map (some m)] w fun e w' => e = .returned (.func (.func 114) #[] #[.pointer (some ⟨w.heap.size, 0, none⟩)]) ∧ w' = w.alloc (.cells #[.map (some m)] 79) :=
  callsIn_wide.1 (AnyZ.keys_in Tryz.keys70 Fence.wide 5 trivial rfl (some m) w)
theorem strKeys_pairs {l : List (Lit × DataW Unit)} {E : List (Key × Nat)} (hp : l.Perm (E.map pairOf)) : (strKeys (DataW.map l)).Perm (E.map (·.1)) := by
  have h := hp.map (fun p => strOf p.1)
  rw [List.map_map] at h
  exact h
theorem rises (ss : List Key) : (ss.mergeSort (fun x y => decide (x ≤ y))).Pairwise (fun x y : Key => x ≤ y) :=
  (List.pairwise_mergeSort (le := fun x y : Key => decide (x ≤ y)) (fun _ _ _ h1 h2 => decide_eq_true (List.le_trans (of_decide_eq_true h1) (of_decide_eq_true h2))) (fun a b => by
    rcases List.le_total a b with h | h
    · simp [h]
    · simp [h]) ss).imp fun h => of_decide_eq_true h
set_option maxHeartbeats 1000000 in
set_option maxRecDepth 100000 in
theorem sorted_any (m : Nat) (E : List (Key × Nat)) (w : World) (h : FMap w m E) (hE : E.length ≤ 1048576) :
    Calls Tryz.prog 69 #[.func (.func 114) #[] #[.pointer (some ⟨w.heap.size, 0, none⟩)]] (w.alloc (.cells #[.map (some m)] 79)) fun e w' => ∃ (v : Value) (ss : List Key), e = .returned v ∧ ss.Perm (E.map (·.1)) ∧ ss.Pairwise (fun x y : Key => x ≤ y) ∧
      w'.ownsRow w.heap.size 9 1 v E.length (ss.map encStr) ∧ Below w.heap.size w w' := by
  obtain ⟨l, hown, hp⟩ := h
  have hbl := hown.lt
  have hsz : size (DataW.map l) ≤ 1048576 := by
    show l.length ≤ _
    rw [hp.length_eq, List.length_map]
    exact hE
  have hseq : SeqGives Fence.wide 2 Tryz.prog 114 #[.pointer (some ⟨w.heap.size, 0, none⟩)] encStr (fun ss => ss.Perm (strKeys (DataW.map l))) (size (DataW.map l)) (w.alloc (.cells #[.map (some m)] 79)) :=
    AnyZ.keys_gives (ρ := Tryz.keys70_ren) { Tryz.keys70 with } Fence.wide _ trivial rfl (by omega) w.heap.size m E.length (DataW.map l) _ (by simp) (by simp) (by
      obtain ⟨es, clock, hb, Ft, hs, hD⟩ := hown
      exact ⟨es, clock, (Below.heap_alloc _ _ m hbl).trans hb, Ft, hs, hD⟩)
  refine (callsIn_wide.1 (AnyZ.sorted_in Tryz.sorted69 Fence.wide 5 trivial trivial trivial trivial rfl (by omega) (sorts _) (enters_of Tryz.func113 (by kernel_rfl) rfl) 114 #[.pointer (some ⟨w.heap.size, 0, none⟩)] trivial (enters_of Tryz.func114 (by kernel_rfl) rfl) _ _ (by unfold maxLen; omega) (by omega) _ hseq)).mono ?_
  rintro e w' ⟨v, ss, rfl, hS, hrow, -, hb⟩
  have hp2 := hS.trans (strKeys_pairs hp)
  have hlen : ss.length = E.length := by rw [hp2.length_eq, List.length_map]
  have hms := List.mergeSort_perm ss (fun x y => decide (x ≤ y))
  refine ⟨v, ss.mergeSort (fun x y => decide (x ≤ y)), rfl, hms.trans hp2, rises ss, ?_, ?_⟩
  · rw [hlen] at hrow
    refine ⟨hrow.1, ?_⟩
    rcases hrow.2 with h2 | ⟨g, cap, cur, h1, h2, h3⟩
    · exact .inl h2
    · exact .inr ⟨g, cap, cur, h1, by simp at h2; omega, h3⟩
  · exact ((Below.refl _ _).alloc (Nat.le_refl _) _).trans (hb.mono (by simp))

theorem names_nil (w : World) : Calls Tryz.prog 21 #[.pointer none] w fun e w' => e = .returned (.slice none 0 0) ∧ w = w' := by
  go_enter Tryz.func21, Tryz.ntmps21
  go_wp2_with fail
  go_ret
  exact ⟨rfl, rfl⟩
theorem names_any (w : World) (t m : Nat) (E : List Ent) (s : Sc) (h : Tp w t m E s) :
    Calls Tryz.prog 21 #[.pointer (some ⟨t, 0, none⟩)] w fun e w' => ∃ (v : Value) (ss : List Key), e = .returned v ∧ ss.Perm (E.map (·.key)) ∧ ss.Pairwise (fun x y : Key => x ≤ y) ∧ w'.ownsRow w.heap.size 9 1 v E.length (ss.map encStr) ∧ Below w.heap.size w w' := by
  have hs := sorted_any m (prs E) w h.map (by simp only [prs, List.length_map]; exact Nat.le_trans h.few (by decide))
  rw [prs_keys, show (prs E).length = E.length by simp [prs]] at hs
  have HS := Lib.hid hs
  have HK := Lib.hid (keys_any m)
  have c0 : w.cell? ⟨t, 0, none⟩ = some (.map (some m)) := Blk.cell h.head rfl
  clear hs h
  go_enter Tryz.func21, Tryz.ntmps21
  go_wp2_with fail
  refine (HK.out _).mono ?_
  rintro e w' ⟨rfl, rfl⟩
  go_wp2_with fail
  refine HS.out.mono ?_
  rintro e w' ⟨v, ss, rfl, h1, h0, h2, h3⟩
  have H0 := Lib.hid h0
  have H1 := Lib.hid h1
  have H2 := Lib.hid h2
  have H3 := Lib.hid h3
  clear h0 h1 h2 h3
  go_wp2_with fail
  go_ret
  exact ⟨v, ss, rfl, H1.out, H0.out, H2.out, H3.out⟩
/-- A slice that a call has made is its length's. -/
theorem ownsRow_make {w : World} {base n : Nat} {T : TypeId} {v : Value} {xs : List Value} (h : w.ownsRow base T 1 v n xs) : ∃ ao cap, v = .slice ao n cap := by
  rcases h.2 with ⟨rfl, rfl⟩ | ⟨g, cap, cur, rfl, _⟩
  · exact ⟨_, _, rfl⟩
  · exact ⟨_, _, rfl⟩

/-- How many bytes lie in the files that the loop has met. -/
def got (E : List Ent) (left : Lit → Bool) : Nat := total (E.filter fun e => !left (.string e.key))
theorem got_start {E : List Ent} {left : Lit → Bool} (h : ∀ e ∈ E, left (.string e.key) = true) : got E left = 0 := by
  have : (E.filter fun e => !left (.string e.key)) = [] := by
    rw [List.filter_eq_nil_iff]
    intro e he
    simp [h e he]
  unfold got
  rw [this]
  rfl
theorem got_end {E : List Ent} {left : Lit → Bool} (h : ∀ kl, left kl = false) : got E left = total E := by
  have : (E.filter fun e => !left (.string e.key)) = E := by
    rw [List.filter_eq_self]
    intro e _
    simp [h]
  unfold got
  rw [this]
theorem total_filter_le (E : List Ent) (p : Ent → Bool) : total (E.filter p) ≤ total E := by
  induction E with
  | nil => exact Nat.le_refl _
  | cons a E ih =>
    rw [List.filter_cons]
    split
    · simp only [total]; omega
    · simp only [total]; omega
theorem got_more {E : List Ent} {left : Lit → Bool} (hn : (E.map (·.key)).Nodup) {e : Ent} (he : e ∈ E) (hl : left (.string e.key) = true) :
    got E (fun z => left z && !z.sameKey (.string e.key)) = got E left + e.L.length := by
  induction E with
  | nil => cases he
  | cons a E ih =>
    simp only [List.map_cons, List.nodup_cons] at hn
    rcases List.mem_cons.1 he with rfl | h1
    · have e1 : ∀ x ∈ E, (!(left (.string x.key) && !(Lit.string x.key).sameKey (.string e.key))) = !left (.string x.key) := by
        intro x hx
        have hne : x.key ≠ e.key := fun h => hn.1 (List.mem_map.2 ⟨x, hx, h⟩)
        rw [same_key]
        have : (x.key == e.key) = false := by simpa using hne
        rw [this]
        simp
      unfold got
      rw [List.filter_cons, List.filter_cons]
      simp only [hl, same_key, beq_self_eq_true, Bool.not_true, Bool.and_false, Bool.not_false, if_true, Bool.false_eq_true, if_false, total]
      simp only [same_key] at e1
      rw [List.filter_congr e1]
      omega
    · have hne : a.key ≠ e.key := fun h => hn.1 (List.mem_map.2 ⟨e, h1, h.symm⟩)
      have := ih hn.2 h1
      unfold got at this ⊢
      dsimp only at this ⊢
      rw [List.filter_cons, List.filter_cons]
      have e2 : (!(left (.string a.key) && !(Lit.string a.key).sameKey (.string e.key))) = !left (.string a.key) := by
        rw [same_key]
        have : (a.key == e.key) = false := by simpa using hne
        rw [this]
        simp
      simp only [e2]
      split
      · simp only [total]; omega
      · exact this

theorem left_nil (w : World) : Calls Tryz.prog 23 #[.pointer none] w fun e w' => e = .returned (.int .i64 0) ∧ w = w' := by
  go_enter Tryz.func23, Tryz.ntmps23
  go_wp2_with fail
  go_ret
  exact ⟨rfl, rfl⟩
def mkV : Option Nat → Value
  | some j => .pointer (some ⟨j, 0, none⟩)
  | none => .pointer none
theorem ent_at {E : List Ent} (hn : (E.map (·.key)).Nodup) {k : Key} {l : List (Lit × DataW Unit)} (hp : l.Perm ((prs E).map pairOf)) {c : Option Nat} {y : DataW Unit × List MemPlace} (hy : RF (mkV c) = some y)
    (hat : ∀ zd, (DataW.map l).atKey (.string k) zd = y.1) : ∃ e ∈ E, e.key = k ∧ c = some e.j := by
  by_cases hk : k ∈ E.map (·.key)
  · obtain ⟨e, he, rfl⟩ := List.mem_map.1 hk
    refine ⟨e, he, rfl, ?_⟩
    have h1 := hat .nil
    rw [find_pair (E := prs E) (by rw [prs_keys]; exact hn) (j := e.j) (by unfold prs; exact List.mem_map.2 ⟨e, he, rfl⟩) hp] at h1
    cases c with
    | none => cases hy; cases h1
    | some j =>
      cases hy
      injection h1 with h1
      injection h1 with _ h1
      have : e.j = j := by omega
      rw [this]
  · exfalso
    have h1 := hat (.lit (.bool true))
    rw [find_none (by rw [prs_keys]; exact hk) hp] at h1
    cases c with
    | none => cases hy; cases h1
    | some j => cases hy; cases h1
set_option maxHeartbeats 1000000 in
set_option maxRecDepth 100000 in
theorem left_any (w : World) (t m : Nat) (E : List Ent) (s : Sc) (h : Tp w t m E s) :
    Calls Tryz.prog 23 #[.pointer (some ⟨t, 0, none⟩)] w fun e w' => e = .returned (.int .i64 ((s.room : Int) - (total E : Int))) ∧ Below w.heap.size w w' := by
  obtain ⟨l, hown, hp⟩ := h.map
  have c0 : w.cell? ⟨t, 0, none⟩ = some (.map (some m)) := Blk.cell h.head rfl
  have c1 : w.cell? ⟨t, 1, none⟩ = some (.int .i64 s.room) := Blk.cell h.head rfl
  have hroom := h.room
  have hfit := h.fit
  obtain ⟨q, hq⟩ : ∃ q, s.room = q := ⟨_, rfl⟩
  obtain ⟨T, hT⟩ : ∃ T, total E = T := ⟨_, rfl⟩
  rw [hq] at c1 hroom hfit ⊢
  rw [hT] at hfit ⊢
  have HT := Lib.hid hT
  have HP := Lib.hid hp
  have HO := Lib.hid hown
  have HH := Lib.hid h
  have hm := h.map.lt
  clear h hp hq hT hown
  go_enter Tryz.func23, Tryz.ntmps23
  go_wp2_with (first
    | (at_range; refine wpList_range_own _ rfl _ 79 rfl 9 88 lawK Tryz.underlying79 RF m _ _ rfl HO.out ?_; intro w0 hrg0 hg0 hs0)
    | go_in)
  go_frame
  have HG0 := Lib.hid hg0
  have HR0 := Lib.hid hrg0
  clear hg0 hrg0
  go_loopw [3] (fun v wr => ∃ (left : Lit → Bool) (cnt : Nat), v = .int .i64 ((q : Int) - (got E left : Int)) ∧ wr.ranges Tryz.prog 9 RF m w.heap.size (prs E).length (.map l) left cnt ∧ w.grownBy wr none)
    (fun _ wr => wr.rangeLeft m w.heap.size)
  case atStart =>
    refine ⟨_, _, ?_, HR0.out, HG0.out⟩
    rw [got_start]
    · simp
    · intro e he
      show l.any _ = true
      rw [List.any_eq_true]
      exact ⟨(.string e.key, .lit (.int .i64 e.j)), HP.out.mem_iff.2 (List.mem_map.2 ⟨(e.key, e.j), List.mem_map.2 ⟨e, he, rfl⟩, rfl⟩), by rw [same_key]; simp⟩
  case round =>
    obtain ⟨left, cnt, rfl, hrg, hgw⟩ := hrel
    have hgl := total_filter_le E (fun e => !left (.string e.key))
    rw [HT.out] at hgl
    have HGL := Lib.hid hgl
    have HRG := Lib.hid hrg
    have HGW := Lib.hid hgw
    clear hgl hrg hgw HR0 HG0
    go_wp2_with (first
      | (at_next; refine wpList_next_ranges _ rfl _ rfl 9 lawK RF Value.string mkV (fun key kl hkey => Maps.keyOf_string_inv Tryz.underlying9 hkey) (fun v y hv => by rcases RF_inv hv with ⟨j, rfl, _⟩ | ⟨rfl, _⟩; exact ⟨some j, rfl⟩; exact ⟨none, rfl⟩) m w.heap.size _ _ _ _ rfl HRG.out ?_ ?_)
      | go_in)
    · intro _ hl0
      have e0 := got_end (E := E) hl0
      rw [HT.out] at e0
      rw [e0]
      go_wp2_with fail
      go_ret
      exact ⟨rfl, ⟨HGW.out.os, HGW.out.tape, HGW.out.output, HGW.out.size, fun k hk => HGW.out.block k hk (by simp)⟩⟩
    · intro x c kl yd yp w1 cnt1 hkey hlk hv hat hrg1 hlt hg1 hs1 hen
      have hkl : kl = .string x.data.toList := by
        by_cases hx : x.size ≤ maxLen
        · rw [WideMaps.keyOf_string_mk Tryz.underlying9 hx] at hkey
          injection hkey with hkey
          exact hkey.symm
        · rw [keyOf_string Tryz.underlying9] at hkey
          simp [mapKey, Tryz.underlying9, hx] at hkey
      subst hkl
      obtain ⟨e, he, hek, rfl⟩ := ent_at HH.out.keys HP.out hv hat
      simp only [mkV] at hen
      have hmore := got_more HH.out.keys he (left := left) (by rw [hek]; exact hlk)
      have hgl2 := total_filter_le E (fun x => !(fun z : Lit => left z && !z.sameKey (.string e.key)) (.string x.key))
      obtain ⟨sv, hb, hrow, -⟩ := HH.out.files e he
      obtain ⟨ao, cap, rfl⟩ := ownsRow_make hrow
      have hb1 : Blk w1 e.j #[.slice ao e.L.length cap, .int .i64 e.safe] 92 := (hb.grown HGW.out (by simp)).grown hg1 (by have := hb.lt; simp; omega)
      have d0 : w1.cell? ⟨e.j, 0, none⟩ = some (.slice ao e.L.length cap) := hb1.cell rfl
      have hmore2 : total (E.filter fun x => !(fun z : Lit => left z && !z.sameKey (.string e.key)) (.string x.key)) = got E left + e.L.length := hmore
      rw [HT.out, hmore2] at hgl2
      rw [← hek] at hrg1
      have HM := Lib.hid hmore
      have HR1 := Lib.hid hrg1
      have HG1 := Lib.hid hg1
      have hgl := HGL.out
      have hgl' : got E left ≤ T := hgl
      obtain ⟨g, hg⟩ : ∃ g, got E left = g := ⟨_, rfl⟩
      obtain ⟨n, hn⟩ : ∃ n, e.L.length = n := ⟨_, rfl⟩
      obtain ⟨j, hj⟩ : ∃ j, e.j = j := ⟨_, rfl⟩
      rw [hg, hn] at hgl2
      rw [hg] at hgl'
      rw [hn, hj] at d0
      rw [hj] at hen
      simp only [mkV]
      rw [hg, hj]
      have HMM := Lib.hid (And.intro hg hn)
      clear hkey hlk hv hat hrg1 hg1 hs1 hek hmore hmore2 hb hrow hb1 hgl hg hn hj he
      go_wp2_with fail
      go_roundw
      case rel =>
        refine ⟨_, cnt1, ?_, HR1.out, HGW.out.andThen HG1.out (fun j hj => by cases hj; exact .inl (Nat.le_refl _))⟩
        rw [HM.out, HMM.out.1, HMM.out.2]
        go_num
      case measure => rw [HR1.out.left_eq, HRG.out.left_eq]; exact hlt
end Go.Proofs.YtdaoeplblkfapaaGreatDoor.Ta

/- A file's bytes: as a text, with more behind them, cloned. -/
namespace Go.Proofs.YtdaoeplblkfapaaGreatDoor.Ta
open Go.RowKit

theorem infoB' : (Tryz.prog.info? 5).map (fun i => (i.zero, i.size, i.bytes)) = some (some (.int .u8 0), 1, 1) := by kernel_rfl
theorem infoB : ∃ i, Tryz.prog.info? 5 = some i ∧ i.zero = some (.int .u8 0) ∧ i.size = 1 ∧ i.bytes = 1 := by
  obtain ⟨i, h⟩ := info_parts infoB'
  exact ⟨i, h⟩
theorem bcells_ints (L : List UInt8) : bcells L = (L.map fun b => (b.toNat : Int)).map (Value.int .u8) := by
  rw [bcells, List.map_map]
  rfl
theorem push_all (L : List UInt8) : ∀ s : ByteArray, (L.map fun b => (b.toNat : Int)).foldl (fun r n => r.push (UInt8.ofNat n.toNat)) s = ⟨s.data ++ L.toArray⟩ := by
  induction L with
  | nil => intro s; simp
  | cons b L ih =>
    intro s
    rw [List.map_cons, List.foldl_cons, ih]
    have : UInt8.ofNat ((b.toNat : Int)).toNat = b := by simp
    rw [this]
    congr 1
    show s.data.push b ++ L.toArray = _
    apply Array.ext'
    simp
/-- 'string(bytes)'. -/
theorem conv_bytes {w : World} {base : Nat} {v : Value} {L : List UInt8} (h : w.ownsRow base 5 1 v L.length (bcells L)) : (convert 90 9 v).run Tryz.prog w = .ok (.string ⟨L.toArray⟩) w := by
  have hc := @World.ownsRow.cells _ _ _ _ _ _ _ h
  rcases h.2 with ⟨rfl, h0⟩ | ⟨g, cap, cur, rfl, rest⟩
  · rw [run_convert_bytes_string w _ _ 5 _ _ _ Tryz.underlying90 Tryz.underlying5 Tryz.underlying9]
    have : L = [] := List.length_eq_zero_iff.1 h0
    subst this
    simp [Conv.bytesToString, Sem.run_pure]
    rfl
  · have hl := run_loadCells_list (P := Tryz.prog) w ⟨g, 0, none⟩ (bcells L) (fun j u hj => hc (g := g) rfl j u hj)
    rw [bcells_length, bcells_ints] at hl
    rw [run_convert_bytes_string w _ _ 5 _ _ _ Tryz.underlying90 Tryz.underlying5 Tryz.underlying9, run_bytesToString w ⟨g, 0, none⟩ L.length cap _ hl, push_all]
    simp [ByteArray.empty, ByteArray.emptyWithCapacity]
    rfl

/-- 'append(bytes, s...)', and where the bytes lie then. -/
theorem run_append_text (w : World) (ty : TypeId) (v : Value) (L : List UInt8) (hown : w.ownsRow 0 5 1 v L.length (bcells L)) (M : List UInt8) (hb : L.length + M.length ≤ 1099511627776) :
    ∃ v' w', (Builtin.append_ #[90, 9] ty #[v, .string ⟨M.toArray⟩]).run Tryz.prog w = .ok v' w' ∧ w'.ownsRow 0 5 1 v' (L ++ M).length (bcells (L ++ M)) ∧ w.grownBy w' v.ownBlock ∧ (v'.ownBlock = v.ownBlock ∨ v'.ownBlock = some w.heap.size) := by
  obtain ⟨i, hi, hz, hs, hby⟩ := infoB
  have hsz : (⟨M.toArray⟩ : ByteArray).size = M.length := size_list M
  obtain ⟨v', w', hr, h1, h2, h3⟩ := Lib.run_append_own_string (P := Tryz.prog) w 0 90 9 ty 5 i Tryz.underlying90 Tryz.underlying9 hi hz hs hby v L.length (bcells L) hown ⟨M.toArray⟩ (by rw [hsz]; unfold maxLen; omega) (by rw [hsz]; omega) (Nat.zero_le _)
  rw [hsz, strCells_list, ← bcells_append, ← List.length_append] at h1
  refine ⟨v', w', hr, h1, h2, ?_⟩
  rcases hown.2 with ⟨rfl, hn⟩ | ⟨g, cap, cur, rfl, hbg, hg, hnc, hcm, hcs, htake⟩
  · by_cases hm : M.length = 0
    · rw [h3.2 ⟨rfl, by rw [hsz, hm]⟩]
      exact .inl rfl
    · have e := run_append_nil_string (P := Tryz.prog) w 90 9 ty 5 i (.int .u8 0) Tryz.underlying90 Tryz.underlying9 hi hz ⟨M.toArray⟩ (by rw [hsz]; omega) (by rw [hsz]; omega) (by rw [hby, hsz]; omega)
      rw [e] at hr
      injection hr with hr _
      rw [← hr]
      exact .inr rfl
  · by_cases hroom : L.length + (⟨M.toArray⟩ : ByteArray).size ≤ cap
    · have e := Lib.run_append_room_string (P := Tryz.prog) w 90 9 ty 5 i Tryz.underlying90 Tryz.underlying9 hi hs g L.length cap cur hg ⟨M.toArray⟩ hroom (by omega)
      rw [e] at hr
      injection hr with hr _
      rw [← hr]
      exact .inl rfl
    · have e := Lib.run_append_grow_string (P := Tryz.prog) w 90 9 ty 5 i (.int .u8 0) Tryz.underlying90 Tryz.underlying9 hi hz ⟨g, 0, none⟩ L.length cap (bcells L) (by rw [hs, bcells_length, Nat.mul_one]) (hown.cells (g := g) rfl) ⟨M.toArray⟩ (by omega) (by rw [hsz]; omega) (by rw [hby]; exact growslice_fits (by omega) (by rw [hsz]; omega))
      rw [e] at hr
      injection hr with hr _
      rw [← hr]
      exact .inr rfl
theorem wpList_append_text {w : World} {ops : Array Oper} {rest : List Oper} {o : Oper} {a : Act} {Q : Exit → Act → World → Prop} (hgd : o.guard = none) (s x : Operand)
    (ho : o.op = .call { callee := .builtin .append, args := #[s, x], argTypes := #[90, 9] })
    (v : Value) (L : List UInt8) (hs : a.eval s = v) (hown : w.ownsRow 0 5 1 v L.length (bcells L)) (M : List UInt8) (hx : a.eval x = .string ⟨M.toArray⟩) (hb : L.length + M.length ≤ 1099511627776)
    (h : ∀ v' w', w'.ownsRow 0 5 1 v' (L ++ M).length (bcells (L ++ M)) → w.grownBy w' v.ownBlock → (v'.ownBlock = v.ownBlock ∨ v'.ownBlock = some w.heap.size) → wpList Tryz.prog ops Q rest (a.put o.dst v') w') : wpList Tryz.prog ops Q (o :: rest) a w := by
  refine wpList_plain hgd fun K hK => ?_
  obtain ⟨v', w', hr, h2, h3, h4⟩ := run_append_text w o.type v L hown M hb
  unfold Oper.wp execOp
  simp only [ho, resolve, invoke, builtin, Sem.run_bind, Sem.run_pure, Result.andThen_ok, List.map_toArray, List.map_cons, List.map_nil, hs, hx, hr]
  exact hK _ _ (h v' w' h2 h3 h4)

theorem eql_nil (w : World) (a : Addr) (l c : Nat) : (binOp .eql 90 (.slice (some a) l c) (.slice none 0 0)).run Tryz.prog w = .ok (.bool false) w := by
  simp only [binOp]
  simp [run_equal_slice_nil w 90 5 (some a) l c Tryz.underlying90]
/-- bytes.Clone of the first bytes of a row. -/
theorem clone_any (w : World) (g n cap : Nat) (L : List UInt8) (hn : L.length = n) (hc : ∀ j u, (bcells L)[j]? = some u → w.cell? ((⟨g, 0, none⟩ : Addr).add j) = some u) (hg : ∀ k, g = k → k < w.heap.size) (hb : n ≤ 1099511627776) :
    Calls Tryz.prog 130 #[.slice (some ⟨g, 0, none⟩) n cap] w fun e w' => ∃ v, e = .returned v ∧ w'.ownsRow w.heap.size 5 1 v n (bcells L) ∧ Below w.heap.size w w' := by
  obtain ⟨i0, hi, hz0, hz1, hz2⟩ := infoB
  have hnil := eql_nil
  have hnews : ∀ j u, (bcells L)[j]? = some u → (w.alloc (.cells #[] 5)).cell? ((⟨g, 0, none⟩ : Addr).add j) = some u := fun j u hj => by
    rw [← hc j u hj, Addr.add_lit]
    exact World.cell?_of_block (Below.heap_alloc _ _ _ (hg g rfl))
  have hnew : (w.alloc (.cells #[] 5)).ownsRow w.heap.size 5 1 (.slice (some ⟨w.heap.size, 0, none⟩) 0 0) 0 [] := World.ownsRow_made w #[] 0 (Nat.le_refl _) (Nat.zero_le _) rfl
  have HN := Lib.hid hn
  have HNEWS := Lib.hid hnews
  have HNEW := Lib.hid hnew
  clear hc hg hn hnews hnew
  go_enter Tryz.func130, Tryz.ntmps130
  go_wp2_with (at_builtin; refine wpList_append_own _ rfl _ _ 90 rfl w.heap.size 5 i0 (.int .u8 0) 1 1 Tryz.underlying90 hi hz0 hz1 hz2 rfl (by decide) _ 0 [] rfl HNEW.out ⟨g, 0, none⟩ n cap (bcells L) rfl (by rw [bcells_length, HN.out, Nat.mul_one]) HNEWS.out (bcells_one L) (by unfold maxLen; omega) (by omega) (by simp) ?_)
  intro v' w1 hown hgrow _
  have HO := Lib.hid hown
  have HG := Lib.hid hgrow
  clear hown hgrow
  go_wp2_with fail
  go_ret
  refine ⟨v', rfl, by simpa using HO.out, ((Below.refl _ w).alloc (Nat.le_refl _) _).grown HG.out (by simp) (fun k e => by cases e; exact Nat.le_refl _)⟩
end Go.Proofs.YtdaoeplblkfapaaGreatDoor.Ta
