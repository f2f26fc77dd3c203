/- The reader's methods, New, Int, Text. -/
import Derived.Test.YtmkinnheoejphaaGreatDoorWalk3
import Derived.Room.Shelf.Join48
import Derived.Lib.Join
namespace Go.Proofs.YtmkinnheoejphaaGreatDoor
open Go.RowKit

/-- What a reader is, plainly: the bytes from its place on, whether it is wrong. -/
structure St where
  s : List UInt8
  bad : Bool

def St.int (u : St) : Int × St :=
  if u.bad then (0, u) else match Pl.rInt u.s with | some (n, r) => (n, ⟨r, false⟩) | none => (0, ⟨u.s, true⟩)
def St.text (most : Int) (u : St) : List UInt8 × St :=
  if u.bad then ([], u) else match Pl.rText most u.s with | some (x, r) => (x, ⟨r, false⟩) | none => ([], ⟨u.s, true⟩)
def St.byte (c : UInt8) (u : St) : St :=
  if u.bad then u else match Pl.rByte c u.s with | some r => ⟨r, false⟩ | none => ⟨u.s, true⟩
def St.more (u : St) : Bool := !u.bad && match u.s with | [] => false | x :: _ => x != 101
def St.done (u : St) : Int := if u.bad || !u.s.isEmpty then 3 else 0

/-- The reader in block b is u. -/
def Rd (b : Nat) (w : World) (u : St) : Prop := Rdr b w ⟨u.s.toArray⟩ u.bad
theorem Rd.same {b : Nat} {w w' : World} {u : St} (h : Rd b w u) (hb : Below w.heap.size w w') : Rd b w' u := Rdr.same h hb
theorem Rd.other {b c : Nat} {w w' : World} {u : St} (h : Rd b w u) (hk : Kb c w w') (hn : b ≠ c) : Rd b w' u := Rdr.other h hk hn
theorem Rd.lt {b : Nat} {w : World} {u : St} (h : Rd b w u) : b < w.heap.size := Rdr.lt h

theorem more_eq (x : UInt8) : (((x.toNat : Nat) : Int) != 101) = (true && (x != 101)) := by
  by_cases h : x = 101
  · subst h; rfl
  · have h1 : x.toNat ≠ 101 := fun e => h (UInt8.toNat_inj.1 e)
    have h2 : ((x.toNat : Nat) : Int) ≠ 101 := by omega
    rw [bne_iff_ne.2 h2, bne_iff_ne.2 h]
    rfl
theorem wText_eq (s : ByteArray) : (⟨(Lib.itoa s.size).toArray⟩ : ByteArray) ++ ⟨#[58]⟩ ++ s = ⟨(Pl.wText s.data.toList).toArray⟩ := by
  obtain ⟨l, rfl⟩ : ∃ l : List UInt8, s = ⟨l.toArray⟩ := ⟨_, ofList_eq s _ rfl⟩
  rw [Lib.size_eq]
  refine (congrArg (· ++ _) (app_mk _ [58])).trans ((app_mk _ _).trans ?_)
  simp [Pl.wText]
theorem size_le {l : List UInt8} {k : Nat} (h : l.length ≤ k) : (⟨l.toArray⟩ : ByteArray).size ≤ k := by show l.toArray.size ≤ k; simpa using h

theorem take_int (b : Nat) (u : St) (w : World) (hl : Lb w) (h : Rd b w u) (hs : u.s.length ≤ 281474976710656) :
    Calls Tryz.prog 67 #[.pointer (some ⟨b, 0, none⟩), .int .u8 105, .int .i64 0] w fun e w' =>
      e = .returned (.tuple #[.int .i64 u.int.1, .string ⟨#[]⟩]) ∧ Rd b w' u.int.2 ∧ Kb b w w' := by
  obtain ⟨s, bad⟩ := u
  cases bad with
  | true => exact (take_wrong b ⟨s.toArray⟩ 105 0 w h).mono fun _ _ ⟨he, hw⟩ => ⟨he, hw ▸ h, hw ▸ Kb.refl _ _⟩
  | false =>
    cases hr : Pl.rInt s with
    | none =>
      have := take_int_no b ⟨s.toArray⟩ hr w hl h (size_le hs)
      refine this.mono fun _ _ ⟨he, h1, h2⟩ => ?_
      simp only [St.int, hr]
      exact ⟨he, h1, h2⟩
    | some p =>
      obtain ⟨n, r⟩ := p
      have := take_int_ok b ⟨s.toArray⟩ n r hr w hl h (size_le hs)
      refine this.mono fun _ _ ⟨he, h1, h2⟩ => ?_
      simp only [St.int, hr]
      exact ⟨he, h1, h2⟩

theorem take_text (b : Nat) (u : St) (most : Int) (w : World) (hl : Lb w) (h : Rd b w u) (hs : u.s.length ≤ 281474976710656) :
    Calls Tryz.prog 67 #[.pointer (some ⟨b, 0, none⟩), .int .u8 58, .int .i64 most] w fun e w' =>
      e = .returned (.tuple #[.int .i64 0, .string ⟨(u.text most).1.toArray⟩]) ∧ Rd b w' (u.text most).2 ∧ Kb b w w' := by
  obtain ⟨s, bad⟩ := u
  cases bad with
  | true => exact (take_wrong b ⟨s.toArray⟩ 58 most w h).mono fun _ _ ⟨he, hw⟩ => ⟨he, hw ▸ h, hw ▸ Kb.refl _ _⟩
  | false =>
    cases hr : Pl.rText most s with
    | none =>
      have := take_text_no b ⟨s.toArray⟩ most hr w hl h (size_le hs)
      refine this.mono fun _ _ ⟨he, h1, h2⟩ => ?_
      simp only [St.text, hr]
      exact ⟨he, h1, h2⟩
    | some p =>
      obtain ⟨n, r⟩ := p
      have := take_text_ok b ⟨s.toArray⟩ most n r hr w hl h (size_le hs)
      refine this.mono fun _ _ ⟨he, h1, h2⟩ => ?_
      simp only [St.text, hr]
      exact ⟨he, h1, h2⟩

theorem take_byte (b : Nat) (u : St) (c : UInt8) (hc : c = 108 ∨ c = 101) (w : World) (h : Rd b w u) (hs : u.s.length ≤ 281474976710656) :
    Calls Tryz.prog 67 #[.pointer (some ⟨b, 0, none⟩), .int .u8 c.toNat, .int .i64 0] w fun e w' =>
      e = .returned (.tuple #[.int .i64 0, .string ⟨#[]⟩]) ∧ Rd b w' (u.byte c) ∧ Kb b w w' := by
  obtain ⟨s, bad⟩ := u
  cases bad with
  | true => exact (take_wrong b ⟨s.toArray⟩ _ 0 w h).mono fun _ _ ⟨he, hw⟩ => ⟨he, hw ▸ h, hw ▸ Kb.refl _ _⟩
  | false =>
    cases hr : Pl.rByte c s with
    | none =>
      have := take_byte_no b ⟨s.toArray⟩ c hc hr w h (size_le hs)
      refine this.mono fun _ _ ⟨he, h1, h2⟩ => ?_
      simp only [St.byte, hr]
      exact ⟨he, h1, h2⟩
    | some r =>
      have := take_byte_ok b ⟨s.toArray⟩ c hc r hr w h (size_le hs)
      refine this.mono fun _ _ ⟨he, h1, h2⟩ => ?_
      simp only [St.byte, hr]
      exact ⟨he, h1, h2⟩

set_option maxHeartbeats 400000 in
set_option maxRecDepth 100000 in
theorem rd_int (b : Nat) (u : St) (w : World) (hl : Lb w) (h : Rd b w u) (hs : u.s.length ≤ 281474976710656) :
    Calls Tryz.prog 48 #[.pointer (some ⟨b, 0, none⟩)] w fun e w' =>
      e = .returned (.int .i64 u.int.1) ∧ Rd b w' u.int.2 ∧ Kb b w w' := by
  go_enter Tryz.func48, Tryz.ntmps48
  go_wp2_with fail
  refine (take_int b u _ hl h hs).mono ?_
  rintro e w1 ⟨rfl, h1, h2⟩
  go_wp2_with fail
  go_ret
  exact ⟨rfl, h1, h2⟩

set_option maxHeartbeats 400000 in
set_option maxRecDepth 100000 in
theorem rd_int_nil (w : World) : Calls Tryz.prog 48 #[.pointer none] w fun e w' => e = .returned (.int .i64 0) ∧ w = w' := by
  go_enter Tryz.func48, Tryz.ntmps48
  go_wp2_with fail
  refine (take_nil _ _ _).mono ?_
  rintro e w1 ⟨rfl, rfl⟩
  go_wp2_with fail
  go_ret
  exact ⟨rfl, rfl⟩

set_option maxHeartbeats 400000 in
set_option maxRecDepth 100000 in
theorem rd_open (b : Nat) (u : St) (w : World) (h : Rd b w u) (hs : u.s.length ≤ 281474976710656) :
    Calls Tryz.prog 47 #[.pointer (some ⟨b, 0, none⟩)] w fun e w' =>
      e = .returned (.tuple #[]) ∧ Rd b w' (u.byte 108) ∧ Kb b w w' := by
  go_enter Tryz.func47, Tryz.ntmps47
  go_wp2_with fail
  refine (take_byte b u 108 (Or.inl rfl) _ h hs).mono ?_
  rintro e w1 ⟨rfl, h1, h2⟩
  go_wp2_with fail
  go_end0
  exact ⟨rfl, h1, h2⟩

set_option maxHeartbeats 400000 in
set_option maxRecDepth 100000 in
theorem rd_open_nil (w : World) : Calls Tryz.prog 47 #[.pointer none] w fun e w' => e = .returned (.tuple #[]) ∧ w = w' := by
  go_enter Tryz.func47, Tryz.ntmps47
  go_wp2_with fail
  refine (take_nil _ _ _).mono ?_
  rintro e w1 ⟨rfl, rfl⟩
  go_wp2_with fail
  go_end0
  exact ⟨rfl, rfl⟩

set_option maxHeartbeats 400000 in
set_option maxRecDepth 100000 in
theorem rd_close (b : Nat) (u : St) (w : World) (h : Rd b w u) (hs : u.s.length ≤ 281474976710656) :
    Calls Tryz.prog 49 #[.pointer (some ⟨b, 0, none⟩)] w fun e w' =>
      e = .returned (.tuple #[]) ∧ Rd b w' (u.byte 101) ∧ Kb b w w' := by
  go_enter Tryz.func49, Tryz.ntmps49
  go_wp2_with fail
  refine (take_byte b u 101 (Or.inr rfl) _ h hs).mono ?_
  rintro e w1 ⟨rfl, h1, h2⟩
  go_wp2_with fail
  go_end0
  exact ⟨rfl, h1, h2⟩

set_option maxHeartbeats 400000 in
set_option maxRecDepth 100000 in
theorem rd_close_nil (w : World) : Calls Tryz.prog 49 #[.pointer none] w fun e w' => e = .returned (.tuple #[]) ∧ w = w' := by
  go_enter Tryz.func49, Tryz.ntmps49
  go_wp2_with fail
  refine (take_nil _ _ _).mono ?_
  rintro e w1 ⟨rfl, rfl⟩
  go_wp2_with fail
  go_end0
  exact ⟨rfl, rfl⟩

set_option maxHeartbeats 400000 in
set_option maxRecDepth 100000 in
theorem rd_done_nil (w : World) : Calls Tryz.prog 50 #[.pointer none] w fun e w' => e = .returned (.int .i64 2) ∧ w = w' := by
  go_enter Tryz.func50, Tryz.ntmps50
  go_wp2
  go_ret
  exact ⟨rfl, rfl⟩

set_option maxHeartbeats 400000 in
set_option maxRecDepth 100000 in
theorem rd_done (b : Nat) (u : St) (w : World) (h : Rd b w u) :
    Calls Tryz.prog 50 #[.pointer (some ⟨b, 0, none⟩)] w fun e w' =>
      e = .returned (.int .i64 u.done) ∧ w = w' := by
  obtain ⟨s, bad⟩ := u
  have c0 := Rdr.rest h
  have c1 := Rdr.wrong h
  cases bad with
  | true =>
    simp only at c0 c1
    go_enter Tryz.func50, Tryz.ntmps50
    go_wp2
    go_ret
    exact ⟨rfl, rfl⟩
  | false =>
    simp only at c0 c1
    cases s with
    | nil =>
      go_enter Tryz.func50, Tryz.ntmps50
      go_wp2
      go_ret
      exact ⟨rfl, rfl⟩
    | cons x s =>
      go_enter Tryz.func50, Tryz.ntmps50
      go_wp2
      go_ret
      exact ⟨rfl, rfl⟩

set_option maxHeartbeats 400000 in
set_option maxRecDepth 100000 in
theorem rd_new (s : ByteArray) (w : World) :
    Calls Tryz.prog 46 #[.string s] w fun e w' =>
      e = .returned (.pointer (some ⟨w.heap.size, 0, none⟩)) ∧ Rd w.heap.size w' ⟨s.data.toList, false⟩ ∧ Below w.heap.size w w' := by
  go_enter Tryz.func46, Tryz.ntmps46
  go_wp2
  go_ret
  refine ⟨rfl, ?_, (Below.refl _ _).alloc (Nat.le_refl _) _⟩
  unfold Rd Rdr
  rw [← ofList_eq s _ rfl]
  exact heap_alloc_new _ _

set_option maxHeartbeats 400000 in
set_option maxRecDepth 100000 in
theorem bead_int (n : Int) (hn : Pl.I64 n) (w : World) (hl : Lb w) :
    Calls Tryz.prog 44 #[.int .i64 n] w fun e w' => e = .returned (.string ⟨(Pl.wInt n).toArray⟩) ∧ Below w.heap.size w w' := by
  go_enter Tryz.func44, Tryz.ntmps44
  go_wp2_with fail
  refine (itoa_any n hn _ hl).mono ?_
  rintro e w1 ⟨rfl, h1⟩
  have hlen := Lib.itoa_length_le n hn.1 hn.2
  go_wp2_with fail
  all_goals first | (exfalso; omega) | skip
  go_ret
  exact ⟨congrArg (fun x => Ending.returned (.string x)) ((congrArg (· ++ _) (app_mk [105] _)).trans (app_mk _ [101])), h1⟩

theorem join_flat (xs : List (List UInt8)) : Lib.join xs [] = xs.flatten := by
  cases xs with
  | nil => rfl
  | cons x r =>
    rw [Lib.join_cons]
    simp [Lib.joinTail]

set_option maxHeartbeats 400000 in
set_option maxRecDepth 100000 in
theorem bead_list (bk o c : Nat) (xs : List ByteArray) (w : World) (hcells : ∀ (j : Nat) x, xs[j]? = some x → w.cell? ⟨bk, o + j, none⟩ = some (.string x)) (hbk : bk < w.heap.size) (hN : xs.length ≤ 140737488355328) (hcap : xs.length ≤ c)
    (hlen : (xs.map (·.data.toList)).flatten.length ≤ 281474976710656) :
    Calls Tryz.prog 43 #[.slice (some ⟨bk, o, none⟩) xs.length c] w fun e w' => e = .returned (.string ⟨(108 :: ((xs.map (·.data.toList)).flatten ++ [101])).toArray⟩) ∧ Below w.heap.size w w' := by
  have C := Any.strings_Join_48 Tryz.lays156 Tryz.Builder_Extra_156 bk o c xs ⟨#[]⟩ w hcells hbk hN hcap (by rw [join_flat]; exact hlen)
  rw [join_flat] at C
  have C := Lib.hid C
  have HC := Lib.hid hcells
  obtain ⟨l, hl⟩ : ∃ l, l = (xs.map (·.data.toList)).flatten := ⟨_, rfl⟩
  rw [← hl] at C hlen ⊢
  have HL := Lib.hid hl
  clear hcells hl
  go_enter Tryz.func43, Tryz.ntmps43
  go_wp2_with fail
  refine C.out.mono ?_
  rintro e w1 ⟨rfl, h1⟩
  go_wp2_with fail
  all_goals first | (exfalso; omega) | skip
  go_ret
  exact ⟨congrArg (fun x => Ending.returned (.string x)) ((congrArg (· ++ _) (app_mk [108] _)).trans (app_mk _ [101])), h1⟩
end Go.Proofs.YtmkinnheoejphaaGreatDoor
