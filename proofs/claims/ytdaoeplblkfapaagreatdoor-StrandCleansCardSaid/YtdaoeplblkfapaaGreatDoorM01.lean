import Derived.Test.YtdaoeplblkfapaaGreatDoorM00
import Derived.Room.Shelf.Join48
import Derived.Lib.Join

/- (*bead.Reader).take at a letter; at a reader that is wrong, or nil; the reader's methods; New. -/
namespace Go.Proofs.YtdaoeplblkfapaaGreatDoor
open Go.RowKit

theorem rByte_cases {c : UInt8} {s : ByteArray} (h : Pl.rByte c s.data.toList = none) : s = ⟨#[]⟩ ∨ ∃ x r, x ≠ c ∧ s = ⟨(x :: r).toArray⟩ := by
  cases hs : s.data.toList with
  | nil => exact Or.inl (ofList_eq s [] hs.symm)
  | cons x r =>
    refine Or.inr ⟨x, r, ?_, ofList_eq s _ hs.symm⟩
    intro e
    rw [hs] at h
    simp [Pl.rByte, e] at h

set_option maxHeartbeats 1000000 in
set_option maxRecDepth 100000 in
theorem take_byte_ok (b : Nat) (s : ByteArray) (c : UInt8) (hc : c = 108 ∨ c = 101) (r : List UInt8) (hr : Pl.rByte c s.data.toList = some r) (w : World) (h : Rdr b w s false) (hs : s.size ≤ 281474976710656) :
    Calls Tryz.prog 227 #[.pointer (some ⟨b, 0, none⟩), .int .u8 c.toNat, .int .i64 0] w fun e w' =>
      e = .returned (.tuple #[.int .i64 0, .string ⟨#[]⟩]) ∧ Rdr b w' ⟨r.toArray⟩ false ∧ Kb b w w' := by
  obtain rfl := ofList_eq s _ (Pl.rByte_some hr).symm
  clear hr
  have hs : r.length ≤ 281474976710656 := by
    have : (⟨(c :: r).toArray⟩ : ByteArray).size = r.length + 1 := by show (c :: r).toArray.size = _; simp
    omega
  have c0 := h.rest
  have c1 := h.wrong
  have f0 := h.free0
  rcases hc with rfl | rfl
  · go_enter Tryz.func227, Tryz.ntmps227
    go_wp2_with fail
    refine wp_scope_fwd 0 rfl ?_
    go_wp2_with fail
    · rw [jump_ret]
      go_ret2
      have ex : (⟨(108 :: r).toArray⟩ : ByteArray).extract 1 (r.length + 1) = ⟨r.toArray⟩ := ext_drop (108 :: r) 1
      rw [ex]
      exact ⟨rfl, h.set0 _, Kb.setCell _ _⟩
  · go_enter Tryz.func227, Tryz.ntmps227
    go_wp2_with fail
    refine wp_scope_fwd 0 rfl ?_
    go_wp2_with fail
    · rw [jump_ret]
      go_ret2
      have ex : (⟨(101 :: r).toArray⟩ : ByteArray).extract 1 (r.length + 1) = ⟨r.toArray⟩ := ext_drop (101 :: r) 1
      rw [ex]
      exact ⟨rfl, h.set0 _, Kb.setCell _ _⟩

set_option maxHeartbeats 1000000 in
set_option maxRecDepth 100000 in
theorem take_byte_no (b : Nat) (s : ByteArray) (c : UInt8) (hc : c = 108 ∨ c = 101) (hr : Pl.rByte c s.data.toList = none) (w : World) (h : Rdr b w s false) (hs : s.size ≤ 281474976710656) :
    Calls Tryz.prog 227 #[.pointer (some ⟨b, 0, none⟩), .int .u8 c.toNat, .int .i64 0] w fun e w' =>
      e = .returned (.tuple #[.int .i64 0, .string ⟨#[]⟩]) ∧ Rdr b w' s true ∧ Kb b w w' := by
  have c0 := h.rest
  have c1 := h.wrong
  have f1 := h.free1
  have f0 := h.free0
  rcases rByte_cases hr with rfl | ⟨x, r, hx, rfl⟩
  · clear hr hs
    rcases hc with rfl | rfl
    all_goals
      go_enter Tryz.func227, Tryz.ntmps227
      go_wp2_with fail
      refine wp_scope_fwd 0 rfl ?_
      go_wp2_with fail
      go_step3
      refine And.intro rfl ?_
      go_wp2_with fail
      rw [Exit.noGoto_ret]
      go_ret2
      exact ⟨rfl, h.set1 _, Kb.setCell _ _⟩
  · have hs : r.length ≤ 281474976710656 := by
      have : (⟨(x :: r).toArray⟩ : ByteArray).size = r.length + 1 := by show (x :: r).toArray.size = _; simp
      omega
    have hn : x.toNat ≠ c.toNat := fun e => hx (UInt8.toNat_inj.1 e)
    have hg : ((⟨(x :: r).toArray⟩ : ByteArray)[0]'(by show 0 < (x :: r).toArray.size; simp)).toNat = x.toNat := rfl
    have HN := Lib.hid hn
    have HG := Lib.hid hg
    clear hr hn hg hx
    rcases hc with rfl | rfl
    · go_enter Tryz.func227, Tryz.ntmps227
      go_wp2_with fail
      refine wp_scope_fwd 0 rfl ?_
      go_wp2_with fail
      · go_step3
        refine And.intro rfl ?_
        go_wp2_with fail
        rw [Exit.noGoto_ret]
        go_ret2
        exact ⟨rfl, h.set1 _, Kb.setCell _ _⟩
      · rename_i hh
        exfalso
        have h1 := HN.out
        have h2 := HG.out
        rw [h2] at hh
        have h3 : ((x.toNat : Nat) : Int) = 108 := by simpa using hh
        have h4 : (108 : UInt8).toNat = 108 := rfl
        omega
    · go_enter Tryz.func227, Tryz.ntmps227
      go_wp2_with fail
      refine wp_scope_fwd 0 rfl ?_
      go_wp2_with fail
      · go_step3
        refine And.intro rfl ?_
        go_wp2_with fail
        rw [Exit.noGoto_ret]
        go_ret2
        exact ⟨rfl, h.set1 _, Kb.setCell _ _⟩
      · rename_i hh
        exfalso
        have h1 := HN.out
        have h2 := HG.out
        rw [h2] at hh
        have h3 : ((x.toNat : Nat) : Int) = 101 := by simpa using hh
        have h4 : (101 : UInt8).toNat = 101 := rfl
        omega

set_option maxHeartbeats 1000000 in
set_option maxRecDepth 100000 in
/-- Of a wrong reader nothing happens. -/
theorem take_wrong (b : Nat) (s : ByteArray) (c most : Int) (w : World) (h : Rdr b w s true) :
    Calls Tryz.prog 227 #[.pointer (some ⟨b, 0, none⟩), .int .u8 c, .int .i64 most] w fun e w' =>
      e = .returned (.tuple #[.int .i64 0, .string ⟨#[]⟩]) ∧ w = w' := by
  have c1 := h.wrong
  go_enter Tryz.func227, Tryz.ntmps227
  go_wp2_with fail
  refine wp_scope_fwd 0 rfl ?_
  go_wp2_with fail
  rw [jump_ret]
  go_ret2
  exact ⟨rfl, rfl⟩

set_option maxHeartbeats 1000000 in
set_option maxRecDepth 100000 in
theorem take_nil (c most : Int) (w : World) :
    Calls Tryz.prog 227 #[.pointer none, .int .u8 c, .int .i64 most] w fun e w' =>
      e = .returned (.tuple #[.int .i64 0, .string ⟨#[]⟩]) ∧ w = w' := by
  go_enter Tryz.func227, Tryz.ntmps227
  go_wp2_with fail
  refine wp_scope_fwd 0 rfl ?_
  go_wp2_with fail
  rw [jump_ret]
  go_ret2
  exact ⟨rfl, rfl⟩
end Go.Proofs.YtdaoeplblkfapaaGreatDoor

/- The reader's methods, New, Int, Text. -/
namespace Go.Proofs.YtdaoeplblkfapaaGreatDoor
open Go.RowKit

/-- What a reader is, plainly: the bytes from its place on, whether it is wrong. -/
structure St where
  s : List UInt8
  bad : Bool

def St.int (u : St) : Int × St :=
  if u.bad then (0, u) else match Pl.rInt u.s with | some (n, r) => (n, ⟨r, false⟩) | none => (0, ⟨u.s, true⟩)
def St.text (most : Int) (u : St) : List UInt8 × St :=
  if u.bad then ([], u) else match Pl.rText most u.s with | some (x, r) => (x, ⟨r, false⟩) | none => ([], ⟨u.s, true⟩)
def St.byte (c : UInt8) (u : St) : St :=
  if u.bad then u else match Pl.rByte c u.s with | some r => ⟨r, false⟩ | none => ⟨u.s, true⟩
def St.more (u : St) : Bool := !u.bad && match u.s with | [] => false | x :: _ => x != 101
def St.done (u : St) : Int := if u.bad || !u.s.isEmpty then 3 else 0

/-- The reader in block b is u. -/
def Rd (b : Nat) (w : World) (u : St) : Prop := Rdr b w ⟨u.s.toArray⟩ u.bad
theorem Rd.same {b : Nat} {w w' : World} {u : St} (h : Rd b w u) (hb : Below w.heap.size w w') : Rd b w' u := Rdr.same h hb
theorem Rd.other {b c : Nat} {w w' : World} {u : St} (h : Rd b w u) (hk : Kb c w w') (hn : b ≠ c) : Rd b w' u := Rdr.other h hk hn
theorem Rd.lt {b : Nat} {w : World} {u : St} (h : Rd b w u) : b < w.heap.size := Rdr.lt h

theorem more_eq (x : UInt8) : (((x.toNat : Nat) : Int) != 101) = (true && (x != 101)) := by
  by_cases h : x = 101
  · subst h; rfl
  · have h1 : x.toNat ≠ 101 := fun e => h (UInt8.toNat_inj.1 e)
    have h2 : ((x.toNat : Nat) : Int) ≠ 101 := by omega
    rw [bne_iff_ne.2 h2, bne_iff_ne.2 h]
    rfl
theorem wText_eq (s : ByteArray) : (⟨(Lib.itoa s.size).toArray⟩ : ByteArray) ++ ⟨#[58]⟩ ++ s = ⟨(Pl.wText s.data.toList).toArray⟩ := by
  obtain ⟨l, rfl⟩ : ∃ l : List UInt8, s = ⟨l.toArray⟩ := ⟨_, ofList_eq s _ rfl⟩
  rw [Lib.size_eq]
  refine (congrArg (· ++ _) (app_mk _ [58])).trans ((app_mk _ _).trans ?_)
  simp [Pl.wText]
theorem size_le {l : List UInt8} {k : Nat} (h : l.length ≤ k) : (⟨l.toArray⟩ : ByteArray).size ≤ k := by show l.toArray.size ≤ k; simpa using h

theorem take_int (b : Nat) (u : St) (w : World) (hl : Lb w) (h : Rd b w u) (hs : u.s.length ≤ 281474976710656) :
    Calls Tryz.prog 227 #[.pointer (some ⟨b, 0, none⟩), .int .u8 105, .int .i64 0] w fun e w' =>
      e = .returned (.tuple #[.int .i64 u.int.1, .string ⟨#[]⟩]) ∧ Rd b w' u.int.2 ∧ Kb b w w' := by
  obtain ⟨s, bad⟩ := u
  cases bad with
  | true => exact (take_wrong b ⟨s.toArray⟩ 105 0 w h).mono fun _ _ ⟨he, hw⟩ => ⟨he, hw ▸ h, hw ▸ Kb.refl _ _⟩
  | false =>
    cases hr : Pl.rInt s with
    | none =>
      have := take_int_no b ⟨s.toArray⟩ hr w hl h (size_le hs)
      refine this.mono fun _ _ ⟨he, h1, h2⟩ => ?_
      simp only [St.int, hr]
      exact ⟨he, h1, h2⟩
    | some p =>
      obtain ⟨n, r⟩ := p
      have := take_int_ok b ⟨s.toArray⟩ n r hr w hl h (size_le hs)
      refine this.mono fun _ _ ⟨he, h1, h2⟩ => ?_
      simp only [St.int, hr]
      exact ⟨he, h1, h2⟩

theorem take_text (b : Nat) (u : St) (most : Int) (w : World) (hl : Lb w) (h : Rd b w u) (hs : u.s.length ≤ 281474976710656) :
    Calls Tryz.prog 227 #[.pointer (some ⟨b, 0, none⟩), .int .u8 58, .int .i64 most] w fun e w' =>
      e = .returned (.tuple #[.int .i64 0, .string ⟨(u.text most).1.toArray⟩]) ∧ Rd b w' (u.text most).2 ∧ Kb b w w' := by
  obtain ⟨s, bad⟩ := u
  cases bad with
  | true => exact (take_wrong b ⟨s.toArray⟩ 58 most w h).mono fun _ _ ⟨he, hw⟩ => ⟨he, hw ▸ h, hw ▸ Kb.refl _ _⟩
  | false =>
    cases hr : Pl.rText most s with
    | none =>
      have := take_text_no b ⟨s.toArray⟩ most hr w hl h (size_le hs)
      refine this.mono fun _ _ ⟨he, h1, h2⟩ => ?_
      simp only [St.text, hr]
      exact ⟨he, h1, h2⟩
    | some p =>
      obtain ⟨n, r⟩ := p
      have := take_text_ok b ⟨s.toArray⟩ most n r hr w hl h (size_le hs)
      refine this.mono fun _ _ ⟨he, h1, h2⟩ => ?_
      simp only [St.text, hr]
      exact ⟨he, h1, h2⟩

theorem take_byte (b : Nat) (u : St) (c : UInt8) (hc : c = 108 ∨ c = 101) (w : World) (h : Rd b w u) (hs : u.s.length ≤ 281474976710656) :
    Calls Tryz.prog 227 #[.pointer (some ⟨b, 0, none⟩), .int .u8 c.toNat, .int .i64 0] w fun e w' =>
      e = .returned (.tuple #[.int .i64 0, .string ⟨#[]⟩]) ∧ Rd b w' (u.byte c) ∧ Kb b w w' := by
  obtain ⟨s, bad⟩ := u
  cases bad with
  | true => exact (take_wrong b ⟨s.toArray⟩ _ 0 w h).mono fun _ _ ⟨he, hw⟩ => ⟨he, hw ▸ h, hw ▸ Kb.refl _ _⟩
  | false =>
    cases hr : Pl.rByte c s with
    | none =>
      have := take_byte_no b ⟨s.toArray⟩ c hc hr w h (size_le hs)
      refine this.mono fun _ _ ⟨he, h1, h2⟩ => ?_
      simp only [St.byte, hr]
      exact ⟨he, h1, h2⟩
    | some r =>
      have := take_byte_ok b ⟨s.toArray⟩ c hc r hr w h (size_le hs)
      refine this.mono fun _ _ ⟨he, h1, h2⟩ => ?_
      simp only [St.byte, hr]
      exact ⟨he, h1, h2⟩

set_option maxHeartbeats 400000 in
theorem rd_int (b : Nat) (u : St) (w : World) (hl : Lb w) (h : Rd b w u) (hs : u.s.length ≤ 281474976710656) :
    Calls Tryz.prog 208 #[.pointer (some ⟨b, 0, none⟩)] w fun e w' =>
      e = .returned (.int .i64 u.int.1) ∧ Rd b w' u.int.2 ∧ Kb b w w' := by
  go_enter Tryz.func208, Tryz.ntmps208
  go_wp2_with fail
  refine (take_int b u _ hl h hs).mono ?_
  rintro e w1 ⟨rfl, h1, h2⟩
  go_wp2_with fail
  go_ret
  exact ⟨rfl, h1, h2⟩

set_option maxHeartbeats 400000 in
theorem rd_int_nil (w : World) : Calls Tryz.prog 208 #[.pointer none] w fun e w' => e = .returned (.int .i64 0) ∧ w = w' := by
  go_enter Tryz.func208, Tryz.ntmps208
  go_wp2_with fail
  refine (take_nil _ _ _).mono ?_
  rintro e w1 ⟨rfl, rfl⟩
  go_wp2_with fail
  go_ret
  exact ⟨rfl, rfl⟩

set_option maxHeartbeats 400000 in
theorem rd_text (b : Nat) (u : St) (most : Int) (w : World) (hl : Lb w) (h : Rd b w u) (hs : u.s.length ≤ 281474976710656) :
    Calls Tryz.prog 228 #[.pointer (some ⟨b, 0, none⟩), .int .i64 most] w fun e w' =>
      e = .returned (.string ⟨(u.text most).1.toArray⟩) ∧ Rd b w' (u.text most).2 ∧ Kb b w w' := by
  go_enter Tryz.func228, Tryz.ntmps228
  go_wp2_with fail
  refine (take_text b u most _ hl h hs).mono ?_
  rintro e w1 ⟨rfl, h1, h2⟩
  go_wp2_with fail
  go_ret
  exact ⟨rfl, h1, h2⟩

set_option maxHeartbeats 400000 in
theorem rd_text_nil (most : Int) (w : World) : Calls Tryz.prog 228 #[.pointer none, .int .i64 most] w fun e w' => e = .returned (.string ⟨#[]⟩) ∧ w = w' := by
  go_enter Tryz.func228, Tryz.ntmps228
  go_wp2_with fail
  refine (take_nil _ _ _).mono ?_
  rintro e w1 ⟨rfl, rfl⟩
  go_wp2_with fail
  go_ret
  exact ⟨rfl, rfl⟩

set_option maxHeartbeats 400000 in
theorem rd_open (b : Nat) (u : St) (w : World) (h : Rd b w u) (hs : u.s.length ≤ 281474976710656) :
    Calls Tryz.prog 207 #[.pointer (some ⟨b, 0, none⟩)] w fun e w' =>
      e = .returned (.tuple #[]) ∧ Rd b w' (u.byte 108) ∧ Kb b w w' := by
  go_enter Tryz.func207, Tryz.ntmps207
  go_wp2_with fail
  refine (take_byte b u 108 (Or.inl rfl) _ h hs).mono ?_
  rintro e w1 ⟨rfl, h1, h2⟩
  go_wp2_with fail
  go_end0
  exact ⟨rfl, h1, h2⟩

set_option maxHeartbeats 400000 in
theorem rd_open_nil (w : World) : Calls Tryz.prog 207 #[.pointer none] w fun e w' => e = .returned (.tuple #[]) ∧ w = w' := by
  go_enter Tryz.func207, Tryz.ntmps207
  go_wp2_with fail
  refine (take_nil _ _ _).mono ?_
  rintro e w1 ⟨rfl, rfl⟩
  go_wp2_with fail
  go_end0
  exact ⟨rfl, rfl⟩

set_option maxHeartbeats 400000 in
theorem rd_close (b : Nat) (u : St) (w : World) (h : Rd b w u) (hs : u.s.length ≤ 281474976710656) :
    Calls Tryz.prog 211 #[.pointer (some ⟨b, 0, none⟩)] w fun e w' =>
      e = .returned (.tuple #[]) ∧ Rd b w' (u.byte 101) ∧ Kb b w w' := by
  go_enter Tryz.func211, Tryz.ntmps211
  go_wp2_with fail
  refine (take_byte b u 101 (Or.inr rfl) _ h hs).mono ?_
  rintro e w1 ⟨rfl, h1, h2⟩
  go_wp2_with fail
  go_end0
  exact ⟨rfl, h1, h2⟩

set_option maxHeartbeats 400000 in
theorem rd_close_nil (w : World) : Calls Tryz.prog 211 #[.pointer none] w fun e w' => e = .returned (.tuple #[]) ∧ w = w' := by
  go_enter Tryz.func211, Tryz.ntmps211
  go_wp2_with fail
  refine (take_nil _ _ _).mono ?_
  rintro e w1 ⟨rfl, rfl⟩
  go_wp2_with fail
  go_end0
  exact ⟨rfl, rfl⟩

set_option maxHeartbeats 400000 in
theorem rd_done_nil (w : World) : Calls Tryz.prog 212 #[.pointer none] w fun e w' => e = .returned (.int .i64 2) ∧ w = w' := by
  go_enter Tryz.func212, Tryz.ntmps212
  go_wp2
  go_ret
  exact ⟨rfl, rfl⟩

set_option maxHeartbeats 400000 in
theorem rd_more_nil (w : World) : Calls Tryz.prog 209 #[.pointer none] w fun e w' => e = .returned (.bool false) ∧ w = w' := by
  go_enter Tryz.func209, Tryz.ntmps209
  go_wp2
  go_ret
  exact ⟨rfl, rfl⟩

set_option maxHeartbeats 400000 in
theorem rd_done (b : Nat) (u : St) (w : World) (h : Rd b w u) :
    Calls Tryz.prog 212 #[.pointer (some ⟨b, 0, none⟩)] w fun e w' =>
      e = .returned (.int .i64 u.done) ∧ w = w' := by
  obtain ⟨s, bad⟩ := u
  have c0 := Rdr.rest h
  have c1 := Rdr.wrong h
  cases bad with
  | true =>
    simp only at c0 c1
    go_enter Tryz.func212, Tryz.ntmps212
    go_wp2
    go_ret
    exact ⟨rfl, rfl⟩
  | false =>
    simp only at c0 c1
    cases s with
    | nil =>
      go_enter Tryz.func212, Tryz.ntmps212
      go_wp2
      go_ret
      exact ⟨rfl, rfl⟩
    | cons x s =>
      go_enter Tryz.func212, Tryz.ntmps212
      go_wp2
      go_ret
      exact ⟨rfl, rfl⟩

set_option maxHeartbeats 400000 in
theorem rd_more (b : Nat) (u : St) (w : World) (h : Rd b w u) :
    Calls Tryz.prog 209 #[.pointer (some ⟨b, 0, none⟩)] w fun e w' =>
      e = .returned (.bool u.more) ∧ w = w' := by
  obtain ⟨s, bad⟩ := u
  have c0 := Rdr.rest h
  have c1 := Rdr.wrong h
  cases bad with
  | true =>
    simp only at c0 c1
    go_enter Tryz.func209, Tryz.ntmps209
    go_wp2
    go_ret
    exact ⟨rfl, rfl⟩
  | false =>
    simp only at c0 c1
    cases s with
    | nil =>
      go_enter Tryz.func209, Tryz.ntmps209
      go_wp2
      go_ret
      exact ⟨rfl, rfl⟩
    | cons x s =>
      go_enter Tryz.func209, Tryz.ntmps209
      go_wp2
      go_ret
      exact ⟨congrArg (fun x => Ending.returned (.bool x)) (more_eq x), rfl⟩

set_option maxHeartbeats 400000 in
theorem rd_new (s : ByteArray) (w : World) :
    Calls Tryz.prog 206 #[.string s] w fun e w' =>
      e = .returned (.pointer (some ⟨w.heap.size, 0, none⟩)) ∧ Rd w.heap.size w' ⟨s.data.toList, false⟩ ∧ Below w.heap.size w w' := by
  go_enter Tryz.func206, Tryz.ntmps206
  go_wp2
  go_ret
  refine ⟨rfl, ?_, (Below.refl _ _).alloc (Nat.le_refl _) _⟩
  unfold Rd Rdr
  rw [← ofList_eq s _ rfl]
  exact heap_alloc_new _ _

set_option maxHeartbeats 400000 in
theorem bead_int (n : Int) (hn : Pl.I64 n) (w : World) (hl : Lb w) :
    Calls Tryz.prog 157 #[.int .i64 n] w fun e w' => e = .returned (.string ⟨(Pl.wInt n).toArray⟩) ∧ Below w.heap.size w w' := by
  go_enter Tryz.func157, Tryz.ntmps157
  go_wp2_with fail
  refine (itoa_any n hn _ hl).mono ?_
  rintro e w1 ⟨rfl, h1⟩
  have hlen := Lib.itoa_length_le n hn.1 hn.2
  go_wp2_with fail
  all_goals first | (exfalso; omega) | skip
  go_ret
  exact ⟨congrArg (fun x => Ending.returned (.string x)) ((congrArg (· ++ _) (app_mk [105] _)).trans (app_mk _ [101])), h1⟩

set_option maxHeartbeats 400000 in
theorem bead_text (s : ByteArray) (hs : s.size ≤ 281474976710656) (w : World) (hl : Lb w) :
    Calls Tryz.prog 191 #[.string s] w fun e w' => e = .returned (.string ⟨(Pl.wText s.data.toList).toArray⟩) ∧ Below w.heap.size w w' := by
  go_enter Tryz.func191, Tryz.ntmps191
  go_wp2_with fail
  refine (itoa_any s.size (by unfold Pl.I64; omega) _ hl).mono ?_
  rintro e w1 ⟨rfl, h1⟩
  have hlen := Lib.itoa_length_le s.size (by omega) (by omega)
  go_wp2_with fail
  all_goals first | (exfalso; omega) | skip
  go_ret
  refine ⟨congrArg (fun x => Ending.returned (.string x)) ?_, h1⟩
  exact wText_eq s

theorem join_flat (xs : List (List UInt8)) : Lib.join xs [] = xs.flatten := by
  cases xs with
  | nil => rfl
  | cons x r =>
    rw [Lib.join_cons]
    simp [Lib.joinTail]

set_option maxHeartbeats 400000 in
theorem bead_list (bk o c : Nat) (xs : List ByteArray) (w : World) (hcells : ∀ (j : Nat) x, xs[j]? = some x → w.cell? ⟨bk, o + j, none⟩ = some (.string x)) (hbk : bk < w.heap.size) (hN : xs.length ≤ 140737488355328) (hcap : xs.length ≤ c)
    (hlen : (xs.map (·.data.toList)).flatten.length ≤ 281474976710656) :
    Calls Tryz.prog 159 #[.slice (some ⟨bk, o, none⟩) xs.length c] w fun e w' => e = .returned (.string ⟨(108 :: ((xs.map (·.data.toList)).flatten ++ [101])).toArray⟩) ∧ Below w.heap.size w w' := by
  have C := Any.strings_Join_48 Tryz.lays156 Tryz.Builder_Extra_156 bk o c xs ⟨#[]⟩ w hcells hbk hN hcap (by rw [join_flat]; exact hlen)
  rw [join_flat] at C
  have C := Lib.hid C
  have HC := Lib.hid hcells
  obtain ⟨l, hl⟩ : ∃ l, l = (xs.map (·.data.toList)).flatten := ⟨_, rfl⟩
  rw [← hl] at C hlen ⊢
  have HL := Lib.hid hl
  clear hcells hl
  go_enter Tryz.func159, Tryz.ntmps159
  go_wp2_with fail
  refine C.out.mono ?_
  rintro e w1 ⟨rfl, h1⟩
  go_wp2_with fail
  all_goals first | (exfalso; omega) | skip
  go_ret
  exact ⟨congrArg (fun x => Ending.returned (.string x)) ((congrArg (· ++ _) (app_mk [108] _)).trans (app_mk _ [101])), h1⟩
end Go.Proofs.YtdaoeplblkfapaaGreatDoor

/- PLAIN MATHEMATICS OF BATCHES READ: what a reader meets in a batch's bytes; what bytes are a batch's. -/
namespace Go.Proofs.YtdaoeplblkfapaaGreatDoor

theorem int_good {u : St} (hb : (St.int u).2.bad = false) : u.bad = false ∧ u.s = Pl.wInt (St.int u).1 ++ (St.int u).2.s ∧ Pl.I64 (St.int u).1 := by
  obtain ⟨s, bad⟩ := u
  cases bad with
  | true => exact absurd hb (by simp [St.int])
  | false =>
    cases hr : Pl.rInt s with
    | none => simp [St.int, hr] at hb
    | some p =>
      obtain ⟨n, r⟩ := p
      have h := Pl.rInt_some hr
      simp [St.int, hr]
      exact h
theorem text_good {most : Int} {u : St} (hb : (St.text most u).2.bad = false) : u.bad = false ∧ u.s = Pl.wText (St.text most u).1 ++ (St.text most u).2.s ∧ ((St.text most u).1.length : Int) ≤ most := by
  obtain ⟨s, bad⟩ := u
  cases bad with
  | true => exact absurd hb (by simp [St.text])
  | false =>
    cases hr : Pl.rText most s with
    | none => simp [St.text, hr] at hb
    | some p =>
      obtain ⟨t, r⟩ := p
      obtain ⟨h1, h2, -⟩ := Pl.rText_some hr
      simp [St.text, hr]
      exact ⟨h1, h2⟩
theorem byte_good {c : UInt8} {u : St} (hb : (St.byte c u).bad = false) : u.bad = false ∧ u.s = c :: (St.byte c u).s := by
  obtain ⟨s, bad⟩ := u
  cases bad with
  | true => exact absurd hb (by simp [St.byte])
  | false =>
    cases hr : Pl.rByte c s with
    | none => simp [St.byte, hr] at hb
    | some r =>
      have h := Pl.rByte_some hr
      simp [St.byte, hr]
      exact h
theorem int_w (n : Int) (h : Pl.I64 n) (r : List UInt8) : St.int ⟨Pl.wInt n ++ r, false⟩ = (n, ⟨r, false⟩) := by
  simp [St.int, Pl.rInt_w n h r]
theorem text_w (t : List UInt8) (most : Int) (h : (t.length : Int) ≤ most) (hb : (t.length : Int) ≤ 9223372036854775807) (r : List UInt8) : St.text most ⟨Pl.wText t ++ r, false⟩ = (t, ⟨r, false⟩) := by
  simp [St.text, Pl.rText_w t most h hb r]
theorem byte_w (c : UInt8) (r : List UInt8) : St.byte c ⟨c :: r, false⟩ = ⟨r, false⟩ := by simp [St.byte, Pl.rByte]

/-- A record read: the record, its last number, where the reader stands then. -/
def rdR (u : St) : Pl.Rc × Int × St :=
  (⟨(St.int (St.byte 108 u)).1, (St.text 16 (St.int (St.byte 108 u)).2).1, (St.text 64 (St.text 16 (St.int (St.byte 108 u)).2).2).1, (St.int (St.text 64 (St.text 16 (St.int (St.byte 108 u)).2).2).2).1 == 1⟩,
    (St.int (St.text 64 (St.text 16 (St.int (St.byte 108 u)).2).2).2).1, St.byte 101 (St.int (St.text 64 (St.text 16 (St.int (St.byte 108 u)).2).2).2).2)
theorem goneN_64 (g : Bool) : Pl.I64 (Pl.goneN g) := by unfold Pl.I64 Pl.goneN; cases g <;> simp
theorem rdR_w (x : Pl.Rc) (hx : Pl.recB x = true) (ho : Pl.I64 x.off) (r : List UInt8) : rdR ⟨Pl.encR x ++ r, false⟩ = (x, Pl.goneN x.gone, ⟨r, false⟩) := by
  obtain ⟨hk, hv, -⟩ := Pl.recB_iff.1 hx
  have e : Pl.encR x ++ r = 108 :: (Pl.wInt x.off ++ (Pl.wText x.key ++ (Pl.wText x.val ++ (Pl.wInt (Pl.goneN x.gone) ++ (101 :: r))))) := by simp [Pl.encR]
  unfold rdR
  rw [e, byte_w, int_w _ ho]
  simp only
  rw [text_w _ _ (by omega) (by omega)]
  simp only
  rw [text_w _ _ (by omega) (by omega)]
  simp only
  rw [int_w _ (goneN_64 _)]
  simp only
  rw [byte_w]
  have : (Pl.goneN x.gone == 1) = x.gone := by unfold Pl.goneN; cases x.gone <;> rfl
  rw [this]
theorem rdR_good {u : St} (hb : (rdR u).2.2.bad = false) (hg : (rdR u).2.1 = 0 ∨ (rdR u).2.1 = 1) : u.bad = false ∧ u.s = Pl.encR (rdR u).1 ++ (rdR u).2.2.s := by
  unfold rdR at hb hg ⊢
  simp only at hb hg ⊢
  obtain ⟨b5, e5⟩ := byte_good hb
  obtain ⟨b4, e4, -⟩ := int_good b5
  obtain ⟨b3, e3, -⟩ := text_good b4
  obtain ⟨b2, e2, -⟩ := text_good b3
  obtain ⟨b1, e1, -⟩ := int_good b2
  obtain ⟨b0, e0⟩ := byte_good b1
  refine ⟨b0, ?_⟩
  generalize hn : (St.int (St.text 64 (St.text 16 (St.int (St.byte 108 u)).2).2).2).1 = g at *
  have hgn : Pl.goneN (g == 1) = g := by rcases hg with rfl | rfl <;> rfl
  rw [e0, e1, e2, e3, e4, e5]
  simp only [Pl.encR, hgn]
  simp

/-- The document's loop: at most n records more. -/
def loopR : Nat → St → List Pl.Rc → Option (List Pl.Rc × St)
  | 0, u, acc => some (acc, u)
  | n + 1, u, acc => if u.more = true then (if (rdR u).2.1 < 0 ∨ 1 < (rdR u).2.1 then none else loopR n (rdR u).2.2 (acc ++ [(rdR u).1])) else some (acc, u)
theorem more_rec (x : Pl.Rc) (r : List UInt8) : St.more ⟨Pl.encR x ++ r, false⟩ = true := rfl
theorem more_end (r : List UInt8) : St.more ⟨101 :: r, false⟩ = false := rfl
theorem loop_w (l : List Pl.Rc) (hl : ∀ x ∈ l, Pl.recB x = true ∧ Pl.I64 x.off) (r : List UInt8) : ∀ (n : Nat) (acc : List Pl.Rc), l.length ≤ n → loopR n ⟨Pl.encRs l ++ 101 :: r, false⟩ acc = some (acc ++ l, ⟨101 :: r, false⟩) := by
  induction l with
  | nil =>
    intro n acc _
    cases n with
    | zero => simp [loopR, Pl.encRs]
    | succ n =>
      simp only [loopR]
      rw [show Pl.encRs [] ++ 101 :: r = 101 :: r from rfl, if_neg (by rw [more_end]; decide)]
      simp
  | cons x l ih =>
    intro n acc hn
    cases n with
    | zero => simp at hn
    | succ n =>
      obtain ⟨h1, h2⟩ := hl x List.mem_cons_self
      have e : Pl.encRs (x :: l) ++ 101 :: r = Pl.encR x ++ (Pl.encRs l ++ 101 :: r) := by rw [Pl.encRs_cons, List.append_assoc]
      simp only [loopR]
      rw [e, if_pos (more_rec _ _), rdR_w x h1 h2]
      simp only
      rw [if_neg (by unfold Pl.goneN; split <;> omega), ih (fun y hy => hl y (List.mem_cons_of_mem _ hy)) n _ (by simp at hn; omega)]
      simp
theorem loop_good : ∀ (n : Nat) (u : St) (acc rs : List Pl.Rc) (u' : St), loopR n u acc = some (rs, u') → u'.bad = false → ∃ l, rs = acc ++ l ∧ l.length ≤ n ∧ u.bad = false ∧ u.s = Pl.encRs l ++ u'.s := by
  intro n
  induction n with
  | zero =>
    intro u acc rs u' h hb
    simp only [loopR, Option.some.injEq, Prod.mk.injEq] at h
    obtain ⟨rfl, rfl⟩ := h
    exact ⟨[], by simp, Nat.le_refl _, hb, rfl⟩
  | succ n ih =>
    intro u acc rs u' h hb
    simp only [loopR] at h
    split at h
    · split at h
      · cases h
      · rename_i hg
        obtain ⟨l, h1, h2, h3, h4⟩ := ih _ _ _ _ h hb
        obtain ⟨h5, h6⟩ := rdR_good h3 (by omega)
        refine ⟨(rdR u).1 :: l, by rw [h1]; simp, by simp; omega, h5, ?_⟩
        rw [h6, h4, Pl.encRs_cons, List.append_assoc]
    · simp only [Option.some.injEq, Prod.mk.injEq] at h
      obtain ⟨rfl, rfl⟩ := h
      exact ⟨[], by simp, Nat.zero_le _, hb, rfl⟩

/-- The head of a batch read. -/
def rdH (u : St) : (Int × Int × Int × Int × Int) × St :=
  (((St.int (St.byte 108 u)).1, (St.int (St.int (St.byte 108 u)).2).1, (St.int (St.int (St.int (St.byte 108 u)).2).2).1, (St.int (St.int (St.int (St.int (St.byte 108 u)).2).2).2).1, (St.int (St.int (St.int (St.int (St.int (St.byte 108 u)).2).2).2).2).1),
    (St.int (St.int (St.int (St.int (St.int (St.byte 108 u)).2).2).2).2).2)
/-- What the document's Decode answers. -/
def decB (s : List UInt8) : Option Pl.Bt :=
  match loopR 9 (rdH ⟨s, false⟩).2 [] with
  | none => none
  | some (rs, u) => if (St.byte 101 u).done = 0 ∧ Pl.goodB ⟨(rdH ⟨s, false⟩).1.1, (rdH ⟨s, false⟩).1.2.1, (rdH ⟨s, false⟩).1.2.2.1, (rdH ⟨s, false⟩).1.2.2.2.1, (rdH ⟨s, false⟩).1.2.2.2.2, rs⟩ = true then some ⟨(rdH ⟨s, false⟩).1.1, (rdH ⟨s, false⟩).1.2.1, (rdH ⟨s, false⟩).1.2.2.1, (rdH ⟨s, false⟩).1.2.2.2.1, (rdH ⟨s, false⟩).1.2.2.2.2, rs⟩ else none
theorem num_64 {n : Int} (h0 : 0 ≤ n) (h1 : n ≤ 1099511627776) : Pl.I64 n := ⟨by omega, by omega⟩
theorem rdH_w {b : Pl.Bt} (h : Pl.goodB b = true) : rdH ⟨Pl.enc b, false⟩ = ((b.base, b.count, b.prod, b.seq, b.time), ⟨Pl.encRs b.recs ++ [101], false⟩) := by
  obtain ⟨h1, h2, h3, h4, h5, h6, -⟩ := Pl.goodB_iff.1 h
  have e : Pl.enc b = 108 :: (Pl.wInt b.base ++ (Pl.wInt b.count ++ (Pl.wInt b.prod ++ (Pl.wInt b.seq ++ (Pl.wInt b.time ++ (Pl.encRs b.recs ++ [101])))))) := by simp [Pl.enc]
  unfold rdH
  rw [e, byte_w, int_w _ (num_64 h1.1 h1.2)]
  simp only
  rw [int_w _ (num_64 (by omega) (by omega))]
  simp only
  rw [int_w _ (num_64 h3.1 h3.2)]
  simp only
  rw [int_w _ (num_64 h4.1 h4.2)]
  simp only
  rw [int_w _ (num_64 h5.1 h5.2)]
theorem dec_enc {b : Pl.Bt} (h : Pl.goodB b = true) : decB (Pl.enc b) = some b := by
  have hr := Pl.good_recs h
  have h8 := (Pl.enc_short h).2.2
  unfold decB
  rw [rdH_w h]
  simp only
  rw [show ([101] : List UInt8) = 101 :: [] from rfl, loop_w b.recs (fun x hx => ⟨(hr x hx).1, num_64 (hr x hx).2.1 (hr x hx).2.2⟩) [] 9 [] (by omega)]
  simp only [List.nil_append]
  rw [byte_w, if_pos ⟨rfl, h⟩]
theorem enc_dec {s : List UInt8} {b : Pl.Bt} (h : decB s = some b) : Pl.goodB b = true ∧ s = Pl.enc b := by
  unfold decB at h
  cases hl : loopR 9 (rdH ⟨s, false⟩).2 [] with
  | none => rw [hl] at h; cases h
  | some p =>
    obtain ⟨rs, u⟩ := p
    rw [hl] at h
    simp only at h
    split at h
    · rename_i hc
      obtain ⟨hd, hg⟩ := hc
      have hb := Option.some.inj h
      have hbad : (St.byte 101 u).bad = false ∧ (St.byte 101 u).s = [] := by
        generalize St.byte 101 u = q at hd
        obtain ⟨qs, qb⟩ := q
        cases qb with
        | true => exact absurd hd (by simp [St.done])
        | false => cases qs with
          | nil => exact ⟨rfl, rfl⟩
          | cons x r => exact absurd hd (by simp [St.done])
      obtain ⟨b9, e9⟩ := byte_good hbad.1
      obtain ⟨l, h1, h2, h3, h4⟩ := loop_good 9 _ _ _ _ hl b9
      rw [List.nil_append] at h1
      subst h1
      refine ⟨hb ▸ hg, ?_⟩
      rw [← hb]
      unfold rdH at h3 h4 ⊢
      simp only at h3 h4 ⊢
      obtain ⟨c5, f5, -⟩ := int_good h3
      obtain ⟨c4, f4, -⟩ := int_good c5
      obtain ⟨c3, f3, -⟩ := int_good c4
      obtain ⟨c2, f2, -⟩ := int_good c3
      obtain ⟨c1, f1, -⟩ := int_good c2
      obtain ⟨-, f0⟩ := byte_good c1
      have f0' : s = 108 :: (St.byte 108 ⟨s, false⟩).s := f0
      rw [hbad.2] at e9
      rw [e9] at h4
      conv => lhs; rw [f0', f1, f2, f3, f4, f5, h4]
      simp [Pl.enc]
    · cases h
theorem enc_inj {a b : Pl.Bt} (ha : Pl.goodB a = true) (hb : Pl.goodB b = true) (h : Pl.enc a = Pl.enc b) : a = b := by
  have h1 := dec_enc ha
  rw [h, dec_enc hb] at h1
  exact (Option.some.inj h1).symm
/-- What Decode answers, whoever decodes: the batch whose bytes these are, or none. -/
def Decoded (s : List UInt8) (r : Option Pl.Bt) : Prop := (∃ b, r = some b ∧ Pl.goodB b = true ∧ s = Pl.enc b) ∨ (r = none ∧ ∀ b, Pl.goodB b = true → s ≠ Pl.enc b)
theorem decB_decoded (s : List UInt8) : Decoded s (decB s) := by
  cases h : decB s with
  | some b => exact Or.inl ⟨b, rfl, enc_dec h⟩
  | none => exact Or.inr ⟨rfl, fun b hb e => by rw [e, dec_enc hb] at h; cases h⟩
theorem decoded_eq {s : List UInt8} {r q : Option Pl.Bt} (h : Decoded s r) (k : Decoded s q) : r = q := by
  rcases h with ⟨a, rfl, ha, ea⟩ | ⟨rfl, ha⟩ <;> rcases k with ⟨b, rfl, hb, eb⟩ | ⟨rfl, hb⟩
  · rw [enc_inj ha hb (ea.symm.trans eb)]
  · exact absurd ea (hb a ha)
  · exact absurd eb (ha b hb)
  · rfl
end Go.Proofs.YtdaoeplblkfapaaGreatDoor

/- PLAIN MATHEMATICS OF THE CHECK: the register's step, its sum over bytes, that it is linear and loses nothing. Nothing here knows the program. -/
namespace Go.Proofs.YtdaoeplblkfapaaGreatDoor.Fr.Pl

def P : BitVec 32 := 0xedb88320#32
/-- One bit's step. -/
def sh (r : BitVec 32) : BitVec 32 := if r.getLsbD 0 then (r >>> 1) ^^^ P else r >>> 1
def shn : Nat → BitVec 32 → BitVec 32
  | 0, r => r
  | n + 1, r => shn n (sh r)
def word8 (b : UInt8) : BitVec 32 := BitVec.ofNat 32 b.toNat
def byS (r : BitVec 32) (b : UInt8) : BitVec 32 := shn 8 (r ^^^ word8 b)
def regs (l : List UInt8) (r : BitVec 32) : BitVec 32 := l.foldl byS r
def sum (l : List UInt8) : BitVec 32 := ~~~ (regs l (BitVec.allOnes 32))

theorem sh_xor (a b : BitVec 32) : sh (a ^^^ b) = sh a ^^^ sh b := by
  unfold sh
  rw [BitVec.getLsbD_xor, BitVec.ushiftRight_xor_distrib]
  cases a.getLsbD 0 <;> cases b.getLsbD 0 <;> simp
  · rw [BitVec.xor_assoc]
  · rw [BitVec.xor_assoc, BitVec.xor_assoc, BitVec.xor_comm P]
  · rw [BitVec.xor_assoc, BitVec.xor_comm P, BitVec.xor_assoc, BitVec.xor_self, BitVec.xor_zero]
theorem lsb_nat (r : BitVec 32) : r.getLsbD 0 = decide (r.toNat % 2 = 1) := by
  rw [BitVec.getLsbD, Nat.testBit_zero]
theorem sh_zero (r : BitVec 32) (h : sh r = 0#32) : r = 0#32 := by
  unfold sh at h
  rw [lsb_nat] at h
  have hr := r.isLt
  apply BitVec.eq_of_toNat_eq
  by_cases h1 : r.toNat % 2 = 1
  · simp only [h1, decide_true, if_true] at h
    have h2 := BitVec.xor_eq_zero_iff.1 h
    have h3 := congrArg BitVec.toNat h2
    rw [BitVec.toNat_ushiftRight, Nat.shiftRight_eq_div_pow] at h3
    have hP : P.toNat = 3988292384 := rfl
    omega
  · simp only [h1, decide_false] at h
    have h3 := congrArg BitVec.toNat h
    simp only [Bool.false_eq_true, if_false] at h3
    rw [BitVec.toNat_ushiftRight, Nat.shiftRight_eq_div_pow] at h3
    have hP : (0#32).toNat = 0 := rfl
    omega
theorem xor_zero_eq {a b : BitVec 32} (h : a ^^^ b = 0#32) : a = b := BitVec.xor_eq_zero_iff.1 h
theorem sh_inj {a b : BitVec 32} (h : sh a = sh b) : a = b := by
  apply xor_zero_eq
  apply sh_zero
  rw [sh_xor, h, BitVec.xor_self]
theorem shn_xor (n : Nat) (a b : BitVec 32) : shn n (a ^^^ b) = shn n a ^^^ shn n b := by
  induction n generalizing a b with
  | zero => rfl
  | succ n ih => simp only [shn, sh_xor, ih]
theorem shn_inj {n : Nat} {a b : BitVec 32} (h : shn n a = shn n b) : a = b := by
  induction n generalizing a b with
  | zero => exact h
  | succ n ih => exact sh_inj (ih h)
theorem shn_succ (n : Nat) (a : BitVec 32) : shn (n + 1) a = sh (shn n a) := by
  induction n generalizing a with
  | zero => rfl
  | succ n ih => rw [shn, ih]; rfl
theorem shn_add (m n : Nat) (a : BitVec 32) : shn (m + n) a = shn n (shn m a) := by
  induction m generalizing a with
  | zero => rw [Nat.zero_add]; rfl
  | succ m ih => rw [Nat.succ_add]; simp only [shn]; exact ih _
/-- What has no bit at its low end is only moved. -/
theorem sh_even (z : Nat) (h : 2 * z < 2 ^ 32) : sh (BitVec.ofNat 32 (2 * z)) = BitVec.ofNat 32 z := by
  unfold sh
  rw [lsb_nat]
  have e : (BitVec.ofNat 32 (2 * z)).toNat = 2 * z := by rw [BitVec.toNat_ofNat]; exact Nat.mod_eq_of_lt h
  rw [e]
  have : ¬ (2 * z % 2 = 1) := by omega
  simp only [this, decide_false, Bool.false_eq_true, if_false]
  apply BitVec.eq_of_toNat_eq
  rw [BitVec.toNat_ushiftRight, e, Nat.shiftRight_eq_div_pow, BitVec.toNat_ofNat, Nat.mod_eq_of_lt (by omega)]
  omega
theorem shn_up (n z : Nat) (h : 2 ^ n * z < 2 ^ 32) : shn n (BitVec.ofNat 32 (2 ^ n * z)) = BitVec.ofNat 32 z := by
  induction n generalizing z with
  | zero => simp [shn]
  | succ n ih =>
    have e : 2 ^ (n + 1) * z = 2 * (2 ^ n * z) := by rw [Nat.pow_succ, Nat.mul_comm (2 ^ n) 2, Nat.mul_assoc]
    rw [e] at h ⊢
    rw [shn, sh_even _ h]
    exact ih z (by omega)

/-- Four bytes as a number, the lowest first. -/
def num (a b c d : Nat) : Nat := a + 256 * b + 65536 * c + 16777216 * d
theorem ofNat_add_xor (a z : Nat) (ha : a < 256) : BitVec.ofNat 32 (a + 256 * z) = BitVec.ofNat 32 a ^^^ BitVec.ofNat 32 (256 * z) := by
  apply BitVec.eq_of_toNat_eq
  rw [BitVec.toNat_xor, BitVec.toNat_ofNat, BitVec.toNat_ofNat, BitVec.toNat_ofNat, ← Nat.xor_mod_two_pow]
  congr 1
  apply Nat.eq_of_testBit_eq
  intro i
  rw [Nat.testBit_xor, show a + 256 * z = 2 ^ 8 * z + a by omega, Nat.testBit_two_pow_mul_add z (show a < 2 ^ 8 from ha), show 256 * z = 2 ^ 8 * z from rfl, Nat.testBit_two_pow_mul]
  by_cases h : i < 8
  · have h2 : ¬ 8 ≤ i := by omega
    simp [h, h2]
  · have h2 : 8 ≤ i := by omega
    have h3 : a.testBit i = false := Nat.testBit_lt_two_pow (Nat.lt_of_lt_of_le (show a < 2 ^ 8 from ha) (Nat.pow_le_pow_right (by omega) h2))
    simp [h, h2, h3]
theorem byS_num (r : BitVec 32) (b : UInt8) (z : Nat) (h : 256 * z < 2 ^ 32) : shn 8 (r ^^^ BitVec.ofNat 32 (b.toNat + 256 * z)) = byS r b ^^^ BitVec.ofNat 32 z := by
  have hb : b.toNat < 256 := b.toNat_lt
  rw [ofNat_add_xor _ _ hb, ← BitVec.xor_assoc, shn_xor]
  congr 1
  exact shn_up 8 z h
/-- Four bytes at once. -/
theorem four_at_once (r : BitVec 32) (a b c d : UInt8) : regs [a, b, c, d] r = shn 32 (r ^^^ BitVec.ofNat 32 (num a.toNat b.toNat c.toNat d.toNat)) := by
  have ha : a.toNat < 256 := a.toNat_lt
  have hb : b.toNat < 256 := b.toNat_lt
  have hc : c.toNat < 256 := c.toNat_lt
  have hd : d.toNat < 256 := d.toNat_lt
  have e : num a.toNat b.toNat c.toNat d.toNat = a.toNat + 256 * (b.toNat + 256 * (c.toNat + 256 * d.toNat)) := by unfold num; omega
  rw [e, show ∀ x, shn 32 x = shn (8 + (8 + (8 + 8))) x from fun _ => rfl, shn_add, byS_num _ _ _ (by omega), shn_add, byS_num _ _ _ (by omega), shn_add, byS_num _ _ _ (by omega)]
  rfl
theorem regs_append (l m : List UInt8) (r : BitVec 32) : regs (l ++ m) r = regs m (regs l r) := List.foldl_append
theorem regs_cons (b : UInt8) (l : List UInt8) (r : BitVec 32) : regs (b :: l) r = regs l (byS r b) := rfl
theorem byS_inj {a b : BitVec 32} {c : UInt8} (h : byS a c = byS b c) : a = b := by
  have := shn_inj h
  have h2 := congrArg (· ^^^ word8 c) this
  simpa [BitVec.xor_assoc] using h2
theorem regs_inj {l : List UInt8} {a b : BitVec 32} (h : regs l a = regs l b) : a = b := by
  induction l generalizing a b with
  | nil => exact h
  | cons c l ih => exact byS_inj (ih h)

def le (v : BitVec 32) : List UInt8 := [UInt8.ofNat (v.toNat % 256), UInt8.ofNat (v.toNat / 256 % 256), UInt8.ofNat (v.toNat / 65536 % 256), UInt8.ofNat (v.toNat / 16777216 % 256)]
theorem toNat_ofNat256 (n : Nat) : (UInt8.ofNat (n % 256)).toNat = n % 256 := by simp
theorem num_le (v : BitVec 32) : num (UInt8.ofNat (v.toNat % 256)).toNat (UInt8.ofNat (v.toNat / 256 % 256)).toNat (UInt8.ofNat (v.toNat / 65536 % 256)).toNat (UInt8.ofNat (v.toNat / 16777216 % 256)).toNat = v.toNat := by
  rw [toNat_ofNat256, toNat_ofNat256, toNat_ofNat256, toNat_ofNat256]
  have := v.isLt
  unfold num
  omega
theorem regs_le (r v : BitVec 32) : regs (le v) r = shn 32 (r ^^^ v) := by
  unfold le
  rw [four_at_once, num_le, BitVec.ofNat_toNat, BitVec.setWidth_eq]
/-- A text and its check have one and the same check. -/
theorem sum_rest (l : List UInt8) : sum (l ++ le (sum l)) = 0x2144df1c#32 := by
  have e : ∀ r : BitVec 32, r ^^^ ~~~ r = BitVec.allOnes 32 := fun r => by
    rw [← BitVec.xor_allOnes (x := r), ← BitVec.xor_assoc, BitVec.xor_self, BitVec.zero_xor]
  rw [sum, regs_append, regs_le, sum, e]
  decide +kernel
/-- Four bytes that are others make another check. -/
theorem sum_tells {l m : List UInt8} {a b c d a' b' c' d' : UInt8} (h : sum (l ++ [a, b, c, d] ++ m) = sum (l ++ [a', b', c', d'] ++ m)) : [a, b, c, d] = [a', b', c', d'] := by
  have h1 := BitVec.not_inj.1 (show ~~~ _ = ~~~ _ from h)
  rw [regs_append, regs_append, regs_append, regs_append] at h1
  have h2 := regs_inj h1
  rw [four_at_once, four_at_once] at h2
  have h3 := shn_inj h2
  have h4 := congrArg (regs l (BitVec.allOnes 32) ^^^ ·) h3
  simp only [← BitVec.xor_assoc, BitVec.xor_self, BitVec.zero_xor] at h4
  have h5 := congrArg BitVec.toNat h4
  have ha : a.toNat < 256 := a.toNat_lt
  have hb : b.toNat < 256 := b.toNat_lt
  have hc : c.toNat < 256 := c.toNat_lt
  have hd : d.toNat < 256 := d.toNat_lt
  have ha' : a'.toNat < 256 := a'.toNat_lt
  have hb' : b'.toNat < 256 := b'.toNat_lt
  have hc' : c'.toNat < 256 := c'.toNat_lt
  have hd' : d'.toNat < 256 := d'.toNat_lt
  rw [BitVec.toNat_ofNat, BitVec.toNat_ofNat] at h5
  unfold num at h5
  rw [Nat.mod_eq_of_lt (by omega), Nat.mod_eq_of_lt (by omega)] at h5
  rw [show a = a' from UInt8.toNat_inj.1 (by omega), show b = b' from UInt8.toNat_inj.1 (by omega), show c = c' from UInt8.toNat_inj.1 (by omega), show d = d' from UInt8.toNat_inj.1 (by omega)]

/-- The document's own step, bit by bit of a byte. -/
def bit (b : UInt8) (k : Nat) : Nat := b.toNat / 2 ^ k % 2
def rk (r : BitVec 32) (b : UInt8) : Nat → BitVec 32
  | 0 => r
  | k + 1 => if bit b k = (rk r b k).toNat % 2 then (rk r b k) >>> 1 else (rk r b k) >>> 1 ^^^ P
theorem sh_nat (r : BitVec 32) : sh r = if r.toNat % 2 = 1 then (r >>> 1) ^^^ P else r >>> 1 := by
  unfold sh
  rw [lsb_nat]
  simp only [decide_eq_true_eq]
theorem half (n : Nat) (hn : n < 256) : BitVec.ofNat 32 n >>> 1 = BitVec.ofNat 32 (n / 2) := by
  apply BitVec.eq_of_toNat_eq
  rw [BitVec.toNat_ushiftRight, Nat.shiftRight_eq_div_pow, BitVec.toNat_ofNat, BitVec.toNat_ofNat, Nat.mod_eq_of_lt (by omega), Nat.mod_eq_of_lt (by omega)]
theorem rk_eq (r : BitVec 32) (b : UInt8) (k : Nat) : rk r b k ^^^ BitVec.ofNat 32 (b.toNat / 2 ^ k) = shn k (r ^^^ word8 b) := by
  have hb : b.toNat < 256 := b.toNat_lt
  induction k with
  | zero => simp [rk, shn, word8]
  | succ k ih =>
    have hq : b.toNat / 2 ^ k < 256 := Nat.lt_of_le_of_lt (Nat.div_le_self _ _) hb
    rw [shn_succ, ← ih, sh_nat, BitVec.toNat_xor, BitVec.toNat_ofNat, Nat.mod_eq_of_lt (show b.toNat / 2 ^ k < 2 ^ 32 by omega), BitVec.ushiftRight_xor_distrib, half _ hq]
    have e : b.toNat / 2 ^ (k + 1) = b.toNat / 2 ^ k / 2 := by rw [Nat.pow_succ, Nat.div_div_eq_div_mul]
    have ex : ((rk r b k).toNat ^^^ b.toNat / 2 ^ k) % 2 = ((rk r b k).toNat % 2 + b.toNat / 2 ^ k % 2) % 2 := by
      have h0 : ∀ x y : Nat, (x ^^^ y) % 2 = (x % 2 + y % 2) % 2 := fun x y => by
        have h1 : (x ^^^ y) % 2 = (x % 2) ^^^ (y % 2) := Nat.xor_mod_two_pow (n := 1)
        rw [h1]
        rcases Nat.mod_two_eq_zero_or_one x with h | h <;> rcases Nat.mod_two_eq_zero_or_one y with h' | h' <;> rw [h, h'] <;> rfl
      exact h0 _ _
    rw [e, ex]
    rw [show rk r b (k + 1) = if b.toNat / 2 ^ k % 2 = (rk r b k).toNat % 2 then (rk r b k) >>> 1 else (rk r b k) >>> 1 ^^^ P from rfl]
    have h1 : (rk r b k).toNat % 2 < 2 := Nat.mod_lt _ (by omega)
    have h2 : b.toNat / 2 ^ k % 2 < 2 := Nat.mod_lt _ (by omega)
    by_cases h : b.toNat / 2 ^ k % 2 = (rk r b k).toNat % 2
    · rw [if_pos h, if_neg (by omega)]
    · rw [if_neg h, if_pos (by omega), BitVec.xor_assoc, BitVec.xor_assoc, BitVec.xor_comm P]
theorem rk_byS (r : BitVec 32) (b : UInt8) : rk r b 8 = byS r b := by
  have hb : b.toNat < 256 := b.toNat_lt
  have h := rk_eq r b 8
  rw [show b.toNat / 2 ^ 8 = 0 by omega, show BitVec.ofNat 32 0 = 0#32 from rfl, BitVec.xor_zero] at h
  exact h
end Go.Proofs.YtdaoeplblkfapaaGreatDoor.Fr.Pl

/- PLAIN MATHEMATICS OF FRAMES: the frame that a row of bytes begins with, all frames of it. Nothing here knows the program. -/
namespace Go.Proofs.YtdaoeplblkfapaaGreatDoor.Fr.Pl

/-- A text's frame. -/
def frame (l : List UInt8) : List UInt8 := le (BitVec.ofNat 32 l.length) ++ le (sum l) ++ l

/-- The text of the frame with which these bytes begin, and the error. -/
def nx : List UInt8 → List UInt8 × Nat
  | a :: b :: c :: d :: e :: f :: g :: h :: t =>
    if 16384 < num a.toNat b.toNat c.toNat d.toNat then ([], 4)
    else if t.length < num a.toNat b.toNat c.toNat d.toNat then ([], 5)
    else if sum (t.take (num a.toNat b.toNat c.toNat d.toNat)) = BitVec.ofNat 32 (num e.toNat f.toNat g.toNat h.toNat) then (t.take (num a.toNat b.toNat c.toNat d.toNat), 0)
    else ([], 6)
  | _ => ([], 5)
/-- What Next answers. -/
def next (l : List UInt8) (z : Int) : List UInt8 × Int × Nat :=
  if z < 0 ∨ (l.length : Int) < z then ([], 0, 1)
  else if (nx (l.drop z.toNat)).2 = 0 then ((nx (l.drop z.toNat)).1, z + 8 + (nx (l.drop z.toNat)).1.length, 0)
  else ([], 0, (nx (l.drop z.toNat)).2)

theorem eight {l : List UInt8} (h : 8 ≤ l.length) : ∃ a b c d e f g i t, l = a :: b :: c :: d :: e :: f :: g :: i :: t := by
  match l, h with
  | a :: b :: c :: d :: e :: f :: g :: i :: t, _ => exact ⟨a, b, c, d, e, f, g, i, t, rfl⟩
theorem nx_few {l : List UInt8} (h : l.length < 8) : nx l = ([], 5) := by
  match l, h with
  | [], _ => rfl
  | [_], _ => rfl
  | [_, _], _ => rfl
  | [_, _, _], _ => rfl
  | [_, _, _, _], _ => rfl
  | [_, _, _, _, _], _ => rfl
  | [_, _, _, _, _, _], _ => rfl
  | [_, _, _, _, _, _, _], _ => rfl
  | a :: b :: c :: d :: e :: f :: g :: i :: t, h => exact absurd h (by simp)
theorem num_lt (a b c d : UInt8) : num a.toNat b.toNat c.toNat d.toNat < 4294967296 := by
  have ha : a.toNat < 256 := a.toNat_lt
  have hb : b.toNat < 256 := b.toNat_lt
  have hc : c.toNat < 256 := c.toNat_lt
  have hd : d.toNat < 256 := d.toNat_lt
  unfold num
  omega
theorem ofNat_num {v : BitVec 32} {m : Nat} (hm : m < 4294967296) : (v = BitVec.ofNat 32 m) ↔ v.toNat = m := by
  constructor
  · intro h; rw [h, BitVec.toNat_ofNat, Nat.mod_eq_of_lt (show m < 2 ^ 32 from hm)]
  · intro h; rw [← h, BitVec.ofNat_toNat, BitVec.setWidth_eq]

/-- A frame that is right: its bytes are its text's frame. -/
theorem le_num (a b c d : UInt8) : le (BitVec.ofNat 32 (num a.toNat b.toNat c.toNat d.toNat)) = [a, b, c, d] := by
  have ha : a.toNat < 256 := a.toNat_lt
  have hb : b.toNat < 256 := b.toNat_lt
  have hc : c.toNat < 256 := c.toNat_lt
  have hd : d.toNat < 256 := d.toNat_lt
  unfold le
  rw [BitVec.toNat_ofNat, Nat.mod_eq_of_lt (show num a.toNat b.toNat c.toNat d.toNat < 2 ^ 32 from num_lt a b c d)]
  unfold num
  rw [show (a.toNat + 256 * b.toNat + 65536 * c.toNat + 16777216 * d.toNat) % 256 = a.toNat by omega,
    show (a.toNat + 256 * b.toNat + 65536 * c.toNat + 16777216 * d.toNat) / 256 % 256 = b.toNat by omega,
    show (a.toNat + 256 * b.toNat + 65536 * c.toNat + 16777216 * d.toNat) / 65536 % 256 = c.toNat by omega,
    show (a.toNat + 256 * b.toNat + 65536 * c.toNat + 16777216 * d.toNat) / 16777216 % 256 = d.toNat by omega]
  simp
theorem frame_length (l : List UInt8) : (frame l).length = 8 + l.length := by
  simp [frame, le]; omega
theorem nx_ok {l : List UInt8} (h : (nx l).2 = 0) : (nx l).1.length ≤ 16384 ∧ ∃ r, l = frame (nx l).1 ++ r := by
  rcases Nat.lt_or_ge l.length 8 with h8 | h8
  · rw [nx_few h8] at h; cases h
  · obtain ⟨a, b, c, d, e, f, g, i, t, rfl⟩ := eight h8
    have hn := num_lt a b c d
    simp only [nx] at h ⊢
    split at h
    · cases h
    · split at h
      · cases h
      · split at h
        · rename_i h1 h2 h3
          rw [if_neg h1, if_neg h2, if_pos h3]
          have hl : (t.take (num a.toNat b.toNat c.toNat d.toNat)).length = num a.toNat b.toNat c.toNat d.toNat := by rw [List.length_take]; omega
          refine ⟨by show (t.take _).length ≤ _; omega, t.drop (num a.toNat b.toNat c.toNat d.toNat), ?_⟩
          unfold frame
          show _ = le (BitVec.ofNat 32 (t.take _).length) ++ le (sum (t.take _)) ++ t.take _ ++ _
          rw [hl, h3, le_num, le_num, List.append_assoc, List.take_append_drop]
          rfl
        · cases h
theorem le_cons (v : BitVec 32) : ∃ a b c d : UInt8, le v = [a, b, c, d] ∧ num a.toNat b.toNat c.toNat d.toNat = v.toNat := ⟨_, _, _, _, rfl, num_le v⟩
/-- A frame is found as it was put, whatever follows. -/
theorem nx_frame (l r : List UInt8) (h : l.length ≤ 16384) : nx (frame l ++ r) = (l, 0) := by
  obtain ⟨a, b, c, d, e1, n1⟩ := le_cons (BitVec.ofNat 32 l.length)
  obtain ⟨e, f, g, i, e2, n2⟩ := le_cons (sum l)
  have hf : frame l ++ r = a :: b :: c :: d :: e :: f :: g :: i :: (l ++ r) := by
    unfold frame
    rw [e1, e2]
    simp
  rw [BitVec.toNat_ofNat, Nat.mod_eq_of_lt (by omega)] at n1
  rw [hf]
  simp only [nx]
  rw [n1, n2, if_neg (by omega), if_neg (by rw [List.length_append]; omega), List.take_left, if_pos (by rw [BitVec.ofNat_toNat, BitVec.setWidth_eq])]
/-- Of a frame that is cut off nothing is found. -/
theorem nx_cut (l : List UInt8) (n : Nat) (h : n < 8 + l.length) (hl : l.length ≤ 16384) : (nx ((frame l).take n)).2 ≠ 0 := by
  intro hz
  obtain ⟨-, r, hr⟩ := nx_ok hz
  obtain ⟨a, b, c, d, e1, n1⟩ := le_cons (BitVec.ofNat 32 l.length)
  generalize (nx ((frame l).take n)).1 = m at hr
  have hlen := congrArg List.length hr
  rw [List.length_take, List.length_append, frame_length, frame_length] at hlen
  have h8 : 8 ≤ n := by omega
  obtain ⟨a', b', c', d', e1', n1'⟩ := le_cons (BitVec.ofNat 32 m.length)
  have ht : (frame l).take n = a :: b :: c :: d :: ((le (sum l) ++ l).take (n - 4)) := by
    unfold frame
    rw [e1]
    obtain ⟨k, rfl⟩ : ∃ k, n = k + 4 := ⟨n - 4, by omega⟩
    simp
  rw [ht] at hr
  unfold frame at hr
  rw [e1'] at hr
  simp only [List.cons_append, List.nil_append, List.cons.injEq] at hr
  obtain ⟨ha, hb, hc, hd, -⟩ := hr
  rw [ha, hb, hc, hd, n1'] at n1
  rw [BitVec.toNat_ofNat, BitVec.toNat_ofNat, Nat.mod_eq_of_lt (show m.length < 2 ^ 32 by omega), Nat.mod_eq_of_lt (show l.length < 2 ^ 32 by omega)] at n1
  omega

/-- The texts of all frames, as far as they are right, and how many bytes these have. -/
def scanF : Nat → List UInt8 → List (List UInt8) × Nat
  | 0, _ => ([], 0)
  | n + 1, l =>
    if (nx l).2 = 0 then ((nx l).1 :: (scanF n (l.drop (8 + (nx l).1.length))).1, 8 + (nx l).1.length + (scanF n (l.drop (8 + (nx l).1.length))).2)
    else ([], 0)
def scan (l : List UInt8) : List (List UInt8) × Nat := scanF (l.length + 1) l
theorem scanF_more (n m : Nat) (l : List UInt8) (h : l.length < n) (h' : l.length < m) : scanF n l = scanF m l := by
  induction n generalizing m l with
  | zero => exact absurd h (Nat.not_lt_zero _)
  | succ n ih =>
    cases m with
    | zero => exact absurd h' (Nat.not_lt_zero _)
    | succ m =>
      simp only [scanF]
      split
      · rename_i hz
        obtain ⟨-, r, hr⟩ := nx_ok hz
        have hl := congrArg List.length hr
        rw [List.length_append, frame_length] at hl
        have hd : (l.drop (8 + (nx l).1.length)).length < l.length := by rw [List.length_drop]; omega
        rw [ih m _ (by omega) (by omega)]
      · rfl
theorem scan_stop {l : List UInt8} (h : (nx l).2 ≠ 0) : scan l = ([], 0) := by
  simp only [scan, scanF]
  rw [if_neg h]
theorem scan_step {l : List UInt8} (h : (nx l).2 = 0) : scan l = ((nx l).1 :: (scan (l.drop (8 + (nx l).1.length))).1, 8 + (nx l).1.length + (scan (l.drop (8 + (nx l).1.length))).2) := by
  obtain ⟨-, r, hr⟩ := nx_ok h
  have hl := congrArg List.length hr
  rw [List.length_append, frame_length] at hl
  have e : scanF l.length (l.drop (8 + (nx l).1.length)) = scan (l.drop (8 + (nx l).1.length)) := scanF_more _ _ _ (by rw [List.length_drop]; omega) (by omega)
  rw [← e]
  show scanF (l.length + 1) l = _
  simp only [scanF]
  rw [if_pos h]
theorem scan_frame (l r : List UInt8) (h : l.length ≤ 16384) : scan (frame l ++ r) = (l :: (scan r).1, 8 + l.length + (scan r).2) := by
  have hn := nx_frame l r h
  rw [scan_step (by rw [hn]), hn]
  rw [show (frame l ++ r).drop (8 + l.length) = r by rw [← frame_length, List.drop_left]]
end Go.Proofs.YtdaoeplblkfapaaGreatDoor.Fr.Pl
