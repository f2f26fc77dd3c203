/- (*bead.Reader).take at a letter; at a reader that is wrong, or nil; the reader's methods; New. -/
import Derived.Test.YtmkinnheoejphaaGreatDoorWalk2
namespace Go.Proofs.YtmkinnheoejphaaGreatDoor
open Go.RowKit

theorem rByte_cases {c : UInt8} {s : ByteArray} (h : Pl.rByte c s.data.toList = none) : s = ⟨#[]⟩ ∨ ∃ x r, x ≠ c ∧ s = ⟨(x :: r).toArray⟩ := by
  cases hs : s.data.toList with
  | nil => exact Or.inl (ofList_eq s [] hs.symm)
  | cons x r =>
    refine Or.inr ⟨x, r, ?_, ofList_eq s _ hs.symm⟩
    intro e
    rw [hs] at h
    simp [Pl.rByte, e] at h

set_option maxHeartbeats 1000000 in
set_option maxRecDepth 100000 in
set_option maxRecDepth 100000 in
theorem take_byte_ok (b : Nat) (s : ByteArray) (c : UInt8) (hc : c = 108 ∨ c = 101) (r : List UInt8) (hr : Pl.rByte c s.data.toList = some r) (w : World) (h : Rdr b w s false) (hs : s.size ≤ 281474976710656) :
    Calls Tryz.prog 67 #[.pointer (some ⟨b, 0, none⟩), .int .u8 c.toNat, .int .i64 0] w fun e w' =>
      e = .returned (.tuple #[.int .i64 0, .string ⟨#[]⟩]) ∧ Rdr b w' ⟨r.toArray⟩ false ∧ Kb b w w' := by
  obtain rfl := ofList_eq s _ (Pl.rByte_some hr).symm
  clear hr
  have hs : r.length ≤ 281474976710656 := by
    have : (⟨(c :: r).toArray⟩ : ByteArray).size = r.length + 1 := by show (c :: r).toArray.size = _; simp
    omega
  have c0 := h.rest
  have c1 := h.wrong
  have f0 := h.free0
  rcases hc with rfl | rfl
  · go_enter Tryz.func67, Tryz.ntmps67
    go_wp2_with fail
    refine wp_scope_fwd 0 rfl ?_
    go_wp2_with fail
    · rw [jump_ret]
      go_ret2
      have ex : (⟨(108 :: r).toArray⟩ : ByteArray).extract 1 (r.length + 1) = ⟨r.toArray⟩ := ext_drop (108 :: r) 1
      rw [ex]
      exact ⟨rfl, h.set0 _, Kb.setCell _ _⟩
  · go_enter Tryz.func67, Tryz.ntmps67
    go_wp2_with fail
    refine wp_scope_fwd 0 rfl ?_
    go_wp2_with fail
    · rw [jump_ret]
      go_ret2
      have ex : (⟨(101 :: r).toArray⟩ : ByteArray).extract 1 (r.length + 1) = ⟨r.toArray⟩ := ext_drop (101 :: r) 1
      rw [ex]
      exact ⟨rfl, h.set0 _, Kb.setCell _ _⟩

set_option maxHeartbeats 1000000 in
set_option maxRecDepth 100000 in
set_option maxRecDepth 100000 in
theorem take_byte_no (b : Nat) (s : ByteArray) (c : UInt8) (hc : c = 108 ∨ c = 101) (hr : Pl.rByte c s.data.toList = none) (w : World) (h : Rdr b w s false) (hs : s.size ≤ 281474976710656) :
    Calls Tryz.prog 67 #[.pointer (some ⟨b, 0, none⟩), .int .u8 c.toNat, .int .i64 0] w fun e w' =>
      e = .returned (.tuple #[.int .i64 0, .string ⟨#[]⟩]) ∧ Rdr b w' s true ∧ Kb b w w' := by
  have c0 := h.rest
  have c1 := h.wrong
  have f1 := h.free1
  have f0 := h.free0
  rcases rByte_cases hr with rfl | ⟨x, r, hx, rfl⟩
  · clear hr hs
    rcases hc with rfl | rfl
    all_goals
      go_enter Tryz.func67, Tryz.ntmps67
      go_wp2_with fail
      refine wp_scope_fwd 0 rfl ?_
      go_wp2_with fail
      go_step3
      refine And.intro rfl ?_
      go_wp2_with fail
      rw [Exit.noGoto_ret]
      go_ret2
      exact ⟨rfl, h.set1 _, Kb.setCell _ _⟩
  · have hs : r.length ≤ 281474976710656 := by
      have : (⟨(x :: r).toArray⟩ : ByteArray).size = r.length + 1 := by show (x :: r).toArray.size = _; simp
      omega
    have hn : x.toNat ≠ c.toNat := fun e => hx (UInt8.toNat_inj.1 e)
    have hg : ((⟨(x :: r).toArray⟩ : ByteArray)[0]'(by show 0 < (x :: r).toArray.size; simp)).toNat = x.toNat := rfl
    have HN := Lib.hid hn
    have HG := Lib.hid hg
    clear hr hn hg hx
    rcases hc with rfl | rfl
    · go_enter Tryz.func67, Tryz.ntmps67
      go_wp2_with fail
      refine wp_scope_fwd 0 rfl ?_
      go_wp2_with fail
      · go_step3
        refine And.intro rfl ?_
        go_wp2_with fail
        rw [Exit.noGoto_ret]
        go_ret2
        exact ⟨rfl, h.set1 _, Kb.setCell _ _⟩
      · rename_i hh
        exfalso
        have h1 := HN.out
        have h2 := HG.out
        rw [h2] at hh
        have h3 : ((x.toNat : Nat) : Int) = 108 := by simpa using hh
        have h4 : (108 : UInt8).toNat = 108 := rfl
        omega
    · go_enter Tryz.func67, Tryz.ntmps67
      go_wp2_with fail
      refine wp_scope_fwd 0 rfl ?_
      go_wp2_with fail
      · go_step3
        refine And.intro rfl ?_
        go_wp2_with fail
        rw [Exit.noGoto_ret]
        go_ret2
        exact ⟨rfl, h.set1 _, Kb.setCell _ _⟩
      · rename_i hh
        exfalso
        have h1 := HN.out
        have h2 := HG.out
        rw [h2] at hh
        have h3 : ((x.toNat : Nat) : Int) = 101 := by simpa using hh
        have h4 : (101 : UInt8).toNat = 101 := rfl
        omega

set_option maxHeartbeats 1000000 in
set_option maxRecDepth 100000 in
set_option maxRecDepth 100000 in
/-- Of a wrong reader nothing happens. -/
theorem take_wrong (b : Nat) (s : ByteArray) (c most : Int) (w : World) (h : Rdr b w s true) :
    Calls Tryz.prog 67 #[.pointer (some ⟨b, 0, none⟩), .int .u8 c, .int .i64 most] w fun e w' =>
      e = .returned (.tuple #[.int .i64 0, .string ⟨#[]⟩]) ∧ w = w' := by
  have c1 := h.wrong
  go_enter Tryz.func67, Tryz.ntmps67
  go_wp2_with fail
  refine wp_scope_fwd 0 rfl ?_
  go_wp2_with fail
  rw [jump_ret]
  go_ret2
  exact ⟨rfl, rfl⟩

set_option maxHeartbeats 1000000 in
set_option maxRecDepth 100000 in
set_option maxRecDepth 100000 in
theorem take_nil (c most : Int) (w : World) :
    Calls Tryz.prog 67 #[.pointer none, .int .u8 c, .int .i64 most] w fun e w' =>
      e = .returned (.tuple #[.int .i64 0, .string ⟨#[]⟩]) ∧ w = w' := by
  go_enter Tryz.func67, Tryz.ntmps67
  go_wp2_with fail
  refine wp_scope_fwd 0 rfl ?_
  go_wp2_with fail
  rw [jump_ret]
  go_ret2
  exact ⟨rfl, rfl⟩
end Go.Proofs.YtmkinnheoejphaaGreatDoor
