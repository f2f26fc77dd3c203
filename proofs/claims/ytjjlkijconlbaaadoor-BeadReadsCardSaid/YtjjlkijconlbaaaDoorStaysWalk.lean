/- The walk of the law BeadStays. -/
import Derived.Test.YtjjlkijconlbaaaDoorAwake
import Derived.Deep.RegionWith
namespace Go.Proofs.YtjjlkijconlbaaaDoor
open Go.RowKit

/-- The askings in memory: a kind and a number each. -/
def AsksAt (b off len : Nat) (ks ns : Nat → Int) (w : World) : Prop := ∀ i, i < len → w.cell? ⟨b, off + i * 2, none⟩ = some (.int .i64 (ks i)) ∧ w.cell? ⟨b, off + i * 2 + 1, none⟩ = some (.int .i64 (ns i))
theorem AsksAt.below {b off len : Nat} {ks ns : Nat → Int} {w w' : World} {B : Nat} (h : AsksAt b off len ks ns w) (hb : Below B w w') (hlt : b < B) : AsksAt b off len ks ns w' := fun i hi => by
  rw [hb.cell (p := ⟨b, off + i * 2, none⟩) hlt, hb.cell (p := ⟨b, off + i * 2 + 1, none⟩) hlt]
  exact h i hi

/-- A slice of askings, as a walk wants it. -/
def Asks (a0 : Option Addr) (len : Nat) (ks ns : Nat → Int) (w : World) : Prop := len = 0 ∨ ∃ ab off, a0 = some ⟨ab, off, none⟩ ∧ ab < w.heap.size ∧ AsksAt ab off len ks ns w

theorem rInt_x (l : List UInt8) : Pl.rInt (120 :: l) = none := by
  cases hr : Pl.rInt (120 :: l) with
  | none => rfl
  | some p =>
    obtain ⟨n, r⟩ := p
    have e := (Pl.rInt_some hr).1
    unfold Pl.wInt at e
    injection e with e
    exact absurd e (by decide)

set_option maxHeartbeats 400000 in
theorem rd_int_bad (b : Nat) (l : List UInt8) (w : World) (h : Rd b w ⟨l, true⟩) : Calls Tryd.prog 18 #[.pointer (some ⟨b, 0, none⟩)] w fun e w' => e = .returned (.int .i64 0) ∧ w = w' := by
  go_enter Tryd.func18, Tryd.ntmps18
  go_wp2_with fail
  refine (take_wrong b _ _ _ _ h).mono ?_
  rintro e w1 ⟨rfl, rfl⟩
  go_wp2_with fail
  go_ret
  exact ⟨rfl, rfl⟩

set_option maxHeartbeats 400000 in
theorem rd_text_bad (b : Nat) (l : List UInt8) (most : Int) (w : World) (h : Rd b w ⟨l, true⟩) : Calls Tryd.prog 20 #[.pointer (some ⟨b, 0, none⟩), .int .i64 most] w fun e w' => e = .returned (.string ⟨#[]⟩) ∧ w = w' := by
  go_enter Tryd.func20, Tryd.ntmps20
  go_wp2_with fail
  refine (take_wrong b _ _ _ _ h).mono ?_
  rintro e w1 ⟨rfl, rfl⟩
  go_wp2_with fail
  go_ret
  exact ⟨rfl, rfl⟩

set_option maxHeartbeats 400000 in
theorem rd_open_bad (b : Nat) (l : List UInt8) (w : World) (h : Rd b w ⟨l, true⟩) : Calls Tryd.prog 22 #[.pointer (some ⟨b, 0, none⟩)] w fun e w' => e = .returned (.tuple #[]) ∧ w = w' := by
  go_enter Tryd.func22, Tryd.ntmps22
  go_wp2_with fail
  refine (take_wrong b _ _ _ _ h).mono ?_
  rintro e w1 ⟨rfl, rfl⟩
  go_wp2_with fail
  go_end0
  exact ⟨rfl, rfl⟩

set_option maxHeartbeats 400000 in
theorem rd_close_bad (b : Nat) (l : List UInt8) (w : World) (h : Rd b w ⟨l, true⟩) : Calls Tryd.prog 26 #[.pointer (some ⟨b, 0, none⟩)] w fun e w' => e = .returned (.tuple #[]) ∧ w = w' := by
  go_enter Tryd.func26, Tryd.ntmps26
  go_wp2_with fail
  refine (take_wrong b _ _ _ _ h).mono ?_
  rintro e w1 ⟨rfl, rfl⟩
  go_wp2_with fail
  go_end0
  exact ⟨rfl, rfl⟩

theorem rd_more_bad (b : Nat) (l : List UInt8) (w : World) (h : Rd b w ⟨l, true⟩) : Calls Tryd.prog 24 #[.pointer (some ⟨b, 0, none⟩)] w fun e w' => e = .returned (.bool false) ∧ w = w' := rd_more b _ w h
theorem rd_done_bad (b : Nat) (l : List UInt8) (w : World) (h : Rd b w ⟨l, true⟩) : Calls Tryd.prog 28 #[.pointer (some ⟨b, 0, none⟩)] w fun e w' => e = .returned (.int .i64 3) ∧ w = w' := rd_done b _ w h

set_option maxHeartbeats 1000000 in
set_option maxRecDepth 100000 in
theorem stays_any (s : ByteArray) (aa : Option Addr) (len cap : Nat) (ks ns : Nat → Int) (w : World) (hl : Lb w) (hs : s.size ≤ 140737488355328) (hA : Asks aa len ks ns w) :
    Calls Tryd.prog 8 #[.string s, .slice aa len cap] w fun e w' => e = .returned (.bool true) ∧ Below w.heap.size w w' := by
  have HL := Lib.hid (show (120 :: s.data.toList).length ≤ 281474976710656 by rw [List.length_cons, ← Lib.size_eq]; omega)
  have HS := Lib.hid (show (⟨#[120]⟩ : ByteArray) ++ s = ⟨(120 :: s.data.toList).toArray⟩ from by
    conv => lhs; rw [ofList_eq s _ rfl]
    exact app_mk [120] _)
  have k1 : ¬ 9223372036854775807 < 1 + s.size := by omega
  have HA := Lib.hid hA
  clear hA
  go_enter Tryd.func8, Tryd.ntmps8
  go_wp2_with fail
  refine (awake_any _ hl).mono ?_
  rintro e w1 ⟨rfl, b1⟩
  go_wp2_with fail
  refine (rd_new _ _).mono ?_
  rintro e w2 ⟨rfl, r2, b2⟩
  rw [HS.out] at r2
  have b12 := b1.trans (b2.mono b1.size)
  have hW := b1.size
  have h6 := (hl.below hl.size b1).size
  obtain ⟨b, hb⟩ : ∃ b, w1.heap.size = b := ⟨_, rfl⟩
  rw [hb] at r2 hW h6 ⊢
  clear hb b1 b2
  have r2 : Rd b w2 ⟨120 :: s.data.toList, false⟩ := r2
  go_wp2_with fail
  have C := rd_int b _ w2 (hl.below hl.size b12) r2 HL.out
  rw [show St.int ⟨120 :: s.data.toList, false⟩ = (0, ⟨120 :: s.data.toList, true⟩) by simp [St.int, rInt_x]] at C
  refine C.mono ?_
  clear C
  rintro e w3 ⟨rfl, r3, b3⟩
  have b13 := b12.trans (b3.below hW r2.lt)
  clear r2 b3 b12
  go_wp2_with fail
  refine (rd_done_bad b _ _ r3).mono ?_
  rintro e w' ⟨rfl, rfl⟩
  go_wp2_with fail
  go_loopw [6] (fun i wr => ∃ k : Nat, k ≤ len ∧ i = .int .i64 k ∧ Rd b wr ⟨120 :: s.data.toList, true⟩ ∧ Below w.heap.size w wr) (fun i _ => len - (intOf i).toNat)
  case atStart => exact ⟨0, Nat.zero_le _, rfl, r3, b13⟩
  case round =>
    clear b13 r3
    obtain ⟨k, hk, rfl, rr, br⟩ := hrel
    by_cases hlt : k < len ∧ k < 100
    · obtain ⟨hlt, h100⟩ := hlt
      have hlr := hl.below hl.size br
      obtain ⟨ab, off, rfl, hab, hcells⟩ : ∃ ab off, aa = some ⟨ab, off, none⟩ ∧ ab < w.heap.size ∧ AsksAt ab off len ks ns w := by
        rcases HA.out with h | h
        · omega
        · exact h
      obtain ⟨a0, a1⟩ := hcells k hlt
      have HC := Lib.hid hcells
      clear hcells
      have a0 : wr.cell? ⟨ab, off + k * 2, none⟩ = some (.int .i64 (ks k)) := (br.cell hab).trans a0
      have a1 : wr.cell? ⟨ab, off + k * 2 + 1, none⟩ = some (.int .i64 (ns k)) := (br.cell hab).trans a1
      obtain ⟨kd, hkd⟩ : ∃ kd, ks k = kd := ⟨_, rfl⟩
      obtain ⟨nn, hnn⟩ : ∃ nn, ns k = nn := ⟨_, rfl⟩
      rw [hkd] at a0
      rw [hnn] at a1
      clear hkd hnn
      go_wp2_with (first
        | (go_at_call 18; refine (rd_int_bad b _ _ rr).mono ?_; rintro e w' ⟨rfl, rfl⟩)
        | (go_at_call 20; refine (rd_text_bad b _ _ _ rr).mono ?_; rintro e w' ⟨rfl, rfl⟩)
        | (go_at_call 22; refine (rd_open_bad b _ _ rr).mono ?_; rintro e w' ⟨rfl, rfl⟩)
        | (go_at_call 24; refine (rd_more_bad b _ _ rr).mono ?_; rintro e w' ⟨rfl, rfl⟩)
        | (go_at_call 26; refine (rd_close_bad b _ _ rr).mono ?_; rintro e w' ⟨rfl, rfl⟩))
      all_goals
        go_roundw
        case rel => exact ⟨k + 1, by omega, by go_num, rr, br⟩
        case measure => simp [intOf]; omega
    · have hend : (k < len ∧ ¬ k < 100) ∨ ¬ k < len := by
        by_cases h : k < len
        · exact Or.inl ⟨h, fun h2 => hlt ⟨h, h2⟩⟩
        · exact Or.inr h
      clear hlt
      rcases hend with ⟨h1, h2⟩ | h1
      all_goals
        go_wp2_with (first
          | (go_at_call 22; refine (rd_open_nil _).mono ?_; rintro e w' ⟨rfl, rfl⟩)
          | (go_at_call 26; refine (rd_close_nil _).mono ?_; rintro e w' ⟨rfl, rfl⟩)
          | (go_at_call_of 28 (Value.pointer none); refine (rd_done_nil _).mono ?_; rintro e w' ⟨rfl, rfl⟩)
          | (go_at_call 28; refine (rd_done_bad b _ _ rr).mono ?_; rintro e w' ⟨rfl, rfl⟩)
          | (go_at_call 18; refine (rd_int_nil _).mono ?_; rintro e w' ⟨rfl, rfl⟩)
          | (go_at_call 20; refine (rd_text_nil _ _).mono ?_; rintro e w' ⟨rfl, rfl⟩)
          | (go_at_call 24; refine (rd_more_nil _).mono ?_; rintro e w' ⟨rfl, rfl⟩))
        go_ret
        exact ⟨rfl, br⟩
end Go.Proofs.YtjjlkijconlbaaaDoor
