/- THE CONTRACTS OF strings.Cut at one byte and of bead.decimal, at every string. -/
import Derived.Test.YtmkinnheoejphaaGreatDoorBase
import Derived.Test.YtmkinnheoejphaaGreatDoorPlain
import Derived.Test.YtmkinnheoejphaaGreatDoorShelf
import Derived.WalkKit
import Derived.WalkSpells
import Derived.WalkLawsBesides
import Derived.Handy
import Derived.Outline
import Derived.Lib.IndexBytes
import Derived.Lib.ItoaLen
import Derived.Lib.CutLaws
import Derived.ScopeJumps
namespace Go.Proofs.YtmkinnheoejphaaGreatDoor
open Go.RowKit

set_option maxHeartbeats 1000000 in
set_option maxRecDepth 100000 in
theorem cutlite1 (s : ByteArray) (c : UInt8) (w : World) (hs : s.size ≤ 9223372036854775806) :
    Calls Tryz.prog 85 #[.string s, .string ⟨#[c]⟩] w fun e w' => e = .returned (.tuple #[.string ⟨(Lib.cut s.data.toList [c]).1.toArray⟩, .string ⟨(Lib.cut s.data.toList [c]).2.1.toArray⟩, .bool (Lib.cut s.data.toList [c]).2.2]) ∧ Below w.heap.size w w' := by
  have hone := Lib.index_one s.data.toList c
  rcases Lib.indexB_cases s ⟨#[c]⟩ with hix | ⟨i, hix, hroom⟩
  · obtain ⟨e1, e2, e3⟩ := Lib.cutB_miss s ⟨#[c]⟩ hix
    have hix' : Lib.indexByte s.data.toList c = -1 := by rw [← hone]; exact hix
    rw [show (⟨(Lib.cut s.data.toList [c]).1.toArray⟩ : ByteArray) = s from e1, show (⟨(Lib.cut s.data.toList [c]).2.1.toArray⟩ : ByteArray) = ByteArray.empty from e2, show (Lib.cut s.data.toList [c]).2.2 = false from e3]
    have H := Lib.hid hix'
    clear hone hix hix' e1 e2 e3
    go_enter Tryz.func85, Tryz.ntmps85
    go_wp2_with (go_at_call 95; refine (Tryz.stringslite_Index_one _ _ _).mono ?_; rintro e w' ⟨rfl, rfl⟩; rw [H.out])
    go_ret3
    exact ⟨rfl, Below.refl _ _⟩
  · obtain ⟨e1, e2, e3⟩ := Lib.cutB_hit s ⟨#[c]⟩ i hix
    have hix' : Lib.indexByte s.data.toList c = i := by rw [← hone]; exact hix
    rw [show (⟨(Lib.cut s.data.toList [c]).1.toArray⟩ : ByteArray) = s.extract 0 i from e1, show (⟨(Lib.cut s.data.toList [c]).2.1.toArray⟩ : ByteArray) = s.extract (i + 1) s.size from e2, show (Lib.cut s.data.toList [c]).2.2 = true from e3]
    have hsz : (⟨#[c]⟩ : ByteArray).size = 1 := rfl
    have H := Lib.hid hix'
    rw [hsz] at hroom
    clear hone hix hix' e1 e2 e3 hsz
    have c1 : (0 : Int) ≤ ↑i := by omega
    have c2 : (↑i : Int) ≤ ↑s.size := by omega
    have c3 : (0 : Int) ≤ ↑i + 1 := by omega
    have c4 : (↑i + 1 : Int) ≤ ↑s.size := by omega
    go_enter Tryz.func85, Tryz.ntmps85
    go_wp2_with (go_at_call 95; refine (Tryz.stringslite_Index_one _ _ _).mono ?_; rintro e w' ⟨rfl, rfl⟩; rw [H.out])
    go_region
    go_wp2
    go_ret3
    exact ⟨rfl, (Below.refl _ _).drew⟩

set_option maxHeartbeats 1000000 in
set_option maxRecDepth 100000 in
theorem cut1 (s : ByteArray) (c : UInt8) (w : World) (hs : s.size ≤ 9223372036854775806) :
    Calls Tryz.prog 78 #[.string s, .string ⟨#[c]⟩] w fun e w' => e = .returned (.tuple #[.string ⟨(Lib.cut s.data.toList [c]).1.toArray⟩, .string ⟨(Lib.cut s.data.toList [c]).2.1.toArray⟩, .bool (Lib.cut s.data.toList [c]).2.2]) ∧ Below w.heap.size w w' := by
  go_enter Tryz.func78, Tryz.ntmps78
  go_wp2_with fail
  refine (cutlite1 s c _ hs).mono ?_
  rintro e w' ⟨rfl, hb⟩
  go_wp2
  go_ret3
  exact ⟨rfl, hb⟩

/-- strconv.Itoa. -/
theorem itoa_any (n : Int) (hn : Pl.I64 n) (w : World) (hl : Lb w) :
    Calls Tryz.prog 65 #[.int .i64 n] w fun e w' => e = .returned (.string ⟨(Lib.itoa n).toArray⟩) ∧ Below w.heap.size w w' :=
  (Tryz.strconv_Itoa n hn.1 hn.2 w hl.pow).mono fun _ _ ⟨he, k, os, hw⟩ => ⟨he, hw ▸ below_grow k os⟩

/-- bead.decimal where the digits are a number's. -/
theorem ofList_eq (s : ByteArray) (l : List UInt8) (h : l = s.data.toList) : s = ⟨l.toArray⟩ := by
  obtain ⟨⟨k⟩⟩ := s
  simp at h
  rw [h]

set_option maxHeartbeats 400000 in
set_option maxRecDepth 100000 in
theorem decimal_ok (s : ByteArray) (n : Int) (hd : Pl.dec s.data.toList = some n) (w : World) (hl : Lb w) (hs : s.size ≤ 9223372036854775806) :
    Calls Tryz.prog 79 #[.string s] w fun e w' => e = .returned (.tuple #[.int .i64 n, .bool true]) ∧ Below w.heap.size w w' := by
  obtain ⟨e1, hb⟩ := Pl.dec_some hd
  have ha : Lib.atoiAll s.data.toList = .ok n := by rw [e1]; exact Pl.atoi_itoa n hb.1 hb.2
  obtain rfl := ofList_eq s _ e1.symm
  have H := Lib.hid ha
  clear hd e1 ha
  go_enter Tryz.func79, Tryz.ntmps79
  go_wp2_with fail
  refine (Tryz.strconv_Atoi_ok _ hs n H.out _).mono ?_
  rintro e w1 ⟨rfl, hw⟩
  have hb1 : Below w.heap.size w w1 := by
    rcases hw with rfl | ⟨t, rfl⟩
    · exact Below.refl _ _
    · exact Lib.bytesWorld_below _ _ _
  clear hw H
  go_wp2_with fail
  refine (itoa_any n hb _ (hl.below hl.size hb1)).mono ?_
  rintro e w2 ⟨rfl, hb2⟩
  go_wp2
  go_ret2
  exact ⟨by simp, hb1.trans (hb2.mono hb1.size)⟩

/-- .. where they are none's: some number, and false. -/
def NoNum (w : World) (e : Ending) (w' : World) : Prop := ∃ m : Int, e = .returned (.tuple #[.int .i64 m, .bool false]) ∧ Below w.heap.size w w'

/-- strconv.Atoi where it has no number: some number, and an error that is not nil. -/
def BadNum (w : World) (e : Ending) (w' : World) : Prop := ∃ (x : Int) (T N : Nat), e = .returned (.tuple #[.int .i64 x, .iface T (.pointer (some ⟨N, 0, none⟩))]) ∧ Below w.heap.size w w'
theorem atoi_bad (s : ByteArray) (h : ∀ n, Lib.atoiAll s.data.toList ≠ .ok n) (w : World) (hl : Lb w) (hs : s.size ≤ 281474976710656) :
    Calls Tryz.prog 86 #[.string s] w (BadNum w) := by
  rcases ha : Lib.atoiAll s.data.toList with n | _ | _
  · exact absurd ha (h n)
  · obtain ⟨tp, p, hv⟩ := hl.syn
    exact (Any.strconv_Atoi_syntax_var Tryz.laysC172 s hs ha tp p w hv).mono fun _ _ ⟨N, he, _, _, hb⟩ => ⟨_, _, N, he, hb⟩
  · obtain ⟨tp, p, hv⟩ := hl.rng
    exact (Any.strconv_Atoi_range_var Tryz.laysC172 s hs ha tp p w hv).mono fun _ _ ⟨N, he, _, _, hb⟩ => ⟨_, _, N, he, hb⟩

set_option maxHeartbeats 400000 in
set_option maxRecDepth 100000 in
theorem decimal_no (s : ByteArray) (hd : Pl.dec s.data.toList = none) (w : World) (hl : Lb w) (hs : s.size ≤ 281474976710656) :
    Calls Tryz.prog 79 #[.string s] w (NoNum w) := by
  by_cases hok : ∃ n, Lib.atoiAll s.data.toList = .ok n
  · obtain ⟨n, ha⟩ := hok
    have hne : Lib.itoa n ≠ s.data.toList := by
      intro e
      unfold Pl.dec at hd
      rw [ha] at hd
      simp [e] at hd
    have hb := Lib.atoiAll_bounds ha
    have H := Lib.hid ha
    have HN := Lib.hid hne
    clear hd ha hne
    go_enter Tryz.func79, Tryz.ntmps79
    go_wp2_with fail
    refine (Tryz.strconv_Atoi_ok _ (by omega) n H.out _).mono ?_
    rintro e w1 ⟨rfl, hw⟩
    have hb1 : Below w.heap.size w w1 := by
      rcases hw with rfl | ⟨t, rfl⟩
      · exact Below.refl _ _
      · exact Lib.bytesWorld_below _ _ _
    clear hw H
    go_wp2_with fail
    refine (itoa_any n hb _ (hl.below hl.size hb1)).mono ?_
    rintro e w2 ⟨rfl, hb2⟩
    go_wp2
    go_ret2
    have h := HN.out
    rw [← Lib.toList_data] at h
    exact ⟨n, by simp [h], hb1.trans (hb2.mono hb1.size)⟩
  · have H := Lib.hid (atoi_bad s (fun n h => hok ⟨n, h⟩) w hl hs)
    clear hd hok
    go_enter Tryz.func79, Tryz.ntmps79
    go_wp2_with fail
    refine H.out.mono ?_
    rintro e w1 ⟨x, T, N, rfl, hb1⟩
    clear H
    go_wp2
    go_ret2
    exact ⟨_, rfl, hb1⟩

theorem app_mk (a b : List UInt8) : (⟨a.toArray⟩ : ByteArray) ++ ⟨b.toArray⟩ = ⟨(a ++ b).toArray⟩ := by
  apply ByteArray.ext
  simp
theorem ext_take (l : List UInt8) (k : Nat) : (⟨l.toArray⟩ : ByteArray).extract 0 k = ⟨(l.take k).toArray⟩ := by
  apply ofList_eq
  rw [Lib.extract_data]
  rfl
theorem ext_drop (l : List UInt8) (k : Nat) : (⟨l.toArray⟩ : ByteArray).extract k l.length = ⟨(l.drop k).toArray⟩ := by
  apply ofList_eq
  rw [Lib.extract_data]
  exact (List.take_of_length_le (by simp)).symm
/-- strings.CutPrefix, strings.Cut, bead.decimal once more, with names for what they answer. -/
theorem cutprev (s : ByteArray) (c : UInt8) (body : List UInt8) (f : Bool) (h1 : Lib.trimPrefix s.data.toList [c] = body) (h2 : Lib.hasPrefix s.data.toList [c] = f) (w : World) :
    Calls Tryz.prog 77 #[.string s, .string ⟨#[c]⟩] w fun e w' => e = .returned (.tuple #[.string ⟨body.toArray⟩, .bool f]) ∧ w = w' := by
  subst h1; subst h2
  exact (Tryz.strings_CutPrefix s ⟨#[c]⟩ w).mono fun _ _ ⟨he, hw⟩ => ⟨he, hw.symm⟩
theorem cut1v (s : ByteArray) (c : UInt8) (x y : List UInt8) (f : Bool) (h : Lib.cut s.data.toList [c] = (x, y, f)) (w : World) (hs : s.size ≤ 9223372036854775806) :
    Calls Tryz.prog 78 #[.string s, .string ⟨#[c]⟩] w fun e w' => e = .returned (.tuple #[.string ⟨x.toArray⟩, .string ⟨y.toArray⟩, .bool f]) ∧ Below w.heap.size w w' := by
  have := cut1 s c w hs
  rw [h] at this
  exact this
/-- Some number, and f. -/
def SomeNum (f : Bool) (w : World) (e : Ending) (w' : World) : Prop := ∃ m : Int, e = .returned (.tuple #[.int .i64 m, .bool f]) ∧ Below w.heap.size w w'
theorem decimalv (s : ByteArray) (f : Bool) (hf : (Pl.dec s.data.toList).isSome = f) (w : World) (hl : Lb w) (hs : s.size ≤ 281474976710656) :
    Calls Tryz.prog 79 #[.string s] w (SomeNum f w) := by
  cases hd : Pl.dec s.data.toList with
  | none => rw [hd] at hf; subst hf; exact (decimal_no s hd w hl hs).mono fun _ _ h => h
  | some n => rw [hd] at hf; subst hf; exact (decimal_ok s n hd w hl (by omega)).mono fun _ _ h => ⟨n, h⟩
end Go.Proofs.YtmkinnheoejphaaGreatDoor
