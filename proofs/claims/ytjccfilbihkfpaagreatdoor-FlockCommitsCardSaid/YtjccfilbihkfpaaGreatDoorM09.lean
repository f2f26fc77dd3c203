import Derived.Test.YtjccfilbihkfpaaGreatDoorM02
import Derived.Test.YtjccfilbihkfpaaGreatDoorM05
import Derived.Test.YtjccfilbihkfpaaGreatDoorM08
import Derived.Deep.CutBlock
import Derived.Deep.CutRange
import Derived.Deep.DeepCutAuto

/- WHAT A RECORD TELLS, as its bytes say; the records that are written. -/
namespace Go.Proofs.YtjccfilbihkfpaaGreatDoor
theorem int_len (u : St) : u.int.2.s.length ≤ u.s.length := by
  obtain ⟨s, bad⟩ := u
  cases bad with
  | true => exact Nat.le_refl _
  | false =>
    cases hr : Pl.rInt s with
    | none => simp [St.int, hr]
    | some p =>
      obtain ⟨n, r⟩ := p
      have e := (Pl.rInt_some hr).1
      simp [St.int, hr]
      rw [e]; simp
theorem byte_len (c : UInt8) (u : St) : (u.byte c).s.length ≤ u.s.length := by
  obtain ⟨s, bad⟩ := u
  cases bad with
  | true => exact Nat.le_refl _
  | false =>
    cases hr : Pl.rByte c s with
    | none => simp [St.byte, hr]
    | some r =>
      have e := Pl.rByte_some hr
      simp [St.byte, hr]
      rw [e]; simp
theorem int_64 (u : St) : Pl.I64 (St.int u).1 := by
  obtain ⟨l, bad⟩ := u
  cases bad with
  | true => exact ⟨by simp [St.int], by simp [St.int]⟩
  | false =>
    cases hr : Pl.rInt l with
    | none => simp [St.int, hr]; exact ⟨by omega, by omega⟩
    | some p => simp [St.int, hr]; exact (Pl.rInt_some hr).2
/-- Not wrong behind a byte: it stood there. -/
theorem byte_ok {c : UInt8} {u : St} (h : (u.byte c).bad = false) : u.bad = false ∧ u.s = c :: (u.byte c).s := by
  obtain ⟨s, bad⟩ := u
  cases bad with
  | true => simp [St.byte] at h
  | false =>
    cases hr : Pl.rByte c s with
    | none => simp [St.byte, hr] at h
    | some r =>
      have e := Pl.rByte_some hr
      simp [St.byte, hr]
      exact e
theorem int_ok {u : St} (h : u.int.2.bad = false) : u.bad = false ∧ u.s = Pl.wInt u.int.1 ++ u.int.2.s := by
  obtain ⟨s, bad⟩ := u
  cases bad with
  | true => simp [St.int] at h
  | false =>
    cases hr : Pl.rInt s with
    | none => simp [St.int, hr] at h
    | some p =>
      obtain ⟨n, r⟩ := p
      have e := (Pl.rInt_some hr).1
      simp [St.int, hr]
      exact e
theorem rByte_cons (c : UInt8) (r : List UInt8) : Pl.rByte c (c :: r) = some r := by
  unfold Pl.rByte
  simp
theorem byte_at (c : UInt8) (r : List UInt8) : St.byte c ⟨c :: r, false⟩ = ⟨r, false⟩ := by
  simp [St.byte, rByte_cons]
theorem int_at {n : Int} (h : Pl.I64 n) (r : List UInt8) : St.int ⟨Pl.wInt n ++ r, false⟩ = (n, ⟨r, false⟩) := by
  simp [St.int, Pl.rInt_w n h r]
theorem more_l (r : List UInt8) : St.more ⟨108 :: r, false⟩ = true := by simp [St.more]
theorem more_e (r : List UInt8) : St.more ⟨101 :: r, false⟩ = false := by simp [St.more]
theorem more_ok {u : St} (h : u.more = true) : u.bad = false := by
  obtain ⟨s, bad⟩ := u
  cases bad with
  | true => simp [St.more] at h
  | false => rfl
theorem done_ok {u : St} (h : u.done = 0) : u.bad = false ∧ u.s = [] := by
  obtain ⟨s, bad⟩ := u
  cases bad with
  | true => simp [St.done] at h
  | false =>
    cases s with
    | nil => exact ⟨rfl, rfl⟩
    | cons a r => simp [St.done] at h

theorem text_len (m : Int) (u : St) : (u.text m).2.s.length ≤ u.s.length := by
  obtain ⟨s, bad⟩ := u
  cases bad with
  | true => exact Nat.le_refl _
  | false =>
    cases hr : Pl.rText m s with
    | none => simp [St.text, hr]
    | some p =>
      obtain ⟨t, r⟩ := p
      have e := (Pl.rText_some hr).1
      simp [St.text, hr]
      rw [e]; simp
theorem text_short (m : Int) (u : St) (h : 0 ≤ m) : ((u.text m).1.length : Int) ≤ m := by
  obtain ⟨s, bad⟩ := u
  cases bad with
  | true => simpa [St.text] using h
  | false =>
    cases hr : Pl.rText m s with
    | none => simpa [St.text, hr] using h
    | some p =>
      obtain ⟨t, r⟩ := p
      have e := (Pl.rText_some hr).2.1
      simpa [St.text, hr] using e
theorem text_at {t : List UInt8} {m : Int} (h : (t.length : Int) ≤ m) (h2 : (t.length : Int) ≤ 9223372036854775807) (r : List UInt8) : St.text m ⟨Pl.wText t ++ r, false⟩ = (t, ⟨r, false⟩) := by
  simp [St.text, Pl.rText_w t m h h2 r]
theorem more_text (t r : List UInt8) : St.more ⟨Pl.wText t ++ r, false⟩ = true := by
  obtain ⟨c, k, e, hc⟩ := Pl.wText_head t
  rw [e]
  simp only [St.more, List.cons_append, Bool.not_false, Bool.true_and, bne_iff_ne, ne_eq]
  intro h
  subst h
  simp at hc
namespace Fk
/-- Members, one after the other. -/
def tkMs : Nat → St → List ByteArray → List ByteArray × St
  | 0, u, acc => (acc, u)
  | k + 1, u, acc => if u.more = true then tkMs k (u.text 8).2 (acc ++ [⟨(u.text 8).1.toArray⟩]) else (acc, u)
def mems (u : St) : List ByteArray × St := ((tkMs 4 (u.byte 108) []).1, (tkMs 4 (u.byte 108) []).2.byte 101)
def finW (u : St) (x : Wd) : Wd := if (u.byte 101).done = 0 then x else .none
def rdT (n : ByteArray) (u : St) : Wd :=
  if Sh.nameB n = true ∧ 0 ≤ u.int.2.int.1 ∧ u.int.2.int.1 ≤ 4 ∧ Sh.goodB (mems u.int.2.int.2).1 = true then finW (mems u.int.2.int.2).2 (.turn n u.int.1 u.int.2.int.1 (mems u.int.2.int.2).1) else .none
def rdC (n : ByteArray) (p : Int) (u : St) : Wd :=
  if Sh.nameB n = true ∧ 0 ≤ p ∧ p < 4 ∧ 0 ≤ u.int.1 ∧ u.int.1 ≤ 1099511627776 then finW u.int.2.int.2 (.point n p u.int.1 u.int.2.int.1) else .none
def rdN (n : ByteArray) (u : St) : Wd := if n.size = 0 then finW u.int.2 (.no u.int.1) else .none
/-- The partition that a key tells, and what stands behind it. -/
def digB (r : List UInt8) : Int × ByteArray := match r with
  | [] => (-1, ⟨#[]⟩)
  | d :: r' => ((d.toNat : Int) - 48, ⟨r'.toArray⟩)
/-- What a record tells. -/
def rd (k v : ByteArray) (gone : Bool) : Wd :=
  if gone = true then .none else
  match k.data.toList with
  | [] => .none
  | c :: r =>
    if c = 116 then rdT ⟨r.toArray⟩ (St.byte 108 ⟨v.data.toList, false⟩)
    else if c = 99 then rdC (digB r).2 (digB r).1 (St.byte 108 ⟨v.data.toList, false⟩)
    else if c = 110 then rdN ⟨r.toArray⟩ (St.byte 108 ⟨v.data.toList, false⟩)
    else .none
theorem tkMs_len : ∀ (k : Nat) (u : St) (acc : List ByteArray), (tkMs k u acc).2.s.length ≤ u.s.length
  | 0, u, acc => Nat.le_refl _
  | k + 1, u, acc => by
    unfold tkMs
    split
    · exact Nat.le_trans (tkMs_len k _ _) (text_len 8 u)
    · exact Nat.le_refl _
theorem mems_len (u : St) : (mems u).2.s.length ≤ u.s.length := Nat.le_trans (byte_len 101 _) (Nat.le_trans (tkMs_len 4 _ _) (byte_len 108 u))
theorem rdT_ok (n : ByteArray) (u : St) : OkW (rdT n u) := by
  unfold rdT
  split
  · rename_i h
    unfold finW
    split
    · exact h
    · trivial
  · trivial
theorem rdC_ok (n : ByteArray) (p : Int) (u : St) : OkW (rdC n p u) := by
  unfold rdC
  split
  · rename_i h
    unfold finW
    split
    · exact h
    · trivial
  · trivial
theorem rdN_ok (n : ByteArray) (u : St) : OkW (rdN n u) := by
  unfold rdN finW
  split
  · split <;> trivial
  · trivial
theorem rd_ok (k v : ByteArray) (gone : Bool) : OkW (rd k v gone) := by
  unfold rd
  split
  · trivial
  · split
    · trivial
    · split
      · exact rdT_ok _ _
      · split
        · exact rdC_ok _ _ _
        · split
          · exact rdN_ok _ _
          · trivial

/-! ### The records that are written -/
def encMs (ms : List ByteArray) : List UInt8 := 108 :: (ms.flatMap (fun m => Pl.wText m.data.toList) ++ [101])
def encTv (g p : Int) (ms : List ByteArray) : List UInt8 := 108 :: (Pl.wInt g ++ (Pl.wInt p ++ encMs ms) ++ [101])
def encCv (o g : Int) : List UInt8 := 108 :: (Pl.wInt o ++ Pl.wInt g ++ [101])
def encNv (c : Int) : List UInt8 := 108 :: (Pl.wInt c ++ [101])
theorem name_len {s : ByteArray} (h : Sh.nameB s = true) : s.size ≤ 8 ∧ 1 ≤ s.size := by
  unfold Sh.nameB at h
  simp only [Bool.and_eq_true, decide_eq_true_eq] at h
  omega
theorem data_len (s : ByteArray) : s.data.toList.length = s.size := Array.length_toList
theorem of_data (s : ByteArray) : (⟨s.data.toList.toArray⟩ : ByteArray) = s := by obtain ⟨⟨l⟩⟩ := s; rfl
theorem tkMs_at : ∀ (ms : List ByteArray) (k : Nat) (r : List UInt8) (acc : List ByteArray), ms.length ≤ k → (∀ m ∈ ms, m.size ≤ 8) → tkMs k ⟨ms.flatMap (fun m => Pl.wText m.data.toList) ++ 101 :: r, false⟩ acc = (acc ++ ms, ⟨101 :: r, false⟩)
  | [], 0, r, acc, _, _ => by simp [tkMs]
  | [], k + 1, r, acc, _, _ => by
    unfold tkMs
    rw [List.flatMap_nil, List.nil_append, more_e]
    simp
  | m :: ms, 0, r, acc, h, _ => by simp at h
  | m :: ms, k + 1, r, acc, h, hs => by
    unfold tkMs
    have h8 := hs m (by simp)
    rw [List.flatMap_cons, List.append_assoc, more_text, if_pos rfl, text_at (by rw [data_len]; omega) (by rw [data_len]; omega)]
    simp only
    rw [tkMs_at ms k r _ (by simpa using h) (fun x hx => hs x (by simp [hx])), of_data]
    simp
theorem mems_at {ms : List ByteArray} (hl : ms.length ≤ 4) (h8 : ∀ m ∈ ms, m.size ≤ 8) (r : List UInt8) : mems ⟨encMs ms ++ r, false⟩ = (ms, ⟨r, false⟩) := by
  have e : encMs ms ++ r = 108 :: (ms.flatMap (fun m => Pl.wText m.data.toList) ++ 101 :: r) := by simp [encMs]
  unfold mems
  rw [e, byte_at, tkMs_at ms 4 r [] hl h8]
  simp only [List.nil_append]
  rw [byte_at]
theorem finW_at (x : Wd) : finW ⟨[101], false⟩ x = x := by
  unfold finW
  rw [byte_at]
  rfl
theorem rdT_at {n : ByteArray} {g p : Int} {ms : List ByteArray} (hn : Sh.nameB n = true) (hg : Pl.I64 g) (hp : 0 ≤ p ∧ p ≤ 4) (hm : Sh.goodB ms = true) : rdT n (St.byte 108 ⟨encTv g p ms, false⟩) = .turn n g p ms := by
  have h8 : ∀ m ∈ ms, m.size ≤ 8 := fun m hm' => by
    obtain ⟨i, hi, rfl⟩ := List.getElem_of_mem hm'
    have := Sh.good_name hm hi
    rw [List.getD_eq_getElem?_getD, List.getElem?_eq_getElem hi] at this
    exact (name_len this).1
  have e1 : St.byte 108 ⟨encTv g p ms, false⟩ = ⟨Pl.wInt g ++ (Pl.wInt p ++ (encMs ms ++ [101])), false⟩ := by
    unfold encTv
    rw [byte_at]
    simp
  have e2 := int_at hg (Pl.wInt p ++ (encMs ms ++ [101]))
  have e3 := int_at (n := p) ⟨by omega, by omega⟩ (encMs ms ++ [101])
  have e4 := mems_at (Sh.good_len hm) h8 [101]
  unfold rdT
  rw [e1, e2]
  simp only
  rw [e3]
  simp only
  rw [e4]
  simp only
  rw [if_pos ⟨hn, hp.1, hp.2, hm⟩, finW_at]
theorem rdC_at {n : ByteArray} {p o g : Int} (hn : Sh.nameB n = true) (hp : 0 ≤ p ∧ p < 4) (ho : 0 ≤ o ∧ o ≤ 1099511627776) (hg : Pl.I64 g) : rdC n p (St.byte 108 ⟨encCv o g, false⟩) = .point n p o g := by
  have e1 : St.byte 108 ⟨encCv o g, false⟩ = ⟨Pl.wInt o ++ (Pl.wInt g ++ [101]), false⟩ := by
    unfold encCv
    rw [byte_at]
    simp
  have e2 := int_at (n := o) ⟨by omega, by omega⟩ (Pl.wInt g ++ [101])
  have e3 := int_at hg [101]
  unfold rdC
  rw [e1, e2]
  simp only
  rw [e3]
  simp only
  rw [if_pos ⟨hn, hp.1, hp.2, ho.1, ho.2⟩, finW_at]
theorem rdN_at {c : Int} (hc : Pl.I64 c) : rdN ⟨#[]⟩ (St.byte 108 ⟨encNv c, false⟩) = .no c := by
  have e1 : St.byte 108 ⟨encNv c, false⟩ = ⟨Pl.wInt c ++ [101], false⟩ := by
    unfold encNv
    rw [byte_at]
  have e2 := int_at hc [101]
  unfold rdN
  rw [e1, e2]
  rw [if_pos (by rfl)]
  exact finW_at _
/-- A record's key, its value. -/
def enc : Wd → List UInt8 × List UInt8
  | .turn n g p ms => (116 :: n.data.toList, encTv g p ms)
  | .point n p o g => (99 :: (Lib.itoa p ++ n.data.toList), encCv o g)
  | .no c => ([110], encNv c)
  | .none => ([], [])
/-- What is written is told. -/
theorem itoa_digit {p : Int} (hp : 0 ≤ p ∧ p < 4) : ∃ d : UInt8, Lib.itoa p = [d] ∧ (d.toNat : Int) - 48 = p := by
  obtain ⟨k, rfl⟩ : ∃ k : Nat, p = k := ⟨p.toNat, by omega⟩
  have hk : k < 4 := by omega
  have : k = 0 ∨ k = 1 ∨ k = 2 ∨ k = 3 := by omega
  rcases this with rfl | rfl | rfl | rfl
  · exact ⟨48, by unfold Lib.itoa; simp [Lib.decDigits], by decide⟩
  · exact ⟨49, by unfold Lib.itoa; simp [Lib.decDigits], by decide⟩
  · exact ⟨50, by unfold Lib.itoa; simp [Lib.decDigits], by decide⟩
  · exact ⟨51, by unfold Lib.itoa; simp [Lib.decDigits], by decide⟩
theorem rd_enc {x : Wd} (h : OkW x) (hg : match x with | .turn _ g _ _ => Pl.I64 g | .point _ _ _ g => Pl.I64 g | .no c => Pl.I64 c | .none => True) : rd ⟨(enc x).1.toArray⟩ ⟨(enc x).2.toArray⟩ false = x := by
  cases x with
  | none => rfl
  | turn n g p ms =>
    obtain ⟨h1, h2, h3, h4⟩ := h
    unfold rd enc
    simp only [Bool.false_eq_true, if_false, if_true]
    rw [of_data]
    exact rdT_at h1 hg ⟨h2, h3⟩ h4
  | point n p o g =>
    obtain ⟨h1, h2, h3, h4, h5⟩ := h
    obtain ⟨d, e1, e2⟩ := itoa_digit ⟨h2, h3⟩
    unfold rd enc
    simp only [e1, Bool.false_eq_true, if_false, if_true, List.cons_append, List.nil_append, digB]
    rw [of_data, e2, if_neg (by decide)]
    exact rdC_at h1 ⟨h2, h3⟩ ⟨h4, h5⟩ hg
  | no c =>
    unfold rd enc
    simp only [Bool.false_eq_true, if_false]
    show (if (110 : UInt8) = 116 then _ else if (110 : UInt8) = 99 then _ else if (110 : UInt8) = 110 then rdN ⟨#[]⟩ (St.byte 108 ⟨encNv c, false⟩) else Wd.none) = _
    rw [if_neg (by decide), if_neg (by decide), if_pos rfl]
    exact rdN_at hg
end Fk
end Go.Proofs.YtjccfilbihkfpaaGreatDoor

/- THE CONTRACTS OF isName, isParts, isPart, isOffset, digitOf, membersOf. -/
namespace Go.Proofs.YtjccfilbihkfpaaGreatDoor
open Go.RowKit

theorem good_one (s : ByteArray) : Sh.goodB [s] = Sh.nameB s := by
  simp [Sh.goodB, Sh.goodTo, Sh.atB, List.range_succ]
def BooOut (w : World) (b : Bool) (e : Ending) (w' : World) : Prop := e = .returned (.bool b) ∧ Below w.heap.size w w'
set_option maxHeartbeats 1000000 in
set_option maxRecDepth 100000 in
theorem fisName (s : ByteArray) (w : World) : Calls Tryz.prog 48 #[.string s] w fun e w' => BooOut w (Sh.nameB s) e w' := by
  obtain ⟨W1, hW1⟩ : ∃ W, w.alloc (.cells #[.string s] 9) = W := ⟨_, rfl⟩
  have hb1 : Below w.heap.size w W1 := by rw [← hW1]; exact (Below.refl _ _).alloc (Nat.le_refl _) _
  have hr : Nms (fun b => b = w.heap.size) W1 (.slice (some ⟨w.heap.size, 0, none⟩) 1 1) [s] := by
    refine ⟨rfl, .inr ⟨_, _, rfl, Nat.le_refl _, fun _ => ⟨_, 0, rfl, rfl, by rw [← hW1]; simp, fun j x hj => ?_⟩⟩⟩
    rw [← hW1]
    exact (Blk.new w _ _).cell (by rw [Nat.zero_add, ← Array.getElem?_toList]; exact hj)
  have HC := Lib.hid (good_any _ [s] W1 hr)
  rw [good_one] at HC
  have HB1 := Lib.hid hb1
  clear hb1 hr
  go_enter Tryz.func48, Tryz.ntmps48
  go_wp2_with fail
  refine HC.out.mono ?_
  rintro e w2 ⟨rfl, hb2⟩
  go_wp2_with fail
  go_ret
  exact ⟨rfl, HB1.out.trans (hb2.mono HB1.out.size)⟩
def SmeOut (w : World) (b : Bool) (e : Ending) (w' : World) : Prop := e = .returned (.bool b) ∧ w' = w
set_option maxHeartbeats 1000000 in
set_option maxRecDepth 100000 in
theorem fisParts (n : Int) (w : World) : Calls Tryz.prog 49 #[.int .i64 n] w fun e w' => SmeOut w (decide (0 ≤ n ∧ n ≤ 4)) e w' := by
  by_cases h0 : 0 ≤ n
  · by_cases h1 : n ≤ 4
    · have hd : decide (0 ≤ n ∧ n ≤ 4) = true := decide_eq_true ⟨h0, h1⟩
      rw [hd]
      clear hd
      go_enter Tryz.func49, Tryz.ntmps49
      go_wp2_with fail
      go_ret
      exact ⟨rfl, rfl⟩
    · have hd : decide (0 ≤ n ∧ n ≤ 4) = false := decide_eq_false (fun h => h1 h.2)
      rw [hd]
      clear hd
      go_enter Tryz.func49, Tryz.ntmps49
      go_wp2_with fail
      go_ret
      exact ⟨rfl, rfl⟩
  · have hd : decide (0 ≤ n ∧ n ≤ 4) = false := decide_eq_false (fun h => h0 h.1)
    rw [hd]
    clear hd
    go_enter Tryz.func49, Tryz.ntmps49
    go_wp2_with fail
    go_ret
    exact ⟨rfl, rfl⟩
set_option maxHeartbeats 1000000 in
set_option maxRecDepth 100000 in
theorem fisPart (n : Int) (w : World) : Calls Tryz.prog 52 #[.int .i64 n] w fun e w' => SmeOut w (decide (0 ≤ n ∧ n < 4)) e w' := by
  by_cases h0 : 0 ≤ n
  · by_cases h1 : n < 4
    · have hd : decide (0 ≤ n ∧ n < 4) = true := decide_eq_true ⟨h0, h1⟩
      rw [hd]
      clear hd
      go_enter Tryz.func52, Tryz.ntmps52
      go_wp2_with fail
      go_ret
      exact ⟨rfl, rfl⟩
    · have hd : decide (0 ≤ n ∧ n < 4) = false := decide_eq_false (fun h => h1 h.2)
      rw [hd]
      clear hd
      go_enter Tryz.func52, Tryz.ntmps52
      go_wp2_with fail
      go_ret
      exact ⟨rfl, rfl⟩
  · have hd : decide (0 ≤ n ∧ n < 4) = false := decide_eq_false (fun h => h0 h.1)
    rw [hd]
    clear hd
    go_enter Tryz.func52, Tryz.ntmps52
    go_wp2_with fail
    go_ret
    exact ⟨rfl, rfl⟩
set_option maxHeartbeats 1000000 in
set_option maxRecDepth 100000 in
theorem fisOffset (n : Int) (w : World) : Calls Tryz.prog 53 #[.int .i64 n] w fun e w' => SmeOut w (decide (0 ≤ n ∧ n ≤ 1099511627776)) e w' := by
  by_cases h0 : 0 ≤ n
  · by_cases h1 : n ≤ 1099511627776
    · have hd : decide (0 ≤ n ∧ n ≤ 1099511627776) = true := decide_eq_true ⟨h0, h1⟩
      rw [hd]
      clear hd
      go_enter Tryz.func53, Tryz.ntmps53
      go_wp2_with fail
      go_ret
      exact ⟨rfl, rfl⟩
    · have hd : decide (0 ≤ n ∧ n ≤ 1099511627776) = false := decide_eq_false (fun h => h1 h.2)
      rw [hd]
      clear hd
      go_enter Tryz.func53, Tryz.ntmps53
      go_wp2_with fail
      go_ret
      exact ⟨rfl, rfl⟩
  · have hd : decide (0 ≤ n ∧ n ≤ 1099511627776) = false := decide_eq_false (fun h => h0 h.1)
    rw [hd]
    clear hd
    go_enter Tryz.func53, Tryz.ntmps53
    go_wp2_with fail
    go_ret
    exact ⟨rfl, rfl⟩
/-- What digitOf answers. -/
def DigOut (w : World) (x : Int × ByteArray) (e : Ending) (w' : World) : Prop := e = .returned (.tuple #[.int .i64 x.1, .string x.2]) ∧ Below w.heap.size w w'
set_option maxHeartbeats 1000000 in
set_option maxRecDepth 100000 in
theorem fdigit (r : List UInt8) (hr : r.length ≤ 281474976710656) (w : World) : Calls Tryz.prog 51 #[.string ⟨r.toArray⟩] w fun e w' => DigOut w (Fk.digB r) e w' := by
  cases r with
  | nil =>
    go_enter Tryz.func51, Tryz.ntmps51
    go_wp2_with fail
    go_ret2
    exact ⟨rfl, Below.refl _ _⟩
  | cons d r =>
    go_enter Tryz.func51, Tryz.ntmps51
    go_wp2_with fail
    go_quiet (fail)
    go_wp2_with fail
    go_ret2
    have hd : d.toNat < 256 := d.toNat_lt
    have e1 : ((⟨(d :: r).toArray⟩ : ByteArray)[0]'(by show 0 < (d :: r).toArray.size; simp)).toNat = d.toNat := rfl
    have e2 : wrap64 (wrap64 (d.toNat : Int) - 48) = (d.toNat : Int) - 48 := by unfold wrap64; omega
    have e3 : (⟨(d :: r).toArray⟩ : ByteArray).extract 1 (r.length + 1) = ⟨r.toArray⟩ := ext_drop (d :: r) 1
    refine ⟨?_, below_drewN _ _⟩
    rw [e1, e2, e3]
    rfl
/-- What membersOf answers. -/
def MemOut (c : Nat) (w : World) (x : List ByteArray × St) (e : Ending) (w' : World) : Prop := ∃ v gb, e = .returned v ∧ Wz w.heap.size w' v gb 9 1 x.1.length (x.1.map Value.string) ∧ Rd c w' x.2 ∧ Kb c w w'
theorem tkMs_more {k : Nat} {u : St} {acc : List ByteArray} (hl : acc.length < 4) (hm : u.more = true) (hk : k = 4 - acc.length) : Fk.tkMs k u acc = Fk.tkMs (4 - (acc ++ [(⟨(u.text 8).1.toArray⟩ : ByteArray)]).length) (u.text 8).2 (acc ++ [⟨(u.text 8).1.toArray⟩]) := by
  subst hk
  rw [List.length_append, List.length_singleton]
  obtain ⟨j, hj⟩ : ∃ j, 4 - acc.length = j + 1 := ⟨3 - acc.length, by omega⟩
  rw [hj, show 4 - (acc.length + 1) = j by omega]
  conv => lhs; unfold Fk.tkMs
  rw [if_pos hm]
theorem tkMs_over {k : Nat} {u : St} {acc : List ByteArray} (h : k = 0 ∨ u.more = false) : Fk.tkMs k u acc = (acc, u) := by
  cases k with
  | zero => rfl
  | succ k =>
    rcases h with h | h
    · omega
    · unfold Fk.tkMs
      rw [if_neg (by rw [h]; decide)]
set_option maxHeartbeats 4000000 in
set_option maxRecDepth 100000 in
theorem membersOf_any (c : Nat) (u : St) (w : World) (lb : Lb w) (hr : Rd c w u) (hc : 6 ≤ c) (hs : u.s.length ≤ 281474976710656) :
    Calls Tryz.prog 47 #[.pointer (some ⟨c, 0, none⟩)] w fun e w' => MemOut c w (Fk.mems u) e w' := by
  obtain ⟨v0, e0⟩ : ∃ q, u.byte 108 = q := ⟨_, rfl⟩
  obtain ⟨Mf, uf, e2⟩ : ∃ M q, Fk.tkMs 4 v0 [] = (M, q) := ⟨_, _, rfl⟩
  have hR : Fk.mems u = (Mf, uf.byte 101) := by unfold Fk.mems; rw [e0, e2]
  rw [hR]
  have l0 : v0.s.length ≤ 281474976710656 := Nat.le_trans (e0 ▸ byte_len 108 u) hs
  have hcl := hr.lt
  have HLB := Lib.hid lb
  have HO := rd_open c u w hr hs
  rw [e0] at HO
  have HOP := Lib.hid HO
  have HE2 := Lib.hid e2
  clear hR HO hr hs e0 e2 lb
  go_enter Tryz.func47, Tryz.ntmps47
  go_wp2_with fail
  refine HOP.out.mono ?_
  rintro e w1 ⟨rfl, r1, k1⟩
  have HR1 := Lib.hid r1
  have HK1 := Lib.hid k1
  have HW1 : Hid (Wz w.heap.size w1 (.slice none 0 0) none 9 1 0 (([] : List ByteArray).map Value.string)) := Lib.hid (Wz.nil _ _ _ _)
  clear r1 k1 HOP
  go_wp2_with fail
  go_loopw [3] (fun s3 wr => ∃ (v : St) (acc : List ByteArray) (gb : Option Nat), acc.length ≤ 4 ∧ v.s.length ≤ 281474976710656 ∧ Wz w.heap.size wr s3 gb 9 1 acc.length (acc.map Value.string) ∧ Rd c wr v ∧ Kb c w wr ∧ Fk.tkMs (4 - acc.length) v acc = (Mf, uf)) (fun s3 _ => 4 - sliceLen (some s3))
  case atStart => exact ⟨v0, [], none, by simp, l0, HW1.out, HR1.out, HK1.out, HE2.out⟩
  case round =>
    obtain ⟨v, acc, gb, hl4, hvl, hz, hr, hk, hts⟩ := hrel
    obtain ⟨n, hn⟩ : ∃ n, acc.length = n := ⟨_, rfl⟩
    obtain ⟨ao, cp, rfl⟩ := hz.form
    rw [hn] at hl4 hz ⊢
    have hgc : gb ≠ some c := fun e => by have := (hz.lt c e).1; omega
    have HZ := Lib.hid hz
    have HR := Lib.hid hr
    have HK := Lib.hid hk
    have HTS := Lib.hid hts
    have HN := Lib.hid hn
    have HGC := Lib.hid hgc
    have hmr := Lib.hid (rd_more c v wr hr)
    obtain ⟨mo, hmo⟩ : ∃ b, v.more = b := ⟨_, rfl⟩
    rw [hmo] at hmr
    have HMO := Lib.hid hmo
    have CT := rd_text c v 8 wr (HLB.out.kb hc hk) hr hvl
    obtain ⟨X, hX⟩ : ∃ X : ByteArray, (⟨(v.text 8).1.toArray⟩ : ByteArray) = X := ⟨_, rfl⟩
    rw [hX] at CT
    have HCT := Lib.hid CT
    have HX := Lib.hid hX
    have hvl2 : (v.text 8).2.s.length ≤ 281474976710656 := Nat.le_trans (text_len 8 v) hvl
    have HV2 := Lib.hid hvl2
    have HVL := Lib.hid hvl
    clear hz hr hk hts hn hmo CT hX hgc HR1 HK1 HW1 HE2 hvl2 hvl
    go_upto_region 3 with fail
    go_cut [12] (fun s wx => s = .bool (mo && decide (n < 4)) ∧ wx = wr)
    case first =>
      cases mo with
      | false =>
        go_wp2_with fail
        refine hmr.out.mono ?_
        rintro e w' ⟨rfl, rfl⟩
        go_wp2_with fail
        go_meet
        case rel => exact ⟨rfl, rfl⟩
      | true =>
        go_wp2_with fail
        refine hmr.out.mono ?_
        rintro e w' ⟨rfl, rfl⟩
        go_wp2_with fail
        go_meet
        case rel => exact ⟨by simp; omega, rfl⟩
    case rest =>
      obtain ⟨rfl, hwc⟩ := hcut
      subst hwc
      by_cases hgo : mo = true ∧ n < 4
      · obtain ⟨rfl, hn4⟩ := hgo
        rw [decide_eq_true hn4]
        have HTS2 : Hid (Fk.tkMs (4 - (acc ++ [X]).length) (v.text 8).2 (acc ++ [X]) = (Mf, uf)) := Lib.hid (by
          have := tkMs_more (u := v) (acc := acc) (by rw [HN.out]; exact hn4) HMO.out rfl
          rw [HX.out, HTS.out] at this
          exact this.symm)
        clear hmr
        go_wp2_with fail
        refine HCT.out.mono ?_
        rintro e w3 ⟨rfl, r3, k3⟩
        obtain ⟨W4, hW4⟩ : ∃ W, w3.alloc (.cells #[.string X] 9) = W := ⟨_, rfl⟩
        have hb4 : Below w3.heap.size w3 W4 := by rw [← hW4]; exact (Below.refl _ _).alloc (Nat.le_refl _) _
        have HZ4 : Hid (Wz w.heap.size W4 (.slice ao n cp) gb 9 1 n (acc.map Value.string)) := Lib.hid ((HZ.out.kb k3 HGC.out).below hb4)
        have HR4 := Lib.hid (Rd.same r3 hb4)
        have HK4 := Lib.hid ((HK.out.trans k3).trans (Kb.of_below (b := c) hb4))
        have HNEW : Hid (∀ t u, ([.string X] : List Value)[t]? = some u → W4.cell? ((⟨w3.heap.size, 0, none⟩ : Addr).add t) = some u) := Lib.hid (by rw [← hW4]; exact built_cells w3 _ _)
        have HZW : Hid (w.heap.size ≤ W4.heap.size) := Lib.hid (Nat.le_trans HK.out.size (Nat.le_trans k3.size hb4.size))
        clear r3 k3 hb4 HCT
        go_wp2_with (at_builtin; refine wp_add infoText Tryz.underlying41 (by rfl) _ _ (by rfl) (by rfl) HZ4.out ⟨w3.heap.size, 0, none⟩ 1 [.string X] (by rfl) rfl HNEW.out (by simp [Value.oneCell']) (by omega) (by decide) HZW.out ?_)
        intro v' g' w' hz' hg' _
        have HZ' : Hid (Wz w.heap.size w' v' g' 9 1 (acc ++ [X]).length ((acc ++ [X]).map Value.string)) := Lib.hid (by
          rw [List.length_append, List.map_append, HN.out]
          exact hz')
        have HK' : Hid (Kb c w w') := Lib.hid ⟨hg'.os.trans HK4.out.os, hg'.tape.trans HK4.out.tape, hg'.output.trans HK4.out.output, Nat.le_trans HK4.out.size hg'.size, fun k hkl hkc => (hg'.block k (Nat.lt_of_lt_of_le hkl HZW.out) (fun e => by have := (HZ4.out.lt k e.symm).1; omega)).trans (HK4.out.block k hkl hkc)⟩
        have HR' : Hid (Rd c w' (v.text 8).2) := Lib.hid ((hg'.block c (by have := HR4.out.lt; omega) (fun e => HGC.out e.symm)).trans HR4.out)
        clear hz' hg'
        obtain ⟨ao', cp', rfl⟩ := HZ'.out.form
        have HL' : Hid ((acc ++ [X]).length = n + 1) := Lib.hid (by rw [List.length_append, HN.out]; rfl)
        go_wp2_with fail
        go_roundw
        case rel => exact ⟨(v.text 8).2, acc ++ [X], g', by rw [HL'.out]; omega, HV2.out, HZ'.out, HR'.out, HK'.out, HTS2.out⟩
        case measure =>
          have := HL'.out
          simp only [sliceLen]
          omega
      · have hgo' : (mo && decide (n < 4)) = false := by
          rcases Bool.eq_false_or_eq_true mo with h | h
          · rw [h, decide_eq_false (fun h5 => hgo ⟨h, h5⟩)]; rfl
          · rw [h]; rfl
        rw [hgo']
        have hfin : (acc, v) = (Mf, uf) := by
          rw [← HTS.out]
          refine (tkMs_over ?_).symm
          rcases Bool.eq_false_or_eq_true mo with h | h
          · exact .inl (by rw [HN.out]; exact Nat.sub_eq_zero_of_le (Nat.le_of_not_lt fun h5 => hgo ⟨h, h5⟩))
          · exact .inr (by rw [HMO.out]; exact h)
        injection hfin with hf1 hf2
        subst hf1 hf2
        have HC := Lib.hid (rd_close c v wc HR.out HVL.out)
        clear hgo hgo' hmr HTS HMO HCT
        go_wp2_with fail
        refine HC.out.mono ?_
        rintro e w7 ⟨rfl, r7, k7⟩
        have HF : Hid (MemOut c w (acc, v.byte 101) (.returned (.slice ao n cp)) w7) := Lib.hid ⟨_, gb, rfl, by rw [HN.out]; exact HZ.out.kb k7 HGC.out, r7, HK.out.trans k7⟩
        clear r7 k7 HC
        go_wp2_with fail
        go_ret
        exact HF.out
end Go.Proofs.YtjccfilbihkfpaaGreatDoor
