/- THE CONTRACT OF the program's Scan: a goto back for the next frame. -/
import Derived.Test.YtddlkagcdlgllaaNext
import Derived.ScopeJumps
import Derived.WalkMore
import Derived.OwnWalk
namespace Go.Proofs.Ytddlkagcdlgllaa
open Go.RowKit

def strs (ls : List (List UInt8)) : List Value := ls.map fun l => Value.string ⟨l.toArray⟩
/-- What Scan leaves. -/
def Scanned (s : ByteArray) (w : World) (e : Ending) (w' : World) : Prop :=
  ∃ v, e = .returned (.tuple #[v, .int .i64 ((Pl.scan s.data.toList).2 : Nat)]) ∧ w'.ownsRow w.heap.size 9 1 v (Pl.scan s.data.toList).1.length (strs (Pl.scan s.data.toList).1) ∧ Below w.heap.size w w'
/-- What is known at the label. -/
def Known (s : ByteArray) (w : World) (p : Nat) (ts : List (List UInt8)) (v : Value) (w' : World) : Prop :=
  p ≤ s.size ∧ ts.length ≤ p ∧ Pl.scan s.data.toList = (ts ++ (Pl.scan (s.data.toList.drop p)).1, p + (Pl.scan (s.data.toList.drop p)).2) ∧
    w'.ownsRow w.heap.size 9 1 v ts.length (strs ts) ∧ Below w.heap.size w w'
/-- What holds at the label. -/
def AtNext (s : ByteArray) (w : World) (a' : Act) (w' : World) : Prop :=
  ∃ (p : Nat) (ts : List (List UInt8)) (v : Value), Known s w p ts v w' ∧
    ∃ u6 u7 u8 u9 u10 u11 u12 u13 u14 u15 u16 u17 u18 u19 u20 u21 u22 u23 u24 : Value, a' = { tmps := #[.string s, undef, .slice none 0 0, .int .i64 0, v, .int .i64 p, u6, u7, u8, u9, u10, u11, u12, u13, u14, u15, u16, u17, u18, u19, u20, u21, u22, u23, u24], defers := [] }

theorem infoStr' : (Try.prog.info? 9).map (fun i => (i.zero, i.size, i.bytes)) = some (some (.string ByteArray.empty), 1, 16) := by kernel_rfl
theorem infoStr : ∃ i, Try.prog.info? 9 = some i ∧ i.zero = some (.string ByteArray.empty) ∧ i.size = 1 ∧ i.bytes = 16 := by
  have h := infoStr'
  cases hi : Try.prog.info? 9 with
  | none => rw [hi] at h; cases h
  | some i =>
    rw [hi] at h
    simp only [Option.map_some, Option.some.injEq, Prod.mk.injEq] at h
    exact ⟨i, rfl, h.1, h.2.1, h.2.2⟩
theorem own_below {w w' : World} {base n size : Nat} {e : TypeId} {v : Value} {xs : List Value} (h : w.ownsRow base e size v n xs) (hb : Below w.heap.size w w') : w'.ownsRow base e size v n xs :=
  h.kept (row := none) ⟨hb.os, hb.tape, hb.output, hb.size, fun k hk _ => hb.block k hk⟩ (by cases v.ownBlock <;> simp)
/-- A frame more. -/
theorem known_step {s : ByteArray} {w w' w1 w2 : World} {p : Nat} {ts : List (List UInt8)} {v v' : Value} {y : List UInt8} (h : Known s w p ts v w') (hy : (Pl.nx (s.data.toList.drop p)).1 = y) (hz : (Pl.nx (s.data.toList.drop p)).2 = 0) (b1 : Below w'.heap.size w' w1) (o : Obj)
    (hown : w2.ownsRow w.heap.size 9 1 v' (ts.length + 1) (strs ts ++ [Value.string ⟨y.toArray⟩])) (hg : (w1.alloc o).grownBy w2 v.ownBlock) : Known s w (p + 8 + y.length) (ts ++ [y]) v' w2 := by
  obtain ⟨hp, hts, hsc, ho, hb⟩ := h
  have hl : s.data.toList.length = s.size := (Lib.size_eq s).symm
  obtain ⟨-, r, hr⟩ := Pl.nx_ok hz
  have hlen := congrArg List.length hr
  rw [List.length_append, Pl.frame_length, List.length_drop, hl, hy] at hlen
  have hst := Pl.scan_step hz
  rw [hy, List.drop_drop, ← Nat.add_assoc] at hst
  refine ⟨by omega, by simp; omega, ?_, ?_, ?_⟩
  · rw [hsc, hst]
    refine Prod.ext ?_ ?_
    · simp
    · show p + (8 + y.length + _) = p + 8 + y.length + _
      omega
  · have e : (ts ++ [y]).length = ts.length + 1 := by simp
    rw [e]
    have e2 : strs (ts ++ [y]) = strs ts ++ [Value.string ⟨y.toArray⟩] := by simp [strs]
    rw [e2]
    exact hown
  · have h1 := b1.mono hb.size
    have h2 := (hb.trans h1).alloc (Nat.le_trans hb.size b1.size) o
    exact h2.grown hg (by have := h2.size; omega) (fun k hk => (ho.lt k hk).1)
/-- The place behind it. -/
theorem known_room {s : ByteArray} {w w' : World} {p : Nat} {ts : List (List UInt8)} {v : Value} (h : Known s w p ts v w') (hz : (Pl.nx (s.data.toList.drop p)).2 = 0) : p + 8 + (Pl.nx (s.data.toList.drop p)).1.length ≤ s.size := by
  have hl : s.data.toList.length = s.size := (Lib.size_eq s).symm
  obtain ⟨-, r, hr⟩ := Pl.nx_ok hz
  have hlen := congrArg List.length hr
  rw [List.length_append, Pl.frame_length, List.length_drop, hl] at hlen
  have := h.1
  omega
/-- No frame more. -/
theorem known_end {s : ByteArray} {w w' w1 : World} {p : Nat} {ts : List (List UInt8)} {v : Value} (h : Known s w p ts v w') (hz : (Pl.nx (s.data.toList.drop p)).2 ≠ 0) (b1 : Below w'.heap.size w' w1) : Scanned s w (.returned (.tuple #[v, .int .i64 p])) w1 := by
  obtain ⟨hp, hts, hsc, ho, hb⟩ := h
  rw [Pl.scan_stop hz, List.append_nil, Nat.add_zero] at hsc
  refine ⟨v, ?_, ?_, hb.trans (b1.mono hb.size)⟩
  · rw [hsc]
  · rw [hsc]
    exact own_below ho b1
theorem known_start (s : ByteArray) (w : World) : Known s w 0 [] (.slice none 0 0) w :=
  ⟨Nat.zero_le _, Nat.zero_le _, by simp, World.ownsRow_nil _ _ _ _, Below.refl _ _⟩

set_option maxHeartbeats 1000000 in
set_option maxRecDepth 100000 in
theorem scan_any (s : ByteArray) (w : World) (hs : s.size ≤ 1048576) :
    Calls Try.prog 17 #[.string s] w (Scanned s w) := by
  go_enter Try.func17, Try.ntmps17
  go_wp2_with fail
  refine wp_scope_jumps 0 (AtNext s w) (fun a _ => s.size - (intOf (a.tmps.getD 5 undef)).toNat) rfl ?_ ?_
  · have HK := Lib.hid (known_start s w)
    go_wp2_with fail
    go_step3
    refine ‹∀ a w, Code.wp _ _ _ a w → _› _ _ ?_
    have N := next_at s 0 w HK.out.1 hs
    by_cases hz : (Pl.nx (s.data.toList.drop 0)).2 = 0
    · have hq := known_room HK.out hz
      rw [res_ok HK.out.1 hz] at N
      obtain ⟨y, hy⟩ : ∃ y, (Pl.nx (s.data.toList.drop 0)).1 = y := ⟨_, rfl⟩
      rw [hy] at N hq
      have HY := Lib.hid hy
      have HN := Lib.hid N
      have HZ := Lib.hid hz
      obtain ⟨i0, hi, hz0, hz1, hz2⟩ := infoStr
      have HO := Lib.hid HK.out.2.2.2.1
      have hB := HK.out.2.2.2.2.size
      clear hy N hz
      go_wp2_with fail
      refine HN.out.mono ?_
      rintro e w1 ⟨rfl, b1⟩
      have HO1 := Lib.hid (own_below HO.out b1)
      have hB1 := Nat.le_trans hB b1.size
      go_wp2_with (at_builtin; refine wpList_append_own _ rfl _ _ 31 rfl w.heap.size 9 i0 (.string ByteArray.empty) 1 16 Try.underlying31 hi hz0 hz1 hz2 rfl (by decide) _ _ _ rfl (HO1.out.alloc _) ⟨w1.heap.size, 0, none⟩ 1 1 [.string ⟨y.toArray⟩] rfl rfl ?c1 ?c2 ?c3 ?c4 ?c5 ?_)
      case c1 =>
        intro j u hj
        match j, hj with
        | 0, hj => simp at hj; subst hj; simp [Addr.add]
      case c2 => intro u hu; simp at hu; subst hu; rfl
      case c3 => unfold maxLen; simp
      case c4 => simp
      case c5 => simp; omega
      intro v' w2 hown2 hgrow _
      have HO2 := Lib.hid hown2
      have HG2 := Lib.hid hgrow
      clear hown2 hgrow hi hz0 hz1 hz2
      go_wp2_with fail
      go_step3
      have ep : 8 + (y.length : Int) = ((0 + 8 + y.length : Nat) : Int) := by omega
      rw [ep]
      have hown2 := HO2.out
      have hgrow := HG2.out
      exact ⟨rfl, ⟨0 + 8 + y.length, [] ++ [y], v', known_step HK.out HY.out HZ.out b1 _ hown2 hgrow, _, _, _, _, _, _, _, _, _, _, _, _, _, _, _, _, _, _, _, rfl⟩⟩
    · rw [res_no HK.out.1 hz] at N
      obtain ⟨k, hk⟩ : ∃ k : Nat, (Pl.nx (s.data.toList.drop 0)).2 = k := ⟨_, rfl⟩
      have HZ := Lib.hid hz
      rw [hk] at N hz
      have hz2 : ((k : Int) == 0) = false := by rw [beq_eq_false_iff_ne]; omega
      have HN := Lib.hid N
      clear hk N hz
      go_wp2_with fail
      refine HN.out.mono ?_
      rintro e w1 ⟨rfl, b1⟩
      have HB := Lib.hid b1
      clear b1
      go_wp2_with fail
      simp only [Exit.jump]
      go_ret2
      exact known_end HK.out HZ.out HB.out
  · rintro a' w' ⟨p, ts, v, hK, u6, u7, u8, u9, u10, u11, u12, u13, u14, u15, u16, u17, u18, u19, u20, u21, u22, u23, u24, rfl⟩
    have HK := Lib.hid hK
    clear hK
    have N := next_at s p w' HK.out.1 hs
    by_cases hz : (Pl.nx (s.data.toList.drop p)).2 = 0
    · have hq := known_room HK.out hz
      rw [res_ok HK.out.1 hz] at N
      obtain ⟨y, hy⟩ : ∃ y, (Pl.nx (s.data.toList.drop p)).1 = y := ⟨_, rfl⟩
      rw [hy] at N hq
      have HY := Lib.hid hy
      have HN := Lib.hid N
      have HZ := Lib.hid hz
      obtain ⟨i0, hi, hz0, hz1, hz2⟩ := infoStr
      have HO := Lib.hid HK.out.2.2.2.1
      have hB := HK.out.2.2.2.2.size
      clear hy N hz
      go_wp2_with fail
      refine HN.out.mono ?_
      rintro e w1 ⟨rfl, b1⟩
      have HO1 := Lib.hid (own_below HO.out b1)
      have hB1 := Nat.le_trans hB b1.size
      go_wp2_with (at_builtin; refine wpList_append_own _ rfl _ _ 31 rfl w.heap.size 9 i0 (.string ByteArray.empty) 1 16 Try.underlying31 hi hz0 hz1 hz2 rfl (by decide) _ _ _ rfl (HO1.out.alloc _) ⟨w1.heap.size, 0, none⟩ 1 1 [.string ⟨y.toArray⟩] rfl rfl ?c1 ?c2 ?c3 ?c4 ?c5 ?_)
      case c1 =>
        intro j u hj
        match j, hj with
        | 0, hj => simp at hj; subst hj; simp [Addr.add]
      case c2 => intro u hu; simp at hu; subst hu; rfl
      case c3 => unfold maxLen; have := HK.out.2.1; omega
      case c4 => have := HK.out.2.1; omega
      case c5 => simp; omega
      intro v' w2 hown2 hgrow _
      have HO2 := Lib.hid hown2
      have HG2 := Lib.hid hgrow
      clear hown2 hgrow hi hz0 hz1 hz2
      go_wp2_with fail
      go_step3
      have ep : (p : Int) + 8 + (y.length : Int) = ((p + 8 + y.length : Nat) : Int) := by omega
      rw [ep]
      have hown2 := HO2.out
      have hgrow := HG2.out
      exact ⟨rfl, ⟨p + 8 + y.length, ts ++ [y], v', known_step HK.out HY.out HZ.out b1 _ hown2 hgrow, _, _, _, _, _, _, _, _, _, _, _, _, _, _, _, _, _, _, _, rfl⟩, by simp [intOf]; omega⟩
    · rw [res_no HK.out.1 hz] at N
      obtain ⟨k, hk⟩ : ∃ k : Nat, (Pl.nx (s.data.toList.drop p)).2 = k := ⟨_, rfl⟩
      have HZ := Lib.hid hz
      rw [hk] at N hz
      have hz2 : ((k : Int) == 0) = false := by rw [beq_eq_false_iff_ne]; omega
      have HN := Lib.hid N
      clear hk N hz
      go_wp2_with fail
      refine HN.out.mono ?_
      rintro e w1 ⟨rfl, b1⟩
      have HB := Lib.hid b1
      clear b1
      go_wp2_with fail
      simp only [Exit.jump]
      go_ret2
      exact known_end HK.out HZ.out HB.out
end Go.Proofs.Ytddlkagcdlgllaa
