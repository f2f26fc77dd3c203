/- The walk of the law FrameJoins. -/
import Derived.Test.YtddlkagcdlgllaaReadsWalk
import Derived.Laws.AppendOwnNone
namespace Go.Proofs.Ytddlkagcdlgllaa
open Go.RowKit

/-- The frames of two rows of bytes, one behind the other. -/
theorem scan_join (M : List UInt8) (n : Nat) (L : List UInt8) (hn : L.length ≤ n) : Pl.scan (L.take (Pl.scan L).2 ++ M) = ((Pl.scan L).1 ++ (Pl.scan M).1, (Pl.scan L).2 + (Pl.scan M).2) ∧ (Pl.scan L).2 ≤ L.length := by
  induction n generalizing L with
  | zero =>
    have e : Pl.scan L = ([], 0) := Pl.scan_stop (by rw [Pl.nx_few (by omega)]; decide)
    rw [e]
    exact ⟨by simp, Nat.zero_le _⟩
  | succ n ih =>
    by_cases hz : (Pl.nx L).2 = 0
    · obtain ⟨hy, r, hr⟩ := Pl.nx_ok hz
      generalize (Pl.nx L).1 = y at hy hr
      have hlen := congrArg List.length hr
      rw [List.length_append, Pl.frame_length] at hlen
      have e := Pl.scan_frame y r hy
      rw [← hr] at e
      obtain ⟨h1, h2⟩ := ih r (by omega)
      rw [e]
      refine ⟨?_, by show 8 + y.length + (Pl.scan r).2 ≤ _; omega⟩
      have et : L.take (8 + y.length + (Pl.scan r).2) = Pl.frame y ++ r.take (Pl.scan r).2 := by
        rw [hr, ← Pl.frame_length, List.take_length_add_append]
      show Pl.scan (L.take (8 + y.length + (Pl.scan r).2) ++ M) = _
      rw [et, List.append_assoc, Pl.scan_frame _ _ hy, h1]
      refine Prod.ext ?_ ?_
      · simp
      · show 8 + y.length + ((Pl.scan r).2 + (Pl.scan M).2) = 8 + y.length + (Pl.scan r).2 + (Pl.scan M).2
        omega
    · rw [Pl.scan_stop hz]
      exact ⟨by simp, Nat.zero_le _⟩

/-- A slice whose texts can be appended. -/
def Source (u : Value) (ls : List (List UInt8)) (w : World) : Prop :=
  (u = .slice none 0 0 ∧ ls = []) ∨ ∃ ad cap, u = .slice (some ad) ls.length cap ∧ ∀ j x, (strs ls)[j]? = some x → w.cell? (ad.add j) = some x
theorem source_own {v : Value} {ls : List (List UInt8)} {w : World} {base : Nat} {T : TypeId} (h : w.ownsRow base T 1 v ls.length (strs ls)) : Source v ls w := by
  have hc := @World.ownsRow.cells _ _ _ _ _ _ _ h
  rcases h.2 with ⟨rfl, hn⟩ | ⟨g, cap, cur, rfl, rest⟩
  · exact Or.inl ⟨rfl, List.length_eq_zero_iff.1 hn⟩
  · exact Or.inr ⟨_, cap, rfl, fun j x hj => hc (g := g) rfl j x hj⟩
theorem strs_one (ls : List (List UInt8)) : ∀ u ∈ strs ls, u.oneCell' = true := by
  intro u hu
  obtain ⟨l, -, rfl⟩ := List.mem_map.1 hu
  rfl
theorem wpList_append_source {w : World} {ops : Array Oper} {rest : List Oper} {o : Oper} {a : Act} {Q : Exit → Act → World → Prop} (hgd : o.guard = none) (s x : Operand)
    (ho : o.op = .call { callee := .builtin .append, args := #[s, x], argTypes := #[31, 31] })
    (base : Nat) (v : Value) (n : Nat) (xs : List Value) (hs : a.eval s = v) (hown : w.ownsRow base 9 1 v n xs)
    (u : Value) (ls : List (List UInt8)) (hx : a.eval x = u) (hsrc : Source u ls w) (hn : n ≤ 1048576) (hl : ls.length ≤ 1048577) (hbase : base ≤ w.heap.size)
    (h : ∀ v' w', w'.ownsRow base 9 1 v' (n + ls.length) (xs ++ strs ls) → w.grownBy w' v.ownBlock → wpList Try.prog ops Q rest (a.put o.dst v') w') : wpList Try.prog ops Q (o :: rest) a w := by
  obtain ⟨i0, hi, hz0, hz1, hz2⟩ := infoStr
  rcases hsrc with ⟨rfl, rfl⟩ | ⟨ad, cap, rfl, hc⟩
  · refine wpList_append_own_none hgd s x 31 ho base 9 i0 1 Try.underlying31 hi v n xs hs hown hx (h v w ?_ ⟨rfl, rfl, rfl, Nat.le_refl _, fun _ _ _ => rfl⟩)
    simpa [strs] using hown
  · refine wpList_append_own w hgd s x 31 ho base 9 i0 (.string ByteArray.empty) 1 16 Try.underlying31 hi hz0 hz1 hz2 rfl (by decide) v n xs hs hown ad ls.length cap (strs ls) hx (by simp [strs]) hc (strs_one ls) ?_ ?_ hbase fun v' w' h1 h2 _ => h v' w' h1 h2
    · unfold maxLen; omega
    · omega

set_option maxHeartbeats 1000000 in
theorem joins_any (s t : ByteArray) (w : World) :
    Calls Try.prog 7 #[.string s, .string t] w fun e w' => e = .returned (.bool true) ∧ Below w.heap.size w w' := by
  by_cases hs : 4096 < s.size
  · go_enter Try.func7, Try.ntmps7
    go_wp2_with fail
    refine (awake_any _).mono ?_
    rintro e w1 ⟨rfl, b1⟩
    go_wp2_with fail
    go_ret
    exact ⟨rfl, b1⟩
  · by_cases ht : 4096 < t.size
    · go_enter Try.func7, Try.ntmps7
      go_wp2_with fail
      refine (awake_any _).mono ?_
      rintro e w1 ⟨rfl, b1⟩
      go_wp2_with fail
      go_ret
      exact ⟨rfl, b1⟩
    · have hsl : s.data.toList.length = s.size := (Lib.size_eq s).symm
      obtain ⟨hj, hn⟩ := scan_join t.data.toList _ s.data.toList (Nat.le_refl _)
      have htl : t.data.toList.length = t.size := (Lib.size_eq t).symm
      have hm := (scan_join [] _ t.data.toList (Nat.le_refl _)).2
      have l1 := scan_len s
      have l2 := scan_len t
      have HS := Lib.hid (fun w => scan_any s w (by omega))
      have HT := Lib.hid (fun w => scan_any t w (by omega))
      have e3 : ∀ (x : Nat), x ≤ s.size → (s.extract 0 x ++ t).data.toList = s.data.toList.take x ++ t.data.toList := fun x _ => by
        rw [Joins.data_append, Lib.extract_data, List.drop_zero, Nat.sub_zero]
      have HU := Lib.hid (fun w => scan_any (s.extract 0 (Pl.scan s.data.toList).2 ++ t) w (by rw [ByteArray.size_append, ByteArray.size_extract]; omega))
      unfold Scanned at HS HT HU
      rw [e3 _ (by omega), hj] at HU
      generalize Pl.scan s.data.toList = S at *
      generalize Pl.scan t.data.toList = T at *
      obtain ⟨ts1, n⟩ := S
      obtain ⟨ts2, m⟩ := T
      have hn' : n ≤ s.size := by have := hn; rw [hsl] at this; exact this
      have hm' : m ≤ 4096 := by have : m ≤ t.data.toList.length := hm; omega
      have hn2 : n ≤ 4096 := by omega
      have L1 := Lib.hid (show ts1.length ≤ s.size + 1 from l1)
      have L2 := Lib.hid (show ts2.length ≤ t.size + 1 from l2)
      clear hj hn hsl l1 l2 e3 hm htl
      go_enter Try.func7, Try.ntmps7
      go_wp2_with fail
      refine (awake_any _).mono ?_
      rintro e w1 ⟨rfl, b1⟩
      go_wp2_with fail
      refine (HS.out _).mono ?_
      rintro e w2 ⟨v1, rfl, o1, b2⟩
      have b12 := b1.trans (b2.mono b1.size)
      have O1 := Lib.hid o1
      clear b1 b2 o1
      go_wp2_with fail
      refine (HT.out _).mono ?_
      rintro e w3 ⟨v2, rfl, o2, b3⟩
      have b13 := b12.trans (b3.mono b12.size)
      have O1' := Lib.hid (own_below O1.out b3)
      have O2 := Lib.hid o2
      clear b12 b3 o2 O1
      go_wp2_with fail
      refine (HU.out _).mono ?_
      rintro e w4 ⟨v3, rfl, o3, b4⟩
      have b14 := b13.trans (b4.mono b13.size)
      have O1 := Lib.hid (own_below O1'.out b4)
      have O2' := Lib.hid (own_below O2.out b4)
      have O3 := Lib.hid o3
      clear b13 b4 o3 O1' O2
      have b45 : Below w4.heap.size w4 (w4.alloc (.cells #[] 9)) := (Below.refl _ _).alloc (Nat.le_refl _) _
      have OE : Hid ((w4.alloc (.cells #[] 9)).ownsRow w4.heap.size 9 1 (.slice (some ⟨w4.heap.size, 0, none⟩) 0 0) 0 []) := ⟨by simp, .inr ⟨w4.heap.size, 0, #[], rfl, Nat.le_refl _, heap_alloc_new w4 _, Nat.le_refl _, Nat.zero_le _, by simp, by simp⟩⟩
      have B45 := Lib.hid b45
      have HB14 := Lib.hid b14
      have hc4 : ts1.length ≤ 1048577 := by have := L1.out; omega
      have hc5 : w4.heap.size ≤ (w4.alloc (.cells #[] 9)).heap.size := b45.size
      have HC4 := Lib.hid hc4
      have HC5 := Lib.hid hc5
      have hc6 : ts2.length ≤ 1048577 := by have := L2.out; omega
      have HC6 := Lib.hid hc6
      clear b45 b14 hc4 hc5 hc6
      go_wp2_with (at_builtin; refine wpList_append_source rfl _ _ rfl w4.heap.size _ 0 [] rfl OE.out _ ts1 rfl (source_own (own_below O1.out B45.out)) (Nat.zero_le _) HC4.out HC5.out ?_)
      intro v4 w5 o4 g4
      have b5 : Below w4.heap.size w4 w5 := B45.out.grown g4 HC5.out (fun k hk => by have := (OE.out.lt k hk).1; exact this)
      have B5 := Lib.hid b5
      have O4 := Lib.hid o4
      have O2 := Lib.hid (own_below O2'.out b5)
      have HB5 := Lib.hid b5.size
      have hn1 : ts1.length ≤ 1048576 := by have := L1.out; omega
      have HN1 := Lib.hid hn1
      clear o4 g4 b5 hn1
      go_wp2_with (at_builtin; refine wpList_append_source rfl _ _ rfl w4.heap.size _ ts1.length (strs ts1) rfl O4.out _ ts2 rfl (source_own O2.out) HN1.out HC6.out HB5.out ?_)
      intro v5 w6 o5 g5
      have b6 : Below w4.heap.size w4 w6 := B5.out.grown g5 HB5.out (fun k hk => (O4.out.lt k hk).1)
      rw [← List.length_append, show strs ts1 ++ strs ts2 = strs (ts1 ++ ts2) from (List.map_append ..).symm] at o5
      have R5 := Lib.hid (readable_own o5)
      have R3 := Lib.hid (readable_own (own_below O3.out b6))
      have b16 := Lib.hid (HB14.out.trans (b6.mono HB14.out.size))
      have HL : Hid ((ts1 ++ ts2).length ≤ 1099511627776) := by
        have h1 := L1.out
        have h2 := L2.out
        show (ts1 ++ ts2).length ≤ _
        rw [List.length_append]
        omega
      clear o5 g5 b6
      go_wp2_with fail
      refine (same_true _ _ (ts1 ++ ts2) _ R3.out R5.out HL.out).mono ?_
      rintro e w7 ⟨rfl, b7⟩
      have b17 := Lib.hid (b16.out.trans (b7.mono b16.out.size))
      clear b7
      go_wp2_with fail
      go_ret
      exact ⟨rfl, b17.out⟩
end Go.Proofs.Ytddlkagcdlgllaa
