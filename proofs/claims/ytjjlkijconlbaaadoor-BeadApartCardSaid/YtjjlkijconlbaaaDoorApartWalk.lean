/- The walk of the law BeadApart. -/
import Derived.Test.YtjjlkijconlbaaaDoorCutsWalk
import Derived.Test.YtjjlkijconlbaaaDoorOneWalk
import Derived.Deep.QuietTactic
import Derived.BigQuiet
import Derived.Deep.Cut
namespace Go.Proofs.YtjjlkijconlbaaaDoor
open Go.RowKit

/-- A thing's bytes. -/
def wThing (is : Bool) (n : Int) (t : List UInt8) : List UInt8 := if is then Pl.wText t else Pl.wInt n
theorem wThing_ne (is : Bool) (n : Int) (t : List UInt8) : wThing is n t ≠ [] := by
  cases is
  · exact Pl.wInt_ne n
  · exact Pl.wText_ne t

/-- No thing begins with another one. -/
theorem thing_prefix {is js : Bool} {n m : Int} {t u r : List UInt8} (hn : Pl.I64 n) (hm : Pl.I64 m) (ht : t.length ≤ 4096) (hu : u.length ≤ 4096) (h : wThing is n t ++ r = wThing js m u) :
    r = [] ∧ is = js ∧ (is = true → t = u) ∧ (is = false → n = m) := by
  cases is <;> cases js
  · have h : Pl.wInt n ++ r = Pl.wInt m := h
    have h1 := Pl.rInt_w n hn r
    have h2 := Pl.rInt_w m hm []
    rw [List.append_nil, ← h, h1] at h2
    injection h2 with h2
    injection h2 with e1 e2
    exact ⟨e2, rfl, (fun h => by cases h), fun _ => e1⟩
  · have h : Pl.wInt n ++ r = Pl.wText u := h
    exact (Pl.wText_not_wInt (t := u) (q := []) (r := r) (n := n) (by rw [List.append_nil]; exact h.symm)).elim
  · have h : Pl.wText t ++ r = Pl.wInt m := h
    exact (Pl.wText_not_wInt (t := t) (q := r) (r := []) (n := m) (by rw [List.append_nil]; exact h)).elim
  · have h : Pl.wText t ++ r = Pl.wText u := h
    have h1 := Pl.rText_w t 4096 (by omega) (by omega) r
    have h2 := Pl.rText_w u 4096 (by omega) (by omega) []
    rw [List.append_nil, ← h, h1] at h2
    injection h2 with h2
    injection h2 with e1 e2
    exact ⟨e2, rfl, fun _ => e1, (fun h => by cases h)⟩

/-- As many bytes of both as the shorter has are alike just where the things are. -/
theorem thing_apart {is js : Bool} {n m : Int} {t u : List UInt8} (hn : Pl.I64 n) (hm : Pl.I64 m) (ht : t.length ≤ 4096) (hu : u.length ≤ 4096)
    (h : (wThing is n t).take (min (wThing is n t).length (wThing js m u).length) = (wThing js m u).take (min (wThing is n t).length (wThing js m u).length)) :
    is = js ∧ (is = true → t = u) ∧ (is = false → n = m) := by
  by_cases hl : (wThing is n t).length ≤ (wThing js m u).length
  · rw [Nat.min_eq_left hl, List.take_length] at h
    have h1 : wThing is n t ++ (wThing js m u).drop (wThing is n t).length = wThing js m u := by
      conv => lhs; rw [h]
      rw [show ((wThing js m u).take (wThing is n t).length).length = (wThing is n t).length by rw [List.length_take]; omega]
      exact List.take_append_drop _ _
    exact (thing_prefix hn hm ht hu h1).2
  · rw [Nat.min_eq_right (by omega), List.take_length] at h
    have h1 : wThing js m u ++ (wThing is n t).drop (wThing js m u).length = wThing is n t := by
      conv => lhs; rw [← h]
      rw [show ((wThing is n t).take (wThing js m u).length).length = (wThing js m u).length by rw [List.length_take]; omega]
      exact List.take_append_drop _ _
    obtain ⟨-, e1, e2, e3⟩ := thing_prefix hm hn hu ht h1
    exact ⟨e1.symm, fun h => (e2 (e1.trans h)).symm, fun h => (e3 (e1.trans h)).symm⟩

/-- Cut off, a thing is none. -/
theorem thing_cut {is : Bool} {n : Int} {t : List UInt8} (hn : Pl.I64 n) (ht : t.length ≤ 4096) {k : Nat} (hk : k < (wThing is n t).length) :
    (St.int ⟨(wThing is n t).take k, false⟩).2.done = 3 ∧ (St.text 4096 ⟨(wThing is n t).take k, false⟩).2.done = 3 := by
  have hd : (wThing is n t).take k ++ (wThing is n t).drop k = wThing is n t := List.take_append_drop _ _
  have hne : (wThing is n t).drop k ≠ [] := by
    intro h
    have := List.drop_eq_nil_iff.1 h
    omega
  constructor
  · rcases done_cases (St.int ⟨(wThing is n t).take k, false⟩).2 with ⟨h, -, -⟩ | h
    · obtain ⟨e, hb⟩ := int_done h
      rw [e] at hd
      have hd : wThing false (St.int ⟨(wThing is n t).take k, false⟩).1 [] ++ (wThing is n t).drop k = wThing is n t := hd
      exact (hne (thing_prefix hb hn (by simp) ht hd).1).elim
    · exact h
  · rcases done_cases (St.text 4096 ⟨(wThing is n t).take k, false⟩).2 with ⟨h, -, -⟩ | h
    · obtain ⟨e, hb⟩ := text_done h
      rw [e] at hd
      have hd : wThing true 0 (St.text 4096 ⟨(wThing is n t).take k, false⟩).1 ++ (wThing is n t).drop k = wThing is n t := hd
      exact (hne (thing_prefix (by unfold Pl.I64; omega) hn (by omega) ht hd).1).elim
    · exact h
theorem thing_len {is : Bool} {n : Int} {t : List UInt8} (hn : Pl.I64 n) (ht : t.length ≤ 4096) : (wThing is n t).length ≤ 5000 := by
  cases is
  · have := wInt_len n hn
    simp [wThing]
    omega
  · have := Lib.itoa_length_le t.length (by omega) (by omega)
    simp [wThing, Pl.wText]
    omega

/-- The two things in memory, and the rest as it was. -/
structure Ap (W : World) (is : Bool) (n : Int) (t : ByteArray) (js : Bool) (m : Int) (u : ByteArray) (w : World) : Prop where
  lb : Lb w
  a : w.heap[W.heap.size]? = some (.cells #[.bool is, .int .i64 n, .string t] 44 (0, 0))
  b : w.heap[W.heap.size + 1]? = some (.cells #[.bool js, .int .i64 m, .string u] 44 (0, 0))
  below : Below W.heap.size W w
  six : 6 ≤ W.heap.size
theorem Ap.next {W : World} {is : Bool} {n : Int} {t : ByteArray} {js : Bool} {m : Int} {u : ByteArray} {w w' : World} (h : Ap W is n t js m u w) (hb : Below w.heap.size w w') : Ap W is n t js m u w' :=
  ⟨h.lb.below h.lb.size hb, by rw [hb.block _ (lt_of_block h.a)]; exact h.a, by rw [hb.block _ (lt_of_block h.b)]; exact h.b, h.below.trans (hb.mono h.below.size), h.six⟩
theorem Ap.nextK {W : World} {is : Bool} {n : Int} {t : ByteArray} {js : Bool} {m : Int} {u : ByteArray} {w w' : World} {b : Nat} (h : Ap W is n t js m u w) (hb : Kb b w w') (h1 : W.heap.size + 2 ≤ b) (h2 : b < w.heap.size) : Ap W is n t js m u w' :=
  ⟨h.lb.kb (by have := h.six; omega) hb, by rw [hb.block _ (lt_of_block h.a) (by omega)]; exact h.a, by rw [hb.block _ (lt_of_block h.b) (by omega)]; exact h.b, h.below.trans (hb.below (by omega) h2), h.six⟩
theorem Ap.c0 {W : World} {is : Bool} {n : Int} {t : ByteArray} {js : Bool} {m : Int} {u : ByteArray} {w : World} (h : Ap W is n t js m u w) : w.cell? ⟨W.heap.size, 0, none⟩ = some (.bool is) := by simp [World.cell?, h.a]
theorem Ap.c1 {W : World} {is : Bool} {n : Int} {t : ByteArray} {js : Bool} {m : Int} {u : ByteArray} {w : World} (h : Ap W is n t js m u w) : w.cell? ⟨W.heap.size, 1, none⟩ = some (.int .i64 n) := by simp [World.cell?, h.a]
theorem Ap.c2 {W : World} {is : Bool} {n : Int} {t : ByteArray} {js : Bool} {m : Int} {u : ByteArray} {w : World} (h : Ap W is n t js m u w) : w.cell? ⟨W.heap.size, 2, none⟩ = some (.string t) := by simp [World.cell?, h.a]
theorem Ap.d0 {W : World} {is : Bool} {n : Int} {t : ByteArray} {js : Bool} {m : Int} {u : ByteArray} {w : World} (h : Ap W is n t js m u w) : w.cell? ⟨W.heap.size + 1, 0, none⟩ = some (.bool js) := by simp [World.cell?, h.b]
theorem Ap.d1 {W : World} {is : Bool} {n : Int} {t : ByteArray} {js : Bool} {m : Int} {u : ByteArray} {w : World} (h : Ap W is n t js m u w) : w.cell? ⟨W.heap.size + 1, 1, none⟩ = some (.int .i64 m) := by simp [World.cell?, h.b]
theorem Ap.d2 {W : World} {is : Bool} {n : Int} {t : ByteArray} {js : Bool} {m : Int} {u : ByteArray} {w : World} (h : Ap W is n t js m u w) : w.cell? ⟨W.heap.size + 1, 2, none⟩ = some (.string u) := by simp [World.cell?, h.b]
theorem Ap.start {W : World} (hl : Lb W) (is : Bool) (n : Int) (t : ByteArray) (js : Bool) (m : Int) (u : ByteArray) :
    Ap W is n t js m u ((W.alloc (.cells #[.bool is, .int .i64 n, .string t] 44)).alloc (.cells #[.bool js, .int .i64 m, .string u] 44)) := by
  have b : Below W.heap.size W ((W.alloc (.cells #[.bool is, .int .i64 n, .string t] 44)).alloc (.cells #[.bool js, .int .i64 m, .string u] 44)) := ((Below.refl _ _).alloc (Nat.le_refl _) _).alloc (by simp) _
  refine ⟨hl.below hl.size b, ?_, ?_, b, hl.size⟩
  · rw [Below.heap_alloc _ _ _ (by simp)]
    exact heap_alloc_new _ _
  · have := heap_alloc_new (W.alloc (.cells #[.bool is, .int .i64 n, .string t] 44)) (.cells #[.bool js, .int .i64 m, .string u] 44)
    simpa using this

/-- THE FOUR WALKS: a number or a text, twice. -/
theorem head_of {l : List UInt8} (h : l ≠ []) : ∃ x r, l = x :: r := by
  cases l with
  | nil => exact absurd rfl h
  | cons x r => exact ⟨x, r, rfl⟩

set_option maxHeartbeats 4000000 in
set_option maxRecDepth 100000 in
theorem apart_nn (na nb : Int) (ta tb : ByteArray) (cut : Int) (w : World) (hl : Lb w) (hn : Pl.I64 na) (hm : Pl.I64 nb) (ht : ta.size ≤ 4096) (hu : tb.size ≤ 4096) :
    Calls Tryd.prog 7 #[.agg #[.bool false, .int .i64 na, .string ta], .agg #[.bool false, .int .i64 nb, .string tb], .int .i64 cut] w fun e w' => e = .returned (.bool true) ∧ Below w.heap.size w w' := by
  have i0 := Ap.start hl false na ta false nb tb
  have hta : ta.data.toList.length ≤ 4096 := by rw [← Lib.size_eq]; exact ht
  have htb : tb.data.toList.length ≤ 4096 := by rw [← Lib.size_eq]; exact hu
  have hap := thing_apart (is := false) (js := false) hn hm hta htb
  have hcut := fun k hk => thing_cut (is := false) hn hta (k := k) hk
  have hxl := thing_len (is := false) hn hta
  have hyl := thing_len (is := false) hm htb
  obtain ⟨x0, xs, hX⟩ := head_of (wThing_ne false na ta.data.toList)
  obtain ⟨Y, hY⟩ : ∃ Y, wThing false nb tb.data.toList = Y := ⟨_, rfl⟩
  rw [hX] at hap hcut hxl
  rw [hY] at hap hyl
  obtain ⟨S, hSr⟩ : ∃ S, (na == nb) = S := ⟨_, rfl⟩
  have hS : S = true → (x0 :: xs) = Y := by
    intro h
    rw [h] at hSr
    rw [← hX, ← hY, beq_iff_eq.1 hSr]; rfl
  have hS2 : S = false → na ≠ nb := by
    intro h e
    rw [h, e] at hSr
    simp at hSr
  have hmin : min ((xs.length : Int) + 1) (Y.length : Int) = ((min (xs.length + 1) Y.length : Nat) : Int) := by omega
  have hN1 : min (xs.length + 1) Y.length ≤ xs.length + 1 := Nat.min_le_left _ _
  have hN2 : min (xs.length + 1) Y.length ≤ Y.length := Nat.min_le_right _ _
  obtain ⟨N, hN⟩ : ∃ N, min (xs.length + 1) Y.length = N := ⟨_, rfl⟩
  have hlx : (x0 :: xs).length = xs.length + 1 := rfl
  rw [hlx, hN] at hap
  rw [hN] at hmin hN1 hN2
  obtain ⟨PX, hPX⟩ : ∃ PX, (x0 :: xs).take N = PX := ⟨_, rfl⟩
  obtain ⟨PY, hPY⟩ : ∃ PY, Y.take N = PY := ⟨_, rfl⟩
  have hEX : (⟨(x0 :: xs).toArray⟩ : ByteArray).extract 0 N = ⟨PX.toArray⟩ := by rw [ext_take, hPX]
  have hEY : (⟨Y.toArray⟩ : ByteArray).extract 0 N = ⟨PY.toArray⟩ := by rw [ext_take, hPY]
  rw [hPX, hPY] at hap
  have hEq : (PX == PY) = S := by
    cases hc : S with
    | true =>
      rw [beq_iff_eq, ← hPX, ← hPY, hS hc]
    | false =>
      rw [beq_eq_false_iff_ne]
      intro h
      exact hS2 hc ((hap h).2.2 rfl)
  clear hS hS2
  obtain ⟨K, hKe, hKl⟩ := cut_mod cut ((xs.length : Int) + 1) (by omega) (by have := hxl; rw [hlx] at this; omega)
  obtain ⟨hc1, hc2⟩ := hcut K (by rw [hlx]; omega)
  obtain ⟨PK, hPK⟩ : ∃ PK, (x0 :: xs).take K = PK := ⟨_, rfl⟩
  have HK := Lib.hid (show (⟨(x0 :: xs).toArray⟩ : ByteArray).extract 0 K = ⟨PK.toArray⟩ by rw [ext_take, hPK])
  rw [hPK] at hc1 hc2
  have hxs : xs.length ≤ 5000 := by have := hxl; rw [hlx] at this; omega
  have hpk : PK.length ≤ 281474976710656 := by rw [← hPK, List.length_take, hlx]; omega
  have H1 := Lib.hid hc1
  have H2 := Lib.hid hc2
  have HX := Lib.hid hX
  have HY := Lib.hid hY
  have HE := Lib.hid (And.intro hEX (And.intro hEY hEq))
  have HM := Lib.hid hmin
  have HSr := Lib.hid hSr
  have HKe := Lib.hid hKe
  have HPK := Lib.hid hpk
  clear hap hcut hc1 hc2 hPK hX hY hEX hEY hEq hmin hSr hKe hpk hN hPX hPY hxl hlx hta htb
  go_enter Tryd.func7, Tryd.ntmps7
  go_wp2_with fail
  refine (awake_any _ i0.lb).mono ?_
  rintro e w1 ⟨rfl, b1⟩
  have i1 := i0.next b1
  have c0 := i1.c0
  have c1 := i1.c1
  have c2 := i1.c2
  have d0 := i1.d0
  have d1 := i1.d1
  have d2 := i1.d2
  clear b1 i0
  go_wp2_with fail
  have C := bead_int na hn _ i1.lb
  rw [show Pl.wInt na = (x0 :: xs) from HX.out] at C
  refine C.mono ?_
  clear C
  rintro e w2 ⟨rfl, b2⟩
  have i2 := i1.next b2
  clear c0 c1 c2 d0 d1 d2 b2 i1
  have c0 := i2.c0
  have c1 := i2.c1
  have c2 := i2.c2
  have d0 := i2.d0
  have d1 := i2.d1
  have d2 := i2.d2
  go_wp2_with fail
  have C := bead_int nb hm _ i2.lb
  rw [show Pl.wInt nb = Y from HY.out] at C
  refine C.mono ?_
  clear C
  rintro e w3 ⟨rfl, b3⟩
  have i3 := i2.next b3
  clear c0 c1 c2 d0 d1 d2 b3 i2
  have c0 := i3.c0
  have c1 := i3.c1
  have c2 := i3.c2
  have d0 := i3.d0
  have d1 := i3.d1
  have d2 := i3.d2
  have hSr := HSr.out
  have hmin := HM.out
  go_upto_region 13 with (fail)
  clear hSr hmin c0 c1 c2 d0 d1 d2
  obtain ⟨hEX, hEY, hEq⟩ := HE.out
  go_quiet (fail)
  have iq := i3.next (below_drewN _ nq)
  obtain ⟨wq, hwq⟩ : ∃ wq, w3.drewN nq = wq := ⟨_, rfl⟩
  rw [hwq] at iq ⊢
  clear hwq hEX hEY hEq i3 HE HM HSr HX HY
  have hKe := HKe.out
  go_wp2_with fail
  clear hKe
  rw [HK.out]
  refine (rd_new _ _).mono ?_
  rintro e wr ⟨rfl, rr, br⟩
  have ir := iq.next br
  have hB : w.heap.size + 2 ≤ wq.heap.size := lt_of_block iq.b
  obtain ⟨b, hb⟩ : ∃ b, wq.heap.size = b := ⟨_, rfl⟩
  rw [hb] at rr hB ⊢
  clear hb br iq
  have rr : Rd b wr ⟨PK, false⟩ := rr
  go_wp2_with fail
  refine (rd_int b _ _ ir.lb rr HPK.out).mono ?_
  rintro e ws ⟨rfl, rs, ks⟩
  have is := ir.nextK ks hB rr.lt
  clear rr ks ir
  rw [HKe.out]
  go_wp2_with fail
  rw [HK.out]
  refine (rd_new _ _).mono ?_
  rintro e wt ⟨rfl, rt, bt⟩
  have it := is.next bt
  have rs2 := rs.same bt
  have hbc : b < ws.heap.size := rs.lt
  obtain ⟨c, hc⟩ : ∃ c, ws.heap.size = c := ⟨_, rfl⟩
  rw [hc] at rt hbc ⊢
  clear hc bt is rs
  have rt : Rd c wt ⟨PK, false⟩ := rt
  go_wp2_with fail
  refine (rd_text c _ _ _ it.lb rt HPK.out).mono ?_
  rintro e wv ⟨rfl, rv, kv⟩
  have iv := it.nextK kv (by omega) rt.lt
  have rs3 := rs2.other kv (Nat.ne_of_lt hbc)
  clear rt kv it rs2
  go_wp2_with fail
  refine (rd_done b _ _ rs3).mono ?_
  rintro e w' ⟨rfl, rfl⟩
  rw [H1.out]
  go_wp2_with fail
  refine (rd_done c _ _ rv).mono ?_
  rintro e w' ⟨rfl, rfl⟩
  rw [H2.out]
  go_wp2_with fail
  go_ret
  exact ⟨rfl, iv.below⟩

set_option maxHeartbeats 4000000 in
set_option maxRecDepth 100000 in
theorem apart_nt (na nb : Int) (ta tb : ByteArray) (cut : Int) (w : World) (hl : Lb w) (hn : Pl.I64 na) (hm : Pl.I64 nb) (ht : ta.size ≤ 4096) (hu : tb.size ≤ 4096) :
    Calls Tryd.prog 7 #[.agg #[.bool false, .int .i64 na, .string ta], .agg #[.bool true, .int .i64 nb, .string tb], .int .i64 cut] w fun e w' => e = .returned (.bool true) ∧ Below w.heap.size w w' := by
  have i0 := Ap.start hl false na ta true nb tb
  have hta : ta.data.toList.length ≤ 4096 := by rw [← Lib.size_eq]; exact ht
  have htb : tb.data.toList.length ≤ 4096 := by rw [← Lib.size_eq]; exact hu
  have hap := thing_apart (is := false) (js := true) hn hm hta htb
  have hcut := fun k hk => thing_cut (is := false) hn hta (k := k) hk
  have hxl := thing_len (is := false) hn hta
  have hyl := thing_len (is := true) hm htb
  obtain ⟨x0, xs, hX⟩ := head_of (wThing_ne false na ta.data.toList)
  obtain ⟨Y, hY⟩ : ∃ Y, wThing true nb tb.data.toList = Y := ⟨_, rfl⟩
  rw [hX] at hap hcut hxl
  rw [hY] at hap hyl
  obtain ⟨S, hSr⟩ : ∃ S, S = false := ⟨_, rfl⟩
  have hmin : min ((xs.length : Int) + 1) (Y.length : Int) = ((min (xs.length + 1) Y.length : Nat) : Int) := by omega
  have hN1 : min (xs.length + 1) Y.length ≤ xs.length + 1 := Nat.min_le_left _ _
  have hN2 : min (xs.length + 1) Y.length ≤ Y.length := Nat.min_le_right _ _
  obtain ⟨N, hN⟩ : ∃ N, min (xs.length + 1) Y.length = N := ⟨_, rfl⟩
  have hlx : (x0 :: xs).length = xs.length + 1 := rfl
  rw [hlx, hN] at hap
  rw [hN] at hmin hN1 hN2
  obtain ⟨PX, hPX⟩ : ∃ PX, (x0 :: xs).take N = PX := ⟨_, rfl⟩
  obtain ⟨PY, hPY⟩ : ∃ PY, Y.take N = PY := ⟨_, rfl⟩
  have hEX : (⟨(x0 :: xs).toArray⟩ : ByteArray).extract 0 N = ⟨PX.toArray⟩ := by rw [ext_take, hPX]
  have hEY : (⟨Y.toArray⟩ : ByteArray).extract 0 N = ⟨PY.toArray⟩ := by rw [ext_take, hPY]
  rw [hPX, hPY] at hap
  have hEq : (PX == PY) = S := by
    rw [hSr, beq_eq_false_iff_ne]
    intro h
    exact absurd (hap h).1 (by decide)
  obtain ⟨K, hKe, hKl⟩ := cut_mod cut ((xs.length : Int) + 1) (by omega) (by have := hxl; rw [hlx] at this; omega)
  obtain ⟨hc1, hc2⟩ := hcut K (by rw [hlx]; omega)
  obtain ⟨PK, hPK⟩ : ∃ PK, (x0 :: xs).take K = PK := ⟨_, rfl⟩
  have HK := Lib.hid (show (⟨(x0 :: xs).toArray⟩ : ByteArray).extract 0 K = ⟨PK.toArray⟩ by rw [ext_take, hPK])
  rw [hPK] at hc1 hc2
  have hxs : xs.length ≤ 5000 := by have := hxl; rw [hlx] at this; omega
  have hpk : PK.length ≤ 281474976710656 := by rw [← hPK, List.length_take, hlx]; omega
  have H1 := Lib.hid hc1
  have H2 := Lib.hid hc2
  have HX := Lib.hid hX
  have HY := Lib.hid hY
  have HE := Lib.hid (And.intro hEX (And.intro hEY hEq))
  have HM := Lib.hid hmin
  have HSr := Lib.hid hSr
  have HKe := Lib.hid hKe
  have HPK := Lib.hid hpk
  clear hap hcut hc1 hc2 hPK hX hY hEX hEY hEq hmin hSr hKe hpk hN hPX hPY hxl hlx hta htb
  go_enter Tryd.func7, Tryd.ntmps7
  go_wp2_with fail
  refine (awake_any _ i0.lb).mono ?_
  rintro e w1 ⟨rfl, b1⟩
  have i1 := i0.next b1
  have c0 := i1.c0
  have c1 := i1.c1
  have c2 := i1.c2
  have d0 := i1.d0
  have d1 := i1.d1
  have d2 := i1.d2
  clear b1 i0
  go_wp2_with fail
  have C := bead_int na hn _ i1.lb
  rw [show Pl.wInt na = (x0 :: xs) from HX.out] at C
  refine C.mono ?_
  clear C
  rintro e w2 ⟨rfl, b2⟩
  have i2 := i1.next b2
  clear c0 c1 c2 d0 d1 d2 b2 i1
  have c0 := i2.c0
  have c1 := i2.c1
  have c2 := i2.c2
  have d0 := i2.d0
  have d1 := i2.d1
  have d2 := i2.d2
  go_wp2_with fail
  have C := bead_int nb hm _ i2.lb
  refine C.mono ?_
  clear C
  rintro e w3 ⟨rfl, b3⟩
  have i3 := i2.next b3
  clear c0 c1 c2 d0 d1 d2 b3 i2
  have c0 := i3.c0
  have c1 := i3.c1
  have c2 := i3.c2
  have d0 := i3.d0
  have d1 := i3.d1
  have d2 := i3.d2
  go_wp2_with fail
  have C := bead_text tb (by omega) _ i3.lb
  rw [show Pl.wText tb.data.toList = Y from HY.out] at C
  refine C.mono ?_
  clear C
  rintro e w4 ⟨rfl, b4⟩
  have i4 := i3.next b4
  clear c0 c1 c2 d0 d1 d2 b4 i3
  have c0 := i4.c0
  have c1 := i4.c1
  have c2 := i4.c2
  have d0 := i4.d0
  have d1 := i4.d1
  have d2 := i4.d2
  have hSr := HSr.out
  have hmin := HM.out
  go_upto_region 13 with (fail)
  clear hSr hmin c0 c1 c2 d0 d1 d2
  obtain ⟨hEX, hEY, hEq⟩ := HE.out
  have hSr := HSr.out
  subst hSr
  go_quiet (fail)
  have iq := i4.next (below_drewN _ nq)
  obtain ⟨wq, hwq⟩ : ∃ wq, w4.drewN nq = wq := ⟨_, rfl⟩
  rw [hwq] at iq ⊢
  clear hwq hEX hEY hEq i4 HE HM HSr HX HY
  have hKe := HKe.out
  go_wp2_with fail
  clear hKe
  rw [HK.out]
  refine (rd_new _ _).mono ?_
  rintro e wr ⟨rfl, rr, br⟩
  have ir := iq.next br
  have hB : w.heap.size + 2 ≤ wq.heap.size := lt_of_block iq.b
  obtain ⟨b, hb⟩ : ∃ b, wq.heap.size = b := ⟨_, rfl⟩
  rw [hb] at rr hB ⊢
  clear hb br iq
  have rr : Rd b wr ⟨PK, false⟩ := rr
  go_wp2_with fail
  refine (rd_int b _ _ ir.lb rr HPK.out).mono ?_
  rintro e ws ⟨rfl, rs, ks⟩
  have is := ir.nextK ks hB rr.lt
  clear rr ks ir
  rw [HKe.out]
  go_wp2_with fail
  rw [HK.out]
  refine (rd_new _ _).mono ?_
  rintro e wt ⟨rfl, rt, bt⟩
  have it := is.next bt
  have rs2 := rs.same bt
  have hbc : b < ws.heap.size := rs.lt
  obtain ⟨c, hc⟩ : ∃ c, ws.heap.size = c := ⟨_, rfl⟩
  rw [hc] at rt hbc ⊢
  clear hc bt is rs
  have rt : Rd c wt ⟨PK, false⟩ := rt
  go_wp2_with fail
  refine (rd_text c _ _ _ it.lb rt HPK.out).mono ?_
  rintro e wv ⟨rfl, rv, kv⟩
  have iv := it.nextK kv (by omega) rt.lt
  have rs3 := rs2.other kv (Nat.ne_of_lt hbc)
  clear rt kv it rs2
  go_wp2_with fail
  refine (rd_done b _ _ rs3).mono ?_
  rintro e w' ⟨rfl, rfl⟩
  rw [H1.out]
  go_wp2_with fail
  refine (rd_done c _ _ rv).mono ?_
  rintro e w' ⟨rfl, rfl⟩
  rw [H2.out]
  go_wp2_with fail
  go_ret
  exact ⟨rfl, iv.below⟩

set_option maxHeartbeats 4000000 in
set_option maxRecDepth 100000 in
theorem apart_tn (na nb : Int) (ta tb : ByteArray) (cut : Int) (w : World) (hl : Lb w) (hn : Pl.I64 na) (hm : Pl.I64 nb) (ht : ta.size ≤ 4096) (hu : tb.size ≤ 4096) :
    Calls Tryd.prog 7 #[.agg #[.bool true, .int .i64 na, .string ta], .agg #[.bool false, .int .i64 nb, .string tb], .int .i64 cut] w fun e w' => e = .returned (.bool true) ∧ Below w.heap.size w w' := by
  have i0 := Ap.start hl true na ta false nb tb
  have hta : ta.data.toList.length ≤ 4096 := by rw [← Lib.size_eq]; exact ht
  have htb : tb.data.toList.length ≤ 4096 := by rw [← Lib.size_eq]; exact hu
  have hap := thing_apart (is := true) (js := false) hn hm hta htb
  have hcut := fun k hk => thing_cut (is := true) hn hta (k := k) hk
  have hxl := thing_len (is := true) hn hta
  have hyl := thing_len (is := false) hm htb
  obtain ⟨x0, xs, hX⟩ := head_of (wThing_ne true na ta.data.toList)
  obtain ⟨Y, hY⟩ : ∃ Y, wThing false nb tb.data.toList = Y := ⟨_, rfl⟩
  rw [hX] at hap hcut hxl
  rw [hY] at hap hyl
  obtain ⟨S, hSr⟩ : ∃ S, S = false := ⟨_, rfl⟩
  have hmin : min ((xs.length : Int) + 1) (Y.length : Int) = ((min (xs.length + 1) Y.length : Nat) : Int) := by omega
  have hN1 : min (xs.length + 1) Y.length ≤ xs.length + 1 := Nat.min_le_left _ _
  have hN2 : min (xs.length + 1) Y.length ≤ Y.length := Nat.min_le_right _ _
  obtain ⟨N, hN⟩ : ∃ N, min (xs.length + 1) Y.length = N := ⟨_, rfl⟩
  have hlx : (x0 :: xs).length = xs.length + 1 := rfl
  rw [hlx, hN] at hap
  rw [hN] at hmin hN1 hN2
  obtain ⟨PX, hPX⟩ : ∃ PX, (x0 :: xs).take N = PX := ⟨_, rfl⟩
  obtain ⟨PY, hPY⟩ : ∃ PY, Y.take N = PY := ⟨_, rfl⟩
  have hEX : (⟨(x0 :: xs).toArray⟩ : ByteArray).extract 0 N = ⟨PX.toArray⟩ := by rw [ext_take, hPX]
  have hEY : (⟨Y.toArray⟩ : ByteArray).extract 0 N = ⟨PY.toArray⟩ := by rw [ext_take, hPY]
  rw [hPX, hPY] at hap
  have hEq : (PX == PY) = S := by
    rw [hSr, beq_eq_false_iff_ne]
    intro h
    exact absurd (hap h).1 (by decide)
  obtain ⟨K, hKe, hKl⟩ := cut_mod cut ((xs.length : Int) + 1) (by omega) (by have := hxl; rw [hlx] at this; omega)
  obtain ⟨hc1, hc2⟩ := hcut K (by rw [hlx]; omega)
  obtain ⟨PK, hPK⟩ : ∃ PK, (x0 :: xs).take K = PK := ⟨_, rfl⟩
  have HK := Lib.hid (show (⟨(x0 :: xs).toArray⟩ : ByteArray).extract 0 K = ⟨PK.toArray⟩ by rw [ext_take, hPK])
  rw [hPK] at hc1 hc2
  have hxs : xs.length ≤ 5000 := by have := hxl; rw [hlx] at this; omega
  have hpk : PK.length ≤ 281474976710656 := by rw [← hPK, List.length_take, hlx]; omega
  have H1 := Lib.hid hc1
  have H2 := Lib.hid hc2
  have HX := Lib.hid hX
  have HY := Lib.hid hY
  have HE := Lib.hid (And.intro hEX (And.intro hEY hEq))
  have HM := Lib.hid hmin
  have HSr := Lib.hid hSr
  have HKe := Lib.hid hKe
  have HPK := Lib.hid hpk
  clear hap hcut hc1 hc2 hPK hX hY hEX hEY hEq hmin hSr hKe hpk hN hPX hPY hxl hlx hta htb
  go_enter Tryd.func7, Tryd.ntmps7
  go_wp2_with fail
  refine (awake_any _ i0.lb).mono ?_
  rintro e w1 ⟨rfl, b1⟩
  have i1 := i0.next b1
  have c0 := i1.c0
  have c1 := i1.c1
  have c2 := i1.c2
  have d0 := i1.d0
  have d1 := i1.d1
  have d2 := i1.d2
  clear b1 i0
  go_wp2_with fail
  have C := bead_int na hn _ i1.lb
  refine C.mono ?_
  clear C
  rintro e w2 ⟨rfl, b2⟩
  have i2 := i1.next b2
  clear c0 c1 c2 d0 d1 d2 b2 i1
  have c0 := i2.c0
  have c1 := i2.c1
  have c2 := i2.c2
  have d0 := i2.d0
  have d1 := i2.d1
  have d2 := i2.d2
  go_wp2_with fail
  have C := bead_text ta (by omega) _ i2.lb
  rw [show Pl.wText ta.data.toList = (x0 :: xs) from HX.out] at C
  refine C.mono ?_
  clear C
  rintro e w3 ⟨rfl, b3⟩
  have i3 := i2.next b3
  clear c0 c1 c2 d0 d1 d2 b3 i2
  have c0 := i3.c0
  have c1 := i3.c1
  have c2 := i3.c2
  have d0 := i3.d0
  have d1 := i3.d1
  have d2 := i3.d2
  go_wp2_with fail
  have C := bead_int nb hm _ i3.lb
  rw [show Pl.wInt nb = Y from HY.out] at C
  refine C.mono ?_
  clear C
  rintro e w4 ⟨rfl, b4⟩
  have i4 := i3.next b4
  clear c0 c1 c2 d0 d1 d2 b4 i3
  have c0 := i4.c0
  have c1 := i4.c1
  have c2 := i4.c2
  have d0 := i4.d0
  have d1 := i4.d1
  have d2 := i4.d2
  have hSr := HSr.out
  have hmin := HM.out
  go_upto_region 13 with (fail)
  clear hSr hmin c0 c1 c2 d0 d1 d2
  obtain ⟨hEX, hEY, hEq⟩ := HE.out
  have hSr := HSr.out
  subst hSr
  go_quiet (fail)
  have iq := i4.next (below_drewN _ nq)
  obtain ⟨wq, hwq⟩ : ∃ wq, w4.drewN nq = wq := ⟨_, rfl⟩
  rw [hwq] at iq ⊢
  clear hwq hEX hEY hEq i4 HE HM HSr HX HY
  have hKe := HKe.out
  go_wp2_with fail
  clear hKe
  rw [HK.out]
  refine (rd_new _ _).mono ?_
  rintro e wr ⟨rfl, rr, br⟩
  have ir := iq.next br
  have hB : w.heap.size + 2 ≤ wq.heap.size := lt_of_block iq.b
  obtain ⟨b, hb⟩ : ∃ b, wq.heap.size = b := ⟨_, rfl⟩
  rw [hb] at rr hB ⊢
  clear hb br iq
  have rr : Rd b wr ⟨PK, false⟩ := rr
  go_wp2_with fail
  refine (rd_int b _ _ ir.lb rr HPK.out).mono ?_
  rintro e ws ⟨rfl, rs, ks⟩
  have is := ir.nextK ks hB rr.lt
  clear rr ks ir
  rw [HKe.out]
  go_wp2_with fail
  rw [HK.out]
  refine (rd_new _ _).mono ?_
  rintro e wt ⟨rfl, rt, bt⟩
  have it := is.next bt
  have rs2 := rs.same bt
  have hbc : b < ws.heap.size := rs.lt
  obtain ⟨c, hc⟩ : ∃ c, ws.heap.size = c := ⟨_, rfl⟩
  rw [hc] at rt hbc ⊢
  clear hc bt is rs
  have rt : Rd c wt ⟨PK, false⟩ := rt
  go_wp2_with fail
  refine (rd_text c _ _ _ it.lb rt HPK.out).mono ?_
  rintro e wv ⟨rfl, rv, kv⟩
  have iv := it.nextK kv (by omega) rt.lt
  have rs3 := rs2.other kv (Nat.ne_of_lt hbc)
  clear rt kv it rs2
  go_wp2_with fail
  refine (rd_done b _ _ rs3).mono ?_
  rintro e w' ⟨rfl, rfl⟩
  rw [H1.out]
  go_wp2_with fail
  refine (rd_done c _ _ rv).mono ?_
  rintro e w' ⟨rfl, rfl⟩
  rw [H2.out]
  go_wp2_with fail
  go_ret
  exact ⟨rfl, iv.below⟩

set_option maxHeartbeats 4000000 in
set_option maxRecDepth 100000 in
theorem apart_tt (na nb : Int) (ta tb : ByteArray) (cut : Int) (w : World) (hl : Lb w) (hn : Pl.I64 na) (hm : Pl.I64 nb) (ht : ta.size ≤ 4096) (hu : tb.size ≤ 4096) :
    Calls Tryd.prog 7 #[.agg #[.bool true, .int .i64 na, .string ta], .agg #[.bool true, .int .i64 nb, .string tb], .int .i64 cut] w fun e w' => e = .returned (.bool true) ∧ Below w.heap.size w w' := by
  have i0 := Ap.start hl true na ta true nb tb
  have hta : ta.data.toList.length ≤ 4096 := by rw [← Lib.size_eq]; exact ht
  have htb : tb.data.toList.length ≤ 4096 := by rw [← Lib.size_eq]; exact hu
  have hap := thing_apart (is := true) (js := true) hn hm hta htb
  have hcut := fun k hk => thing_cut (is := true) hn hta (k := k) hk
  have hxl := thing_len (is := true) hn hta
  have hyl := thing_len (is := true) hm htb
  obtain ⟨x0, xs, hX⟩ := head_of (wThing_ne true na ta.data.toList)
  obtain ⟨Y, hY⟩ : ∃ Y, wThing true nb tb.data.toList = Y := ⟨_, rfl⟩
  rw [hX] at hap hcut hxl
  rw [hY] at hap hyl
  obtain ⟨S, hSr⟩ : ∃ S, (ta.toList == tb.toList) = S := ⟨_, rfl⟩
  have hS : S = true → (x0 :: xs) = Y := by
    intro h
    rw [h] at hSr
    have := beq_iff_eq.1 hSr
    rw [Lib.toList_data, Lib.toList_data] at this
    rw [← hX, ← hY]
    simp only [wThing, if_true, this]
  have hS2 : S = false → ta.data.toList ≠ tb.data.toList := by
    intro h e
    rw [← Lib.toList_data, ← Lib.toList_data] at e
    rw [h, e] at hSr
    simp at hSr
  have hmin : min ((xs.length : Int) + 1) (Y.length : Int) = ((min (xs.length + 1) Y.length : Nat) : Int) := by omega
  have hN1 : min (xs.length + 1) Y.length ≤ xs.length + 1 := Nat.min_le_left _ _
  have hN2 : min (xs.length + 1) Y.length ≤ Y.length := Nat.min_le_right _ _
  obtain ⟨N, hN⟩ : ∃ N, min (xs.length + 1) Y.length = N := ⟨_, rfl⟩
  have hlx : (x0 :: xs).length = xs.length + 1 := rfl
  rw [hlx, hN] at hap
  rw [hN] at hmin hN1 hN2
  obtain ⟨PX, hPX⟩ : ∃ PX, (x0 :: xs).take N = PX := ⟨_, rfl⟩
  obtain ⟨PY, hPY⟩ : ∃ PY, Y.take N = PY := ⟨_, rfl⟩
  have hEX : (⟨(x0 :: xs).toArray⟩ : ByteArray).extract 0 N = ⟨PX.toArray⟩ := by rw [ext_take, hPX]
  have hEY : (⟨Y.toArray⟩ : ByteArray).extract 0 N = ⟨PY.toArray⟩ := by rw [ext_take, hPY]
  rw [hPX, hPY] at hap
  have hEq : (PX == PY) = S := by
    cases hc : S with
    | true =>
      rw [beq_iff_eq, ← hPX, ← hPY, hS hc]
    | false =>
      rw [beq_eq_false_iff_ne]
      intro h
      exact hS2 hc ((hap h).2.1 rfl)
  clear hS hS2
  obtain ⟨K, hKe, hKl⟩ := cut_mod cut ((xs.length : Int) + 1) (by omega) (by have := hxl; rw [hlx] at this; omega)
  obtain ⟨hc1, hc2⟩ := hcut K (by rw [hlx]; omega)
  obtain ⟨PK, hPK⟩ : ∃ PK, (x0 :: xs).take K = PK := ⟨_, rfl⟩
  have HK := Lib.hid (show (⟨(x0 :: xs).toArray⟩ : ByteArray).extract 0 K = ⟨PK.toArray⟩ by rw [ext_take, hPK])
  rw [hPK] at hc1 hc2
  have hxs : xs.length ≤ 5000 := by have := hxl; rw [hlx] at this; omega
  have hpk : PK.length ≤ 281474976710656 := by rw [← hPK, List.length_take, hlx]; omega
  have H1 := Lib.hid hc1
  have H2 := Lib.hid hc2
  have HX := Lib.hid hX
  have HY := Lib.hid hY
  have HE := Lib.hid (And.intro hEX (And.intro hEY hEq))
  have HM := Lib.hid hmin
  have HSr := Lib.hid hSr
  have HKe := Lib.hid hKe
  have HPK := Lib.hid hpk
  clear hap hcut hc1 hc2 hPK hX hY hEX hEY hEq hmin hSr hKe hpk hN hPX hPY hxl hlx hta htb
  cases S
  all_goals
    go_enter Tryd.func7, Tryd.ntmps7
    go_wp2_with fail
    refine (awake_any _ i0.lb).mono ?_
    rintro e w1 ⟨rfl, b1⟩
    have i1 := i0.next b1
    have c0 := i1.c0
    have c1 := i1.c1
    have c2 := i1.c2
    have d0 := i1.d0
    have d1 := i1.d1
    have d2 := i1.d2
    clear b1 i0
    go_wp2_with fail
    have C := bead_int na hn _ i1.lb
    refine C.mono ?_
    clear C
    rintro e w2 ⟨rfl, b2⟩
    have i2 := i1.next b2
    clear c0 c1 c2 d0 d1 d2 b2 i1
    have c0 := i2.c0
    have c1 := i2.c1
    have c2 := i2.c2
    have d0 := i2.d0
    have d1 := i2.d1
    have d2 := i2.d2
    go_wp2_with fail
    have C := bead_text ta (by omega) _ i2.lb
    rw [show Pl.wText ta.data.toList = (x0 :: xs) from HX.out] at C
    refine C.mono ?_
    clear C
    rintro e w3 ⟨rfl, b3⟩
    have i3 := i2.next b3
    clear c0 c1 c2 d0 d1 d2 b3 i2
    have c0 := i3.c0
    have c1 := i3.c1
    have c2 := i3.c2
    have d0 := i3.d0
    have d1 := i3.d1
    have d2 := i3.d2
    go_wp2_with fail
    have C := bead_int nb hm _ i3.lb
    refine C.mono ?_
    clear C
    rintro e w4 ⟨rfl, b4⟩
    have i4 := i3.next b4
    clear c0 c1 c2 d0 d1 d2 b4 i3
    have c0 := i4.c0
    have c1 := i4.c1
    have c2 := i4.c2
    have d0 := i4.d0
    have d1 := i4.d1
    have d2 := i4.d2
    go_wp2_with fail
    have C := bead_text tb (by omega) _ i4.lb
    rw [show Pl.wText tb.data.toList = Y from HY.out] at C
    refine C.mono ?_
    clear C
    rintro e w5 ⟨rfl, b5⟩
    have i5 := i4.next b5
    clear c0 c1 c2 d0 d1 d2 b5 i4
    have c0 := i5.c0
    have c1 := i5.c1
    have c2 := i5.c2
    have d0 := i5.d0
    have d1 := i5.d1
    have d2 := i5.d2
    have hSr := HSr.out
    have hmin := HM.out
    go_upto_region 13 with (fail)
    clear hSr hmin c0 c1 c2 d0 d1 d2
    obtain ⟨hEX, hEY, hEq⟩ := HE.out
    go_quiet (fail)
    have iq := i5.next (below_drewN _ nq)
    obtain ⟨wq, hwq⟩ : ∃ wq, w5.drewN nq = wq := ⟨_, rfl⟩
    rw [hwq] at iq ⊢
    clear hwq hEX hEY hEq i5 HE HM HSr HX HY
    have hKe := HKe.out
    go_wp2_with fail
    clear hKe
    rw [HK.out]
    refine (rd_new _ _).mono ?_
    rintro e wr ⟨rfl, rr, br⟩
    have ir := iq.next br
    have hB : w.heap.size + 2 ≤ wq.heap.size := lt_of_block iq.b
    obtain ⟨b, hb⟩ : ∃ b, wq.heap.size = b := ⟨_, rfl⟩
    rw [hb] at rr hB ⊢
    clear hb br iq
    have rr : Rd b wr ⟨PK, false⟩ := rr
    go_wp2_with fail
    refine (rd_int b _ _ ir.lb rr HPK.out).mono ?_
    rintro e ws ⟨rfl, rs, ks⟩
    have is := ir.nextK ks hB rr.lt
    clear rr ks ir
    rw [HKe.out]
    go_wp2_with fail
    rw [HK.out]
    refine (rd_new _ _).mono ?_
    rintro e wt ⟨rfl, rt, bt⟩
    have it := is.next bt
    have rs2 := rs.same bt
    have hbc : b < ws.heap.size := rs.lt
    obtain ⟨c, hc⟩ : ∃ c, ws.heap.size = c := ⟨_, rfl⟩
    rw [hc] at rt hbc ⊢
    clear hc bt is rs
    have rt : Rd c wt ⟨PK, false⟩ := rt
    go_wp2_with fail
    refine (rd_text c _ _ _ it.lb rt HPK.out).mono ?_
    rintro e wv ⟨rfl, rv, kv⟩
    have iv := it.nextK kv (by omega) rt.lt
    have rs3 := rs2.other kv (Nat.ne_of_lt hbc)
    clear rt kv it rs2
    go_wp2_with fail
    refine (rd_done b _ _ rs3).mono ?_
    rintro e w' ⟨rfl, rfl⟩
    rw [H1.out]
    go_wp2_with fail
    refine (rd_done c _ _ rv).mono ?_
    rintro e w' ⟨rfl, rfl⟩
    rw [H2.out]
    go_wp2_with fail
    go_ret
    exact ⟨rfl, iv.below⟩

end Go.Proofs.YtjjlkijconlbaaaDoor
