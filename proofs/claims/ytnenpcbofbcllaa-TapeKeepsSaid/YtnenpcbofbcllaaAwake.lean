/- The document's example: awake is true. -/
import Derived.Test.YtnenpcbofbcllaaView
namespace Go.Proofs.Ytnenpcbofbcllaa
open Go.RowKit Go.Maps

/-- The tape's blocks are the call's own, and so is all that has changed. -/
structure Own (w0 w : World) (B : Nat → Prop) : Prop where
  low : RowKit.Below w0.heap.size w0 w
  own : ∀ b, B b → w0.heap.size ≤ b
theorem Own.moved {w0 w w' : World} {B B' : Nat → Prop} (h : Own w0 w B) (m : Moved B B' w w') : Own w0 w' B' := let ⟨a, b⟩ := m.below h.low h.own; ⟨a, b⟩
theorem Own.below {w0 w w' : World} {B : Nat → Prop} (h : Own w0 w B) (b : RowKit.Below w.heap.size w w') : Own w0 w' B := ⟨h.low.trans (b.mono h.low.size), h.own⟩
theorem upd_same (f : View) (k : Key) (v : Option (List UInt8 × Nat)) : upd f k v k = v := by simp [upd]
theorem upd_other (f : View) {k j : Key} (v : Option (List UInt8 × Nat)) (h : j ≠ k) : upd f k v j = f j := by simp [upd, h]
theorem nums_one (w : World) (z : Int) : Nums (w.alloc (.cells #[.int .i64 z] 3)) (.slice (some ⟨w.heap.size, 0, none⟩) 1 1) [z] := by
  refine ⟨_, 1, rfl, fun j x hj => ?_⟩
  match j, hj with
  | 0, hj =>
    simp at hj
    subst hj
    exact ⟨_, _, rfl, (Blk.new w _ _).cell rfl⟩
  | j + 1, hj => simp at hj

set_option maxHeartbeats 1000000 in
theorem awake_any (w : World) : Calls Try.prog 8 #[] w fun e w' => e = .returned (.bool true) ∧ RowKit.Below w.heap.size w w' := by
  have HNEW := Lib.hid (s_new 100 w (by decide) (by decide))
  go_enter Try.func8, Try.ntmps8
  go_wp2_with fail
  refine HNEW.out.mono ?_
  rintro x w1 ⟨t, B1, rfl, S1, b1, o1⟩
  have O1 : Own w w1 B1 := ⟨b1, o1⟩
  have A := s_append S1 ⟨rfl, by decide, by decide, by decide⟩ [102] [97, 98, 99] rfl (by decide) (by decide)
  have HA := Lib.hid A
  have HO := Lib.hid O1
  clear S1 O1 A b1 o1
  go_wp2_with fail
  refine HA.out.mono ?_
  rintro x w2 ⟨rfl, B2, S2, m2⟩
  have O2 := HO.out.moved m2
  have A := s_sync S2 ⟨rfl, by decide, by decide, by decide⟩ [102] [97, 98, 99] 0 rfl
  have HA := Lib.hid A
  have HO := Lib.hid O2
  clear S2 O2 A m2
  go_wp2_with fail
  refine HA.out.mono ?_
  rintro x w3 ⟨rfl, B3, S3, m3⟩
  have O3 := HO.out.moved m3
  have A := s_append S3 ⟨rfl, by decide, by decide, by decide⟩ [102] [100, 101] rfl (by decide) (by decide)
  have HA := Lib.hid A
  have HO := Lib.hid O3
  clear S3 O3 A m3
  go_wp2_with fail
  refine HA.out.mono ?_
  rintro x w4 ⟨rfl, B4, S4, m4⟩
  have O4 := HO.out.moved m4
  have A := s_off S4 (by decide)
  have HA := Lib.hid A
  have HO := Lib.hid O4
  clear S4 O4 A m4
  go_wp2_with fail
  refine HA.out.mono ?_
  rintro x w5 ⟨⟨y, rfl⟩, B5, S5, m5⟩
  have O5 := HO.out.moved m5
  have A := s_read_down S5 rfl [102]
  have HA := Lib.hid A
  have HO := Lib.hid O5
  have HS := Lib.hid S5
  clear S5 O5 A m5
  go_wp2_with fail
  refine HA.out.mono ?_
  rintro x w6 ⟨rfl, rfl⟩
  have bal : RowKit.Below w5.heap.size w5 (w5.alloc (.cells #[.int .i64 1] 3)) := (Below.refl _ _).alloc (Nat.le_refl _) _
  have A := s_on (HS.out.below bal) rfl _ [1] (nums_one w5 1) (fun _ a c d h hb => by injection h with h; injection h with h; subst h; have := HS.out.lt _ hb; simp at this)
  have HA := Lib.hid A
  have HO := Lib.hid (HO.out.below bal)
  clear A HS bal
  go_wp2_with fail
  refine HA.out.mono ?_
  rintro x w7 ⟨⟨y', rfl⟩, B7, f7, tot7, S7, l7, m7⟩
  obtain ⟨x7, e7, -, -, h7⟩ := l7 [102]
  obtain rfl : x7 = 4 := h7 rfl (by decide)
  have O7 := HO.out.moved m7
  have A := s_read S7 rfl [102] _ _ e7
  have hone : tot7 = 4 := S7.one e7
  subst hone
  have HA := Lib.hid A
  have HB := Lib.hid (s_acts S7)
  have HC := Lib.hid (s_life S7)
  have HD := Lib.hid (s_left S7)
  have HS := Lib.hid S7
  have HO := Lib.hid O7
  clear S7 O7 A m7 l7 e7 h7
  go_wp2_with fail
  refine HA.out.mono ?_
  rintro x w8 ⟨rfl, rfl⟩
  go_wp2_with fail
  refine HB.out.mono ?_
  rintro x w9 ⟨rfl, rfl⟩
  go_wp2_with fail
  refine HC.out.mono ?_
  rintro x w10 ⟨rfl, rfl⟩
  go_wp2_with fail
  refine HD.out.mono ?_
  rintro x w11 ⟨rfl, b11⟩
  have HN := Lib.hid (s_names (HS.out.below b11))
  have HO2 := Lib.hid (HO.out.below b11)
  clear b11
  go_wp2_with fail
  refine HN.out.mono ?_
  rintro x w12 ⟨⟨ao, cap, rfl⟩, b12⟩
  have HB2 := Lib.hid b12
  clear b12
  go_wp2_with fail
  go_ret
  exact ⟨rfl, (HO2.out.below HB2.out).low⟩
end Go.Proofs.Ytnenpcbofbcllaa
