import Derived.Test.YtdaoeplblkfapaaGreatDoorM11
import Derived.Test.YtdaoeplblkfapaaGreatDoorM12
import Derived.ScopeJumps
import Derived.WalkMore
import Derived.Test.YtdaoeplblkfapaaGreatDoorM05

/- THE CONTRACT OF strand.batches: a goto back for the next frame. -/
namespace Go.Proofs.YtdaoeplblkfapaaGreatDoor
open Go.RowKit

/-- What batches leaves. -/
def Batched (s : ByteArray) (x : Int) (w : World) (e : Ending) (w' : World) : Prop :=
  ∃ v gb L, e = .returned (.tuple #[v, .int .i64 ((found s.data.toList x).2 : Nat)]) ∧ L.map (·.1) = (found s.data.toList x).1 ∧ Sl w' v gb 34 6 L.length (L.flatMap bc6) ∧ (∀ b, gb = some b → w.heap.size ≤ b) ∧ All (fun b => w.heap.size ≤ b ∧ gb ≠ some b) w' L ∧ Below w.heap.size w w'
/-- What is known at the label. -/
structure KnownB (s : ByteArray) (x : Int) (w : World) (p : Nat) (nx : Int) (L : List (Pl.Bt × Value)) (v : Value) (gb : Option Nat) (w' : World) : Prop where
  le : p ≤ s.size
  few : 25 * L.length ≤ p
  eq : found s.data.toList x = (L.map (·.1) ++ (found (s.data.toList.drop p) nx).1, p + (found (s.data.toList.drop p) nx).2)
  nxb : -9223372036854775808 ≤ nx ∧ nx ≤ 9223372036854775807
  sl : Sl w' v gb 34 6 L.length (L.flatMap bc6)
  new : ∀ b, gb = some b → w.heap.size ≤ b
  all : All (fun b => w.heap.size ≤ b ∧ gb ≠ some b) w' L
  low : Below w.heap.size w w'
/-- What holds at the label. -/
def AtMore (s : ByteArray) (x : Int) (w : World) (a' : Act) (w' : World) : Prop :=
  ∃ (p : Nat) (nx : Int) (L : List (Pl.Bt × Value)) (v : Value) (gb : Option Nat), KnownB s x w p nx L v gb w' ∧
    ∃ u9 u10 u11 u12 u13 u14 u15 u16 u17 u18 u19 u20 u21 u22 u23 u24 u25 u26 u27 u28 u29 u30 u31 u32 u33 u34 u35 u36 u37 u38 u39 u40 u41 u42 u43 u44 u45 u46 : Value, a' = { tmps := #[.string s, .int .i64 x, undef, undef, .slice none 0 0, .int .i64 0, v, .int .i64 p, .int .i64 nx, u9, u10, u11, u12, u13, u14, u15, u16, u17, u18, u19, u20, u21, u22, u23, u24, u25, u26, u27, u28, u29, u30, u31, u32, u33, u34, u35, u36, u37, u38, u39, u40, u41, u42, u43, u44, u45, u46], defers := [] }
theorem KnownB.start (s : ByteArray) (x : Int) (w : World) (hx : -9223372036854775808 ≤ x ∧ x ≤ 9223372036854775807) : KnownB s x w 0 x [] (.slice none 0 0) none w :=
  ⟨Nat.zero_le _, Nat.zero_le _, by simp, hx, Sl.nil _ _ _, (fun b h => by cases h), (fun p h => by cases h), Below.refl _ _⟩
theorem KnownB.below {s : ByteArray} {x : Int} {w w' w1 : World} {p : Nat} {nx : Int} {L : List (Pl.Bt × Value)} {v : Value} {gb : Option Nat} (h : KnownB s x w p nx L v gb w') (b1 : Below w'.heap.size w' w1) : KnownB s x w p nx L v gb w1 :=
  ⟨h.le, h.few, h.eq, h.nxb, h.sl.below b1, h.new, h.all.below b1, h.low.trans (b1.mono h.low.size)⟩
theorem KnownB.over {s : ByteArray} {x : Int} {w w' w1 : World} {p : Nat} {nx : Int} {L : List (Pl.Bt × Value)} {v : Value} {gb : Option Nat} (h : KnownB s x w p nx L v gb w') (hz : found (s.data.toList.drop p) nx = ([], 0)) (b1 : Below w'.heap.size w' w1) :
    Batched s x w (.returned (.tuple #[v, .int .i64 p])) w1 := by
  have he := h.eq
  rw [hz, List.append_nil, Nat.add_zero] at he
  exact ⟨v, gb, L, by rw [he], by rw [he], h.sl.below b1, h.new, h.all.below b1, h.low.trans (b1.mono h.low.size)⟩
theorem room_of {l : List UInt8} {n p : Nat} (hn : l.length = n) (h : (Fr.Pl.nx (l.drop p)).2 = 0) : p + 8 + (Fr.Pl.nx (l.drop p)).1.length ≤ n := by
  have := nx_length h
  rw [List.length_drop, hn] at this
  omega
theorem KnownB.more {s : ByteArray} {x : Int} {w w' w1 w2 : World} {p : Nat} {nx : Int} {L : List (Pl.Bt × Value)} {v v' rv : Value} {gb gb' : Option Nat} {y : List UInt8} {b : Pl.Bt} {N : Nat} (h : KnownB s x w p nx L v gb w') (hy : (Fr.Pl.nx (s.data.toList.drop p)).1 = y) (hz : (Fr.Pl.nx (s.data.toList.drop p)).2 = 0)
    (hd : decB y = some b) (hb : b.base = nx) (b1 : Below w'.heap.size w' w1) (hr : RcIn (fun k => w'.heap.size ≤ k) w1 rv b.recs) (hs : Sl w2 v' gb' 34 6 (L.length + 1) (L.flatMap bc6 ++ bc6 (b, rv))) (hg : w1.grownBy w2 gb) (hgb : gb' = gb ∨ ∃ g, gb' = some g ∧ N ≤ g) (hN : w1.heap.size ≤ N) :
    KnownB s x w (p + 8 + y.length) (bend b) (L ++ [(b, rv)]) v' gb' w2 := by
  have hl : s.data.toList.length = s.size := (Lib.size_eq s).symm
  have hrm := room_of hl hz
  rw [hy] at hrm
  have hst := found_step (x := nx) hz (by rw [hy]; exact hd) hb
  rw [hy, List.drop_drop, ← Nat.add_assoc] at hst
  obtain ⟨hgood, hye⟩ := enc_dec hd
  have hge := good_enc hgood
  have hbe := good_bend hgood
  rw [fr_length] at hge
  rw [hye] at hrm hst ⊢
  have hlow : Below w.heap.size w w1 := h.low.trans (b1.mono h.low.size)
  have hap := below_appended hlow hg h.new hgb (by have := hlow.size; omega)
  have hne : ∀ b, gb' = some b → b < w1.heap.size → gb = some b := fun k hk hlt => by
    rcases hgb with h1 | ⟨g, h1, h2⟩
    · exact h1 ▸ hk
    · rw [h1] at hk; cases hk; omega
  refine ⟨by omega, by rw [List.length_append]; simp only [List.length_cons, List.length_nil]; have := h.few; omega, ?_, by omega, ?_, hap.2, ?_, hap.1⟩
  · rw [h.eq, hst, List.map_append]
    refine Prod.ext ?_ ?_
    · simp
    · show p + (8 + (Pl.enc b).length + _) = p + 8 + (Pl.enc b).length + _
      omega
  · rw [List.length_append, List.flatMap_append]
    simpa using hs
  · have key : ∀ (q : Pl.Bt × Value), RcIn (fun k => w.heap.size ≤ k ∧ gb ≠ some k) w1 q.2 q.1.recs → RcIn (fun k => w.heap.size ≤ k ∧ gb' ≠ some k) w2 q.2 q.1.recs := fun q hq =>
      Rds.keep hq hg.size fun k hk hlt => ⟨hg.block k hlt (Ne.symm hk.2), hk.1, fun e => hk.2 (hne k e hlt)⟩
    intro q hq
    rcases List.mem_append.1 hq with hq | hq
    · exact key q ((h.all.below b1) q hq)
    · obtain rfl := List.mem_singleton.1 hq
      exact key _ (Rds.mono hr fun k hk => ⟨by have := h.low.size; omega, fun e => by have := h.sl.lt k e; omega⟩)

set_option maxHeartbeats 4000000 in
set_option maxRecDepth 100000 in
theorem batches_any (s : ByteArray) (x : Int) (w : World) (lb : Lb w) (hs : s.size ≤ 1048576) (hx : -9223372036854775808 ≤ x ∧ x ≤ 9223372036854775807) :
    Calls Tryz.prog 145 #[.string s, .int .i64 x] w (Batched s x w) := by
  have HLB := Lib.hid lb
  have HX := Lib.hid hx
  have hsl : s.data.toList.length = s.size := (Lib.size_eq s).symm
  have HSL := Lib.hid hsl
  clear lb hx hsl
  go_enter Tryz.func145, Tryz.ntmps145
  go_wp2_with fail
  refine wp_scope_jumps 0 (AtMore s x w) (fun a _ => s.size - (intOf (a.tmps.getD 7 undef)).toNat) rfl ?_ ?_
  · have HK := Lib.hid (KnownB.start s x w HX.out)
    have hw0 : w.heap.size ≤ w.heap.size := Nat.le_refl _
    go_wp2_with fail
    go_step3
    refine ‹∀ a w, Code.wp _ _ _ a w → _› _ _ ?_
    have N := Fr.next_at s 0 w HK.out.le hs
    by_cases hz : (Fr.Pl.nx (s.data.toList.drop 0)).2 = 0
    · have hq := room_of HSL.out hz
      rw [Fr.res_ok HK.out.le hz] at N
      obtain ⟨y, hy⟩ : ∃ y, (Fr.Pl.nx (s.data.toList.drop 0)).1 = y := ⟨_, rfl⟩
      rw [hy] at N hq
      have HY := Lib.hid hy
      have HN := Lib.hid N
      have HZ := Lib.hid hz
      obtain ⟨Y, hYY⟩ : ∃ Y : ByteArray, (⟨y.toArray⟩ : ByteArray) = Y := ⟨_, rfl⟩
      have HD := Lib.hid fun (wx : World) (hbx : Below (w).heap.size w wx) => ddecode Y wx ((HLB.out.below HLB.out.size HK.out.low).below (by have := HLB.out.size; have := HK.out.low.size; omega) hbx) (by rw [← hYY, size_list]; omega)
      have hyd : Y.data.toList = y := by rw [← hYY]
      rw [hyd] at HD
      rw [hYY] at HN
      clear hy N hz hYY hyd
      go_wp2_with fail
      refine HN.out.mono ?_
      rintro e w1 ⟨rfl, b1⟩
      have B1 := Lib.hid b1
      have HD1 := Lib.hid (HD.out w1 b1)
      clear b1 HN HD
      cases hd : decB y with
      | none =>
        rw [hd] at HD1
        have HDD := Lib.hid hd
        clear hd
        go_wp2_with fail
        refine HD1.out.mono ?_
        rintro e w2 ⟨b2, h2⟩
        obtain rfl : e = .returned (.tuple #[.agg #[.int .i64 0, .int .i64 0, .int .i64 0, .int .i64 0, .int .i64 0, .slice none 0 0], .int .i64 3]) := h2
        have B2 := Lib.hid (B1.out.trans (b2.mono B1.out.size))
        clear b2 HD1
        go_wp2_with fail
        simp only [Exit.jump]
        go_ret2
        exact HK.out.over (found_none HZ.out (by rw [HY.out]; exact HDD.out)) (B2.out.trans ((Below.refl _ w2).alloc (Nat.le_refl _) _ |>.mono B2.out.size))
      | some b =>
        rw [hd] at HD1
        have hgood := (enc_dec hd).1
        have HGOOD := Lib.hid hgood
        have HDD := Lib.hid hd
        clear hd hgood
        obtain ⟨base, count, prod, seq, time, recs⟩ := b
        by_cases hbn : base = x
        · have hbb : (base != x) = false := by simp [hbn]
          have HBN := Lib.hid hbn
          clear hbn
          go_wp2_with fail
          refine HD1.out.mono ?_
          rintro e w2 ⟨b2, rv, B, hown, hB, rfl⟩
          have hr2 : RcIn (fun k => (w).heap.size ≤ k) w2 rv recs := Rds.of_sl (Sl.of_own hown) fun k hk => by
            have h1 := (hown.lt k hk).1
            have h2 := B1.out.size
            omega
          obtain ⟨ra, rc, rfl⟩ : ∃ ra rc, rv = .slice ra recs.length rc := RcIn.slice hr2
          have B2 := Lib.hid (B1.out.trans (b2.mono B1.out.size))
          have HR2 := Lib.hid hr2
          have HEND := Lib.hid fun wx => end_any (⟨base, count, prod, seq, time, recs⟩, Value.slice ra recs.length rc) HGOOD.out wx
          obtain ⟨E, hE⟩ : ∃ E, bend ⟨base, count, prod, seq, time, recs⟩ = E := ⟨_, rfl⟩
          have HE := Lib.hid hE
          simp only at HEND
          rw [hE] at HEND
          obtain ⟨m, hm⟩ : ∃ m, recs.length = m := ⟨_, rfl⟩
          have HM := Lib.hid hm
          rw [hm] at HEND
          rw [hm]
          obtain ⟨i0, hi, hz0, hz1, hz2⟩ := infoBt
          obtain ⟨W3, hW3⟩ : ∃ W3, w2.alloc (.cells #[.int .i64 base, .int .i64 count, .int .i64 prod, .int .i64 seq, .int .i64 time, .slice ra m rc] 34) = W3 := ⟨_, rfl⟩
          have hk3 : Blk W3 w2.heap.size #[.int .i64 base, .int .i64 count, .int .i64 prod, .int .i64 seq, .int .i64 time, .slice ra m rc] 34 := by rw [← hW3]; exact Blk.new _ _ _
          have b3 : Below w2.heap.size w2 W3 := by rw [← hW3]; exact (Below.refl _ _).alloc (Nat.le_refl _) _
          have c0 : W3.cell? ⟨w2.heap.size, 0, none⟩ = some (.int .i64 base) := hk3.cell rfl
          have c1 : W3.cell? ⟨w2.heap.size, 1, none⟩ = some (.int .i64 count) := hk3.cell rfl
          have c2 : W3.cell? ⟨w2.heap.size, 2, none⟩ = some (.int .i64 prod) := hk3.cell rfl
          have c3 : W3.cell? ⟨w2.heap.size, 3, none⟩ = some (.int .i64 seq) := hk3.cell rfl
          have c4 : W3.cell? ⟨w2.heap.size, 4, none⟩ = some (.int .i64 time) := hk3.cell rfl
          have c5 : W3.cell? ⟨w2.heap.size, 5, none⟩ = some (.slice ra m rc) := hk3.cell rfl
          have hlt3 := hk3.lt
          have B3 := Lib.hid (B2.out.trans (b3.mono B2.out.size))
          have hal : Below W3.heap.size W3 (W3.alloc (.cells [.int .i64 base, .int .i64 count, .int .i64 prod, .int .i64 seq, .int .i64 time, .slice ra m rc].toArray 34)) := (Below.refl _ _).alloc (Nat.le_refl _) _
          have HAL := Lib.hid hal
          have HBB3 := Lib.hid b3
          have HK3 := Lib.hid hk3
          have hfew := HK.out.few
          have hle := HK.out.le
          clear b2 hown hB hr2 hE hm hk3 b3 hal HD1
          go_wp2_with (at_builtin; refine wpList_append_rd rfl _ _ 29 rfl 34 i0 (.agg zeroB) 6 64 Tryz.underlying29 hi hz0 hz1 hz2 rfl _ none ([] : List (Pl.Bt × Value)).length _ rfl ((HK.out.sl.below B3.out).below HAL.out) _ 1 [.int .i64 base, .int .i64 count, .int .i64 prod, .int .i64 seq, .int .i64 time, .slice ra m rc] rfl (Rds.lit rfl _ _ _ _ rfl) (fun u hu => by simp only [List.mem_cons, List.not_mem_nil, or_false] at hu; rcases hu with rfl | rfl | rfl | rfl | rfl | rfl <;> rfl) (by simp) (by simp) ?_)
          intro v' w9 gb' hS9 hG9 hgb9
          obtain ⟨va', vc', rfl⟩ := hS9.form
          have B9 : Hid (Below (w).heap.size w (W3.alloc (.cells [.int .i64 base, .int .i64 count, .int .i64 prod, .int .i64 seq, .int .i64 time, .slice ra m rc].toArray 34))) := B3.out.trans (HAL.out.mono B3.out.size)
          have hk9 : Blk w9 w2.heap.size #[.int .i64 base, .int .i64 count, .int .i64 prod, .int .i64 seq, .int .i64 time, .slice ra m rc] 34 := (HK3.out.below HAL.out).grown hG9 (fun e => by have h1 := HK.out.sl.lt _ e.symm; have h2 := B2.out.size; omega)
          have hmore := HK.out.more (N := (W3.alloc (.cells [.int .i64 base, .int .i64 count, .int .i64 prod, .int .i64 seq, .int .i64 time, .slice ra m rc].toArray 34)).heap.size) HY.out HZ.out HDD.out HBN.out B9.out (by
            have h1 := (Rds.below HR2.out HBB3.out)
            have h2 := Rds.below h1 HAL.out
            rw [HM.out] at h2
            unfold RcIn
            simp only
            rw [HM.out]
            exact h2) hS9 hG9 (by simpa using hgb9) (Nat.le_refl _)
          have c0 : w9.cell? ⟨w2.heap.size, 0, none⟩ = some (.int .i64 base) := hk9.cell rfl
          have c1 : w9.cell? ⟨w2.heap.size, 1, none⟩ = some (.int .i64 count) := hk9.cell rfl
          have c2 : w9.cell? ⟨w2.heap.size, 2, none⟩ = some (.int .i64 prod) := hk9.cell rfl
          have c3 : w9.cell? ⟨w2.heap.size, 3, none⟩ = some (.int .i64 seq) := hk9.cell rfl
          have c4 : w9.cell? ⟨w2.heap.size, 4, none⟩ = some (.int .i64 time) := hk9.cell rfl
          have c5 : w9.cell? ⟨w2.heap.size, 5, none⟩ = some (.slice ra m rc) := hk9.cell rfl
          have HMORE := Lib.hid hmore
          clear hS9 hG9 hgb9 hk9 hmore hi hz0 hz1 hz2 hfew hle
          go_wp2_with fail
          refine (HEND.out _).mono ?_
          rintro e wE ⟨rfl, bE⟩
          have HBE := Lib.hid bE
          clear bE
          go_wp2_with fail
          go_step3
          have ep : 8 + (y.length : Int) = ((0 + 8 + y.length : Nat) : Int) := by omega
          rw [ep]
          have hmore := HMORE.out.below HBE.out
          rw [HE.out] at hmore
          exact ⟨rfl, ⟨0 + 8 + y.length, E, ([] : List (Pl.Bt × Value)) ++ [(⟨base, count, prod, seq, time, recs⟩, .slice ra m rc)], _, gb', hmore, _, _, _, _, _, _, _, _, _, _, _, _, _, _, _, _, _, _, _, _, _, _, _, _, _, _, _, _, _, _, _, _, _, _, _, _, _, _, rfl⟩⟩
        · have hbb : (base != x) = true := by simp [hbn]
          have HBN := Lib.hid hbn
          clear hbn
          go_wp2_with fail
          refine HD1.out.mono ?_
          rintro e w2 ⟨b2, rv, B, hown, hB, rfl⟩
          obtain ⟨ra, rc, rfl⟩ : ∃ ra rc, rv = .slice ra recs.length rc := by
            rcases hown.2 with ⟨h1, h2⟩ | ⟨g, cap, cur, h1, _⟩
            · exact ⟨none, 0, by rw [h1, h2]⟩
            · exact ⟨_, _, h1⟩
          have B2 := Lib.hid (B1.out.trans (b2.mono B1.out.size))
          clear b2 hown hB HD1
          go_wp2_with fail
          simp only [Exit.jump]
          go_ret2
          exact HK.out.over (found_gap HZ.out (by rw [HY.out]; exact HDD.out) HBN.out) (B2.out.trans ((Below.refl _ w2).alloc (Nat.le_refl _) _ |>.mono B2.out.size))
    · rw [Fr.res_no HK.out.le hz] at N
      obtain ⟨k, hk⟩ : ∃ k : Nat, (Fr.Pl.nx (s.data.toList.drop 0)).2 = k := ⟨_, rfl⟩
      have HZ := Lib.hid hz
      rw [hk] at N hz
      have hz2 : ((k : Int) == 0) = false := by rw [beq_eq_false_iff_ne]; omega
      have HN := Lib.hid N
      clear hk N hz
      go_wp2_with fail
      refine HN.out.mono ?_
      rintro e w1 ⟨rfl, b1⟩
      have HB := Lib.hid b1
      clear b1
      go_wp2_with fail
      simp only [Exit.jump]
      go_ret2
      exact HK.out.over (found_stop HZ.out) HB.out
  · rintro a' w' ⟨p, nx, L, v, gb, hK, u9, u10, u11, u12, u13, u14, u15, u16, u17, u18, u19, u20, u21, u22, u23, u24, u25, u26, u27, u28, u29, u30, u31, u32, u33, u34, u35, u36, u37, u38, u39, u40, u41, u42, u43, u44, u45, u46, rfl⟩
    have HK := Lib.hid hK
    clear hK
    obtain ⟨va, vc, rfl⟩ := HK.out.sl.form
    have N := Fr.next_at s p w' HK.out.le hs
    by_cases hz : (Fr.Pl.nx (s.data.toList.drop p)).2 = 0
    · have hq := room_of HSL.out hz
      rw [Fr.res_ok HK.out.le hz] at N
      obtain ⟨y, hy⟩ : ∃ y, (Fr.Pl.nx (s.data.toList.drop p)).1 = y := ⟨_, rfl⟩
      rw [hy] at N hq
      have HY := Lib.hid hy
      have HN := Lib.hid N
      have HZ := Lib.hid hz
      obtain ⟨Y, hYY⟩ : ∃ Y : ByteArray, (⟨y.toArray⟩ : ByteArray) = Y := ⟨_, rfl⟩
      have HD := Lib.hid fun (wx : World) (hbx : Below (w').heap.size w' wx) => ddecode Y wx ((HLB.out.below HLB.out.size HK.out.low).below (by have := HLB.out.size; have := HK.out.low.size; omega) hbx) (by rw [← hYY, size_list]; omega)
      have hyd : Y.data.toList = y := by rw [← hYY]
      rw [hyd] at HD
      rw [hYY] at HN
      clear hy N hz hYY hyd
      go_wp2_with fail
      refine HN.out.mono ?_
      rintro e w1 ⟨rfl, b1⟩
      have B1 := Lib.hid b1
      have HD1 := Lib.hid (HD.out w1 b1)
      clear b1 HN HD
      cases hd : decB y with
      | none =>
        rw [hd] at HD1
        have HDD := Lib.hid hd
        clear hd
        go_wp2_with fail
        refine HD1.out.mono ?_
        rintro e w2 ⟨b2, h2⟩
        obtain rfl : e = .returned (.tuple #[.agg #[.int .i64 0, .int .i64 0, .int .i64 0, .int .i64 0, .int .i64 0, .slice none 0 0], .int .i64 3]) := h2
        have B2 := Lib.hid (B1.out.trans (b2.mono B1.out.size))
        clear b2 HD1
        go_wp2_with fail
        simp only [Exit.jump]
        go_ret2
        exact HK.out.over (found_none HZ.out (by rw [HY.out]; exact HDD.out)) (B2.out.trans ((Below.refl _ w2).alloc (Nat.le_refl _) _ |>.mono B2.out.size))
      | some b =>
        rw [hd] at HD1
        have hgood := (enc_dec hd).1
        have HGOOD := Lib.hid hgood
        have HDD := Lib.hid hd
        clear hd hgood
        obtain ⟨base, count, prod, seq, time, recs⟩ := b
        by_cases hbn : base = nx
        · have hbb : (base != nx) = false := by simp [hbn]
          have HBN := Lib.hid hbn
          clear hbn
          go_wp2_with fail
          refine HD1.out.mono ?_
          rintro e w2 ⟨b2, rv, B, hown, hB, rfl⟩
          have hr2 : RcIn (fun k => (w').heap.size ≤ k) w2 rv recs := Rds.of_sl (Sl.of_own hown) fun k hk => by
            have h1 := (hown.lt k hk).1
            have h2 := B1.out.size
            omega
          obtain ⟨ra, rc, rfl⟩ : ∃ ra rc, rv = .slice ra recs.length rc := RcIn.slice hr2
          have B2 := Lib.hid (B1.out.trans (b2.mono B1.out.size))
          have HR2 := Lib.hid hr2
          have HEND := Lib.hid fun wx => end_any (⟨base, count, prod, seq, time, recs⟩, Value.slice ra recs.length rc) HGOOD.out wx
          obtain ⟨E, hE⟩ : ∃ E, bend ⟨base, count, prod, seq, time, recs⟩ = E := ⟨_, rfl⟩
          have HE := Lib.hid hE
          simp only at HEND
          rw [hE] at HEND
          obtain ⟨m, hm⟩ : ∃ m, recs.length = m := ⟨_, rfl⟩
          have HM := Lib.hid hm
          rw [hm] at HEND
          rw [hm]
          obtain ⟨i0, hi, hz0, hz1, hz2⟩ := infoBt
          obtain ⟨W3, hW3⟩ : ∃ W3, w2.alloc (.cells #[.int .i64 base, .int .i64 count, .int .i64 prod, .int .i64 seq, .int .i64 time, .slice ra m rc] 34) = W3 := ⟨_, rfl⟩
          have hk3 : Blk W3 w2.heap.size #[.int .i64 base, .int .i64 count, .int .i64 prod, .int .i64 seq, .int .i64 time, .slice ra m rc] 34 := by rw [← hW3]; exact Blk.new _ _ _
          have b3 : Below w2.heap.size w2 W3 := by rw [← hW3]; exact (Below.refl _ _).alloc (Nat.le_refl _) _
          have c0 : W3.cell? ⟨w2.heap.size, 0, none⟩ = some (.int .i64 base) := hk3.cell rfl
          have c1 : W3.cell? ⟨w2.heap.size, 1, none⟩ = some (.int .i64 count) := hk3.cell rfl
          have c2 : W3.cell? ⟨w2.heap.size, 2, none⟩ = some (.int .i64 prod) := hk3.cell rfl
          have c3 : W3.cell? ⟨w2.heap.size, 3, none⟩ = some (.int .i64 seq) := hk3.cell rfl
          have c4 : W3.cell? ⟨w2.heap.size, 4, none⟩ = some (.int .i64 time) := hk3.cell rfl
          have c5 : W3.cell? ⟨w2.heap.size, 5, none⟩ = some (.slice ra m rc) := hk3.cell rfl
          have hlt3 := hk3.lt
          have B3 := Lib.hid (B2.out.trans (b3.mono B2.out.size))
          have hal : Below W3.heap.size W3 (W3.alloc (.cells [.int .i64 base, .int .i64 count, .int .i64 prod, .int .i64 seq, .int .i64 time, .slice ra m rc].toArray 34)) := (Below.refl _ _).alloc (Nat.le_refl _) _
          have HAL := Lib.hid hal
          have HBB3 := Lib.hid b3
          have HK3 := Lib.hid hk3
          have hfew := HK.out.few
          have hle := HK.out.le
          clear b2 hown hB hr2 hE hm hk3 b3 hal HD1
          go_wp2_with (at_builtin; refine wpList_append_rd rfl _ _ 29 rfl 34 i0 (.agg zeroB) 6 64 Tryz.underlying29 hi hz0 hz1 hz2 rfl _ gb L.length _ rfl ((HK.out.sl.below B3.out).below HAL.out) _ 1 [.int .i64 base, .int .i64 count, .int .i64 prod, .int .i64 seq, .int .i64 time, .slice ra m rc] rfl (Rds.lit rfl _ _ _ _ rfl) (fun u hu => by simp only [List.mem_cons, List.not_mem_nil, or_false] at hu; rcases hu with rfl | rfl | rfl | rfl | rfl | rfl <;> rfl) (by omega) (by omega) ?_)
          intro v' w9 gb' hS9 hG9 hgb9
          obtain ⟨va', vc', rfl⟩ := hS9.form
          have B9 : Hid (Below (w').heap.size w' (W3.alloc (.cells [.int .i64 base, .int .i64 count, .int .i64 prod, .int .i64 seq, .int .i64 time, .slice ra m rc].toArray 34))) := B3.out.trans (HAL.out.mono B3.out.size)
          have hk9 : Blk w9 w2.heap.size #[.int .i64 base, .int .i64 count, .int .i64 prod, .int .i64 seq, .int .i64 time, .slice ra m rc] 34 := (HK3.out.below HAL.out).grown hG9 (fun e => by have h1 := HK.out.sl.lt _ e.symm; have h2 := B2.out.size; omega)
          have hmore := HK.out.more (N := (W3.alloc (.cells [.int .i64 base, .int .i64 count, .int .i64 prod, .int .i64 seq, .int .i64 time, .slice ra m rc].toArray 34)).heap.size) HY.out HZ.out HDD.out HBN.out B9.out (by
            have h1 := (Rds.below HR2.out HBB3.out)
            have h2 := Rds.below h1 HAL.out
            rw [HM.out] at h2
            unfold RcIn
            simp only
            rw [HM.out]
            exact h2) hS9 hG9 (by simpa using hgb9) (Nat.le_refl _)
          have c0 : w9.cell? ⟨w2.heap.size, 0, none⟩ = some (.int .i64 base) := hk9.cell rfl
          have c1 : w9.cell? ⟨w2.heap.size, 1, none⟩ = some (.int .i64 count) := hk9.cell rfl
          have c2 : w9.cell? ⟨w2.heap.size, 2, none⟩ = some (.int .i64 prod) := hk9.cell rfl
          have c3 : w9.cell? ⟨w2.heap.size, 3, none⟩ = some (.int .i64 seq) := hk9.cell rfl
          have c4 : w9.cell? ⟨w2.heap.size, 4, none⟩ = some (.int .i64 time) := hk9.cell rfl
          have c5 : w9.cell? ⟨w2.heap.size, 5, none⟩ = some (.slice ra m rc) := hk9.cell rfl
          have HMORE := Lib.hid hmore
          clear hS9 hG9 hgb9 hk9 hmore hi hz0 hz1 hz2 hfew hle
          go_wp2_with fail
          refine (HEND.out _).mono ?_
          rintro e wE ⟨rfl, bE⟩
          have HBE := Lib.hid bE
          clear bE
          go_wp2_with fail
          go_step3
          have ep : (p : Int) + 8 + (y.length : Int) = ((p + 8 + y.length : Nat) : Int) := by omega
          rw [ep]
          have hmore := HMORE.out.below HBE.out
          rw [HE.out] at hmore
          exact ⟨rfl, ⟨p + 8 + y.length, E, L ++ [(⟨base, count, prod, seq, time, recs⟩, .slice ra m rc)], _, gb', hmore, _, _, _, _, _, _, _, _, _, _, _, _, _, _, _, _, _, _, _, _, _, _, _, _, _, _, _, _, _, _, _, _, _, _, _, _, _, _, rfl⟩, by simp [intOf]; omega⟩
        · have hbb : (base != nx) = true := by simp [hbn]
          have HBN := Lib.hid hbn
          clear hbn
          go_wp2_with fail
          refine HD1.out.mono ?_
          rintro e w2 ⟨b2, rv, B, hown, hB, rfl⟩
          obtain ⟨ra, rc, rfl⟩ : ∃ ra rc, rv = .slice ra recs.length rc := by
            rcases hown.2 with ⟨h1, h2⟩ | ⟨g, cap, cur, h1, _⟩
            · exact ⟨none, 0, by rw [h1, h2]⟩
            · exact ⟨_, _, h1⟩
          have B2 := Lib.hid (B1.out.trans (b2.mono B1.out.size))
          clear b2 hown hB HD1
          go_wp2_with fail
          simp only [Exit.jump]
          go_ret2
          exact HK.out.over (found_gap HZ.out (by rw [HY.out]; exact HDD.out) HBN.out) (B2.out.trans ((Below.refl _ w2).alloc (Nat.le_refl _) _ |>.mono B2.out.size))
    · rw [Fr.res_no HK.out.le hz] at N
      obtain ⟨k, hk⟩ : ∃ k : Nat, (Fr.Pl.nx (s.data.toList.drop p)).2 = k := ⟨_, rfl⟩
      have HZ := Lib.hid hz
      rw [hk] at N hz
      have hz2 : ((k : Int) == 0) = false := by rw [beq_eq_false_iff_ne]; omega
      have HN := Lib.hid N
      clear hk N hz
      go_wp2_with fail
      refine HN.out.mono ?_
      rintro e w1 ⟨rfl, b1⟩
      have HB := Lib.hid b1
      clear b1
      go_wp2_with fail
      simp only [Exit.jump]
      go_ret2
      exact HK.out.over (found_stop HZ.out) HB.out
end Go.Proofs.YtdaoeplblkfapaaGreatDoor

/- THE CONTRACTS OF slices.Contains at strings, of strand.firsts. -/
namespace Go.Proofs.YtdaoeplblkfapaaGreatDoor
open Go.RowKit

abbrev scell (k : List UInt8) : Value := .string ⟨k.toArray⟩
theorem str_beq (a b : List UInt8) : ((⟨a.toArray⟩ : ByteArray).toList == (⟨b.toArray⟩ : ByteArray).toList) = (a == b) := by
  rw [ByteArray.toList_eq, ByteArray.toList_eq]
def Indexed (ss : List (List UInt8)) (k : List UInt8) (w : World) (e : Ending) (w' : World) : Prop := ∃ z : Int, e = .returned (.int .i64 z) ∧ decide (0 ≤ z) = ss.contains k ∧ w = w'
set_option maxHeartbeats 1000000 in
set_option maxRecDepth 100000 in
theorem contains_any {A : Nat → Prop} (v : Value) (ss : List (List UInt8)) (k : List UInt8) (w : World) (h : Rds A w v 1 ss.length (ss.map scell)) (hn : ss.length ≤ 1048576) :
    Calls Tryz.prog 105 #[v, .string ⟨k.toArray⟩] w fun e w' => e = .returned (.bool (ss.contains k)) ∧ w = w' := by
  obtain ⟨a, cap, rfl⟩ := h.form
  obtain ⟨n, hnn⟩ : ∃ n, ss.length = n := ⟨_, rfl⟩
  have HN := Lib.hid hnn
  rw [hnn] at hn h ⊢
  have HR := Lib.hid h
  obtain ⟨K, hK⟩ : ∃ K : ByteArray, (⟨k.toArray⟩ : ByteArray) = K := ⟨_, rfl⟩
  have HI : Hid (Calls Tryz.prog 141 #[.slice a n cap, .string K] w (Indexed ss k w)) := by
    show Calls _ _ _ _ _
    rw [← hK]
    have HKK := Lib.hid hK
    clear hK h hnn
    go_enter Tryz.func141, Tryz.ntmps141
    go_wp2_with fail
    go_loop [8] (fun iv => ∃ j : Nat, j ≤ n ∧ iv = .int .i64 j ∧ ∀ i x, i < j → ss[i]? = some x → x ≠ k) (fun iv => n - (intOf iv).toNat)
    case atStart => exact ⟨0, Nat.zero_le _, rfl, fun i x h => absurd h (Nat.not_lt_zero _)⟩
    case round =>
      obtain ⟨j, hj, rfl, hno⟩ := hrel
      have HNO := Lib.hid hno
      clear hno
      by_cases hlt : j < n
      · obtain ⟨x, hx⟩ : ∃ x, ss[j]? = some x := ⟨_, List.getElem?_eq_getElem (by rw [HN.out]; exact hlt)⟩
        obtain ⟨b, p, cap', e, -, hb, hc⟩ := Rds.at HR.out (by omega)
        injection e with e1 e2 e3
        subst e1 e3
        have c0 : w.cell? ⟨b, p + j, none⟩ = some (.string ⟨x.toArray⟩) := hc j _ (by rw [List.getElem?_map, hx]; rfl)
        have hq := str_beq k x
        obtain ⟨z, hz⟩ : ∃ z, (k == x) = z := ⟨_, rfl⟩
        rw [hz] at hq
        obtain ⟨X, hX⟩ : ∃ X : ByteArray, (⟨x.toArray⟩ : ByteArray) = X := ⟨_, rfl⟩
        obtain ⟨Y, hY⟩ : ∃ Y : ByteArray, (⟨k.toArray⟩ : ByteArray) = Y := ⟨_, rfl⟩
        rw [hX] at c0 hq
        rw [hY] at hq ⊢
        have HX := Lib.hid hx
        have HZ := Lib.hid hz
        clear hx hc e2 hX hz hY
        cases z with
        | true =>
          go_wp2_with fail
          go_ret
          refine ⟨j, rfl, ?_, rfl⟩
          have hk : k = x := by simpa using HZ.out
          rw [decide_eq_true (by omega)]
          exact (List.contains_iff_mem.2 (hk ▸ List.mem_of_getElem? HX.out)).symm
        | false =>
          go_wp2_with fail
          go_round
          case rel =>
            refine ⟨j + 1, hlt, by go_num, fun i y hi hy => ?_⟩
            rcases Nat.lt_or_ge i j with h1 | h1
            · exact HNO.out i y h1 hy
            · obtain rfl : i = j := by omega
              obtain rfl := Option.some.inj (HX.out.symm.trans hy)
              intro e
              have := HZ.out
              rw [e] at this
              simp at this
          case measure => simp [intOf]; omega
      · obtain rfl : j = n := by omega
        go_wp2_with fail
        go_ret
        refine ⟨-1, rfl, ?_, rfl⟩
        have : ss.contains k = false := by
          rw [← Bool.not_eq_true, List.contains_iff_mem]
          intro hm
          obtain ⟨i, hi⟩ := List.mem_iff_getElem?.1 hm
          exact HNO.out i k (by rw [← HN.out]; exact (List.getElem?_eq_some_iff.1 hi).1) hi rfl
        rw [this]
        rfl
  have HKK := Lib.hid hK
  rw [hK]
  clear hK h hnn
  go_enter Tryz.func105, Tryz.ntmps105
  go_wp2_with fail
  refine HI.out.mono ?_
  rintro e w' ⟨z, rfl, hz, rfl⟩
  have HZ := Lib.hid hz
  clear hz
  go_wp2_with fail
  go_ret
  exact ⟨congrArg (fun b => Ending.returned (.bool b)) HZ.out, rfl⟩

def icell (x : Int) : Value := .int .i64 x
/-- strconv.Atoi, whatever it comes to. -/
def AnyNum (w : World) (e : Ending) (w' : World) : Prop := ∃ (x : Int) (v : Value), e = .returned (.tuple #[.int .i64 x, v]) ∧ ((∃ T N, v = .iface T (.pointer (some ⟨N, 0, none⟩))) ∨ v = .nilIface) ∧ Below w.heap.size w w'
theorem atoi_any (s : ByteArray) (w : World) (hl : Lb w) (hs : s.size ≤ 281474976710656) : Calls Tryz.prog 143 #[.string s] w (AnyNum w) := by
  by_cases h : ∃ n, Lib.atoiAll s.data.toList = .ok n
  · obtain ⟨n, hn⟩ := h
    refine (Tryz.strconv_Atoi_ok s (by omega) n hn w).mono ?_
    rintro e w' ⟨rfl, hw⟩
    refine ⟨n, _, rfl, .inr rfl, ?_⟩
    rcases hw with rfl | ⟨t, rfl⟩
    · exact Below.refl _ _
    · exact Lib.bytesWorld_below _ _ _
  · refine (atoi_bad s (fun n hn => h ⟨n, hn⟩) w hl hs).mono ?_
    rintro e w' ⟨x, T, N, rfl, hb⟩
    exact ⟨x, _, rfl, .inl ⟨T, N, rfl⟩, hb⟩
theorem atoi_ok (s : ByteArray) (n : Int) (hn : Lib.atoiAll s.data.toList = .ok n) (w : World) (hs : s.size ≤ 281474976710656) : Calls Tryz.prog 143 #[.string s] w fun e w' => e = .returned (.tuple #[.int .i64 n, .nilIface]) ∧ Below w.heap.size w w' := by
  refine (Tryz.strconv_Atoi_ok s (by omega) n hn w).mono ?_
  rintro e w' ⟨rfl, hw⟩
  refine ⟨rfl, ?_⟩
  rcases hw with rfl | ⟨t, rfl⟩
  · exact Below.refl _ _
  · exact Lib.bytesWorld_below _ _ _
/-- The first offsets that names tell. -/
def numsOf (P : List UInt8) (ss : List (List UInt8)) : List Int := ss.filterMap (numOf P)
def Firsts (P : List UInt8) (ss : List (List UInt8)) (w : World) (e : Ending) (w' : World) : Prop :=
  ∃ v gb, e = .returned v ∧ Sl w' v gb 3 1 (numsOf P ss).length ((numsOf P ss).map icell) ∧ (∀ b, gb = some b → w.heap.size ≤ b) ∧ Below w.heap.size w w'
structure Fg (P : List UInt8) (ss : List (List UInt8)) (w : World) (k : Nat) (v : Value) (gb : Option Nat) (wr : World) : Prop where
  sl : Sl wr v gb 3 1 (numsOf P (ss.take k)).length ((numsOf P (ss.take k)).map icell)
  new : ∀ b, gb = some b → w.heap.size ≤ b
  low : Below w.heap.size w wr
theorem numsOf_next {P : List UInt8} {ss : List (List UInt8)} {k : Nat} {x : List UInt8} (h : ss[k]? = some x) : numsOf P (ss.take (k + 1)) = numsOf P (ss.take k) ++ (numOf P x).toList := by
  have hl := (List.getElem?_eq_some_iff.1 h).1
  rw [List.take_succ_eq_append_getElem hl]
  rw [List.getElem?_eq_getElem hl] at h
  rw [Option.some.inj h]
  unfold numsOf
  rw [List.filterMap_append]
  cases hx : numOf P x <;> simp [hx]
theorem Fg.skip {P : List UInt8} {ss : List (List UInt8)} {w : World} {k : Nat} {v : Value} {gb : Option Nat} {wr w1 : World} {x : List UInt8} (h : Fg P ss w k v gb wr) (hx : ss[k]? = some x) (hn : numOf P x = none) (hb : Below wr.heap.size wr w1) : Fg P ss w (k + 1) v gb w1 := by
  have e : numsOf P (ss.take (k + 1)) = numsOf P (ss.take k) := by rw [numsOf_next hx, hn]; simp
  exact ⟨by rw [e]; exact h.sl.below hb, h.new, h.low.trans (hb.mono h.low.size)⟩
theorem Fg.take {P : List UInt8} {ss : List (List UInt8)} {w : World} {k : Nat} {v v' : Value} {gb gb' : Option Nat} {wr w1 w2 : World} {x : List UInt8} {z : Int} {N : Nat} (h : Fg P ss w k v gb wr) (hx : ss[k]? = some x) (hn : numOf P x = some z) (hb : Below wr.heap.size wr w1)
    (hs : Sl w2 v' gb' 3 1 ((numsOf P (ss.take k)).length + 1) ((numsOf P (ss.take k)).map icell ++ [.int .i64 z])) (hg : w1.grownBy w2 gb) (hgb : gb' = gb ∨ ∃ g, gb' = some g ∧ N ≤ g) (hN : w1.heap.size ≤ N) : Fg P ss w (k + 1) v' gb' w2 := by
  have e : numsOf P (ss.take (k + 1)) = numsOf P (ss.take k) ++ [z] := by rw [numsOf_next hx, hn]; simp
  have hlow := h.low.trans (hb.mono h.low.size)
  have hap := below_appended hlow hg h.new hgb (by have := hlow.size; omega)
  exact ⟨by rw [e, List.length_append, List.map_append]; exact hs, hap.2, hap.1⟩
theorem numOf_pre {P x : List UInt8} (h : Lib.hasPrefix x (P ++ [46]) = false) : numOf P x = none := by
  unfold numOf
  rw [if_neg (by rw [h]; simp)]
theorem numOf_bad {P x : List UInt8} (h : ∀ n, Lib.atoiAll (x.drop (P.length + 1)) ≠ .ok n) : numOf P x = none := by
  unfold numOf
  split
  · split
    · rename_i n hn
      exact absurd hn (h n)
    · rfl
  · rfl
theorem numOf_if {P x : List UInt8} {n : Int} (h1 : Lib.hasPrefix x (P ++ [46]) = true) (h2 : Lib.atoiAll (x.drop (P.length + 1)) = .ok n) : numOf P x = if 0 ≤ n ∧ n ≤ 1099511627776 ∧ nm P n = x then some n else none := by
  unfold numOf
  rw [if_pos h1, h2]
theorem trim_drop {P x : List UInt8} (h : Lib.hasPrefix x (P ++ [46]) = true) : Lib.trimPrefix x (P ++ [46]) = x.drop (P.length + 1) := by
  unfold Lib.trimPrefix
  rw [if_pos h]
  simp
end Go.Proofs.YtdaoeplblkfapaaGreatDoor

/- THE CONTRACT OF strand.firsts. -/
namespace Go.Proofs.YtdaoeplblkfapaaGreatDoor
open Go.RowKit

set_option maxHeartbeats 4000000 in
set_option maxRecDepth 100000 in
theorem firsts_any {A : Nat → Prop} (w : World) (lb : Lb w) (s : Nat) (h : Hs) (hv : Value) (hb : Blk w s (hcells h hv) 99) (hP : h.P.length ≤ 1048576) (v : Value) (ss : List (List UInt8)) (hr : Rds A w v 1 ss.length (ss.map scell)) (hn : ss.length ≤ 1048576) (hsz : ∀ x ∈ ss, x.length ≤ 1048576) :
    Calls Tryz.prog 107 #[.pointer (some ⟨s, 0, none⟩), v] w (Firsts h.P ss w) := by
  obtain ⟨a, cap, rfl⟩ := hr.form
  obtain ⟨n, hnn⟩ : ∃ n, ss.length = n := ⟨_, rfl⟩
  have HN := Lib.hid hnn
  rw [hnn] at hn hr ⊢
  have HR := Lib.hid hr
  have HLB := Lib.hid lb
  have HB := Lib.hid hb
  have HSZ := Lib.hid hsz
  obtain ⟨P, hPP⟩ : ∃ P, h.P = P := ⟨_, rfl⟩
  have c2 : w.cell? ⟨s, 2, none⟩ = some (.string ⟨P.toArray⟩) := by rw [← hPP]; exact hb.cell rfl
  have hslt := hb.lt
  rw [hPP] at hP ⊢
  have HPP := Lib.hid hPP
  obtain ⟨S, hS⟩ : ∃ S : ByteArray, (⟨P.toArray⟩ : ByteArray) = S := ⟨_, rfl⟩
  obtain ⟨D, hD⟩ : ∃ D : ByteArray, (⟨(P ++ [46]).toArray⟩ : ByteArray) = D := ⟨_, rfl⟩
  have hSD : S ++ ⟨#[46]⟩ = D := by rw [← hS, ← hD, show (⟨#[46]⟩ : ByteArray) = ⟨[46].toArray⟩ from rfl, bytes_append]
  have hSs : S.size ≤ 1048576 := by rw [← hS, size_list]; exact hP
  have hDl : D.data.toList = P ++ [46] := by rw [← hD]
  rw [hS] at c2
  have HD := Lib.hid hDl
  have HSD := Lib.hid hSD
  have HC2 := Lib.hid c2
  clear hr lb hb hsz hPP hS hD hDl hnn hSD c2
  go_enter Tryz.func107, Tryz.ntmps107
  go_wp2_with fail
  go_loopw [5, 14] (fun lv iv wr => ∃ (k : Nat) (gb : Option Nat), k ≤ n ∧ iv = .int .i64 k ∧ Fg P ss w k lv gb wr) (fun _ iv _ => n - (intOf iv).toNat)
  case atStart => exact ⟨0, none, Nat.zero_le _, rfl, Sl.nil _ _ _, (fun b hb => by cases hb), Below.refl _ _⟩
  case round =>
    obtain ⟨k, gb, hk, rfl, hF⟩ := hrel
    obtain ⟨la, lc, rfl⟩ := hF.sl.form
    have HF := Lib.hid hF
    have hlow := hF.low
    by_cases hlt : k < n
    · obtain ⟨x, hx⟩ : ∃ x, ss[k]? = some x := ⟨_, List.getElem?_eq_getElem (by rw [HN.out]; exact hlt)⟩
      have hxl := HSZ.out x (List.mem_of_getElem? hx)
      obtain ⟨b, p, cap', e, -, hb, hc⟩ := Rds.at (HR.out.below hlow) (by omega)
      injection e with e1 e2 e3
      subst e1 e3
      have c0 : wr.cell? ⟨b, p + k, none⟩ = some (.string ⟨x.toArray⟩) := hc k _ (by rw [List.getElem?_map, hx]; rfl)
      have c2 : wr.cell? ⟨s, 2, none⟩ = some (.string S) := (hlow.cell (p := ⟨s, 2, none⟩) hslt).trans HC2.out
      have hsd := HSD.out
      obtain ⟨r, hrr⟩ : ∃ r, (numsOf P (ss.take k)).length = r := ⟨_, rfl⟩
      have hrk : r ≤ k := by
        rw [← hrr]
        have h1 := List.length_filterMap_le (numOf P) (ss.take k)
        have h2 := List.length_take_le k ss
        unfold numsOf
        omega
      have HRR := Lib.hid hrr
      rw [hrr] at HF ⊢
      have HX := Lib.hid hx
      have HLBK := Lib.hid fun (wx : World) (hbx : Below wr.heap.size wr wx) => (HLB.out.below HLB.out.size hlow).below (by have := HLB.out.size; have := hlow.size; omega) hbx
      have HBB := Lib.hid fun (wx : World) (hbx : Below wr.heap.size wr wx) => (HB.out.below hlow).below hbx
      have HCP := Lib.hid fun wx => (Tryz.strings_CutPrefix ⟨x.toArray⟩ D wx)
      obtain ⟨X, hX⟩ : ∃ X : ByteArray, (⟨x.toArray⟩ : ByteArray) = X := ⟨_, rfl⟩
      have hXd : X.data.toList = x := by rw [← hX]
      rw [hX] at c0 HCP
      rw [hXd, HD.out] at HCP
      have HXX := Lib.hid hX
      clear hx hc e2 hrr hF hX hXd
      cases hp : Lib.hasPrefix x (P ++ [46]) with
      | false =>
        rw [hp] at HCP
        have hno := numOf_pre hp
        have HNO := Lib.hid hno
        have hts : (Lib.trimPrefix x (P ++ [46])).length ≤ 1048576 := by
          unfold Lib.trimPrefix
          rw [if_neg (by rw [hp]; simp)]
          exact hxl
        obtain ⟨R, hR⟩ : ∃ R : ByteArray, (⟨(Lib.trimPrefix x (P ++ [46])).toArray⟩ : ByteArray) = R := ⟨_, rfl⟩
        have hRs : R.size ≤ 1048576 := by rw [← hR, size_list]; exact hts
        rw [hR] at HCP
        clear hp hno hts hR hlow
        go_wp2_with fail
        refine (HCP.out _).mono ?_
        rintro e w1 ⟨rfl, rfl⟩
        go_wp2_with fail
        refine (atoi_any R _ (HLBK.out _ (Below.refl _ _)) (by omega)).mono ?_
        rintro e w2 ⟨m, v, rfl, -, b2⟩
        have B2 := Lib.hid b2
        clear b2
        go_wp2_with fail
        go_roundw
        case rel => exact ⟨k + 1, gb, hlt, by go_num, HF.out.skip HX.out HNO.out B2.out⟩
        case measure => simp [intOf]; omega
      | true =>
        rw [hp] at HCP
        rw [trim_drop hp] at HCP
        have HP := Lib.hid hp
        obtain ⟨R, hR⟩ : ∃ R : ByteArray, (⟨(x.drop (P.length + 1)).toArray⟩ : ByteArray) = R := ⟨_, rfl⟩
        have hRs : R.size ≤ 1048576 := by rw [← hR, size_list, List.length_drop]; omega
        have hRd : R.data.toList = x.drop (P.length + 1) := by rw [← hR]
        rw [hR] at HCP
        have HRD := Lib.hid hRd
        clear hp hR hlow hRd
        by_cases hok : ∃ m, Lib.atoiAll (x.drop (P.length + 1)) = .ok m
        · obtain ⟨m, hm⟩ := hok
          have hif := numOf_if HP.out hm
          have HIF := Lib.hid hif
          have HAT := Lib.hid fun wx => atoi_ok R m (by rw [HRD.out]; exact hm) wx (by omega)
          clear hm hif
          by_cases h0 : m < 0
          · have hd0 : decide (m < 0) = true := decide_eq_true h0
            have HNO : Hid (numOf P x = none) := by show _ = _; rw [HIF.out, if_neg (by omega)]
            clear h0
            go_wp2_with fail
            refine (HCP.out _).mono ?_
            rintro e w1 ⟨rfl, rfl⟩
            go_wp2_with fail
            refine (HAT.out _).mono ?_
            rintro e w2 ⟨rfl, b2⟩
            have B2 := Lib.hid b2
            clear b2
            go_wp2_with fail
            go_roundw
            case rel => exact ⟨k + 1, gb, hlt, by go_num, HF.out.skip HX.out HNO.out B2.out⟩
            case measure => simp [intOf]; omega
          · have hd0 : decide (m < 0) = false := decide_eq_false h0
            have h0' : 0 ≤ m := by omega
            clear h0
            by_cases h1 : 1099511627776 < m
            · have hd1 : decide (1099511627776 < m) = true := decide_eq_true h1
              have HNO : Hid (numOf P x = none) := by show _ = _; rw [HIF.out, if_neg (by omega)]
              clear h1
              go_wp2_with fail
              refine (HCP.out _).mono ?_
              rintro e w1 ⟨rfl, rfl⟩
              go_wp2_with fail
              refine (HAT.out _).mono ?_
              rintro e w2 ⟨rfl, b2⟩
              have B2 := Lib.hid b2
              clear b2
              go_wp2_with fail
              go_roundw
              case rel => exact ⟨k + 1, gb, hlt, by go_num, HF.out.skip HX.out HNO.out B2.out⟩
              case measure => simp [intOf]; omega
            · have hd1 : decide (1099511627776 < m) = false := decide_eq_false h1
              have h1' : m ≤ 1099511627776 := by omega
              clear h1
              have HNM := Lib.hid fun wx hbx => name_any wx (HLBK.out wx hbx) s h hv (HBB.out wx hbx) (by rw [HPP.out]; exact hP) m h0' h1'
              rw [HPP.out] at HNM
              have hq := str_beq (nm P m) x
              obtain ⟨z, hz⟩ : ∃ z, (nm P m == x) = z := ⟨_, rfl⟩
              rw [hz, HXX.out] at hq
              obtain ⟨M, hM⟩ : ∃ M : ByteArray, (⟨(nm P m).toArray⟩ : ByteArray) = M := ⟨_, rfl⟩
              rw [hM] at hq HNM
              have HZ := Lib.hid hz
              clear hM hz
              cases z with
              | false =>
                have HNO : Hid (numOf P x = none) := by
                  show _ = _
                  rw [HIF.out, if_neg (fun hh => by have := HZ.out; rw [hh.2.2] at this; simp at this)]
                go_wp2_with fail
                refine (HCP.out _).mono ?_
                rintro e w1 ⟨rfl, rfl⟩
                go_wp2_with fail
                refine (HAT.out _).mono ?_
                rintro e w2 ⟨rfl, b2⟩
                have B2 := Lib.hid b2
                clear b2
                go_wp2_with fail
                refine (HNM.out _ B2.out).mono ?_
                rintro e w3 ⟨rfl, b3⟩
                have B3 := Lib.hid (B2.out.trans (b3.mono B2.out.size))
                clear b3
                go_wp2_with fail
                go_roundw
                case rel => exact ⟨k + 1, gb, hlt, by go_num, HF.out.skip HX.out HNO.out B3.out⟩
                case measure => simp [intOf]; omega
              | true =>
                have HNO : Hid (numOf P x = some m) := by
                  show _ = _
                  rw [HIF.out, if_pos ⟨h0', h1', by simpa using HZ.out⟩]
                obtain ⟨i0, hi, hz0, hz1, hz2⟩ := infoInt
                go_wp2_with fail
                refine (HCP.out _).mono ?_
                rintro e w1 ⟨rfl, rfl⟩
                go_wp2_with fail
                refine (HAT.out _).mono ?_
                rintro e w2 ⟨rfl, b2⟩
                have B2 := Lib.hid b2
                clear b2
                go_wp2_with fail
                refine (HNM.out _ B2.out).mono ?_
                rintro e w3 ⟨rfl, b3⟩
                have B3 := Lib.hid (B2.out.trans (b3.mono B2.out.size))
                have HSL : Hid (Sl w3 (.slice la r lc) gb 3 1 r ((numsOf P (ss.take k)).map icell)) := by
                  have := HF.out.sl.below B3.out
                  rw [HRR.out] at this
                  exact this
                clear b3
                go_wp2_with (at_builtin; refine wpList_append_rd rfl _ _ 35 rfl 3 i0 (.int .i64 0) 1 8 Tryz.underlying35 hi hz0 hz1 hz2 rfl _ gb r _ rfl (HSL.out.alloc _) _ 1 [.int .i64 m] rfl (Rds.lit rfl _ _ _ _ rfl) (fun u hu => by obtain rfl := List.mem_singleton.1 hu; rfl) (by omega) (by omega) ?_)
                intro v' w9 gb' hS9 hG9 hgb9
                have hal : Below w3.heap.size w3 (w3.alloc (.cells [Value.int .i64 m].toArray 3)) := (Below.refl _ _).alloc (Nat.le_refl _) _
                have hmore := HF.out.take (N := w3.heap.size + 1) HX.out HNO.out (B3.out.trans (hal.mono B3.out.size)) (by rw [HRR.out]; exact hS9) hG9 (by simpa using hgb9) (by simp)
                have HMORE := Lib.hid hmore
                clear hS9 hG9 hgb9 hmore hal
                go_wp2_with fail
                go_roundw
                case rel => exact ⟨k + 1, gb', hlt, by go_num, HMORE.out⟩
                case measure => simp [intOf]; omega
        · have HNO := Lib.hid (numOf_bad (P := P) (x := x) fun n hn => hok ⟨n, hn⟩)
          have HAT := Lib.hid fun wx hbx => atoi_bad R (fun n hn => hok ⟨n, by rw [← HRD.out]; exact hn⟩) wx (HLBK.out wx hbx) (by omega)
          clear hok
          go_wp2_with fail
          refine (HCP.out _).mono ?_
          rintro e w1 ⟨rfl, rfl⟩
          go_wp2_with fail
          refine (HAT.out _ (Below.refl _ _)).mono ?_
          rintro e w2 ⟨m, T, N, rfl, b2⟩
          have B2 := Lib.hid b2
          clear b2
          go_wp2_with fail
          go_roundw
          case rel => exact ⟨k + 1, gb, hlt, by go_num, HF.out.skip HX.out HNO.out B2.out⟩
          case measure => simp [intOf]; omega
    · obtain rfl : k = n := by omega
      have ht : ss.take k = ss := List.take_of_length_le (by rw [HN.out]; exact Nat.le_refl _)
      have HT := Lib.hid ht
      clear hF ht hlow
      go_wp2_with fail
      go_ret
      refine ⟨_, gb, rfl, ?_, HF.out.new, HF.out.low⟩
      have := HF.out.sl
      simp only [HT.out] at this ⊢
      exact this
end Go.Proofs.YtdaoeplblkfapaaGreatDoor
