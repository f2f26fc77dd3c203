import Derived.Test.YtdaoeplblkfapaaGreatDoorM23
import Derived.Test.YtdaoeplblkfapaaGreatDoorM09
import Derived.Lib.QuietBelow
import Derived.Test.YtdaoeplblkfapaaGreatDoorM16

/- THE CONTRACT of the law's 'next'. -/
namespace Go.Proofs.YtdaoeplblkfapaaGreatDoor
open Go.RowKit

/-- A record moved; the batch at an end. -/
def mvR (base en : Int) (r : Pl.Rc) : Pl.Rc := { r with off := wrap64 (wrap64 (r.off - base) + en) }
def nxB (b : Pl.Bt) (en : Int) : Pl.Bt := { b with base := en, recs := b.recs.map (mvR b.base en) }
theorem mid_at {recs : List Pl.Rc} (f : Pl.Rc → Pl.Rc) {i : Nat} {r : Pl.Rc} (h : recs[i]? = some r) : ((recs.take i).map f ++ recs.drop i)[i]? = some r := by
  have hl := (List.getElem?_eq_some_iff.1 h).1
  rw [List.getElem?_append_right (by simp; omega), List.length_map, List.length_take, Nat.min_eq_left (by omega), Nat.sub_self, List.getElem?_drop]
  exact h
theorem mid_set {recs : List Pl.Rc} (f : Pl.Rc → Pl.Rc) {i : Nat} {r : Pl.Rc} (h : recs[i]? = some r) : ((recs.take i).map f ++ recs.drop i).set i (f r) = (recs.take (i + 1)).map f ++ recs.drop (i + 1) := by
  have hl := (List.getElem?_eq_some_iff.1 h).1
  have e : ((recs.take i).map f).length = i := by simp; omega
  have h1 : recs.drop i = r :: recs.drop (i + 1) := by
    rw [List.drop_eq_getElem_cons hl]
    rw [List.getElem?_eq_getElem hl] at h
    rw [Option.some.inj h]
  have h2 : recs.take (i + 1) = recs.take i ++ [r] := by
    rw [List.take_succ_eq_append_getElem hl]
    rw [List.getElem?_eq_getElem hl] at h
    rw [Option.some.inj h]
  rw [List.set_append_right _ _ (by omega), e, Nat.sub_self, h1, List.set_cons_zero, h2, List.map_append, List.append_assoc]
  rfl
set_option maxRecDepth 100000 in
set_option maxHeartbeats 2000000 in
theorem next_any {l : Nat} (x : Ac) (hnx : x.nx = true) (en : Int) (w : World) (h : AcIn l w x) (hrl : x.b.recs.length ≤ 20) :
    Calls Tryz.prog 28 #[.agg (acells x).toArray, .int .i64 en] w fun e w' => ∃ rv, e = .returned (bv (nxB x.b en, rv)) ∧ RcIn (fun k => w.heap.size ≤ k) w' rv (nxB x.b en).recs ∧ Below w.heap.size w w' := by
  obtain ⟨kind, ⟨base, count, prod, seq, time, recs⟩, rv, nx, n, less, lv, fates, fv, name⟩ := x
  simp only at hnx hrl
  subst hnx
  have hr := h.recs
  simp only at hr
  obtain ⟨ra, rc, rfl⟩ := hr.slice
  obtain ⟨la, ll, lc, hlv⟩ : ∃ a n c, lv = .slice a n c := let ⟨a, c, e, _⟩ := h.less; ⟨a, _, c, e⟩
  obtain ⟨fa, fl, fc, hfv⟩ : ∃ a n c, fv = .slice a n c := let ⟨a, c, e, _⟩ := h.fates; ⟨a, _, c, e⟩
  subst hlv hfv
  obtain ⟨rl, hrle⟩ : ∃ rl, recs.length = rl := ⟨_, rfl⟩
  unfold acells
  simp only
  rw [hrle] at hr hrl ⊢
  have HR := Lib.hid hr
  have HRL := Lib.hid hrle
  obtain ⟨i0, hi0, hz0, hz1, hz2⟩ := infoRec
  obtain ⟨W3, hW3⟩ : ∃ W3, ((w.alloc (.cells #[.int .i64 kind, .int .i64 base, .int .i64 count, .int .i64 prod, .int .i64 seq, .int .i64 time, .slice ra rl rc, .bool true, .int .i64 n, .slice la ll lc, .slice fa fl fc, .string name] 37)).alloc (.cells zeroB 34)).alloc (.cells #[.int .i64 base, .int .i64 count, .int .i64 prod, .int .i64 seq, .int .i64 time, .slice ra rl rc] 34) = W3 := ⟨_, rfl⟩
  have s3 : W3.heap.size = w.heap.size + 1 + 1 + 1 := by rw [← hW3]; simp
  have b3 : Below w.heap.size w W3 := by rw [← hW3]; exact (((Below.refl _ _).alloc (Nat.le_refl _) _).alloc (by simp) _).alloc (by simp; omega) _
  have hS0 : Sl (W3.alloc (.cells #[] 75)) (.slice (some ⟨w.heap.size + 1 + 1 + 1, 0, none⟩) 0 0) (some (w.heap.size + 1 + 1 + 1)) 75 4 0 [] := by rw [← s3]; exact Sl.made _ _ _
  have k2 : Blk W3 (w.heap.size + 2) #[.int .i64 base, .int .i64 count, .int .i64 prod, .int .i64 seq, .int .i64 time, .slice ra rl rc] 34 := by
    have := Blk.new ((w.alloc (.cells #[.int .i64 kind, .int .i64 base, .int .i64 count, .int .i64 prod, .int .i64 seq, .int .i64 time, .slice ra rl rc, .bool true, .int .i64 n, .slice la ll lc, .slice fa fl fc, .string name] 37)).alloc (.cells zeroB 34)) #[.int .i64 base, .int .i64 count, .int .i64 prod, .int .i64 seq, .int .i64 time, .slice ra rl rc] 34
    rw [World.size_alloc, World.size_alloc, hW3] at this
    exact this
  have k1 : Blk W3 (w.heap.size + 1) zeroB 34 := by
    have := Blk.new (w.alloc (.cells #[.int .i64 kind, .int .i64 base, .int .i64 count, .int .i64 prod, .int .i64 seq, .int .i64 time, .slice ra rl rc, .bool true, .int .i64 n, .slice la ll lc, .slice fa fl fc, .string name] 37)) zeroB 34
    rw [World.size_alloc] at this
    rw [← hW3]
    exact this.alloc _
  have hRA : RcIn (fun k => k < l) (W3.alloc (.cells #[] 75)) (.slice ra rl rc) recs := by
    have h1 := hr
    rw [← hrle] at h1 ⊢
    exact (Rds.below h1 b3).below ((Below.refl _ _).alloc (Nat.le_refl _) _)
  unfold RcIn at hRA
  rw [hrle] at hRA
  have HRA := Lib.hid hRA
  have HS0 := Lib.hid hS0
  have HK1 := Lib.hid k1
  have HK2 := Lib.hid k2
  have HB3 := Lib.hid b3
  have HS3 := Lib.hid s3
  have HW3 := Lib.hid hW3
  unfold zeroB at HW3
  rw [← HW3.out] at HS0 HRA
  clear h hr hrle hS0 hRA k1 k2 b3 s3 hW3
  go_enter Tryz.func28, Tryz.ntmps28
  go_wp2_with (at_builtin; refine wpList_append_rd (by rfl) _ _ 32 (by rfl) 75 i0 (.agg zeroR) 4 48 Tryz.underlying32 hi0 hz0 hz1 hz2 rfl _ (some (w.heap.size + 1 + 1 + 1)) 0 [] (by rfl) HS0.out _ rl (recs.flatMap cells4) (by rfl) HRA.out (flat4_one recs) (by omega) (by omega) ?_)
  intro v' w9 gb' hS hG hgb
  obtain ⟨va, vc, rfl⟩ := hS.form
  rw [HW3.out] at hG
  have hgl : ∀ b, gb' = some b → w.heap.size + 3 ≤ b := fun b hb => by
    rcases hgb with h | ⟨g, h, hg⟩
    · rw [h] at hb; have := Option.some.inj hb; omega
    · rw [h] at hb; have := Option.some.inj hb; omega
  have hne : ∀ j, j < w.heap.size + 3 → some j ≠ some (w.heap.size + 1 + 1 + 1) := fun j hj e => by have := Option.some.inj e; omega
  have q1 : Blk w9 (w.heap.size + 1) zeroB 34 := (HK1.out.alloc _).grown hG (hne _ (by omega))
  have q2 : Blk w9 (w.heap.size + 2) #[.int .i64 base, .int .i64 count, .int .i64 prod, .int .i64 seq, .int .i64 time, .slice ra rl rc] 34 := (HK2.out.alloc _).grown hG (hne _ (by omega))
  have b9 : Below w.heap.size w w9 := ((HB3.out.alloc (by have := HS3.out; omega) _).grown hG (by have := HS3.out; simp; omega) fun k e => by have := Option.some.inj e; omega)
  have HL0 := Lib.hid (And.intro hS (And.intro q1 (And.intro q2 b9)))
  have HGL := Lib.hid hgl
  obtain ⟨z, hz⟩ : ∃ z, w.heap.size = z := ⟨_, rfl⟩
  rw [hz] at HL0 HGL
  have HZ := Lib.hid hz
  clear hS hG hgb hgl hne q1 q2 b9 HK1 HK2 HB3 HS3 HW3 HS0 HRA HR
  go_wp2_with fail
  rw [HZ.out]
  simp only [Nat.add_assoc, Nat.reduceAdd]
  go_loopw [7] (fun iv wr => ∃ i : Nat, i ≤ rl ∧ iv = .int .i64 i ∧ Sl wr (.slice va rl vc) gb' 75 4 rl (((recs.take i).map (mvR base en) ++ recs.drop i).flatMap cells4) ∧ Blk wr (z + 1) zeroB 34 ∧ Blk wr (z + 2) #[.int .i64 base, .int .i64 count, .int .i64 prod, .int .i64 seq, .int .i64 time, .slice ra rl rc] 34 ∧ Below z w wr) (fun iv _ => rl - (intOf iv).toNat)
  case atStart => exact ⟨0, Nat.zero_le _, rfl, HL0.out.1, HL0.out.2.1, HL0.out.2.2.1, HL0.out.2.2.2⟩
  case round =>
    obtain ⟨i, hi, rfl, hs, q1, q2, b9⟩ := hrel
    have e0 : wr.cell? ⟨z + 2, 0, none⟩ = some (.int .i64 base) := q2.cell rfl
    have HQ := Lib.hid (And.intro q1 (And.intro q2 b9))
    have HS := Lib.hid hs
    by_cases hlt : i < rl
    · obtain ⟨⟨ro, rk, rvv, rg⟩, hrj⟩ : ∃ r, recs[i]? = some r := ⟨_, List.getElem?_eq_getElem (by rw [HRL.out]; exact hlt)⟩
      rcases hs.2 with ⟨-, -, h0⟩ | ⟨g, p, cap, cur, hgb, hv, -⟩
      · omega
      · injection hv with e1 e2 e3
        subst e1 e3 hgb
        have hgz := HGL.out g rfl
        have hma := mid_at (mvR base en) hrj
        have hfl := fun (r : Nat) (hr : r < 4) => flat4 _ i _ hma r hr
        obtain ⟨w2, hw2⟩ : ∃ w2, wr.drew = w2 := ⟨_, rfl⟩
        have hs2 : Sl w2 (.slice (some ⟨g, p, none⟩) rl vc) (some g) 75 4 rl (((recs.take i).map (mvR base en) ++ recs.drop i).flatMap cells4) := by rw [← hw2]; exact hs.same fun _ _ => rfl
        have r1 : Blk w2 (z + 1) zeroB 34 := by rw [← hw2]; exact q1.same rfl
        have r2 : Blk w2 (z + 2) #[.int .i64 base, .int .i64 count, .int .i64 prod, .int .i64 seq, .int .i64 time, .slice ra rl rc] 34 := by rw [← hw2]; exact q2.same rfl
        have b2 : Below z w w2 := by rw [← hw2]; exact b9.drew
        have d0 : wr.cell? ⟨g, p + i * 4, none⟩ = some (.int .i64 ro) := hs.cell rfl (i * 4) _ (hfl 0 (by decide))
        have d2 : w2.cell? ⟨g, p + i * 4, none⟩ = some (.int .i64 ro) := hs2.cell rfl (i * 4) _ (hfl 0 (by decide))
        have f2 : w2.frozen? ⟨g, p + i * 4, none⟩ = false := hs2.frozen rfl _
        have hset := Sl.set hs2 (j := i * 4) (by omega) (.int .i64 (wrap64 (wrap64 (ro - base) + en)))
        rw [flat4_set _ i ⟨ro, rk, rvv, rg⟩ _ hma, show ({ off := wrap64 (wrap64 (ro - base) + en), key := rk, val := rvv, gone := rg } : Pl.Rc) = mvR base en ⟨ro, rk, rvv, rg⟩ from rfl, mid_set (mvR base en) hrj] at hset
        have hq : Blk (w2.setCell ⟨g, p + i * 4, none⟩ (.int .i64 (wrap64 (wrap64 (ro - base) + en)))) (z + 1) zeroB 34 ∧ Blk (w2.setCell ⟨g, p + i * 4, none⟩ (.int .i64 (wrap64 (wrap64 (ro - base) + en)))) (z + 2) #[.int .i64 base, .int .i64 count, .int .i64 prod, .int .i64 seq, .int .i64 time, .slice ra rl rc] 34 ∧ Below z w (w2.setCell ⟨g, p + i * 4, none⟩ (.int .i64 (wrap64 (wrap64 (ro - base) + en)))) :=
          ⟨r1.setAway _ _ (by show z + 1 ≠ g; omega), r2.setAway _ _ (by show z + 2 ≠ g; omega), b2.setCell (p := ⟨g, _, none⟩) (by show z ≤ g; omega) _⟩
        have HN := Lib.hid (And.intro hset hq)
        have HW2 := Lib.hid hw2
        have i0 : (0 : Int) ≤ (i : Int) := by omega
        have i1 : (i : Int) < (rl : Int) := by omega
        clear hs q1 q2 b9 hma hfl hset hq hrj hgz e2 HGL HL0 HS HQ hs2 r1 r2 b2 hw2
        go_wp2_with fail
        go_still_tail 14, (by kernel_rfl)
        change wpList _ _ _ _ _ wr.drew
        rw [HW2.out]
        go_wp2_with fail
        go_roundw
        case rel => exact ⟨i + 1, by omega, by go_num, HN.out.1, HN.out.2.1, HN.out.2.2.1, HN.out.2.2.2⟩
        case measure => simp [intOf]; omega
    · obtain rfl : i = rl := by omega
      obtain ⟨qq1, qq2, qq3⟩ := HQ.out
      have hlt1 : z + 1 < wr.heap.size := q1.lt
      have hlt2 : z + 2 < wr.heap.size := q2.lt
      have hsf : Sl wr (.slice va i vc) gb' 75 4 i ((recs.map (mvR base en)).flatMap cells4) := by
        have := hs
        rw [List.take_of_length_le (Nat.le_of_eq HRL.out), List.drop_of_length_le (Nat.le_of_eq HRL.out), List.append_nil] at this
        exact this
      have HSF := Lib.hid hsf
      have a0 : wr.cell? ⟨z + 2, 0, none⟩ = some (.int .i64 base) := q2.cell rfl
      have a1 : wr.cell? ⟨z + 2, 1, none⟩ = some (.int .i64 count) := q2.cell rfl
      have a2 : wr.cell? ⟨z + 2, 2, none⟩ = some (.int .i64 prod) := q2.cell rfl
      have a3 : wr.cell? ⟨z + 2, 3, none⟩ = some (.int .i64 seq) := q2.cell rfl
      have a4 : wr.cell? ⟨z + 2, 4, none⟩ = some (.int .i64 time) := q2.cell rfl
      have a5 : wr.cell? ⟨z + 2, 5, none⟩ = some (.slice ra i rc) := q2.cell rfl
      have f0 : wr.frozen? ⟨z + 2, 0, none⟩ = false := q2.free
      have f5 : wr.frozen? ⟨z + 2, 5, none⟩ = false := q2.free
      have o0 : wr.cell? ⟨z + 1, 0, none⟩ = some (.int .i64 0) := q1.cell rfl
      have o1 : wr.cell? ⟨z + 1, 1, none⟩ = some (.int .i64 0) := q1.cell rfl
      have o2 : wr.cell? ⟨z + 1, 2, none⟩ = some (.int .i64 0) := q1.cell rfl
      have o3 : wr.cell? ⟨z + 1, 3, none⟩ = some (.int .i64 0) := q1.cell rfl
      have o4 : wr.cell? ⟨z + 1, 4, none⟩ = some (.int .i64 0) := q1.cell rfl
      have o5 : wr.cell? ⟨z + 1, 5, none⟩ = some (.slice none 0 0) := q1.cell rfl
      have fo0 : wr.frozen? ⟨z + 1, 0, none⟩ = false := q1.free
      have fo1 : wr.frozen? ⟨z + 1, 1, none⟩ = false := q1.free
      have fo2 : wr.frozen? ⟨z + 1, 2, none⟩ = false := q1.free
      have fo3 : wr.frozen? ⟨z + 1, 3, none⟩ = false := q1.free
      have fo4 : wr.frozen? ⟨z + 1, 4, none⟩ = false := q1.free
      have fo5 : wr.frozen? ⟨z + 1, 5, none⟩ = false := q1.free
      clear hs q1 q2 b9 hsf qq1 qq2 qq3 HL0 HS
      go_wp2_with fail
      obtain ⟨m1, m2, m3⟩ := HQ.out
      have m4 := (m1.setAway ⟨z + 2, 0, none⟩ (.int .i64 en) (by show z + 1 ≠ z + 2; omega)).setAway ⟨z + 2, 5, none⟩ (.slice va i vc) (by show z + 1 ≠ z + 2; omega)
      unfold zeroB at m4
      have key : ∀ (V : World) (b j : Nat) (u : Value), b < z + 3 → Sl V (.slice va i vc) gb' 75 4 i ((recs.map (mvR base en)).flatMap cells4) → Sl (V.setCell ⟨b, j, none⟩ u) (.slice va i vc) gb' 75 4 i ((recs.map (mvR base en)).flatMap cells4) :=
        fun V b j u hb h => h.same fun k hk => Below.heap_setCell _ _ _ _ (by have := HGL.out k hk; show k ≠ b; omega)
      have keyb : ∀ (V : World) (b j : Nat) (u : Value), z ≤ b → Below z w V → Below z w (V.setCell ⟨b, j, none⟩ u) := fun V b j u hb h => h.setCell (p := ⟨b, j, none⟩) hb u
      refine bodyPost_ret (batch_ret rfl (Blk.six m4 (.int .i64 en) (.int .i64 count) (.int .i64 prod) (.int .i64 seq) (.int .i64 time) (.slice va i vc)) rfl) rfl ⟨.slice va i vc, rfl, ?_, ?_⟩
      · have hfin := key _ (z + 1) 5 (.slice va i vc) (by omega) (key _ (z + 1) 4 (.int .i64 time) (by omega) (key _ (z + 1) 3 (.int .i64 seq) (by omega) (key _ (z + 1) 2 (.int .i64 prod) (by omega) (key _ (z + 1) 1 (.int .i64 count) (by omega) (key _ (z + 1) 0 (.int .i64 en) (by omega) (key _ (z + 2) 5 (.slice va i vc) (by omega) (key _ (z + 2) 0 (.int .i64 en) (by omega) HSF.out)))))))
        have hrd := Rds.of_sl (A := fun k => w.heap.size ≤ k) hfin fun b hb => by have := HGL.out b hb; rw [HZ.out]; omega
        unfold RcIn
        rw [show (nxB ⟨base, count, prod, seq, time, recs⟩ en).recs = recs.map (mvR base en) from rfl, List.length_map, HRL.out]
        exact hrd
      · rw [HZ.out]
        exact keyb _ _ _ _ (by omega) (keyb _ _ _ _ (by omega) (keyb _ _ _ _ (by omega) (keyb _ _ _ _ (by omega) (keyb _ _ _ _ (by omega) (keyb _ _ _ _ (by omega) (keyb _ _ _ _ (by omega) (keyb _ _ _ _ (by omega) m3)))))))
end Go.Proofs.YtdaoeplblkfapaaGreatDoor

/- THE CONTRACT of the law's 'great'. -/
namespace Go.Proofs.YtdaoeplblkfapaaGreatDoor
open Go.RowKit

/-- An act that isn't too great. -/
def okA (x : Ac) : Prop := x.b.recs.length ≤ 20 ∧ x.less.length ≤ 50 ∧ x.fates.length ≤ 100 ∧ x.name.size ≤ 1000
def Eqw (w w' : World) : Prop := w' = w
set_option maxRecDepth 100000 in
set_option maxHeartbeats 2000000 in
theorem great_any {l : Nat} (v : Value) (zs : List Ac) (w : World) (h : Acts l w v zs) :
    Calls Tryz.prog 14 #[v] w fun e w' => ∃ g, e = .returned (.bool g) ∧ Eqw w w' ∧ (g = false → ∀ j x, j < 60 → zs[j]? = some x → okA x) := by
  obtain ⟨a, cap, rfl, hc⟩ := h.lies
  obtain ⟨N, hN⟩ : ∃ N, zs.length = N := ⟨_, rfl⟩
  have HN := Lib.hid hN
  have HC := Lib.hid hc
  rw [hN]
  clear h hc hN
  go_enter Tryz.func14, Tryz.ntmps14
  go_wp2_with fail
  go_loopw [3] (fun iv wr => ∃ i : Nat, i ≤ N ∧ i ≤ 60 ∧ iv = .int .i64 i ∧ Eqw w wr ∧ (∀ j x, j < i → zs[j]? = some x → okA x)) (fun iv _ => 60 - (intOf iv).toNat)
  case atStart => exact ⟨0, Nat.zero_le _, by omega, rfl, rfl, fun j x hj => by omega⟩
  case round =>
    obtain ⟨i, hi, hi60, rfl, hw, hok⟩ := hrel
    have hwe : wr = w := hw
    subst hwe
    have HOK := Lib.hid hok
    clear hok hw
    by_cases hlt : i < N
    · by_cases hl60 : i < 60
      · obtain ⟨x, hx⟩ : ∃ x, zs[i]? = some x := ⟨_, List.getElem?_eq_getElem (by rw [HN.out]; exact hlt)⟩
        obtain ⟨b, o, rfl, hbl, hcell, hin⟩ := HC.out i x hx
        obtain ⟨⟨ra, rc, hrv⟩, hrc⟩ := (⟨hin.recs.slice, hin.recs⟩ : (∃ a c, x.rv = .slice a x.b.recs.length c) ∧ _)
        obtain ⟨la, lc, hlv, -⟩ := hin.less
        obtain ⟨fa, fc, hfv, -⟩ := hin.fates
        obtain ⟨rl, hrl⟩ : ∃ rl, x.b.recs.length = rl := ⟨_, rfl⟩
        obtain ⟨ll, hll⟩ : ∃ ll, x.less.length = ll := ⟨_, rfl⟩
        obtain ⟨fl, hfl⟩ : ∃ fl, x.fates.length = fl := ⟨_, rfl⟩
        obtain ⟨nm, hnm⟩ : ∃ nm, x.name = nm := ⟨_, rfl⟩
        have c6 : wr.cell? ⟨b, o + i * 12 + 1 + 5, none⟩ = some (.slice ra rl rc) := by rw [← hrl, ← hrv]; exact hcell 6 _ (by decide) rfl
        have c9 : wr.cell? ⟨b, o + i * 12 + 9, none⟩ = some (.slice la ll lc) := by rw [← hll, ← hlv]; exact hcell 9 _ (by decide) rfl
        have c10 : wr.cell? ⟨b, o + i * 12 + 10, none⟩ = some (.slice fa fl fc) := by rw [← hfl, ← hfv]; exact hcell 10 _ (by decide) rfl
        have c11 : wr.cell? ⟨b, o + i * 12 + 11, none⟩ = some (.string nm) := by rw [← hnm]; exact hcell 11 _ (by decide) rfl
        have i0 : (0 : Int) ≤ (i : Int) := by omega
        have i1 : (i : Int) < (N : Int) := by omega
        have hdl : decide ((i : Int) < (N : Int)) = true := by simp; omega
        have hd60 : decide ((i : Int) < 60) = true := by simp; omega
        have hd60' : decide (i < 60) = true := by simp; omega
        have HX := Lib.hid hx
        have HRC := Lib.hid hrc
        have HEQ := Lib.hid (And.intro hrl (And.intro hll (And.intro hfl (And.intro hnm hrv))))
        clear hcell hin hrc hrv hlv hfv hrl hll hfl hnm hx
        by_cases g1 : 20 < rl
        · have h1 : decide ((20 : Int) < (rl : Int)) = true := by simp; omega
          go_wp2_with fail
          go_ret
          exact ⟨true, rfl, rfl, fun h => by cases h⟩
        · have h1 : decide ((20 : Int) < (rl : Int)) = false := by simp; omega
          by_cases g2 : 50 < ll
          · have h2 : decide ((50 : Int) < (ll : Int)) = true := by simp; omega
            go_wp2_with fail
            go_ret
            exact ⟨true, rfl, rfl, fun h => by cases h⟩
          · have h2 : decide ((50 : Int) < (ll : Int)) = false := by simp; omega
            by_cases g3 : 100 < fl
            · have h3 : decide ((100 : Int) < (fl : Int)) = true := by simp; omega
              go_wp2_with fail
              go_ret
              exact ⟨true, rfl, rfl, fun h => by cases h⟩
            · have h3 : decide ((100 : Int) < (fl : Int)) = false := by simp; omega
              by_cases g4 : 1000 < nm.size
              · have h4 : decide ((1000 : Int) < (nm.size : Int)) = true := by simp; omega
                go_wp2_with fail
                go_ret
                exact ⟨true, rfl, rfl, fun h => by cases h⟩
              · have h4 : decide ((1000 : Int) < (nm.size : Int)) = false := by simp; omega
                have hok2 : ∀ j y, j < i + 1 → zs[j]? = some y → okA y := fun j y hj hy => by
                  by_cases hji : j = i
                  · subst hji
                    have e := HX.out
                    rw [e] at hy
                    cases hy
                    obtain ⟨e1, e2, e3, e4, -⟩ := HEQ.out
                    exact ⟨by omega, by omega, by omega, by rw [e4]; omega⟩
                  · exact HOK.out j y (by omega) hy
                have HOK2 := Lib.hid hok2
                clear hok2
                go_wp2_with fail
                go_loopw [4] (fun kv wz => ∃ k : Nat, k ≤ rl ∧ kv = .int .i64 k ∧ Eqw wr wz) (fun kv _ => rl - (intOf kv).toNat)
                case atStart => exact ⟨0, Nat.zero_le _, rfl, rfl⟩
                case round =>
                  obtain ⟨k, hk, rfl, hwz⟩ := hrel
                  have hwe : _ = _ := hwz
                  subst hwe
                  clear hwz
                  by_cases hkl : k < rl
                  · obtain ⟨⟨ro, rk, rvv, rg⟩, hrj⟩ : ∃ r, x.b.recs[k]? = some r := ⟨_, List.getElem?_eq_getElem (by rw [HEQ.out.1]; exact hkl)⟩
                    obtain ⟨ra', rcap', hve, hcells⟩ := (RcIn.recs HRC.out)
                    rw [HEQ.out.2.2.2.2] at hve
                    injection hve with hv1 hv2 hv3
                    clear hv2 hv3
                    obtain ⟨rb, rp, hra, -, d0, d1, d2, d3⟩ := hcells k _ hrj
                    rw [← hv1] at hra
                    simp only at d1 d2
                    obtain ⟨K, hK⟩ : ∃ K : ByteArray, (⟨rk.toArray⟩ : ByteArray) = K := ⟨_, rfl⟩
                    obtain ⟨V, hV⟩ : ∃ V : ByteArray, (⟨rvv.toArray⟩ : ByteArray) = V := ⟨_, rfl⟩
                    rw [hK] at d1
                    rw [hV] at d2
                    have HX2 := Lib.hid HEQ.out
                    subst hra
                    have k0 : (0 : Int) ≤ (k : Int) := by omega
                    have k1 : (k : Int) < (rl : Int) := by omega
                    clear hrj hcells hv1 d0 d3 hK hV HEQ
                    by_cases g5 : 200 < K.size
                    · have h5 : decide ((200 : Int) < (K.size : Int)) = true := by simp; omega
                      go_wp2_with fail
                      go_ret
                      exact ⟨true, rfl, rfl, fun h => by cases h⟩
                    · have h5 : decide ((200 : Int) < (K.size : Int)) = false := by simp; omega
                      by_cases g6 : 200 < V.size
                      · have h6 : decide ((200 : Int) < (V.size : Int)) = true := by simp; omega
                        go_wp2_with fail
                        go_ret
                        exact ⟨true, rfl, rfl, fun h => by cases h⟩
                      · have h6 : decide ((200 : Int) < (V.size : Int)) = false := by simp; omega
                        go_wp2_with fail
                        go_roundw
                        case rel => exact ⟨k + 1, by omega, by go_num, rfl⟩
                        case measure => simp [intOf]; omega
                  · obtain rfl : k = rl := by omega
                    go_wp2_with fail
                    go_roundw
                    case rel => exact ⟨i + 1, by omega, by omega, by go_num, rfl, HOK2.out⟩
                    case measure => simp [intOf]; omega
      · obtain rfl : i = 60 := by omega
        have hdl : decide (((60 : Nat) : Int) < (N : Int)) = true := by simp; omega
        have hdl' : decide ((60 : Int) < (N : Int)) = true := by simp; omega
        go_wp2_with fail
        go_ret
        exact ⟨false, rfl, rfl, fun _ => HOK.out⟩
    · obtain rfl : i = N := by omega
      have hdl : decide ((i : Int) < (i : Int)) = false := by simp
      go_wp2_with fail
      go_ret
      exact ⟨false, rfl, rfl, fun _ j x _ hx => HOK.out j x (by rw [← HN.out]; exact (List.getElem?_eq_some_iff.1 hx).1) hx⟩
end Go.Proofs.YtdaoeplblkfapaaGreatDoor

/- THE LAWS' FIRST LOOP: acts' batches, one behind the other. -/
namespace Go.Proofs.YtdaoeplblkfapaaGreatDoor
open Go.RowKit

section
variable {w0 W W' : World} {t s m l : Nat} {E : En} {G : List Sg} {Q : Nat → Prop} {y : Bool}
/-- What an Append at the end leaves, be the batch good or not. -/
def FedOut (w0 : World) (t s : Nat) (E : En) (m l : Nat) (G : List Sg) (Q : Nat → Prop) (y : Bool) (b : Pl.Bt) (W : World) (e : Ending) (W'' : World) : Prop :=
  ∃ er : Int, e = .returned (.int .i64 er) ∧ ((Pl.goodB b = true ∧ er = 0 ∧ Opd w0 t s E (m + 1) l (push G E.sv b) (fun k => Q k ∧ k < W.heap.size) false W'') ∨ (Pl.goodB b = false ∧ er = 1 ∧ Opd w0 t s E (m + 1) l G (fun k => Q k ∧ k < W.heap.size) y W'')) ∧ Kq (fun k => Q k ∧ k < W.heap.size) W W''
theorem Opd.grow {m' : Nat} (L : Opd w0 t s E m l G Q y W) (h : m ≤ m') (h2 : m' ≤ E.M) : Opd w0 t s E m' l G Q y W := by
  obtain ⟨B, f, tot, n, c, K, sf, h1, hr⟩ := L
  exact ⟨B, f, tot, n, c, K, sf, h1.more h h2, hr⟩
theorem Opd.feed {b : Pl.Bt} {rv : Value} (L : Opd w0 t s E m l G Q y W) (hb : Below W.heap.size W W') (hm : m < E.M) (hr : RcIn (fun k => W.heap.size ≤ k) W' rv b.recs) (hrl : b.recs.length ≤ 1048576) (he : b.base = gsEnd G) :
    Calls Tryz.prog 30 #[.pointer (some ⟨s, 0, none⟩), bv (b, rv)] W' (FedOut w0 t s E m l G Q y b W) := by
  obtain ⟨base, count, prod, seq, time, recs⟩ := b
  cases hg : Pl.goodB ⟨base, count, prod, seq, time, recs⟩ with
  | true =>
    refine (L.append hb hm hr hg he).mono ?_
    rintro e W'' ⟨rfl, h1, h2⟩
    exact ⟨0, rfl, .inl ⟨hg, rfl, h1⟩, h2⟩
  | false =>
    refine (L.bad hb hr hrl hg).mono ?_
    rintro e W'' ⟨rfl, h1⟩
    have hbb := hb.trans (h1.mono hb.size)
    exact ⟨1, rfl, .inr ⟨hg, rfl, ((L.below hbb).mono fun k _ hk => .inl hk.1).grow (by omega) hm⟩, Kq.below hbb⟩
end
/-- The act as the laws' box holds it. -/
theorem act_box {l : Nat} {w : World} {v : Value} {zs : List Ac} (h : Acts l w v zs) {j : Nat} {x : Ac} (hj : zs[j]? = some x) : ∃ b o cap, v = .slice (some ⟨b, o, none⟩) zs.length cap ∧ b < w.heap.size ∧ (∀ i u, i < 12 → (acells x)[i]? = some u → w.cell? ⟨b, o + j * 12 + i, none⟩ = some u) ∧ AcIn l w x := by
  obtain ⟨a, cap, e, hc⟩ := h.lies
  obtain ⟨b, o, rfl, -, h2, h3⟩ := hc j x hj
  exact ⟨b, o, cap, e, block_lt_of_cell (h2 0 _ (by decide) rfl), h2, h3⟩
theorem dcell {V w3 : World} {b i : Nat} {v : Value} (hb : Below V.heap.size V.drew w3) (h : V.cell? ⟨b, i, none⟩ = some v) : w3.cell? ⟨b, i, none⟩ = some v := by
  rw [← h]
  exact Below.cell (p := ⟨b, i, none⟩) hb (block_lt_of_cell h)
theorem ecell {w3 w4 : World} {b i : Nat} {v : Value} (hb : Below w3.heap.size w3 w4) (h : w3.cell? ⟨b, i, none⟩ = some v) : w4.cell? ⟨b, i, none⟩ = some v := by
  rw [← h]
  exact Below.cell (p := ⟨b, i, none⟩) hb (block_lt_of_cell h)
theorem qcell {V w5 : World} {Q : Nat → Prop} {b i : Nat} {v : Value} (hk : Kq Q V w5) (hq : Q b) (h : V.cell? ⟨b, i, none⟩ = some v) : w5.cell? ⟨b, i, none⟩ = some v := by
  rw [← h]
  exact World.cell?_of_block (hk.block b (block_lt_of_cell h) hq)
end Go.Proofs.YtdaoeplblkfapaaGreatDoor

/- Reset's refusal; Reset as the laws meet it; a strand whose tape went on without it. -/
namespace Go.Proofs.YtdaoeplblkfapaaGreatDoor
open Go.RowKit

set_option maxHeartbeats 1000000 in
set_option maxRecDepth 100000 in
theorem resetS_bad {w : World} {s : Nat} {h : Hs} {B : Nat → Prop} {f : Ta.View} {tot n : Nat} {c : Ta.Sc} {K : Kx} (kk : Sd w s h B f tot n c K) (hlf : c.life = h.life) (hl : h.life ≤ 1099511627776) (off : Int) (ho : off < 0 ∨ 1099511627776 < off) :
    Calls Tryz.prog 47 #[.pointer (some ⟨s, 0, none⟩), .int .i64 off] w fun e w' => e = .returned (.int .i64 1) ∧ Below w.heap.size w w' := by
  have HR := Lib.hid (readyS_ok kk hlf hl)
  clear kk
  by_cases h0 : off < 0
  · have hb1 : decide (off < 0) = true := by simp; omega
    go_enter Tryz.func47, Tryz.ntmps47
    go_wp2_with fail
    refine HR.out.mono ?_
    rintro e w1 ⟨rfl, b1⟩
    have HB1 := Lib.hid b1
    clear b1
    go_wp2_with fail
    go_ret
    exact ⟨rfl, HB1.out⟩
  · have hb1 : decide (off < 0) = false := by simp; omega
    have hb2 : decide ((1099511627776 : Int) < off) = true := by simp; omega
    go_enter Tryz.func47, Tryz.ntmps47
    go_wp2_with fail
    refine HR.out.mono ?_
    rintro e w1 ⟨rfl, b1⟩
    have HB1 := Lib.hid b1
    clear b1
    go_wp2_with fail
    go_ret
    exact ⟨rfl, HB1.out⟩
section
variable {w0 W : World} {t s m l : Nat} {E : En} {G : List Sg} {Q : Nat → Prop} {y : Bool}
theorem Opd.reset_bad (L : Opd w0 t s E m l G Q y W) (off : Int) (ho : off < 0 ∨ 1099511627776 < off) :
    Calls Tryz.prog 47 #[.pointer (some ⟨s, 0, none⟩), .int .i64 off] W fun e W' => e = .returned (.int .i64 1) ∧ Below W.heap.size W W' := by
  obtain ⟨B, f, tot, n, c, K, sf, h1, rfl, h3, h4, h5⟩ := L
  have hlm := h1.life
  have hmx := h1.max_
  have hok3 := h1.ok.2.2.1
  exact resetS_bad h1.sd h1.run.life (by show l ≤ _; omega) off ho
theorem Opd.reset (L : Opd w0 t s E m l G Q y W) (hm : m < E.M) (off : Int) (ho : 0 ≤ off ∧ off ≤ 1099511627776) :
    Calls Tryz.prog 47 #[.pointer (some ⟨s, 0, none⟩), .int .i64 off] W fun e W' => e = .returned (.int .i64 0) ∧ Opd w0 t s E (m + 1) l [⟨off, []⟩] (fun k => Q k ∧ k < W.heap.size) true W' ∧ Kq (fun k => Q k ∧ k < W.heap.size) W W' := by
  obtain ⟨B, f, tot, n, c, K, sf, h1, rfl, h3, h4, h5⟩ := L
  have hlm := h1.life
  have hmx := h1.max_
  have hok3 := h1.ok.2.2.1
  have hX := h1.X
  have hsz := h1.sizes.1
  have e : K.G.length = K.X.length := List.length_map _
  refine (resetS_any h1.sd h1.lbW h1.b8 h1.ok.2.1 h1.log h1.fit h1.run.life h1.run h3 (by omega) (by show l ≤ _; omega) h1.fl (by omega) off ho).mono ?_
  rintro e W' ⟨B', f', tot', n', c', K', rfl, hmv, hsd, hG, hfl, ht, hn, hr, hrun, ha⟩
  refine ⟨rfl, ⟨B', f', tot', n', c', K', 0, ⟨hsd, h1.lb, moved_low h1.new h1.low hmv, moved_new h1.new h1.low.size hmv, ?_, by rw [hG]; exact hfl, hrun.more (by omega), by rw [hr, h1.room], ?_, by omega, by omega, h1.ok⟩, hG, ha, hmv.keepQ h4, fun _ G0 g e => ?_⟩, Kq.moved hmv fun k hk => h4 k hk.1⟩
  · rw [hG]; exact Log.of ho ⟨rfl, trivial, fun h => absurd rfl h, trivial⟩
  · rw [hG]; exact Nat.zero_le _
  · obtain ⟨-, e2⟩ := List.append_inj' (show [] ++ [(⟨off, []⟩ : Sg)] = G0 ++ [g] from e) rfl
    injection e2 with e2
    rw [← e2]
    rfl
/-- A strand that lies; its log. -/
def Old (W : World) (s : Nat) (G : List Sg) : Prop := ∃ (h : Hs) (X : List Sx) (v : Value) (gb : Option Nat), Lies W s h X v gb (fun _ => True) ∧ X.map Sx.sg = G ∧ Log G ∧ (fla G).length ≤ 200
theorem Old.below {W' : World} (h : Old W s G) (b : Below W.heap.size W W') : Old W' s G := by
  obtain ⟨hh, X, v, gb, h1, h2, h3, h4⟩ := h
  exact ⟨hh, X, v, gb, h1.below b, h2, h3, h4⟩
theorem Old.small (h : Old W s G) : ∃ (hh : Hs) (X : List Sx) (v : Value) (gb : Option Nat), Lies W s hh X v gb (fun _ => True) ∧ X.map Sx.sg = G ∧ (X.length ≤ 1048576 ∧ ∀ x ∈ X, x.L.length ≤ 1048576) ∧ Log G ∧ (fla G).length ≤ 200 := by
  obtain ⟨hh, X, v, gb, h1, h2, h3, h4⟩ := h
  refine ⟨hh, X, v, gb, h1, h2, ⟨?_, fun x hx => ?_⟩, h3, h4⟩
  · have e : (X.map Sx.sg).length = X.length := List.length_map _
    have := h3.count
    rw [h2] at e
    omega
  · have hm : x.sg ∈ G := by rw [← h2]; exact List.mem_map.2 ⟨x, hx, rfl⟩
    have h5 : x.sg.l.length = x.L.length := by simp [Sx.sg, Sx.bts]
    obtain ⟨A, C, e⟩ := List.append_of_mem hm
    rw [e, fla_append, show fla (x.sg :: C) = x.sg.l ++ fla C from rfl] at h4
    simp only [List.length_append] at h4
    omega
theorem Old.start_ (h : Old W s G) : Calls Tryz.prog 46 #[.pointer (some ⟨s, 0, none⟩)] W fun e W' => e = .returned (.int .i64 (gsStart G)) ∧ W = W' := by
  obtain ⟨hh, X, v, gb, h1, rfl, h2, h3, h4⟩ := h.small
  exact start_any h1 h2.1
theorem Old.end_ (h : Old W s G) : Calls Tryz.prog 29 #[.pointer (some ⟨s, 0, none⟩)] W fun e W' => e = .returned (.int .i64 (gsEnd G)) ∧ Below W.heap.size W W' := by
  obtain ⟨hh, X, v, gb, h1, rfl, h2, h3, h4⟩ := h.small
  exact endS_any h1 h2.1 h3.chs h2.2
theorem Old.all (h : Old W s G) : Calls Tryz.prog 34 #[.pointer (some ⟨s, 0, none⟩)] W (AllOut W (fla G)) := by
  obtain ⟨hh, X, v, gb, h1, rfl, h2, h3, h4⟩ := h.small
  exact all_any h1 h3.chs h3.pos h2 (by omega)
/-- Opened again, all safe: the words of 'Ofd.open_', the old strand as 'Old'. -/
theorem Ofd.reopen {zs : List Int} (L : Ofd w0 t s E m l G Q true (some zs) W) (hm : m < E.M) :
    Calls Tryz.prog 18 #[.pointer (some ⟨t, 0, none⟩), .string ⟨E.P.toArray⟩, .int .i64 E.sv] W fun e W' => ∃ p, e = .returned (.tuple #[.pointer (some ⟨p, 0, none⟩), .int .i64 0]) ∧ Opd w0 t p E (m + 1) (l + 1) G (fun k => Q k ∧ k < W.heap.size) true W' ∧ Kq (fun k => Q k ∧ k < W.heap.size) W W' ∧ Old W' s G := by
  refine (L.open_ hm).mono ?_
  rintro e W' ⟨p, rfl, h1, h2, X, v, gb, h3, h4⟩
  have hl := h1.len
  have hlg := h1.log
  exact ⟨p, rfl, h1, h2, _, X, v, gb, h3, h4, hlg, by omega⟩
end
end Go.Proofs.YtdaoeplblkfapaaGreatDoor
