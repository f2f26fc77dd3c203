import Derived.Test.YtdaoeplblkfapaaGreatDoorM45
import Derived.Test.YtdaoeplblkfapaaGreatDoorM14
import Derived.Test.YtdaoeplblkfapaaGreatDoorM24

/- THE CONTRACTS of lessened, and of slices.EqualFunc over batches with it. -/
namespace Go.Proofs.YtdaoeplblkfapaaGreatDoor
open Go.RowKit

/-- The batch, but that records may be missing. -/
def lesB (b c : Pl.Bt) : Bool := Pl.sameB b { c with recs := c.recs.filter fun x => decide (x ∈ b.recs) }
theorem les_wo {less : List Int} {n : Nat} {c : Pl.Bt} (h : Pl.goodB c = true) : lesB (woB less n c) c = true := by
  unfold lesB
  rw [Pl.sameB_iff]
  obtain ⟨base, count, prod, seq, time, recs⟩ := c
  rw [Pl.goodB_iff] at h
  have := wo1_filter less n recs (rise_nodup h.2.2.2.2.2.2)
  unfold woB
  simp only [this]
set_option maxHeartbeats 1000000 in
set_option maxRecDepth 100000 in
theorem les_any {A A' : Nat → Prop} (base count prod seq time base' count' prod' seq' time' : Int) (ls ms : List Pl.Rc) (pv qv : Value) (w : World) (hp : RcIn A w pv ls) (hq : RcIn A' w qv ms) (hl : ls.length ≤ 1048576) (hm : ms.length ≤ 1048576) :
    Calls Tryz.prog 89 #[.agg #[.int .i64 base, .int .i64 count, .int .i64 prod, .int .i64 seq, .int .i64 time, pv], .agg #[.int .i64 base', .int .i64 count', .int .i64 prod', .int .i64 seq', .int .i64 time', qv]] w
      fun e w' => e = .returned (.bool (lesB ⟨base, count, prod, seq, time, ls⟩ ⟨base', count', prod', seq', time', ms⟩)) ∧ Below w.heap.size w w' := by
  obtain ⟨z, hz⟩ : ∃ z, w.heap.size = z := ⟨_, rfl⟩
  obtain ⟨W1, hW1⟩ : ∃ V, w.alloc (.cells #[.int .i64 base, .int .i64 count, .int .i64 prod, .int .i64 seq, .int .i64 time, pv] 34) = V := ⟨_, rfl⟩
  obtain ⟨W2, hW2⟩ : ∃ V, W1.alloc (.cells #[.int .i64 base', .int .i64 count', .int .i64 prod', .int .i64 seq', .int .i64 time', qv] 34) = V := ⟨_, rfl⟩
  have s1 : W1.heap.size = z + 1 := by rw [← hW1, World.size_alloc, hz]
  have s2 : W2.heap.size = z + 2 := by rw [← hW2, World.size_alloc, s1]
  have b1 : Below w.heap.size w W1 := by rw [← hW1]; exact (Below.refl _ _).alloc (Nat.le_refl _) _
  have b2 : Below W1.heap.size W1 W2 := by rw [← hW2]; exact (Below.refl _ _).alloc (Nat.le_refl _) _
  have b3 : Below w.heap.size w W2 := b1.trans (b2.mono b1.size)
  have k1 : Blk W2 z #[.int .i64 base, .int .i64 count, .int .i64 prod, .int .i64 seq, .int .i64 time, pv] 34 := by
    have h : Blk W1 z #[.int .i64 base, .int .i64 count, .int .i64 prod, .int .i64 seq, .int .i64 time, pv] 34 := by rw [← hW1, ← hz]; exact Blk.new _ _ _
    exact h.below b2
  have k2 : Blk W2 (z + 1) #[.int .i64 base', .int .i64 count', .int .i64 prod', .int .i64 seq', .int .i64 time', qv] 34 := by rw [← hW2, ← s1]; exact Blk.new _ _ _
  have x5 : W2.cell? ⟨z + 1, 5, none⟩ = some qv := k2.cell rfl
  have HCL := Lib.hid (cloneRc qv ms.length _ W2 (Rds.below hq b3) (flat4_one _) hm)
  have HP : Hid (RcIn (fun b => b < z) W2 pv ls) := Lib.hid (Rds.keep hp b3.size fun b hb hlt => ⟨b3.block b hlt, by rw [← hz]; exact hlt⟩)
  have HK1 := Lib.hid k1
  have HK2 := Lib.hid k2
  have HW1 := Lib.hid hW1
  have HW2 := Lib.hid hW2
  have HS2 := Lib.hid s2
  have HB3 := Lib.hid b3
  have HZ := Lib.hid hz
  clear hW1 hW2 b1 b2 b3 k1 k2 hp hq
  go_enter Tryz.func89, Tryz.ntmps89
  go_upto_region 2 with fail
  rw [HW1.out, HW2.out]
  try simp only [HZ.out, s1]
  go_wp2_with fail
  refine HCL.out.mono ?_
  rintro e w3 ⟨v3, gb3, rfl, hs3, hn3, hb3⟩
  have hgz : ∀ b, b < W2.heap.size → gb3 ≠ some b := fun b hb e => by have := hn3 b e; omega
  have HDF := Lib.hid (delF_any z base count prod seq time pv v3 gb3 ls ms w3 (HK1.out.below hb3) (Rds.below HP.out hb3) hl hs3 hm (fun b hb => hgz b (by rw [HS2.out]; omega)) (hgz z (by rw [HS2.out]; omega)))
  have HGZ := Lib.hid hgz
  have HB4 := Lib.hid hb3
  have HS3 := Lib.hid hs3
  clear hs3 hn3 hb3 hgz HCL
  go_wp2_with fail
  refine HDF.out.mono ?_
  rintro e w4 ⟨v4, rfl, hr4, hg4⟩
  obtain ⟨va4, n4, vc4, hv4⟩ : ∃ a n c, v4 = .slice a n c := let ⟨a, c, h⟩ := Rds.form hr4; ⟨a, _, c, h⟩
  subst hv4
  obtain ⟨W5, hW5⟩ : ∃ V, w4.setCell ⟨z + 1, 5, none⟩ (.slice va4 n4 vc4) = V := ⟨_, rfl⟩
  have kk : ∀ b, b < W2.heap.size → w4.heap[b]? = W2.heap[b]? := fun b hb => (hg4.block b (Nat.lt_of_lt_of_le hb HB4.out.size) fun e => HGZ.out b hb e.symm).trans (HB4.out.block b hb)
  have hsz4 : W2.heap.size ≤ w4.heap.size := Nat.le_trans HB4.out.size hg4.size
  have k1 : Blk W5 z #[.int .i64 base, .int .i64 count, .int .i64 prod, .int .i64 seq, .int .i64 time, pv] 34 := by
    rw [← hW5]
    exact (HK1.out.same (kk z (by rw [HS2.out]; omega))).setAway ⟨z + 1, 5, none⟩ (.slice va4 n4 vc4) (by show z ≠ z + 1; omega)
  have k2 : Blk W5 (z + 1) #[.int .i64 base', .int .i64 count', .int .i64 prod', .int .i64 seq', .int .i64 time', .slice va4 n4 vc4] 34 := by
    rw [← hW5]
    exact (HK2.out.same (kk (z + 1) (by rw [HS2.out]; omega))).set (i := 5) (.slice va4 n4 vc4)
  have y0 : W5.cell? ⟨z, 0, none⟩ = some (.int .i64 base) := k1.cell rfl
  have y1 : W5.cell? ⟨z, 1, none⟩ = some (.int .i64 count) := k1.cell rfl
  have y2 : W5.cell? ⟨z, 2, none⟩ = some (.int .i64 prod) := k1.cell rfl
  have y3 : W5.cell? ⟨z, 3, none⟩ = some (.int .i64 seq) := k1.cell rfl
  have y4 : W5.cell? ⟨z, 4, none⟩ = some (.int .i64 time) := k1.cell rfl
  have y5 : W5.cell? ⟨z, 5, none⟩ = some pv := k1.cell rfl
  have u0 : W5.cell? ⟨z + 1, 0, none⟩ = some (.int .i64 base') := k2.cell rfl
  have u1 : W5.cell? ⟨z + 1, 1, none⟩ = some (.int .i64 count') := k2.cell rfl
  have u2 : W5.cell? ⟨z + 1, 2, none⟩ = some (.int .i64 prod') := k2.cell rfl
  have u3 : W5.cell? ⟨z + 1, 3, none⟩ = some (.int .i64 seq') := k2.cell rfl
  have u4 : W5.cell? ⟨z + 1, 4, none⟩ = some (.int .i64 time') := k2.cell rfl
  have u5 : W5.cell? ⟨z + 1, 5, none⟩ = some (.slice va4 n4 vc4) := k2.cell rfl
  have z5 : w4.cell? ⟨z + 1, 5, none⟩ = some qv := by
    have h : Blk w4 (z + 1) #[.int .i64 base', .int .i64 count', .int .i64 prod', .int .i64 seq', .int .i64 time', qv] 34 := HK2.out.same (kk (z + 1) (by rw [HS2.out]; omega))
    exact h.cell rfl
  have f5 : w4.frozen? ⟨z + 1, 5, none⟩ = false := by
    have h : Blk w4 (z + 1) #[.int .i64 base', .int .i64 count', .int .i64 prod', .int .i64 seq', .int .i64 time', qv] 34 := HK2.out.same (kk (z + 1) (by rw [HS2.out]; omega))
    exact h.free
  have key5 : ∀ b, b ≠ z + 1 → W5.heap[b]? = w4.heap[b]? := fun b hb => by rw [← hW5]; exact Below.heap_setCell _ _ _ _ hb
  have hsz5 : W5.heap.size = w4.heap.size := by rw [← hW5]; simp [World.setCell]
  have hr5 : RcIn (fun _ => True) W5 (.slice va4 n4 vc4) (ms.filter fun x => decide (x ∈ ls)) := Rds.keep hr4 (by omega) fun b hb hlt => ⟨key5 b fun e => HGZ.out b (by rw [HS2.out]; omega) hb, trivial⟩
  have hp5 : RcIn (fun _ => True) W5 pv ls := Rds.keep HP.out (by omega) fun b hb hlt => ⟨(key5 b (by omega)).trans (kk b hlt), trivial⟩
  have HSM := Lib.hid (dsame ⟨base, count, prod, seq, time, ls⟩ ⟨base', count', prod', seq', time', ms.filter fun x => decide (x ∈ ls)⟩ pv (.slice va4 n4 vc4) W5 hp5.recs hr5.recs (by show ls.length ≤ _; omega) (by have := List.length_filter_le (fun x => decide (x ∈ ls)) ms; show (List.filter _ ms).length ≤ _; omega))
  have HBL : Hid (Below w.heap.size w W5) := Lib.hid (HB3.out.trans ⟨by rw [← hW5]; exact hg4.os.trans HB4.out.os, by rw [← hW5]; exact hg4.tape.trans HB4.out.tape, by rw [← hW5]; exact hg4.output.trans HB4.out.output, by have := HB3.out.size; omega, fun b hb => by
    have hz' := HZ.out
    exact (key5 b (by omega)).trans (kk b (Nat.lt_of_lt_of_le hb HB3.out.size))⟩)
  have HW5 := Lib.hid hW5
  clear kk k1 k2 hr4 hg4 hsz4 hW5 key5 hsz5 hr5 hp5 HDF
  go_upto_region 3 with fail
  rw [HW5.out]
  go_wp2_with fail
  refine HSM.out.mono ?_
  rintro e w6 ⟨rfl, hb6⟩
  have HF := Lib.hid (HBL.out.trans (hb6.mono HBL.out.size))
  clear hb6
  go_wp2_with fail
  go_ret
  exact ⟨rfl, HF.out⟩
set_option maxHeartbeats 1000000 in
set_option maxRecDepth 100000 in
theorem eqlB_any {A A' : Nat → Prop} (u v : Value) (L M : List (Pl.Bt × Value)) (w : World) (hu : BtIn A w u L) (hv : BtIn A' w v M) (hlen : M.length = L.length) (hl : L.length ≤ 1048576) (hrl : ∀ p ∈ L, p.1.recs.length ≤ 1048576) (hrm : ∀ p ∈ M, p.1.recs.length ≤ 1048576) (hall : ∀ (j : Nat) (p q : Pl.Bt × Value), L[j]? = some p → M[j]? = some q → lesB p.1 q.1 = true) :
    Calls Tryz.prog 88 #[u, v, .func (.func 89) #[] #[]] w fun e w' => e = .returned (.bool true) ∧ Below w.heap.size w w' := by
  obtain ⟨ua, uc, rfl⟩ := hu.form
  obtain ⟨va, vc, rfl⟩ := hv.form
  obtain ⟨m, hm⟩ : ∃ m, L.length = m := ⟨_, rfl⟩
  rw [hm] at hlen hl
  have HL := Lib.hid hm
  have HM := Lib.hid hlen
  have HU := Lib.hid hu
  have HV := Lib.hid hv
  have HRL := Lib.hid hrl
  have HRM := Lib.hid hrm
  have HALL := Lib.hid hall
  rw [hm, hlen]
  clear hm hlen hu hv hrl hrm hall
  go_enter Tryz.func88, Tryz.ntmps88
  go_wp2_with fail
  go_loopw [17] (fun iv wr => ∃ k : Nat, k ≤ m ∧ iv = .int .i64 k ∧ Below w.heap.size w wr) (fun iv _ => m - (intOf iv).toNat)
  case atStart => exact ⟨0, Nat.zero_le _, rfl, Below.refl _ _⟩
  case round =>
    obtain ⟨k, hk, rfl, hbw⟩ := hrel
    have HB := Lib.hid hbw
    clear hbw
    by_cases hlt : k < m
    · have hdk : decide ((k : Int) < (m : Int)) = true := by simp; omega
      obtain ⟨⟨⟨base, count, prod, seq, time, ls⟩, pv⟩, hp⟩ : ∃ p, L[k]? = some p := ⟨_, List.getElem?_eq_getElem (by rw [HL.out]; exact hlt)⟩
      obtain ⟨⟨⟨base', count', prod', seq', time', ms⟩, qv⟩, hq⟩ : ∃ p, M[k]? = some p := ⟨_, List.getElem?_eq_getElem (by rw [HM.out]; exact hlt)⟩
      obtain ⟨b, o, c, e1, -, hbl, c0, c1, c2, c3, c4, c5, hrp⟩ := (HU.out.below HB.out).get hp
      obtain rfl : ua = some ⟨b, o, none⟩ := by injection e1
      obtain ⟨b', o', c', e2, -, hbl', d0, d1, d2, d3, d4, d5, hrq⟩ := (HV.out.below HB.out).get hq
      obtain rfl : va = some ⟨b', o', none⟩ := by injection e2
      obtain ⟨pa, pn, pc, hpv⟩ : ∃ a n c, pv = .slice a n c := let ⟨a, c, h⟩ := Rds.form hrp; ⟨a, _, c, h⟩
      obtain ⟨qa, qn, qc, hqv⟩ : ∃ a n c, qv = .slice a n c := let ⟨a, c, h⟩ := Rds.form hrq; ⟨a, _, c, h⟩
      subst hpv hqv
      have hle := HALL.out k _ _ hp hq
      obtain ⟨W1, hW1⟩ : ∃ V, wr.alloc (.cells #[.int .i64 base, .int .i64 count, .int .i64 prod, .int .i64 seq, .int .i64 time, .slice pa pn pc] 34) = V := ⟨_, rfl⟩
      obtain ⟨W2, hW2⟩ : ∃ V, W1.alloc (.cells #[.int .i64 base', .int .i64 count', .int .i64 prod', .int .i64 seq', .int .i64 time', .slice qa qn qc] 34) = V := ⟨_, rfl⟩
      obtain ⟨z, hz⟩ : ∃ z, wr.heap.size = z := ⟨_, rfl⟩
      have s1 : W1.heap.size = z + 1 := by rw [← hW1, World.size_alloc, hz]
      have b1 : Below wr.heap.size wr W1 := by rw [← hW1]; exact (Below.refl _ _).alloc (Nat.le_refl _) _
      have b2 : Below W1.heap.size W1 W2 := by rw [← hW2]; exact (Below.refl _ _).alloc (Nat.le_refl _) _
      have b3 : Below wr.heap.size wr W2 := b1.trans (b2.mono b1.size)
      have e0 : W1.cell? ⟨b', o' + k * 6, none⟩ = some (.int .i64 base') := (b1.cell (p := ⟨b', _, none⟩) hbl').trans d0
      have e1' : W1.cell? ⟨b', o' + k * 6 + 1, none⟩ = some (.int .i64 count') := (b1.cell (p := ⟨b', _, none⟩) hbl').trans d1
      have e2' : W1.cell? ⟨b', o' + k * 6 + 2, none⟩ = some (.int .i64 prod') := (b1.cell (p := ⟨b', _, none⟩) hbl').trans d2
      have e3' : W1.cell? ⟨b', o' + k * 6 + 3, none⟩ = some (.int .i64 seq') := (b1.cell (p := ⟨b', _, none⟩) hbl').trans d3
      have e4' : W1.cell? ⟨b', o' + k * 6 + 4, none⟩ = some (.int .i64 time') := (b1.cell (p := ⟨b', _, none⟩) hbl').trans d4
      have e5' : W1.cell? ⟨b', o' + k * 6 + 5, none⟩ = some (.slice qa qn qc) := (b1.cell (p := ⟨b', _, none⟩) hbl').trans d5
      have k1 : Blk W2 z #[.int .i64 base, .int .i64 count, .int .i64 prod, .int .i64 seq, .int .i64 time, .slice pa pn pc] 34 := by
        have h : Blk W1 z #[.int .i64 base, .int .i64 count, .int .i64 prod, .int .i64 seq, .int .i64 time, .slice pa pn pc] 34 := by rw [← hW1, ← hz]; exact Blk.new _ _ _
        exact h.below b2
      have k2 : Blk W2 (z + 1) #[.int .i64 base', .int .i64 count', .int .i64 prod', .int .i64 seq', .int .i64 time', .slice qa qn qc] 34 := by rw [← hW2, ← s1]; exact Blk.new _ _ _
      have y0 : W2.cell? ⟨z, 0, none⟩ = some (.int .i64 base) := k1.cell rfl
      have y1 : W2.cell? ⟨z, 1, none⟩ = some (.int .i64 count) := k1.cell rfl
      have y2 : W2.cell? ⟨z, 2, none⟩ = some (.int .i64 prod) := k1.cell rfl
      have y3 : W2.cell? ⟨z, 3, none⟩ = some (.int .i64 seq) := k1.cell rfl
      have y4 : W2.cell? ⟨z, 4, none⟩ = some (.int .i64 time) := k1.cell rfl
      have y5 : W2.cell? ⟨z, 5, none⟩ = some (.slice pa pn pc) := k1.cell rfl
      have u0 : W2.cell? ⟨z + 1, 0, none⟩ = some (.int .i64 base') := k2.cell rfl
      have u1 : W2.cell? ⟨z + 1, 1, none⟩ = some (.int .i64 count') := k2.cell rfl
      have u2 : W2.cell? ⟨z + 1, 2, none⟩ = some (.int .i64 prod') := k2.cell rfl
      have u3 : W2.cell? ⟨z + 1, 3, none⟩ = some (.int .i64 seq') := k2.cell rfl
      have u4 : W2.cell? ⟨z + 1, 4, none⟩ = some (.int .i64 time') := k2.cell rfl
      have u5 : W2.cell? ⟨z + 1, 5, none⟩ = some (.slice qa qn qc) := k2.cell rfl
      have HC := Lib.hid (les_any base count prod seq time base' count' prod' seq' time' ls ms (.slice pa pn pc) (.slice qa qn qc) W2 (Rds.below hrp b3) (Rds.below hrq b3) (HRL.out _ (List.mem_of_getElem? hp)) (HRM.out _ (List.mem_of_getElem? hq)))
      simp only at hle
      rw [hle] at HC
      have HB3 := Lib.hid (HB.out.trans (b3.mono HB.out.size))
      have HW1 := Lib.hid hW1
      have HW2 := Lib.hid hW2
      have HZ := Lib.hid hz
      have HS1 := Lib.hid s1
      have m0 : (0 : Int) ≤ (k : Int) := by omega
      have m1 : (k : Int) < (m : Int) := by omega
      clear b1 b2 b3 k1 k2 hW1 hW2 hp hq hrp hrq e1 e2 hle hbl hbl' hz s1
      go_upto_region 6 with fail
      rw [HW1.out]
      go_upto_region 7 with fail
      rw [HW2.out]
      try simp only [HZ.out, HS1.out]
      go_wp2_with fail
      refine HC.out.mono ?_
      rintro e w6 ⟨rfl, hb6⟩
      have HF := Lib.hid (HB3.out.trans (hb6.mono HB3.out.size))
      clear hb6
      go_wp2_with fail
      go_roundw
      case rel => exact ⟨k + 1, by omega, by go_num, HF.out⟩
      case measure => simp [intOf]; omega
    · have hdk : decide ((k : Int) < (m : Int)) = false := by simp; omega
      go_wp2_with fail
      go_ret
      exact ⟨rfl, HB.out⟩
end Go.Proofs.YtdaoeplblkfapaaGreatDoor

/- A strand's segment is put anew, its list in a block that lay there already; a block beside a strand is written. -/
namespace Go.Proofs.YtdaoeplblkfapaaGreatDoor
open Go.RowKit

theorem Sd.beside {w : World} {s : Nat} {h : Hs} {B : Nat → Prop} {f : Ta.View} {tot n : Nat} {c : Ta.Sc} {K : Kx} (k : Sd w s h B f tot n c K) {b : Nat} (hb : ¬ B b) (hA : ¬ K.A b) (i : Nat) (v : Value) : Sd (w.setCell ⟨b, i, none⟩ v) s h B f tot n c K := by
  obtain ⟨T, k1, k2, k4, k5⟩ := k
  refine ⟨T, k1.beside (fun h => hb ((k4 b).2 (.inl h))) i v, k2.keep (by simp [World.setCell]) (fun b' hb' => Below.heap_setCell _ _ _ _ ?_) (fun b' hb' _ => ⟨Below.heap_setCell _ _ _ _ ?_, hb'⟩), k4, k5⟩
  · rintro rfl; exact hb ((k4 _).2 (.inr hb'))
  · rintro rfl; exact hA hb'.2
theorem Sd.put2 {w1 w3 w5 : World} {s : Nat} {h : Hs} {B : Nat → Prop} {f : Ta.View} {tot n : Nat} {c : Ta.Sc} {K : Kx} (k : Sd w1 s h B f tot n c K) {own : Nat → Prop} (hown : ∀ b, own b → b < w1.heap.size ∧ ¬ B b ∧ ¬ K.A b) {fre : Nat → Prop} (hfre : ∀ b, fre b → ¬ B b ∧ ¬ own b ∧ ¬ K.A b) {i : Nat} (hi : i ≤ K.X.length) {ch : Option Nat} (hch : ∀ g, ch = some g → ∃ x, K.X[i]? = some x ∧ x.lb = some g)
    (m1 : Chg own ch w1 w3) (x' : Sx) (hl : Sl w3 x'.lv x'.lb 34 6 x'.L.length (x'.L.flatMap bc6)) (hlb : ∀ g, x'.lb = some g → ch = some g ∨ w1.heap.size ≤ g ∨ fre g)
    (hr : All (fun b => (b < w1.heap.size ∧ ¬ B b ∧ K.A b) ∨ (w1.heap.size ≤ b ∧ x'.lb ≠ some b)) w3 x'.L)
    (m2 : Chg own K.gb w3 w5) (v' : Value) (gb' : Option Nat) (hs : Sl w5 v' gb' 119 3 (i + 1) ((K.X.take i).flatMap sc3 ++ sc3 x')) (hgb : ∀ g, gb' = some g → K.gb = some g ∨ w3.heap.size ≤ g) :
    ∃ B', Sd (w5.setCell ⟨s, 4, none⟩ v') s h B' f tot n c ⟨K.X.take i ++ [x'], v', gb', fun _ => True⟩ ∧ Moved (fun b => (own b ∨ fre b) ∨ B b) B' w1 (w5.setCell ⟨s, 4, none⟩ v') := by
  obtain ⟨T, k1, k2, k4, k5⟩ := k
  have hsB : B s := (k4 s).2 (.inr (.inl rfl))
  have hgB : ∀ g, K.gb = some g → B g := fun g hg => (k4 g).2 (.inr (.inr (.inl hg)))
  have hxB : ∀ x ∈ K.X, ∀ g, x.lb = some g → B g := fun x hx g hg => (k4 g).2 (.inr (.inr (.inr ⟨x, hx, hg⟩)))
  have hTB : ∀ b, T b → B b := fun b hb => (k4 b).2 (.inl hb)
  have hBl : ∀ b, B b → b < w1.heap.size := fun b hb => by
    rcases (k4 b).1 hb with h5 | h5
    · exact k1.lt b h5
    · exact k2.lt b h5
  have hcB : ∀ g, ch = some g → B g := fun g hg => let ⟨x, hx, e⟩ := hch g hg; hxB x (List.mem_of_getElem? hx) g e
  have hs1 : w1.heap.size ≤ w3.heap.size := m1.size
  have hs2 : w3.heap.size ≤ w5.heap.size := m2.size
  -- what is of B, and neither changed block, is as it was
  have keep1 : ∀ b, b < w1.heap.size → ¬ own b → ch ≠ some b → w3.heap[b]? = w1.heap[b]? := fun b hb h1 h2 => m1.block b hb fun h => h.elim h1 h2
  have keep2 : ∀ b, b < w3.heap.size → ¬ own b → K.gb ≠ some b → w5.heap[b]? = w3.heap[b]? := fun b hb h1 h2 => m2.block b hb fun h => h.elim h1 h2
  have keep3 : ∀ b, b ≠ s → (w5.setCell ⟨s, 4, none⟩ v').heap[b]? = w5.heap[b]? := fun b hb => Below.heap_setCell _ _ _ _ hb
  have nown : ∀ b, B b → ¬ own b := fun b hb ho => (hown b ho).2.1 hb
  have keep : ∀ b, B b → b ≠ s → ch ≠ some b → K.gb ≠ some b → (w5.setCell ⟨s, 4, none⟩ v').heap[b]? = w1.heap[b]? := fun b hb h1 h2 h3 =>
    (keep3 b h1).trans ((keep2 b (Nat.lt_of_lt_of_le (hBl b hb) hs1) (nown b hb) h3).trans (keep1 b (hBl b hb) (nown b hb) h2))
  have hcs : ch ≠ some s := fun e => let ⟨x, hx, e'⟩ := hch s e; (k2.sl x (List.mem_of_getElem? hx)).1 e'
  have hcg : ∀ g, ch = some g → K.gb ≠ some g := fun g e => let ⟨x, hx, e'⟩ := hch g e; (k2.sl x (List.mem_of_getElem? hx)).2 g e'
  have hgs : gb' ≠ some s := fun e => by
    rcases hgb s e with h1 | h1
    · exact k2.sg h1
    · have := hBl s hsB; omega
  have hls : x'.lb ≠ some s := fun e => by
    rcases hlb s e with h1 | h1 | h1
    · exact hcs h1
    · have := hBl s hsB; omega
    · exact (hfre s h1).1 hsB
  have hl3 : ∀ g, x'.lb = some g → g < w3.heap.size := fun g e => hl.lt g e
  have hlown : ∀ g, x'.lb = some g → ¬ own g := fun g e ho => by
    rcases hlb g e with h1 | h1 | h1
    · exact nown g (hcB g h1) ho
    · have := (hown g ho).1; omega
    · exact (hfre g h1).2.1 ho
  have hlg : ∀ g, x'.lb = some g → K.gb ≠ some g := fun g e e2 => by
    rcases hlb g e with h1 | h1 | h1
    · exact hcg g h1 e2
    · have := hBl g (hgB g e2); omega
    · exact (hfre g h1).1 (hgB g e2)
  have hlg' : ∀ g, x'.lb = some g → gb' ≠ some g := fun g e e2 => by
    rcases hgb g e2 with h1 | h1
    · exact hlg g e h1
    · have := hl3 g e; omega
  -- the segments ahead
  have htm : ∀ y ∈ K.X.take i, y ∈ K.X := fun y hy => List.mem_of_mem_take hy
  have htch : ∀ y ∈ K.X.take i, ∀ g, y.lb = some g → ch ≠ some g := fun y hy g e e2 => by
    obtain ⟨x, hx, e'⟩ := hch g e2
    obtain ⟨j, hj⟩ := List.getElem?_of_mem hy
    have hjl := (List.getElem?_eq_some_iff.1 hj).1
    rw [List.length_take] at hjl
    have hji : j < i := by omega
    rw [List.getElem?_take_of_lt hji] at hj
    have hil := (List.getElem?_eq_some_iff.1 hx).1
    have hjl' := (List.getElem?_eq_some_iff.1 hj).1
    have := List.pairwise_iff_getElem.1 k2.apart j i hjl' hil hji g
    rw [(List.getElem?_eq_some_iff.1 hj).2, (List.getElem?_eq_some_iff.1 hx).2] at this
    exact this e e'
  have hB' : ∀ b, (T b ∨ Os s gb' (K.X.take i ++ [x']) b) → B b ∨ w1.heap.size ≤ b ∨ fre b := by
    rintro b (hb | rfl | hb | ⟨y, hy, hb⟩)
    · exact .inl (hTB b hb)
    · exact .inl hsB
    · exact (hgb b hb).imp (hgB b) (fun h => .inl (Nat.le_trans hs1 h))
    · rcases List.mem_append.1 hy with hy | hy
      · exact .inl (hxB y (htm y hy) b hb)
      · rw [List.mem_singleton.1 hy] at hb
        exact (hlb b hb).imp (hcB b) id
  have hTn : ∀ b, T b → (w5.setCell ⟨s, 4, none⟩ v').heap[b]? = w1.heap[b]? := fun b hb => keep b (hTB b hb) (fun e => k5 b hb (.inl e)) (fun e => by
      obtain ⟨x, hx, e'⟩ := hch b e
      exact k5 b hb (.inr (.inr ⟨x, List.mem_of_getElem? hx, e'⟩))) (fun e => k5 b hb (.inr (.inl e)))
  have hTO : ∀ b, T b → ¬ Os s gb' (K.X.take i ++ [x']) b := by
    rintro b hb (rfl | h1 | ⟨y, hy, h1⟩)
    · exact k5 b hb (.inl rfl)
    · rcases hgb b h1 with h2 | h2
      · exact k5 b hb (.inr (.inl h2))
      · have := k1.lt b hb; omega
    · rcases List.mem_append.1 hy with hy | hy
      · exact k5 b hb (.inr (.inr ⟨y, htm y hy, h1⟩))
      · rw [List.mem_singleton.1 hy] at h1
        rcases hlb b h1 with h2 | h2 | h2
        · obtain ⟨x, hx, e'⟩ := hch b h2
          exact k5 b hb (.inr (.inr ⟨x, List.mem_of_getElem? hx, e'⟩))
        · have := k1.lt b hb; omega
        · exact (hfre b h2).1 (hTB b hb)
  refine ⟨fun b => T b ∨ Os s gb' (K.X.take i ++ [x']) b, ⟨T, k1.same hTn, ?_, fun b => Iff.rfl, hTO⟩, ?_⟩
  · refine ⟨?_, ?_, ?_, ?_, hgs, ?_, ?_⟩
    · have h1 : Blk w5 s (hcells h K.v) 99 := k2.head.same (((keep2 s (Nat.lt_of_lt_of_le (hBl s hsB) hs1) (nown s hsB) k2.sg)).trans (keep1 s (hBl s hsB) (nown s hsB) hcs))
      exact h1.set (i := 4) v'
    · have e : (K.X.take i ++ [x']).length = i + 1 := by simp [Nat.min_eq_left hi]
      show Sl _ v' gb' _ 3 (K.X.take i ++ [x']).length ((K.X.take i ++ [x']).flatMap sc3)
      rw [e, flat_snoc3]
      exact hs.same fun b hb => keep3 b (by rintro rfl; exact hgs hb)
    · intro y hy
      rcases List.mem_append.1 hy with hy | hy
      · refine (k2.lists y (htm y hy)).same fun b hb => ?_
        have hyl := k2.sl y (htm y hy)
        exact keep b (hxB y (htm y hy) b hb) (by rintro rfl; exact hyl.1 hb) (htch y hy b hb) (hyl.2 b hb)
      · rw [List.mem_singleton.1 hy]
        exact hl.same fun b hb => (keep3 b (by rintro rfl; exact hls hb)).trans (keep2 b (hl3 b hb) (hlown b hb) (hlg b hb))
    · intro y hy
      have hsz : w1.heap.size ≤ (w5.setCell ⟨s, 4, none⟩ v').heap.size := by
        have : (w5.setCell ⟨s, 4, none⟩ v').heap.size = w5.heap.size := by simp [World.setCell]
        omega
      have hold : ∀ b, b < w1.heap.size → ¬ B b → K.A b → (w5.setCell ⟨s, 4, none⟩ v').heap[b]? = w1.heap[b]? ∧ ¬ (T b ∨ Os s gb' (K.X.take i ++ [x']) b) ∧ True := fun b hl hb hA => by
        have ho : ¬ own b := fun ho => (hown b ho).2.2 hA
        refine ⟨(keep3 b (by rintro rfl; exact hb hsB)).trans ((keep2 b (Nat.lt_of_lt_of_le hl hs1) ho fun e => hb (hgB b e)).trans (keep1 b hl ho fun e => hb (hcB b e))), fun h' => ?_, trivial⟩
        rcases hB' b h' with h1 | h1 | h1
        · exact hb h1
        · omega
        · exact (hfre b h1).2.2 hA
      rcases List.mem_append.1 hy with hy | hy
      · exact (k2.recs y (htm y hy)).keep hsz fun b hb hl => hold b hl hb.1 hb.2
      · rw [List.mem_singleton.1 hy]
        refine hr.keep (by simp only [World.setCell, Array.size_modify]; omega) fun b hb hl => ?_
        rcases hb with ⟨h1, h2, h3⟩ | ⟨h1, h2⟩
        · have ho : ¬ own b := fun ho => (hown b ho).2.2 h3
          exact ⟨(hold b h1 h2 h3).1.trans (keep1 b h1 ho fun e => h2 (hcB b e)).symm, (hold b h1 h2 h3).2⟩
        · have hnB : ¬ B b := fun hb => by have := hBl b hb; omega
          refine ⟨(keep3 b (by rintro rfl; exact hnB hsB)).trans (keep2 b hl (fun ho => by have := (hown b ho).1; omega) fun e => hnB (hgB b e)), ?_, trivial⟩
          rintro (h3 | rfl | h3 | ⟨z, hz, h3⟩)
          · exact hnB (hTB b h3)
          · exact hnB hsB
          · rcases hgb b h3 with h4 | h4
            · exact hnB (hgB b h4)
            · omega
          · rcases List.mem_append.1 hz with hz | hz
            · exact hnB (hxB z (htm z hz) b h3)
            · rw [List.mem_singleton.1 hz] at h3
              exact h2 h3
    · intro y hy
      rcases List.mem_append.1 hy with hy | hy
      · have hyl := k2.sl y (htm y hy)
        refine ⟨hyl.1, fun g hg e => ?_⟩
        rcases hgb g e with h1 | h1
        · exact hyl.2 g hg h1
        · have := hBl g (hxB y (htm y hy) g hg); omega
      · rw [List.mem_singleton.1 hy]
        exact ⟨hls, hlg'⟩
    · rw [List.pairwise_append]
      refine ⟨k2.apart.sublist (List.take_sublist _ _), List.pairwise_singleton _ _, fun y hy z hz g hg e => ?_⟩
      rw [List.mem_singleton.1 hz] at e
      rcases hlb g e with h1 | h1 | h1
      · exact htch y hy g hg h1
      · have := hBl g (hxB y (htm y hy) g hg); omega
      · exact (hfre g h1).1 (hxB y (htm y hy) g hg)
  · refine ⟨m2.os.trans m1.os, m2.tape.trans m1.tape, m2.output.trans m1.output, by simp only [World.setCell, Array.size_modify]; omega, fun b hb hn => ?_, fun b hb => ?_⟩
    rotate_left
    · rcases hB' b hb with h | h | h
      · exact .inl (.inr h)
      · exact .inr h
      · exact .inl (.inl (.inr h))
    have ho : ¬ own b := fun ho => hn (.inl (.inl ho))
    have hb' : ¬ B b := fun hb => hn (.inr hb)
    exact (keep3 b (by rintro rfl; exact hb' hsB)).trans ((keep2 b (Nat.lt_of_lt_of_le hb hs1) ho fun e => hb' (hgB b e)).trans (keep1 b hb ho fun e => hb' (hcB b e)))
end Go.Proofs.YtdaoeplblkfapaaGreatDoor

/- A strand's segment in the midst is put anew, in its place; its list is new. -/
namespace Go.Proofs.YtdaoeplblkfapaaGreatDoor
open Go.RowKit

theorem Sd.seat {w1 w3 w5 : World} {s : Nat} {h : Hs} {B : Nat → Prop} {f : Ta.View} {tot n : Nat} {c : Ta.Sc} {K : Kx} (k : Sd w1 s h B f tot n c K) (m1 : Below w1.heap.size w1 w3) (m2 : w3.grownBy w5 K.gb) (i : Nat) (x' : Sx)
    (hl : Sl w3 x'.lv x'.lb 34 6 x'.L.length (x'.L.flatMap bc6)) (hlb : ∀ g, x'.lb = some g → w1.heap.size ≤ g) (hr : All (fun b => w1.heap.size ≤ b ∧ x'.lb ≠ some b) w3 x'.L)
    (hs : Sl w5 K.v K.gb 119 3 K.X.length ((K.X.set i x').flatMap sc3)) :
    ∃ B', Sd w5 s h B' f tot n c ⟨K.X.set i x', K.v, K.gb, fun _ => True⟩ ∧ Moved B B' w1 w5 := by
  obtain ⟨T, k1, k2, k4, k5⟩ := k
  have hBl : ∀ b, B b → b < w1.heap.size := fun b hb => by
    rcases (k4 b).1 hb with h5 | h5
    · exact k1.lt b h5
    · exact k2.lt b h5
  have hTB : ∀ b, T b → B b := fun b hb => (k4 b).2 (.inl hb)
  have hsB : B s := (k4 s).2 (.inr (.inl rfl))
  have hgB : ∀ g, K.gb = some g → B g := fun g hg => (k4 g).2 (.inr (.inr (.inl hg)))
  have hxB : ∀ x ∈ K.X, ∀ g, x.lb = some g → B g := fun x hx g hg => (k4 g).2 (.inr (.inr (.inr ⟨x, hx, hg⟩)))
  have keep : ∀ b, b < w1.heap.size → K.gb ≠ some b → w5.heap[b]? = w1.heap[b]? := fun b hb hg => (m2.block b (Nat.lt_of_lt_of_le hb m1.size) fun e => hg e.symm).trans (m1.block b hb)
  have keep3 : ∀ b, b < w3.heap.size → K.gb ≠ some b → w5.heap[b]? = w3.heap[b]? := fun b hb hg => m2.block b hb fun e => hg e.symm
  have hmem : ∀ y ∈ K.X.set i x', y ∈ K.X ∨ y = x' := fun y hy => List.mem_or_eq_of_mem_set hy
  have hB' : ∀ b, (T b ∨ Os s K.gb (K.X.set i x') b) → B b ∨ x'.lb = some b := by
    rintro b (hb | rfl | hb | ⟨y, hy, hb⟩)
    · exact .inl (hTB b hb)
    · exact .inl hsB
    · exact .inl (hgB b hb)
    · rcases hmem y hy with hy | rfl
      · exact .inl (hxB y hy b hb)
      · exact .inr hb
  have hgn : ∀ g, x'.lb = some g → K.gb ≠ some g := fun g e e2 => by have := hlb g e; have := hBl g (hgB g e2); omega
  have hln : ∀ y ∈ K.X, ∀ g, y.lb = some g → x'.lb ≠ some g := fun y hy g e e2 => by have := hlb g e2; have := hBl g (hxB y hy g e); omega
  refine ⟨fun b => T b ∨ Os s K.gb (K.X.set i x') b, ⟨T, k1.same fun b hb => keep b (k1.lt b hb) fun e => k5 b hb (.inr (.inl e)), ?_, fun b => Iff.rfl, ?_⟩, ⟨m2.os.trans m1.os, m2.tape.trans m1.tape, m2.output.trans m1.output, Nat.le_trans m1.size m2.size, fun b hb hn => keep b hb fun e => hn (hgB b e), fun b hb => (hB' b hb).imp id (hlb b)⟩⟩
  · refine ⟨k2.head.same (keep s (hBl s hsB) k2.sg), ?_, fun y hy => ?_, fun y hy => ?_, k2.sg, fun y hy => ?_, ?_⟩
    · show Sl w5 K.v K.gb _ 3 (K.X.set i x').length _
      rw [List.length_set]
      exact hs
    · rcases hmem y hy with hy | rfl
      · exact (k2.lists y hy).same fun b hb => keep b (hBl b (hxB y hy b hb)) ((k2.sl y hy).2 b hb)
      · exact hl.same fun b hb => keep3 b (hl.lt b hb) (hgn b hb)
    · rcases hmem y hy with hy | rfl
      · refine (k2.recs y hy).keep (Nat.le_trans m1.size m2.size) fun b hb hl => ⟨keep b hl fun e => hb.1 (hgB b e), fun h => ?_, trivial⟩
        rcases hB' b h with h | h
        · exact hb.1 h
        · have := hlb b h; omega
      · refine hr.keep m2.size fun b hb hl => ⟨keep3 b hl fun e => by have := hBl b (hgB b e); omega, fun h => ?_, trivial⟩
        rcases hB' b h with h | h
        · have := hBl b h; omega
        · exact hb.2 h
    · rcases hmem y hy with hy | rfl
      · exact k2.sl y hy
      · exact ⟨fun e => by have := hlb s e; have := hBl s hsB; omega, hgn⟩
    · have hp := List.pairwise_iff_getElem.1 k2.apart
      rw [List.pairwise_iff_getElem]
      intro a b ha hb hab g
      rw [List.length_set] at ha hb
      rw [List.getElem_set, List.getElem_set]
      split
      · rw [if_neg (by omega)]
        intro e e2
        exact hln _ (List.getElem_mem hb) g e2 e
      · split
        · exact hln _ (List.getElem_mem ha) g
        · exact hp a b ha hb hab g
  · intro b hb h
    rcases h with rfl | h | ⟨y, hy, h⟩
    · exact k5 b hb (.inl rfl)
    · exact k5 b hb (.inr (.inl h))
    · rcases hmem y hy with hy | rfl
      · exact k5 b hb (.inr (.inr ⟨y, hy, h⟩))
      · have := hlb b h; have := k1.lt b hb; omega
/-- The segments with another one in a place. -/
theorem flat_set3 (X : List Sx) (i : Nat) (x x' : Sx) (h : X[i]? = some x) : X.flatMap sc3 = (X.take i).flatMap sc3 ++ sc3 x ++ (X.drop (i + 1)).flatMap sc3 ∧ (X.set i x').flatMap sc3 = (X.take i).flatMap sc3 ++ sc3 x' ++ (X.drop (i + 1)).flatMap sc3 ∧ ((X.take i).flatMap sc3).length = i * 3 := by
  have hl := (List.getElem?_eq_some_iff.1 h).1
  have e : X = X.take i ++ x :: X.drop (i + 1) := by
    conv => lhs; rw [← List.take_append_drop i X]
    rw [List.drop_eq_getElem_cons hl, (List.getElem?_eq_some_iff.1 h).2]
  have e2 : X.set i x' = X.take i ++ x' :: X.drop (i + 1) := by rw [List.set_eq_take_append_cons_drop, if_pos hl]
  refine ⟨?_, ?_, ?_⟩
  · conv => lhs; rw [e]
    simp
  · rw [e2]; simp
  · have : ∀ Y : List Sx, (Y.flatMap sc3).length = Y.length * 3 := fun Y => by
      induction Y with
      | nil => rfl
      | cons y Y ih => rw [List.flatMap_cons, List.length_append, ih, sc3_length, List.length_cons]; omega
    rw [this, List.length_take, Nat.min_eq_left (by omega)]
end Go.Proofs.YtdaoeplblkfapaaGreatDoor

/- THE CONTRACT OF strand's Put, of a segment that isn't the last: done, or the power goes. -/
namespace Go.Proofs.YtdaoeplblkfapaaGreatDoor
open Go.RowKit

theorem scell3 {w : World} {s g i a b c : Nat} {x y z v : Value} (hne : s ≠ g) (h : w.cell? ⟨s, i, none⟩ = some v) : (((w.setCell ⟨g, a, none⟩ x).setCell ⟨g, b, none⟩ y).setCell ⟨g, c, none⟩ z).cell? ⟨s, i, none⟩ = some v := by
  rw [← h]
  refine World.cell?_of_block ?_
  exact (Below.heap_setCell _ _ _ _ hne).trans ((Below.heap_setCell _ _ _ _ hne).trans (Below.heap_setCell _ _ _ _ hne))
/-- What Put leaves. -/
def PutSOut (w : World) (s : Nat) (h : Hs) (B : Nat → Prop) (f : Ta.View) (n : Nat) (c : Ta.Sc) (K : Kx) (l : List Pl.Bt) (G' : List Sg) (sf a : Nat) (e : Ending) (w' : World) : Prop :=
  ∃ (B' : Nat → Prop) (f' : Ta.View) (tot' n' : Nat) (c' : Ta.Sc) (K' : Kx) (er : Int), e = .returned (.int .i64 er) ∧ Moved B B' w w' ∧ Sd w' s h B' f' tot' n' c' K' ∧ c'.room = c.room ∧
    ((er = 0 ∧ K'.G = G' ∧ Fl h.P f' G' sf ∧ Run c' (a + 3) h.life ∧ (c.armed = 0 → c'.armed = 0)) ∨
     (er = 10 ∧ K'.G = K.G ∧ Gone c' (a + 3) h.life ∧ c.armed ≠ 0 ∧ ((n' = n + 1 ∧ ∃ x, x ≤ (frs l).length ∧ f' = Ta.upd f (nmNew h.P) (some (frs l, x))) ∨ Fl h.P f' G' sf)))
set_option maxHeartbeats 4000000 in
set_option maxRecDepth 100000 in
theorem putS_any {w : World} {s : Nat} {h : Hs} {B : Nat → Prop} {f : Ta.View} {tot n : Nat} {c : Ta.Sc} {K : Kx} (kk : Sd w s h B f tot n c K) (lb : Lb w) (hB : ∀ b, B b → 8 ≤ b) (hP : 1 ≤ h.P.length ∧ h.P.length ≤ 16) (hlog : Log K.G) (hfit : Fit K.G)
    {a : Nat} (hlf : c.life = h.life) (q : Run c a h.life) (ha : a + 3 ≤ 1099511627776) (hl : h.life ≤ 1099511627776) {sf : Nat} (hfl : Fl h.P f K.G sf) {i : Nat} {x : Sx} (hx : K.X[i]? = some x) (hi : i + 1 < K.X.length)
    (u : Value) (L : List (Pl.Bt × Value)) (hu : BtIn (fun b => ¬ B b) w u L) (has : As x.first x.bts (L.map (·.1))) (hles : ∀ (j : Nat) (p q : Pl.Bt × Value), L[j]? = some p → x.L[j]? = some q → lesB p.1 q.1 = true) (hn : n < 256) (hM : tot + (frs (L.map (·.1))).length ≤ c.room) (hrl : ∀ p ∈ L, p.1.recs.length ≤ 1048576) :
    Calls Tryz.prog 40 #[.pointer (some ⟨s, 0, none⟩), .int .i64 i, u] w (PutSOut w s h B f n c K (L.map (·.1)) (K.G.set i ⟨x.first, L.map (·.1)⟩) sf a) := by
  have hxm := List.mem_of_getElem? hx
  have hGi : K.G[i]? = some x.sg := by show (K.X.map Sx.sg)[i]? = _; rw [List.getElem?_map, hx]; rfl
  have hGl : i + 1 < K.G.length := by rw [show K.G.length = K.X.length from List.length_map _]; exact hi
  have hNs : K.X.length ≤ 1048576 := by have := hfit.segs; rw [show K.G.length = K.X.length from List.length_map _] at this; exact this
  have hxl : x.L.length ≤ 1048576 := by have := hfit.lists _ (List.mem_of_getElem? hGi); simpa [Sx.sg, Sx.bts] using this
  have hlen : x.L.length = L.length := by have := has.len; simpa [Sx.bts] using this.symm
  have hch : Chain x.first x.bts := hlog.chs _ (List.mem_of_getElem? hGi)
  have hgood : ∀ p ∈ L, Pl.goodB p.1 = true := fun p hp => (has.chain hch).good _ (List.mem_map.2 ⟨p, hp, rfl⟩)
  have hgoodx : ∀ p ∈ x.L, Pl.goodB p.1 = true := fun p hp => hch.good _ (List.mem_map.2 ⟨p, hp, rfl⟩)
  obtain ⟨hF0, hF1⟩ := hfit.firsts _ (List.mem_of_getElem? hGi)
  have HLS : Hid (L.length ≤ 1048576) := Lib.hid (by omega)
  have HR := Lib.hid (readyS_ok kk hlf hl)
  have HKK := Lib.hid kk
  have HFP : Hid (Fl h.P (Ta.upd f (nm h.P x.first) (some (frs (L.map (·.1)), (frs (L.map (·.1))).length))) (K.G.set i ⟨x.first, L.map (·.1)⟩) sf) := Lib.hid (hfl.put hlog hGi hGl _)
  have HNW := Lib.hid (hfl.noNew hlog)
  have HEQ : Hid (∀ wx, Below w.heap.size w wx → Calls Tryz.prog 88 #[u, x.lv, .func (.func 89) #[] #[]] wx fun e w' => e = .returned (.bool true) ∧ Below wx.heap.size wx w') := Lib.hid fun wx hb => eqlB_any u x.lv L x.L wx (hu.below hb) ((kk.lies.list hxm).below hb) hlen (by omega) hrl (fun p hp => by have := (Pl.enc_short (hgoodx p hp)).2.2; omega) hles
  have HFR : Hid (∀ wx, Below w.heap.size w wx → Calls Tryz.prog 80 #[u] wx fun e w' => e = .returned (.string ⟨(frs (L.map (·.1))).toArray⟩) ∧ Below wx.heap.size wx w') := Lib.hid fun wx hb => frames_any u L wx (lb.below lb.size hb) (hu.below hb) hgood (by omega)
  have hPl : h.P.length ≤ 1048576 := by omega
  have HBE : Hid (∀ wx, Blk wx s (hcells h K.v) 99 → Calls Tryz.prog 91 #[.pointer (some ⟨s, 0, none⟩)] wx fun e w' => e = .returned (.string ⟨(nmNew h.P).toArray⟩) ∧ wx = w') := Lib.hid fun wx hb => beside_any wx s h K.v hb hPl
  have HNM : Hid (∀ wx, Lb wx → Blk wx s (hcells h K.v) 99 → Calls Tryz.prog 81 #[.pointer (some ⟨s, 0, none⟩), .int .i64 x.first] wx fun e w' => e = .returned (.string ⟨(nm h.P x.first).toArray⟩) ∧ Below wx.heap.size wx w') := Lib.hid fun wx l hb => name_any wx l s h K.v hb hPl x.first hF0 hF1
  have HOK : Hid (Ta.okName (nmNew h.P) = true ∧ Ta.okName (nm h.P x.first) = true) := Lib.hid ⟨by simp [Ta.okName, nmNew]; omega, by simp only [Ta.okName, nm_length (x := x.first) hF0 hF1]; simp; omega⟩
  have HLB := Lib.hid lb
  have HHB := Lib.hid hB
  have HU := Lib.hid hu
  have HQ := Lib.hid q
  have HGO := Lib.hid hgood
  have HRL := Lib.hid hrl
  have HMR := Lib.hid hM
  have HX := Lib.hid hx
  obtain ⟨g, o, cap, hgb, hv, hcap, hgl, g0, g1, g2⟩ := kk.lies.get hx
  obtain ⟨la, lc, hlv⟩ := (kk.lies.list hxm).form
  obtain ⟨N, hN⟩ : ∃ N, K.X.length = N := ⟨_, rfl⟩
  obtain ⟨m, hm⟩ : ∃ m, x.L.length = m := ⟨_, rfl⟩
  obtain ⟨F, hF⟩ : ∃ F, x.first = F := ⟨_, rfl⟩
  obtain ⟨Y, hY⟩ : ∃ Y, (frs x.bts).length = Y := ⟨_, rfl⟩
  rw [hm] at hlv
  rw [hlv] at g2 HEQ
  rw [hF] at g0 HNM HFP HOK ⊢
  rw [hY] at g1
  rw [hN] at hv hcap hi hNs
  have c4 : w.cell? ⟨s, 4, none⟩ = some (.slice (some ⟨g, o, none⟩) N cap) := by rw [← hv]; exact kk.lies.head.cell rfl
  obtain ⟨ua, uc, hue⟩ := hu.form
  obtain ⟨S, hS⟩ : ∃ S : ByteArray, (⟨(frs (L.map (·.1))).toArray⟩ : ByteArray) = S := ⟨_, rfl⟩
  obtain ⟨SN, hSN⟩ : ∃ S : ByteArray, (⟨(nmNew h.P).toArray⟩ : ByteArray) = S := ⟨_, rfl⟩
  obtain ⟨SF, hSF⟩ : ∃ S : ByteArray, (⟨(nm h.P F).toArray⟩ : ByteArray) = S := ⟨_, rfl⟩
  obtain ⟨y, hy⟩ : ∃ y, S.size = y := ⟨_, rfl⟩
  have hyf : (frs (L.map (·.1))).length = y := by rw [← hy, ← hS]; simp [ByteArray.size]
  rw [hS] at HFR
  rw [hSN] at HBE
  rw [hSF] at HNM
  have HS := Lib.hid hS
  have HSN := Lib.hid hSN
  have HSF := Lib.hid hSF
  have HY := Lib.hid hy
  have HYF := Lib.hid hyf
  have HV := Lib.hid (And.intro hgb (And.intro hv hlv))
  have HN := Lib.hid hN
  have HF := Lib.hid hF
  have HUE := Lib.hid hue
  have HM2 := Lib.hid hm
  have hsl : s < w.heap.size := kk.lies.head.lt
  clear kk lb hB hlog hfit hlf q hfl hu has hles hM hrl hxm hGi hGl hlen hch hgood hgoodx hF0 hF1 hgb hv hlv hN hF hS hSN hSF hy hyf hY hm hx hue hPl hxl
  have d1 : decide ((i : Int) < 0) = false := by simp
  have hwN : IntKind.i64.wrap ((N : Int) - 2) = (N : Int) - 2 := IntWalk.i64_in _ (by omega)
  have d2 : decide ((N : Int) - 2 < (i : Int)) = false := by simp; omega
  have i0 : (0 : Int) ≤ (i : Int) := by omega
  have i1 : (i : Int) < (N : Int) := by omega
  go_enter Tryz.func40, Tryz.ntmps40
  go_wp2_with fail
  refine HR.out.mono ?_
  rintro e w1 ⟨rfl, b1⟩
  have e4 : w1.cell? ⟨s, 4, none⟩ = some (.slice (some ⟨g, o, none⟩) N cap) := (b1.cell (p := ⟨s, 4, none⟩) hsl).trans c4
  have e2 : w1.cell? ⟨g, o + i * 3 + 2, none⟩ = some (.slice la m lc) := (b1.cell (p := ⟨g, _, none⟩) hgl).trans g2
  have HE1 := Lib.hid (HEQ.out _ b1)
  have H1 := Lib.hid b1
  clear b1 HR HEQ
  go_wp2_with fail
  refine HE1.out.mono ?_
  rintro e w2 ⟨rfl, b2⟩
  have b3 := H1.out.trans (b2.mono H1.out.size)
  have k4 : w2.cell? ⟨s, 4, none⟩ = some (.slice (some ⟨g, o, none⟩) N cap) := (b3.cell (p := ⟨s, 4, none⟩) hsl).trans c4
  have k0 : w2.cell? ⟨g, o + i * 3, none⟩ = some (.int .i64 F) := (b3.cell (p := ⟨g, _, none⟩) hgl).trans g0
  have q4 : ∀ d os, _ := cell_regrown k4
  have q0 : ∀ d os, _ := cell_regrown k0
  have HF2 := Lib.hid fun d os => Calls.regrown_of (HFR.out _ (b3.trans ((below_regrown w2 d os).mono b3.size)))
  have H2 := Lib.hid b3
  clear b2 b3 H1 HE1 e4 e2 c4 g0 g1 g2
  go_wp2_with fail
  refine wp_region_quiet_below (by kernel_rfl) (by kernel_rfl) ?_
  repeat (go_big_quiet_step ((go_at_call 80; with_reducible exact HF2.out _ _)))
  refine wpQuiet_nil ?_
  intro w3 hw3
  obtain ⟨⟨dq, osq⟩, hw3'⟩ := hw3
  have H3 : Hid (Below w.heap.size w w3) := by rw [hw3']; exact H2.out.trans ((below_regrown w2 dq osq).mono H2.out.size)
  clear hw3' q4 q0 HF2 H2 k4 k0 HFR
  have hs3 := HKK.out.below H3.out
  have HB3 := Lib.hid (HBE.out w3 hs3.lies.head)
  have hwr := writeS_any hs3 HQ.out (by omega) hl (nmNew h.P) (frs (L.map (·.1))) HOK.out.1 HNW.out hn HMR.out
  rw [HSN.out, HS.out] at hwr
  have HWR := Lib.hid hwr
  clear hs3 hwr
  go_wp2_with fail
  refine HB3.out.mono ?_
  rintro e _ ⟨rfl, rfl⟩
  go_wp2_with fail
  refine HWR.out.mono ?_
  rintro e w4 ⟨B4, c4, er, rfl, hmv4, hr4, hor⟩
  have HMV4 := Lib.hid ((Moved.of_below H3.out).trans hmv4)
  have HR4 := Lib.hid hr4
  clear hmv4 hr4 HWR HB3
  rcases hor with ⟨rfl, hsd4, hrun4, harm4⟩ | ⟨rfl, hsd4, hgone4, harm4⟩
  rotate_left
  · have HRES : Hid (PutSOut w s h B f n c K (L.map (·.1)) (K.G.set i ⟨F, L.map (·.1)⟩) sf a (.returned (.int .i64 10)) w4) := Lib.hid ⟨B4, _, _, _, c4, K, 10, rfl, HMV4.out, hsd4, HR4.out, .inr ⟨rfl, rfl, hgone4.more (by omega), harm4, .inl ⟨rfl, 0, Nat.zero_le _, rfl⟩⟩⟩
    clear hsd4 hgone4 harm4
    go_wp2_with fail
    go_ret
    exact HRES.out
  have HARM4 := Lib.hid harm4
  have HRUN4 := Lib.hid hrun4
  have HSD4 := Lib.hid hsd4
  have t0 : w4.cell? ⟨s, 0, none⟩ = some (.pointer (some ⟨h.t, 0, none⟩)) := hsd4.lies.head.cell rfl
  have q0 : ∀ d os, _ := cell_regrown t0
  obtain ⟨lb4, hB4⟩ := HLB.out.moved HHB.out HMV4.out
  have HLB4 := Lib.hid (And.intro lb4 hB4)
  have HBE4 := Lib.hid fun d os => Calls.regrown_of ((HBE.out _ (hsd4.lies.head.below (below_regrown w4 d os))).mono fun _ _ ⟨he, hw⟩ => ⟨he, hw ▸ Below.refl _ _⟩)
  have HNM4 := Lib.hid fun d os => Calls.regrown_of (HNM.out _ (lb4.below lb4.size (below_regrown w4 d os)) (hsd4.lies.head.below (below_regrown w4 d os)))
  clear harm4 hrun4 hsd4 lb4 hB4
  go_wp2_with fail
  refine wp_region_below_tail 9 (by kernel_rfl) (by kernel_rfl) ?_
  simp only [List.take_succ_cons, List.take_zero, List.drop_succ_cons, List.drop_zero]
  repeat (go_big_quiet_step (first | (go_at_call 91; with_reducible exact HBE4.out _ _) | (go_at_call 81; with_reducible exact HNM4.out _ _)))
  refine wpQuiet_nil ?_
  intro w5 hw5
  obtain ⟨⟨dq, osq⟩, hw5'⟩ := hw5
  have H5 : Hid (Below w4.heap.size w4 w5) := by rw [hw5']; exact below_regrown w4 dq osq
  clear hw5' HBE4 HNM4 q0 t0
  obtain ⟨T, hst, hup⟩ := (HSD4.out.below H5.out).tape
  have hsw := Ta.s_swap hst (HRUN4.out.small (by omega) hl) (nmNew h.P) (nm h.P F) _ (Ta.upd_same _ _ _) HOK.out.2
  rw [upd_gone HNW.out, HSN.out, HSF.out] at hsw
  have HSW := Lib.hid hsw
  have HUP := Lib.hid hup
  clear hst hsw hup
  go_wp2_with fail
  refine HSW.out.mono ?_
  rintro e w6 ⟨rfl, T6, tot6, n6, hS6, hm6⟩
  obtain ⟨B6, hsd6, hmv6⟩ := HUP.out _ _ _ _ _ _ hS6 hm6
  have HMV6 := Lib.hid (HMV4.out.trans ((Moved.of_below H5.out).trans hmv6))
  have HR6 : Hid ((Ta.actS c4).room = c.room) := Lib.hid ((Ta.actS_room _).trans HR4.out)
  clear hS6 hm6 HSW HUP
  rcases HRUN4.out.split with ⟨ha0, hrun, harm⟩ | ⟨ha0, hgone, harm⟩
  rotate_left
  · rw [ha0]
    have HRES : Hid (PutSOut w s h B f n c K (L.map (·.1)) (K.G.set i ⟨F, L.map (·.1)⟩) sf a (.returned (.int .i64 10)) w6) := Lib.hid ⟨B6, _, _, _, _, K, 10, rfl, HMV6.out, hsd6, HR6.out, .inr ⟨rfl, rfl, hgone, fun h0 => by have := HARM4.out h0; omega, .inr HFP.out⟩⟩
    clear hsd6 hgone harm ha0
    go_wp2_with fail
    go_ret
    exact HRES.out
  rw [ha0]
  obtain ⟨hgb, hv, hlv⟩ := HV.out
  have p4 : w6.cell? ⟨s, 4, none⟩ = some (.slice (some ⟨g, o, none⟩) N cap) := by rw [← hv]; exact hsd6.lies.head.cell rfl
  have hu6 : BtIn (fun b => ¬ B6 b) w6 u L := HU.out.moved HMV6.out
  have hgl6 : g < w6.heap.size := hsd6.lies.segs.lt g hgb
  have hsg6 : Sl w6 (.slice (some ⟨g, o, none⟩) N cap) (some g) 119 3 N (K.X.flatMap sc3) := by
    have h1 := hsd6.lies.segs
    rw [hv, hgb, HN.out] at h1
    exact h1
  have HSG6 := Lib.hid hsg6
  have HGS : Hid (s ≠ g) := Lib.hid fun e => hsd6.lies.sg (by rw [hgb, e])
  have HCE : Hid (∀ w7 : World, Below w6.heap.size w6.drew w7 → (∃ u0, w7.cell? ⟨g, o + i * 3, none⟩ = some u0) ∧ (∃ u1, w7.cell? ⟨g, o + i * 3 + 1, none⟩ = some u1) ∧ (∃ u2, w7.cell? ⟨g, o + i * 3 + 2, none⟩ = some u2) ∧ ∀ j, w7.frozen? ⟨g, j, none⟩ = false) := Lib.hid fun w7 hb7 => by
    have h7 : Below w6.heap.size w6 w7 := ⟨hb7.os, hb7.tape, hb7.output, hb7.size, hb7.block⟩
    have h1 := hsg6.below h7
    have hlen := h1.1
    have key : ∀ j, j < 3 → ∃ u, w7.cell? ⟨g, o + i * 3 + j, none⟩ = some u := fun j hj => by
      have h3 := h1.cell rfl (i * 3 + j) _ (List.getElem?_eq_getElem (by omega))
      rw [← Nat.add_assoc] at h3
      exact ⟨_, h3⟩
    exact ⟨key 0 (by decide), key 1 (by decide), key 2 (by decide), fun j => h1.frozen rfl j⟩
  have HCL : Hid (∀ wx, Below w6.heap.size w6 wx → Calls Tryz.prog 87 #[u] wx (Clones wx (L.map (·.1)))) := Lib.hid fun wx hb => clones_any u L wx (hu6.below hb) HLS.out HRL.out
  have HSD6 := Lib.hid hsd6
  have HRUN6 := Lib.hid hrun
  have HARM6 := Lib.hid harm
  clear hsd6 hrun harm ha0 hgb hv hlv hu6 hmv6 H5 hsg6
  go_wp2_with fail
  go_region_held3 (fun w' => w'.cell? ⟨s, 4, none⟩ = some (.slice (some ⟨g, o, none⟩) N cap)) (first | go_keep | with_reducible exact dcell hb7 p4 | with_reducible exact scell3 HGS.out (dcell hb7 p4))
    (first
      | (go_at_call 87; (refine (HCL.out _ ((Below.refl _ _).drew)).mono ?_); rintro e w7 ⟨v7, cb, L7, rfl, hL7, hs7, hn7, ha7, hb7⟩; obtain ⟨ca, cc, rfl⟩ := hs7.form; obtain ⟨⟨u0, f0⟩, ⟨u1, f1⟩, ⟨u2, f2⟩, fz⟩ := HCE.out _ hb7)
      | fail)
  obtain ⟨hgb, hv, -⟩ := HV.out
  have hb7' : Below w6.heap.size w6 w7 := ⟨hb7.os, hb7.tape, hb7.output, hb7.size, hb7.block⟩
  have hs7' := HSG6.out.below hb7'
  obtain ⟨e1, e2, e3⟩ := flat_set3 K.X i x ⟨F, .slice ca L7.length cc, cb, L7⟩ HX.out
  have hyl : (frs (L7.map (·.1))).length = S.size := by rw [hL7, HYF.out, HY.out]
  rw [e1] at hs7'
  have hset := Sl.set3 (k := i) hs7' e3 (.int .i64 F) (.int .i64 S.size) (.slice ca L7.length cc)
  rw [show [Value.int .i64 F, .int .i64 S.size, .slice ca L7.length cc] = sc3 ⟨F, .slice ca L7.length cc, cb, L7⟩ from by unfold sc3 Sx.bts; simp only [hyl], ← e2] at hset
  rw [← hv, ← hgb, ← HN.out] at hset
  have hgr := grown_set (i := o + i * 3 + 2) (grown_set (i := o + i * 3 + 1) (grown_set (i := o + i * 3) (World.grownBy.refl w7 (some g)) (.int .i64 F)) (.int .i64 S.size)) (.slice ca L7.length cc)
  rw [← hgb] at hgr
  have hsd7 := HSD6.out.seat (w3 := w7) hb7' hgr i ⟨F, .slice ca L7.length cc, cb, L7⟩ hs7 hn7 ha7 hset
  obtain ⟨B7, hsd7, hmv7⟩ := hsd7
  have hG7 : (K.X.set i ⟨F, .slice ca L7.length cc, cb, L7⟩).map Sx.sg = K.G.set i ⟨F, L.map (·.1)⟩ := by
    rw [List.map_set]
    show (K.X.map Sx.sg).set i ⟨F, L7.map (·.1)⟩ = _
    rw [hL7]
    rfl
  have HRES : Hid (PutSOut w s h B f n c K (L.map (·.1)) (K.G.set i ⟨F, L.map (·.1)⟩) sf a (.returned (.int .i64 0)) _) := Lib.hid ⟨B7, _, _, _, _, _, 0, rfl, HMV6.out.trans hmv7, hsd7, HR6.out, .inl ⟨rfl, hG7, HFP.out, HRUN6.out, fun h0 => HARM6.out (HARM4.out h0)⟩⟩
  clear hsd7 hmv7 hgr hset hs7' hs7 hn7 ha7 hb7 hb7' e1 e2 e3 hG7
  go_wp2_with fail
  go_ret
  exact HRES.out
end Go.Proofs.YtdaoeplblkfapaaGreatDoor
