/- The walk of the law CrateKeeps. -/
import Derived.Test.YthhlegfmikidpaaDoorPa
namespace Go.Proofs.YthhlegfmikidpaaDoor
open Go.RowKit

theorem packB_some {ls : List Pl.Rc} {base prod seq time : Int} {b : Pl.Bt} (h : Pl.packB ls base prod seq time = some b) : Pl.fitsB ls = true ∧ b = ⟨base, ls.length, prod, seq, time, Pl.renum ls base⟩ ∧ Pl.goodB b = true := by
  unfold Pl.packB at h
  split at h
  · rename_i hh
    have := Option.some.inj h
    exact ⟨hh.1, this.symm, this ▸ hh.2⟩
  · cases h

set_option maxHeartbeats 4000000 in
set_option maxRecDepth 100000 in
theorem keeps_any (ls : List Pl.Rc) (pb pp ps pt : Int) (v : Value) (w : World) (lb : Lb w) (hrc : Recs v ls w) (hlen : ls.length ≤ maxLen) (hky : ∀ x ∈ ls, x.key.length ≤ maxLen ∧ x.val.length ≤ maxLen) :
    Calls Tryd.prog 7 #[v, .agg #[.int .i64 pb, .int .i64 pp, .int .i64 ps, .int .i64 pt]] w fun e w' => e = .returned (.bool true) ∧ Below w.heap.size w w' := by
  have h0 := Blk.new w #[.int .i64 pb, .int .i64 pp, .int .i64 ps, .int .i64 pt] 36
  have hw0 : Below w.heap.size w (w.alloc (.cells #[.int .i64 pb, .int .i64 pp, .int .i64 ps, .int .i64 pt] 36)) := (Below.refl _ _).alloc (Nat.le_refl _) _
  obtain ⟨W0, hW0⟩ : ∃ W0, w.alloc (.cells #[.int .i64 pb, .int .i64 pp, .int .i64 ps, .int .i64 pt] 36) = W0 := ⟨_, rfl⟩
  rw [hW0] at h0 hw0
  have HK0 := Lib.hid h0
  have HW0 := Lib.hid hw0
  have HE := Lib.hid hW0
  have HRW := Lib.hid hrc
  have HKY := Lib.hid hky
  have HLB := Lib.hid lb
  clear h0 hw0 hW0 hrc hky lb
  obtain ⟨a, cap, rfl⟩ : ∃ a cap, v = .slice a ls.length cap := by obtain ⟨a, cap, rfl, -⟩ := HRW.out; exact ⟨a, cap, rfl⟩
  go_enter Tryd.func7, Tryd.ntmps7
  go_wp2_with fail
  rw [HE.out]
  refine (awake_any W0 (HLB.out.below HLB.out.size HW0.out)).mono ?_
  rintro e w1 ⟨rfl, b1⟩
  have HK1 := Lib.hid (HK0.out.below b1)
  have HW1 := Lib.hid (HW0.out.trans (b1.mono HW0.out.size))
  clear b1 HK0 HW0 HE
  go_wp2_with fail
  have C := great_any _ ls w1 (HRW.out.below HW1.out) hlen HKY.out
  cases hg : greatB ls with
  | true =>
    rw [hg] at C
    refine C.mono ?_
    rintro e w2 ⟨rfl, b2⟩
    go_wp2_with fail
    go_ret
    exact ⟨rfl, HW1.out.trans (b2.mono HW1.out.size)⟩
  | false =>
    rw [hg] at C
    have h40 := great_few hg
    refine C.mono ?_
    clear C hg
    rintro e w2 ⟨rfl, b2⟩
    have HK2 := Lib.hid (HK1.out.below b2)
    have HW2 := Lib.hid (HW1.out.trans (b2.mono HW1.out.size))
    clear b2 HK1 HW1
    have c0 := HK2.out.cell (i := 0) rfl
    have c1 := HK2.out.cell (i := 1) rfl
    have c2 := HK2.out.cell (i := 2) rfl
    have c3 := HK2.out.cell (i := 3) rfl
    have C := dpack (.slice a ls.length cap) ls pb pp ps pt w2 (HLB.out.below HLB.out.size HW2.out) (HRW.out.below HW2.out) (by omega)
    cases hp : Pl.packB ls pb pp ps pt with
    | none =>
      rw [hp] at C
      have HC : Hid (Calls Tryd.prog 23 #[.slice a ls.length cap, .int .i64 pb, .int .i64 pp, .int .i64 ps, .int .i64 pt] w2 fun e w' => Below w2.heap.size w2 w' ∧ e = .returned (.tuple #[.agg #[.int .i64 0, .int .i64 0, .int .i64 0, .int .i64 0, .int .i64 0, .slice none 0 0], .int .i64 1])) := C
      clear C hp
      go_wp2_with fail
      refine HC.out.mono ?_
      rintro e w3 ⟨b3, rfl⟩
      have hal : Below w3.heap.size w3 (w3.alloc (.cells #[.int .i64 0, .int .i64 0, .int .i64 0, .int .i64 0, .int .i64 0, .slice none 0 0] 24)) := (Below.refl _ _).alloc (Nat.le_refl _) _
      have HW3 := Lib.hid (HW2.out.trans ((b3.trans (hal.mono b3.size)).mono HW2.out.size))
      have HD := Lib.hid (dsame ⟨0, 0, 0, 0, 0, []⟩ ⟨0, 0, 0, 0, 0, []⟩ (.slice none 0 0) (.slice none 0 0) (w3.alloc (.cells #[.int .i64 0, .int .i64 0, .int .i64 0, .int .i64 0, .int .i64 0, .slice none 0 0] 24)) ⟨none, 0, rfl, fun j x hj => by simp at hj⟩ ⟨none, 0, rfl, fun j x hj => by simp at hj⟩ (by decide) (by decide))
      rw [show Pl.sameB ⟨0, 0, 0, 0, 0, []⟩ ⟨0, 0, 0, 0, 0, []⟩ = true from Pl.sameB_iff.2 rfl] at HD
      clear b3 hal HC
      go_wp2_with fail
      refine HD.out.mono ?_
      rintro e w4 ⟨rfl, b4⟩
      go_wp2_with fail
      go_ret
      exact ⟨rfl, HW3.out.trans (b4.mono HW3.out.size)⟩
    | some b =>
      rw [hp] at C
      obtain ⟨hfit, hbe, hgd⟩ := packB_some hp
      have hl8 : 1 ≤ ls.length ∧ ls.length ≤ 8 := by
        unfold Pl.fitsB at hfit
        rw [Bool.and_eq_true, decide_eq_true_iff] at hfit
        exact hfit.1
      obtain ⟨hl1, hl8⟩ := hl8
      have hgb := (Pl.goodB_iff.1 hgd).1
      have hgc := (Pl.goodB_iff.1 hgd).2.1
      rw [hbe] at hgb hgc
      obtain ⟨hgb0, hgb1⟩ := hgb
      obtain ⟨m, hm⟩ : ∃ m, ls.length = m := ⟨_, rfl⟩
      have HC : Hid (Calls Tryd.prog 23 #[.slice a m cap, .int .i64 pb, .int .i64 pp, .int .i64 ps, .int .i64 pt] w2 fun e w' => Below w2.heap.size w2 w' ∧ ∃ a2 p2, Recs (.slice a2 m p2) (Pl.renum ls pb) w' ∧ e = .returned (.tuple #[.agg #[.int .i64 pb, .int .i64 m, .int .i64 pp, .int .i64 ps, .int .i64 pt, .slice a2 m p2], .int .i64 0])) := by
        rw [hm] at C
        refine C.mono fun e w' h => ⟨h.1, ?_⟩
        obtain ⟨-, v2, hv, he⟩ := h
        rw [hbe] at hv he
        have hv' := hv
        obtain ⟨a2, p2, rfl, -⟩ := hv'
        simp only [Pl.renum_length, hm] at hv he
        exact ⟨a2, p2, hv, he⟩
      have HFIT := Lib.hid hfit
      have HGD := Lib.hid hgd
      have HBE := Lib.hid hbe
      have HM := Lib.hid hm
      simp only [hm] at hlen h40 hl1 hl8 ⊢
      clear C hp hfit hgd hbe hm
      go_wp2_with fail
      refine HC.out.mono ?_
      rintro e w3 ⟨b3, a2, p2, hr3, rfl⟩
      have h3 := Blk.new w3 #[.int .i64 pb, .int .i64 m, .int .i64 pp, .int .i64 ps, .int .i64 pt, .slice a2 m p2] 24
      have hal : Below w3.heap.size w3 (w3.alloc (.cells #[.int .i64 pb, .int .i64 m, .int .i64 pp, .int .i64 ps, .int .i64 pt, .slice a2 m p2] 24)) := (Below.refl _ _).alloc (Nat.le_refl _) _
      have HK3 := Lib.hid ((HK2.out.below b3).below hal)
      have HB3 := Lib.hid h3
      have HW3 := Lib.hid (HW2.out.trans ((b3.trans (hal.mono b3.size)).mono HW2.out.size))
      have HR3 := Lib.hid (hr3.below hal)
      clear b3 h3 hal hr3 HC c0 c1 c2 c3 HK2 HW2
      have hrw : Recs (.slice a m cap) ls w := by have h := HRW.out; rw [HM.out] at h; exact h
      have CF := dfits (.slice a m cap) ls _ (hrw.below HW3.out) (by rw [HM.out]; omega)
      rw [HFIT.out] at CF
      have HCF := Lib.hid CF
      clear CF
      go_wp2_with fail
      refine HCF.out.mono ?_
      rintro e w4 ⟨rfl, b4⟩
      have HK4 := Lib.hid (HK3.out.below b4)
      have HB4 := Lib.hid (HB3.out.below b4)
      have HR4 := Lib.hid (HR3.out.below b4)
      have HW4 := Lib.hid (HW3.out.trans (b4.mono HW3.out.size))
      clear b4 HK3 HB3 HR3 HW3 HCF
      have c0 := HK4.out.cell (i := 0) rfl
      have c1 := HK4.out.cell (i := 1) rfl
      have c2 := HK4.out.cell (i := 2) rfl
      have c3 := HK4.out.cell (i := 3) rfl
      have b0 := HB4.out.cell (i := 0) rfl
      have b1 := HB4.out.cell (i := 1) rfl
      have b2 := HB4.out.cell (i := 2) rfl
      have b3 := HB4.out.cell (i := 3) rfl
      have b4 := HB4.out.cell (i := 4) rfl
      have b5 := HB4.out.cell (i := 5) rfl
      have CG := dgood pb m pp ps pt (Pl.renum ls pb) (.slice a2 m p2) w4 (HLB.out.below HLB.out.size HW4.out) HR4.out (by rw [Pl.renum_length, HM.out]; omega)
      rw [show Pl.goodB ⟨pb, m, pp, ps, pt, Pl.renum ls pb⟩ = true by have h := HGD.out; rw [HBE.out, HM.out] at h; exact h] at CG
      have HCG := Lib.hid CG
      clear CG
      go_wp2_with fail
      refine HCG.out.mono ?_
      rintro e w5 ⟨rfl, b5⟩
      have HK5 := Lib.hid (HK4.out.below b5)
      have HB5 := Lib.hid (HB4.out.below b5)
      have HR5 := Lib.hid (HR4.out.below b5)
      have HW5 := Lib.hid (HW4.out.trans (b5.mono HW4.out.size))
      clear b5 HK4 HB4 HR4 HW4 HCG c0 c1 c2 c3 b0 b1 b2 b3 b4
      have c0 := HK5.out.cell (i := 0) rfl
      have c1 := HK5.out.cell (i := 1) rfl
      have c2 := HK5.out.cell (i := 2) rfl
      have c3 := HK5.out.cell (i := 3) rfl
      have b0 := HB5.out.cell (i := 0) rfl
      have b1 := HB5.out.cell (i := 1) rfl
      have b2 := HB5.out.cell (i := 2) rfl
      have b3 := HB5.out.cell (i := 3) rfl
      have b4 := HB5.out.cell (i := 4) rfl
      have b5 := HB5.out.cell (i := 5) rfl
      go_wp2_with fail
      clear c0 c1 c2 c3 b0 b1 b2 b3 b4 b5 hgc h40
      go_loopw [7] (fun iv wr => ∃ k : Nat, k ≤ m ∧ iv = .int .i64 k ∧ Below w5.heap.size w5 wr) (fun iv _ => m - (intOf iv).toNat)
      case atStart => exact ⟨0, Nat.zero_le _, rfl, Below.refl _ _⟩
      case round =>
        obtain ⟨k, hk, rfl, hb⟩ := hrel
        have HB := Lib.hid hb
        clear hb
        by_cases hlt : k < m
        · obtain ⟨x, hx⟩ : ∃ x, ls[k]? = some x := ⟨_, List.getElem?_eq_getElem (by rw [HM.out]; exact hlt)⟩
          have hrx : (Pl.renum ls pb)[k]? = some { x with off := pb + k } := by rw [Pl.renum_at, hx]; rfl
          obtain ⟨ar, cr, he2, hc2⟩ := HR5.out
          obtain ⟨ah, ch, he1, hc1⟩ := hrw
          obtain ⟨b, off, hb1, hbl, c0, c1, c2, c3⟩ := hc1 k x hx
          obtain ⟨b', off', hb2, hbl', c0', c1', c2', c3'⟩ := hc2 k _ hrx
          have q1 : a = ah := by injection he1
          have q2 : a2 = ar := by injection he2
          clear he1 he2
          rw [hb1] at q1
          rw [hb2] at q2
          subst q1 q2
          have hal : Below wr.heap.size wr (wr.alloc (.cells #[.int .i64 (pb + k), .string ⟨x.key.toArray⟩, .string ⟨x.val.toArray⟩, .bool x.gone] 41)) := (Below.refl _ _).alloc (Nat.le_refl _) _
          have hwr := HW5.out.trans (HB.out.mono HW5.out.size)
          have HBA := Lib.hid (HB.out.trans (hal.mono HB.out.size))
          have e1 : ∀ o, (wr.alloc (.cells #[.int .i64 (pb + k), .string ⟨x.key.toArray⟩, .string ⟨x.val.toArray⟩, .bool x.gone] 41)).cell? ⟨b, o, none⟩ = w.cell? ⟨b, o, none⟩ := fun o => (hwr.trans (hal.mono hwr.size)).cell (p := ⟨b, o, none⟩) hbl
          have e2 : ∀ o, wr.cell? ⟨b', o, none⟩ = w5.cell? ⟨b', o, none⟩ := fun o => HB.out.cell (p := ⟨b', o, none⟩) hbl'
          rw [← e1] at c0 c1 c2 c3
          rw [← e2] at c0' c1' c2' c3'
          have p0 := ((HK5.out.below HB.out).below hal).cell (i := 0) rfl
          have q5 := (HB5.out.below HB.out).cell (i := 5) rfl
          obtain ⟨y0, y1, y2, -⟩ := cells_four wr (.int .i64 (pb + k)) (.string ⟨x.key.toArray⟩) (.string ⟨x.val.toArray⟩) (.bool x.gone) 41
          have y3 := (Blk.new wr #[.int .i64 (pb + k), .string ⟨x.key.toArray⟩, .string ⟨x.val.toArray⟩, .bool x.gone] 41).cell (i := 3) rfl
          obtain ⟨K, hK⟩ : ∃ K : ByteArray, (⟨x.key.toArray⟩ : ByteArray) = K := ⟨_, rfl⟩
          obtain ⟨V, hV⟩ : ∃ V : ByteArray, (⟨x.val.toArray⟩ : ByteArray) = V := ⟨_, rfl⟩
          obtain ⟨g, hg⟩ : ∃ g, x.gone = g := ⟨_, rfl⟩
          rw [hK] at c1 c1' y0 y1 y2 y3 p0 c0 c2 c3 HBA
          rw [hV] at c2 c2' y0 y1 y2 y3 p0 c0 c1 c3 HBA
          rw [hg] at c3 c3' y0 y1 y2 y3 p0 c0 c1 c2 HBA
          obtain ⟨W6, hW6⟩ : ∃ W6, wr.alloc (.cells #[.int .i64 (pb + k), .string K, .string V, .bool g] 41) = W6 := ⟨_, rfl⟩
          rw [hW6] at c0 c1 c2 c3 y0 y1 y2 y3 p0 HBA
          have HWE := Lib.hid hW6
          have hki : (k : Int) < m := by omega
          have hd : pb + (k : Int) - k = pb := by omega
          have n0 : (pb + (k : Int) - k != pb) = false := by rw [hd]; simp
          have n1 : (K.toList != K.toList) = false := by simp
          have n2 : (V.toList != V.toList) = false := by simp
          have n3 : (g != g) = false := by simp
          clear e1 e2 hx hrx hc1 hc2 hb1 hb2 hbl hbl' hal hwr hW6 hK hV hg
          go_wp2_with fail
          rw [HWE.out]
          go_quiet (fail)
          go_wp2_with fail
          go_roundw
          case rel => exact ⟨k + 1, by omega, by go_num, HBA.out.trans (below_drewN _ _)⟩
          case measure => simp [intOf]; omega
        · go_wp2_with fail
          go_ret
          exact ⟨rfl, HW5.out.trans (HB.out.mono HW5.out.size)⟩
end Go.Proofs.YthhlegfmikidpaaDoor
