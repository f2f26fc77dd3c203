/- The walk of the law CrateBack. -/
import Derived.Test.YthhlegfmikidpaaDoorSameWalk
namespace Go.Proofs.YthhlegfmikidpaaDoor
open Go.RowKit

set_option maxHeartbeats 4000000 in
set_option maxRecDepth 100000 in
theorem back_any (a b : Pl.Bt) (va vb : Value) (s : ByteArray) (w : World) (lb : Lb w) (ha : Come a va w) (hb : Come b vb w) (hss : s.size ≤ 140737488355328) :
    Calls Tryd.prog 6 #[.agg #[.int .i64 a.base, .int .i64 a.count, .int .i64 a.prod, .int .i64 a.seq, .int .i64 a.time, va], .agg #[.int .i64 b.base, .int .i64 b.count, .int .i64 b.prod, .int .i64 b.seq, .int .i64 b.time, vb], .string s] w fun e w' => e = .returned (.bool true) ∧ Below w.heap.size w w' := by
  obtain ⟨xa, pa, rfl⟩ := ha.slice
  obtain ⟨xb, pb, rfl⟩ := hb.slice
  have GA := Lib.hid (Got.mk ha)
  have GB := Lib.hid (Got.mk hb)
  have HLB := Lib.hid lb
  have h0 := pa2 w (cellsB a (.slice xa a.recs.length pa)) (cellsB b (.slice xb b.recs.length pb))
  obtain ⟨W0, hW0⟩ : ∃ W0, ((w.alloc (.cells (cellsB a (.slice xa a.recs.length pa)) 24)).alloc (.cells (cellsB b (.slice xb b.recs.length pb)) 24)) = W0 := ⟨_, rfl⟩
  rw [hW0] at h0
  unfold cellsB at hW0 h0
  have H0 := Lib.hid h0
  have HE := Lib.hid hW0
  clear h0 hW0 ha hb lb
  go_enter Tryd.func6, Tryd.ntmps6
  go_wp2_with fail
  rw [HE.out]
  refine (awake_any W0 (H0.out.lb HLB.out)).mono ?_
  rintro e w1 ⟨rfl, b1⟩
  have H1 := Lib.hid (H0.out.below b1)
  clear b1 H0 HE
  have a5 := H1.out.cell (k := 0) (i := 5) rfl rfl
  go_wp2_with fail
  have C := GA.out.great H1.out.low
  cases hga : greatB a.recs with
  | true =>
    rw [hga] at C
    refine C.mono ?_
    rintro e w2 ⟨rfl, b2⟩
    have H2 := Lib.hid (H1.out.below b2)
    clear b2 C
    go_wp2_with fail
    go_ret
    exact ⟨rfl, H2.out.low⟩
  | false =>
    rw [hga] at C
    have la := great_few hga
    refine C.mono ?_
    clear C hga
    rintro e w2 ⟨rfl, b2⟩
    have H2 := Lib.hid (H1.out.below b2)
    clear b2 a5 H1
    have b5 := H2.out.cell (k := 1) (i := 5) rfl rfl
    have C := GB.out.great H2.out.low
    cases hgb : greatB b.recs with
    | true =>
      rw [hgb] at C
      have HC := Lib.hid C
      clear C
      go_wp2_with fail
      refine HC.out.mono ?_
      rintro e w3 ⟨rfl, b3⟩
      have H3 := Lib.hid (H2.out.below b3)
      clear b3
      go_wp2_with fail
      go_ret
      exact ⟨rfl, H3.out.low⟩
    | false =>
      rw [hgb] at C
      have lb := great_few hgb
      have HC := Lib.hid C
      clear C hgb
      go_wp2_with fail
      refine HC.out.mono ?_
      rintro e w3 ⟨rfl, b3⟩
      have H3 := Lib.hid (H2.out.below b3)
      clear b3 b5 H2 HC
      have a0 := H3.out.cell (k := 0) (i := 0) rfl rfl
      have a1 := H3.out.cell (k := 0) (i := 1) rfl rfl
      have a2 := H3.out.cell (k := 0) (i := 2) rfl rfl
      have a3 := H3.out.cell (k := 0) (i := 3) rfl rfl
      have a4 := H3.out.cell (k := 0) (i := 4) rfl rfl
      have a5 := H3.out.cell (k := 0) (i := 5) rfl rfl
      have CA := dencode a (.slice xa a.recs.length pa) w3 (H3.out.lb HLB.out) (GA.out.come.recs.below H3.out.low) (by omega)
      cases gda : Pl.goodB a with
      | false =>
        rw [gda, if_neg (by decide)] at CA
        have HCA := Lib.hid CA
        clear CA
        go_wp2_with fail
        refine HCA.out.mono ?_
        rintro e w4 ⟨rfl, b4⟩
        have H4 := Lib.hid (H3.out.below b4)
        clear b4 HCA H3 a0 a1 a2 a3 a4 a5
        have a0 := H4.out.cell (k := 0) (i := 0) rfl rfl
        have a1 := H4.out.cell (k := 0) (i := 1) rfl rfl
        have a2 := H4.out.cell (k := 0) (i := 2) rfl rfl
        have a3 := H4.out.cell (k := 0) (i := 3) rfl rfl
        have a4 := H4.out.cell (k := 0) (i := 4) rfl rfl
        have a5 := H4.out.cell (k := 0) (i := 5) rfl rfl
        have b0 := H4.out.cell (k := 1) (i := 0) rfl rfl
        have b1 := H4.out.cell (k := 1) (i := 1) rfl rfl
        have b2 := H4.out.cell (k := 1) (i := 2) rfl rfl
        have b3 := H4.out.cell (k := 1) (i := 3) rfl rfl
        have b4 := H4.out.cell (k := 1) (i := 4) rfl rfl
        have b5 := H4.out.cell (k := 1) (i := 5) rfl rfl
        have CB := dencode b (.slice xb b.recs.length pb) w4 (H4.out.lb HLB.out) (GB.out.come.recs.below H4.out.low) (by omega)
        obtain ⟨Y, f, hYf⟩ : ∃ (Y : ByteArray) (f : Int), (if Pl.goodB b = true then Ending.returned (.tuple #[.string ⟨(Pl.enc b).toArray⟩, .int .i64 0]) else .returned (.tuple #[.string ⟨#[]⟩, .int .i64 1])) = .returned (.tuple #[.string Y, .int .i64 f]) := by
          split
          · exact ⟨_, _, rfl⟩
          · exact ⟨_, _, rfl⟩
        rw [hYf] at CB
        have HCB := Lib.hid CB
        clear CB hYf
        go_wp2_with fail
        refine HCB.out.mono ?_
        rintro e w5 ⟨rfl, b5'⟩
        have H5 := Lib.hid (H4.out.below b5')
        clear b5' HCB H4 a0 a1 a2 a3 a4 a5 b0 b1 b2 b3 b4 b5
        have a0 := H5.out.cell (k := 0) (i := 0) rfl rfl
        have a1 := H5.out.cell (k := 0) (i := 1) rfl rfl
        have a2 := H5.out.cell (k := 0) (i := 2) rfl rfl
        have a3 := H5.out.cell (k := 0) (i := 3) rfl rfl
        have a4 := H5.out.cell (k := 0) (i := 4) rfl rfl
        have a5 := H5.out.cell (k := 0) (i := 5) rfl rfl
        have b0 := H5.out.cell (k := 1) (i := 0) rfl rfl
        have b1 := H5.out.cell (k := 1) (i := 1) rfl rfl
        have b2 := H5.out.cell (k := 1) (i := 2) rfl rfl
        have b3 := H5.out.cell (k := 1) (i := 3) rfl rfl
        have b4 := H5.out.cell (k := 1) (i := 4) rfl rfl
        have b5 := H5.out.cell (k := 1) (i := 5) rfl rfl
        have CG := dgood a.base a.count a.prod a.seq a.time a.recs (.slice xa a.recs.length pa) w5 (H5.out.lb HLB.out) (GA.out.come.recs.below H5.out.low) (by omega)
        rw [show Pl.goodB ⟨a.base, a.count, a.prod, a.seq, a.time, a.recs⟩ = false from gda] at CG
        have HCG := Lib.hid CG
        clear CG
        go_wp2_with fail
        refine HCG.out.mono ?_
        rintro e w6 ⟨rfl, b6⟩
        have H6 := Lib.hid (H5.out.below b6)
        clear b6 HCG H5 a0 a1 a2 a3 a4 a5 b0 b1 b2 b3 b4 b5
        have CS := ddecode s w6 (H6.out.lb HLB.out) (by omega)
        cases hds : decB s.data.toList with
        | none =>
          rw [hds] at CS
          have HCS : Hid (Calls Tryd.prog 21 #[.string s] w6 fun e w' => Below w6.heap.size w6 w' ∧ e = .returned (.tuple #[.agg #[.int .i64 0, .int .i64 0, .int .i64 0, .int .i64 0, .int .i64 0, .slice none 0 0], .int .i64 3])) := CS
          clear CS hds
          go_wp2_with fail
          refine HCS.out.mono ?_
          rintro e y1 ⟨b1, rfl⟩
          have H91 := Lib.hid ((H6.out.below b1).more #[.int .i64 0, .int .i64 0, .int .i64 0, .int .i64 0, .int .i64 0, .slice none 0 0])
          have HSD := Lib.hid (dsame ⟨0, 0, 0, 0, 0, []⟩ ⟨0, 0, 0, 0, 0, []⟩ (.slice none 0 0) (.slice none 0 0) (y1.alloc (.cells #[.int .i64 0, .int .i64 0, .int .i64 0, .int .i64 0, .int .i64 0, .slice none 0 0] 24)) ⟨none, 0, rfl, fun j x hj => by simp at hj⟩ ⟨none, 0, rfl, fun j x hj => by simp at hj⟩ (by decide) (by decide))
          rw [show Pl.sameB ⟨0, 0, 0, 0, 0, []⟩ ⟨0, 0, 0, 0, 0, []⟩ = true from Pl.sameB_iff.2 rfl] at HSD
          clear b1 HCS
          go_wp2_with fail
          refine HSD.out.mono ?_
          rintro e y2 ⟨rfl, b2⟩
          go_wp2_with fail
          go_ret
          exact ⟨rfl, (H91.out.below b2).low⟩
        | some d =>
          rw [hds] at CS
          obtain ⟨hgd, hse⟩ := enc_dec hds
          have HCS : Hid (Calls Tryd.prog 21 #[.string s] w6 fun e w' => Below w6.heap.size w6 w' ∧ ∃ x1 p1, Recs (.slice x1 d.recs.length p1) d.recs w' ∧ e = .returned (.tuple #[.agg #[.int .i64 d.base, .int .i64 d.count, .int .i64 d.prod, .int .i64 d.seq, .int .i64 d.time, .slice x1 d.recs.length p1], .int .i64 0])) := CS.mono fun e w' h => ⟨h.1, by
            obtain ⟨-, v, hv, he⟩ := h
            have hv' := hv
            obtain ⟨x1, p1, rfl, -⟩ := hv'
            exact ⟨x1, p1, hv, he⟩⟩
          have HGD := Lib.hid hgd
          have HSE := Lib.hid hse
          have hd8 := (Pl.enc_short hgd).2.2
          clear CS hds hgd hse
          go_wp2_with fail
          refine HCS.out.mono ?_
          rintro e y1 ⟨b1, x1, p1, hr1, rfl⟩
          have hal : Below y1.heap.size y1 (y1.alloc (.cells #[.int .i64 d.base, .int .i64 d.count, .int .i64 d.prod, .int .i64 d.seq, .int .i64 d.time, .slice x1 d.recs.length p1] 24)) := (Below.refl _ _).alloc (Nat.le_refl _) _
          have h91 := (H6.out.below b1).below hal
          have CE := dencode d (.slice x1 d.recs.length p1) _ (h91.lb HLB.out) (hr1.below hal) (by omega)
          rw [HGD.out, if_pos rfl, ← HSE.out, show (⟨s.data.toList.toArray⟩ : ByteArray) = s by simp] at CE
          have HCE := Lib.hid CE
          have H91 := Lib.hid h91
          clear b1 hr1 hal h91 CE HCS
          go_wp2_with fail
          refine HCE.out.mono ?_
          rintro e y2 ⟨rfl, b2⟩
          go_wp2_with fail
          go_ret
          exact ⟨rfl, (H91.out.below b2).low⟩
      | true =>
        rw [gda, if_pos rfl] at CA
        obtain ⟨X, hX⟩ : ∃ S : ByteArray, (⟨(Pl.enc a).toArray⟩ : ByteArray) = S := ⟨_, rfl⟩
        rw [hX] at CA
        have hxs := (Pl.enc_short gda).1
        have ha8 := (Pl.enc_short gda).2.2
        have hsx : X.size = (Pl.enc a).length := by rw [← hX, size_list]
        rw [← hsx] at hxs
        have hxl : X.size < 16384 := by omega
        have HXD : Hid (X.data.toList = Pl.enc a) := by show X.data.toList = _; rw [← hX]
        have HXE := Lib.hid hX
        have HCA := Lib.hid CA
        have HGA := Lib.hid gda
        clear CA hX hxs hsx gda
        go_wp2_with fail
        refine HCA.out.mono ?_
        rintro e w4 ⟨rfl, b4⟩
        have H4 := Lib.hid (H3.out.below b4)
        clear b4 HCA H3 a0 a1 a2 a3 a4 a5
        have a0 := H4.out.cell (k := 0) (i := 0) rfl rfl
        have a1 := H4.out.cell (k := 0) (i := 1) rfl rfl
        have a2 := H4.out.cell (k := 0) (i := 2) rfl rfl
        have a3 := H4.out.cell (k := 0) (i := 3) rfl rfl
        have a4 := H4.out.cell (k := 0) (i := 4) rfl rfl
        have a5 := H4.out.cell (k := 0) (i := 5) rfl rfl
        have b0 := H4.out.cell (k := 1) (i := 0) rfl rfl
        have b1 := H4.out.cell (k := 1) (i := 1) rfl rfl
        have b2 := H4.out.cell (k := 1) (i := 2) rfl rfl
        have b3 := H4.out.cell (k := 1) (i := 3) rfl rfl
        have b4 := H4.out.cell (k := 1) (i := 4) rfl rfl
        have b5 := H4.out.cell (k := 1) (i := 5) rfl rfl
        have CB := dencode b (.slice xb b.recs.length pb) w4 (H4.out.lb HLB.out) (GB.out.come.recs.below H4.out.low) (by omega)
        cases gdb : Pl.goodB b with
        | false =>
          rw [gdb, if_neg (by decide)] at CB
          have HCB := Lib.hid CB
          clear CB
          go_wp2_with fail
          refine HCB.out.mono ?_
          rintro e w5 ⟨rfl, b5'⟩
          have H5 := Lib.hid (H4.out.below b5')
          clear b5' HCB H4 a0 a1 a2 a3 a4 a5 b0 b1 b2 b3 b4 b5
          have a0 := H5.out.cell (k := 0) (i := 0) rfl rfl
          have a1 := H5.out.cell (k := 0) (i := 1) rfl rfl
          have a2 := H5.out.cell (k := 0) (i := 2) rfl rfl
          have a3 := H5.out.cell (k := 0) (i := 3) rfl rfl
          have a4 := H5.out.cell (k := 0) (i := 4) rfl rfl
          have a5 := H5.out.cell (k := 0) (i := 5) rfl rfl
          have b0 := H5.out.cell (k := 1) (i := 0) rfl rfl
          have b1 := H5.out.cell (k := 1) (i := 1) rfl rfl
          have b2 := H5.out.cell (k := 1) (i := 2) rfl rfl
          have b3 := H5.out.cell (k := 1) (i := 3) rfl rfl
          have b4 := H5.out.cell (k := 1) (i := 4) rfl rfl
          have b5 := H5.out.cell (k := 1) (i := 5) rfl rfl
          have CG := dgood a.base a.count a.prod a.seq a.time a.recs (.slice xa a.recs.length pa) w5 (H5.out.lb HLB.out) (GA.out.come.recs.below H5.out.low) (by omega)
          rw [show Pl.goodB ⟨a.base, a.count, a.prod, a.seq, a.time, a.recs⟩ = true from HGA.out] at CG
          have HCG := Lib.hid CG
          clear CG
          go_wp2_with fail
          refine HCG.out.mono ?_
          rintro e w6 ⟨rfl, b6⟩
          have H6 := Lib.hid (H5.out.below b6)
          clear b6 HCG H5 a0 a1 a2 a3 a4 a5 b0 b1 b2 b3 b4 b5
          have a0 := H6.out.cell (k := 0) (i := 0) rfl rfl
          have a1 := H6.out.cell (k := 0) (i := 1) rfl rfl
          have a2 := H6.out.cell (k := 0) (i := 2) rfl rfl
          have a3 := H6.out.cell (k := 0) (i := 3) rfl rfl
          have a4 := H6.out.cell (k := 0) (i := 4) rfl rfl
          have a5 := H6.out.cell (k := 0) (i := 5) rfl rfl
          have CX := ddecode X w6 (H6.out.lb HLB.out) (by omega)
          rw [HXD.out, dec_enc HGA.out] at CX
          have HCX : Hid (Calls Tryd.prog 21 #[.string X] w6 fun e w' => Below w6.heap.size w6 w' ∧ ∃ x1 p1, Recs (.slice x1 a.recs.length p1) a.recs w' ∧ e = .returned (.tuple #[.agg #[.int .i64 a.base, .int .i64 a.count, .int .i64 a.prod, .int .i64 a.seq, .int .i64 a.time, .slice x1 a.recs.length p1], .int .i64 0])) := CX.mono fun e w' h => ⟨h.1, by
            obtain ⟨-, v, hv, he⟩ := h
            have hv' := hv
            obtain ⟨x1, p1, rfl, -⟩ := hv'
            exact ⟨x1, p1, hv, he⟩⟩
          clear CX
          go_wp2_with fail
          refine HCX.out.mono ?_
          rintro e w8 ⟨b8, x1, p1, hr8, rfl⟩
          have hal : Below w8.heap.size w8 (w8.alloc (.cells #[.int .i64 a.base, .int .i64 a.count, .int .i64 a.prod, .int .i64 a.seq, .int .i64 a.time, .slice x1 a.recs.length p1] 24)) := (Below.refl _ _).alloc (Nat.le_refl _) _
          have h8 := (H6.out.below b8).below hal
          have CQ := dsame a a (.slice x1 a.recs.length p1) (.slice xa a.recs.length pa) _ (hr8.below hal) (GA.out.come.recs.below h8.low) (by omega) (by omega)
          rw [show Pl.sameB a a = true from Pl.sameB_iff.2 rfl] at CQ
          have HCQ := Lib.hid CQ
          have H8 := Lib.hid h8
          clear b8 hr8 hal h8 CQ HCX a0 a1 a2 a3 a4 a5
          have a0 := H8.out.cell (k := 0) (i := 0) rfl rfl
          have a1 := H8.out.cell (k := 0) (i := 1) rfl rfl
          have a2 := H8.out.cell (k := 0) (i := 2) rfl rfl
          have a3 := H8.out.cell (k := 0) (i := 3) rfl rfl
          have a4 := H8.out.cell (k := 0) (i := 4) rfl rfl
          have a5 := H8.out.cell (k := 0) (i := 5) rfl rfl
          go_wp2_with fail
          refine HCQ.out.mono ?_
          rintro e w9 ⟨rfl, b9⟩
          have H9 := Lib.hid (H8.out.below b9)
          clear b9 HCQ H8 a0 a1 a2 a3 a4 a5
          have CS := ddecode s w9 (H9.out.lb HLB.out) (by omega)
          cases hds : decB s.data.toList with
          | none =>
            rw [hds] at CS
            have HCS : Hid (Calls Tryd.prog 21 #[.string s] w9 fun e w' => Below w9.heap.size w9 w' ∧ e = .returned (.tuple #[.agg #[.int .i64 0, .int .i64 0, .int .i64 0, .int .i64 0, .int .i64 0, .slice none 0 0], .int .i64 3])) := CS
            clear CS hds
            go_wp2_with fail
            refine HCS.out.mono ?_
            rintro e y1 ⟨b1, rfl⟩
            have H91 := Lib.hid ((H9.out.below b1).more #[.int .i64 0, .int .i64 0, .int .i64 0, .int .i64 0, .int .i64 0, .slice none 0 0])
            have HSD := Lib.hid (dsame ⟨0, 0, 0, 0, 0, []⟩ ⟨0, 0, 0, 0, 0, []⟩ (.slice none 0 0) (.slice none 0 0) (y1.alloc (.cells #[.int .i64 0, .int .i64 0, .int .i64 0, .int .i64 0, .int .i64 0, .slice none 0 0] 24)) ⟨none, 0, rfl, fun j x hj => by simp at hj⟩ ⟨none, 0, rfl, fun j x hj => by simp at hj⟩ (by decide) (by decide))
            rw [show Pl.sameB ⟨0, 0, 0, 0, 0, []⟩ ⟨0, 0, 0, 0, 0, []⟩ = true from Pl.sameB_iff.2 rfl] at HSD
            clear b1 HCS
            go_wp2_with fail
            refine HSD.out.mono ?_
            rintro e y2 ⟨rfl, b2⟩
            go_wp2_with fail
            go_ret
            exact ⟨rfl, (H91.out.below b2).low⟩
          | some d =>
            rw [hds] at CS
            obtain ⟨hgd, hse⟩ := enc_dec hds
            have HCS : Hid (Calls Tryd.prog 21 #[.string s] w9 fun e w' => Below w9.heap.size w9 w' ∧ ∃ x1 p1, Recs (.slice x1 d.recs.length p1) d.recs w' ∧ e = .returned (.tuple #[.agg #[.int .i64 d.base, .int .i64 d.count, .int .i64 d.prod, .int .i64 d.seq, .int .i64 d.time, .slice x1 d.recs.length p1], .int .i64 0])) := CS.mono fun e w' h => ⟨h.1, by
              obtain ⟨-, v, hv, he⟩ := h
              have hv' := hv
              obtain ⟨x1, p1, rfl, -⟩ := hv'
              exact ⟨x1, p1, hv, he⟩⟩
            have HGD := Lib.hid hgd
            have HSE := Lib.hid hse
            have hd8 := (Pl.enc_short hgd).2.2
            clear CS hds hgd hse
            go_wp2_with fail
            refine HCS.out.mono ?_
            rintro e y1 ⟨b1, x1, p1, hr1, rfl⟩
            have hal : Below y1.heap.size y1 (y1.alloc (.cells #[.int .i64 d.base, .int .i64 d.count, .int .i64 d.prod, .int .i64 d.seq, .int .i64 d.time, .slice x1 d.recs.length p1] 24)) := (Below.refl _ _).alloc (Nat.le_refl _) _
            have h91 := (H9.out.below b1).below hal
            have CE := dencode d (.slice x1 d.recs.length p1) _ (h91.lb HLB.out) (hr1.below hal) (by omega)
            rw [HGD.out, if_pos rfl, ← HSE.out, show (⟨s.data.toList.toArray⟩ : ByteArray) = s by simp] at CE
            have HCE := Lib.hid CE
            have H91 := Lib.hid h91
            clear b1 hr1 hal h91 CE HCS
            go_wp2_with fail
            refine HCE.out.mono ?_
            rintro e y2 ⟨rfl, b2⟩
            go_wp2_with fail
            go_ret
            exact ⟨rfl, (H91.out.below b2).low⟩
        | true =>
          rw [gdb, if_pos rfl] at CB
          obtain ⟨Y, hY⟩ : ∃ S : ByteArray, (⟨(Pl.enc b).toArray⟩ : ByteArray) = S := ⟨_, rfl⟩
          rw [hY] at CB
          have HCB := Lib.hid CB
          have HXY : Hid ((X.toList == Y.toList) = Pl.sameB a b) := by
            show _ = _
            rw [Bool.eq_iff_iff, beq_iff_eq, Pl.sameB_iff, ByteArray.toList_eq, ByteArray.toList_eq, HXD.out, ← hY]
            exact ⟨fun h => enc_inj HGA.out gdb h, fun h => by rw [h]⟩
          clear CB hY gdb
          go_wp2_with fail
          refine HCB.out.mono ?_
          rintro e w5 ⟨rfl, b5'⟩
          have H5 := Lib.hid (H4.out.below b5')
          clear b5' HCB H4 a0 a1 a2 a3 a4 a5 b0 b1 b2 b3 b4 b5
          have a0 := H5.out.cell (k := 0) (i := 0) rfl rfl
          have a1 := H5.out.cell (k := 0) (i := 1) rfl rfl
          have a2 := H5.out.cell (k := 0) (i := 2) rfl rfl
          have a3 := H5.out.cell (k := 0) (i := 3) rfl rfl
          have a4 := H5.out.cell (k := 0) (i := 4) rfl rfl
          have a5 := H5.out.cell (k := 0) (i := 5) rfl rfl
          have b0 := H5.out.cell (k := 1) (i := 0) rfl rfl
          have b1 := H5.out.cell (k := 1) (i := 1) rfl rfl
          have b2 := H5.out.cell (k := 1) (i := 2) rfl rfl
          have b3 := H5.out.cell (k := 1) (i := 3) rfl rfl
          have b4 := H5.out.cell (k := 1) (i := 4) rfl rfl
          have b5 := H5.out.cell (k := 1) (i := 5) rfl rfl
          have CG := dgood a.base a.count a.prod a.seq a.time a.recs (.slice xa a.recs.length pa) w5 (H5.out.lb HLB.out) (GA.out.come.recs.below H5.out.low) (by omega)
          rw [show Pl.goodB ⟨a.base, a.count, a.prod, a.seq, a.time, a.recs⟩ = true from HGA.out] at CG
          have HCG := Lib.hid CG
          clear CG
          go_wp2_with fail
          refine HCG.out.mono ?_
          rintro e w6 ⟨rfl, b6⟩
          have H6 := Lib.hid (H5.out.below b6)
          clear b6 HCG H5 a0 a1 a2 a3 a4 a5 b0 b1 b2 b3 b4 b5
          have a0 := H6.out.cell (k := 0) (i := 0) rfl rfl
          have a1 := H6.out.cell (k := 0) (i := 1) rfl rfl
          have a2 := H6.out.cell (k := 0) (i := 2) rfl rfl
          have a3 := H6.out.cell (k := 0) (i := 3) rfl rfl
          have a4 := H6.out.cell (k := 0) (i := 4) rfl rfl
          have a5 := H6.out.cell (k := 0) (i := 5) rfl rfl
          have b0 := H6.out.cell (k := 1) (i := 0) rfl rfl
          have b1 := H6.out.cell (k := 1) (i := 1) rfl rfl
          have b2 := H6.out.cell (k := 1) (i := 2) rfl rfl
          have b3 := H6.out.cell (k := 1) (i := 3) rfl rfl
          have b4 := H6.out.cell (k := 1) (i := 4) rfl rfl
          have b5 := H6.out.cell (k := 1) (i := 5) rfl rfl
          have CM := GA.out.same GB.out la lb H6.out.low
          cases hab : Pl.sameB a b with
          | false =>
            rw [hab] at CM
            have hxy := HXY.out
            rw [hab] at hxy
            have HCM := Lib.hid CM
            clear CM hab HXY
            go_wp2_with fail
            refine HCM.out.mono ?_
            rintro e w7 ⟨rfl, b7⟩
            have H7 := Lib.hid (H6.out.below b7)
            clear b7 HCM H6 a0 a1 a2 a3 a4 a5 b0 b1 b2 b3 b4 b5
            have a0 := H7.out.cell (k := 0) (i := 0) rfl rfl
            have a1 := H7.out.cell (k := 0) (i := 1) rfl rfl
            have a2 := H7.out.cell (k := 0) (i := 2) rfl rfl
            have a3 := H7.out.cell (k := 0) (i := 3) rfl rfl
            have a4 := H7.out.cell (k := 0) (i := 4) rfl rfl
            have a5 := H7.out.cell (k := 0) (i := 5) rfl rfl
            have CX := ddecode X w7 (H7.out.lb HLB.out) (by omega)
            rw [HXD.out, dec_enc HGA.out] at CX
            have HCX : Hid (Calls Tryd.prog 21 #[.string X] w7 fun e w' => Below w7.heap.size w7 w' ∧ ∃ x1 p1, Recs (.slice x1 a.recs.length p1) a.recs w' ∧ e = .returned (.tuple #[.agg #[.int .i64 a.base, .int .i64 a.count, .int .i64 a.prod, .int .i64 a.seq, .int .i64 a.time, .slice x1 a.recs.length p1], .int .i64 0])) := CX.mono fun e w' h => ⟨h.1, by
              obtain ⟨-, v, hv, he⟩ := h
              have hv' := hv
              obtain ⟨x1, p1, rfl, -⟩ := hv'
              exact ⟨x1, p1, hv, he⟩⟩
            clear CX
            go_wp2_with fail
            refine HCX.out.mono ?_
            rintro e w8 ⟨b8, x1, p1, hr8, rfl⟩
            have hal : Below w8.heap.size w8 (w8.alloc (.cells #[.int .i64 a.base, .int .i64 a.count, .int .i64 a.prod, .int .i64 a.seq, .int .i64 a.time, .slice x1 a.recs.length p1] 24)) := (Below.refl _ _).alloc (Nat.le_refl _) _
            have h8 := (H7.out.below b8).below hal
            have CQ := dsame a a (.slice x1 a.recs.length p1) (.slice xa a.recs.length pa) _ (hr8.below hal) (GA.out.come.recs.below h8.low) (by omega) (by omega)
            rw [show Pl.sameB a a = true from Pl.sameB_iff.2 rfl] at CQ
            have HCQ := Lib.hid CQ
            have H8 := Lib.hid h8
            clear b8 hr8 hal h8 CQ HCX a0 a1 a2 a3 a4 a5
            have a0 := H8.out.cell (k := 0) (i := 0) rfl rfl
            have a1 := H8.out.cell (k := 0) (i := 1) rfl rfl
            have a2 := H8.out.cell (k := 0) (i := 2) rfl rfl
            have a3 := H8.out.cell (k := 0) (i := 3) rfl rfl
            have a4 := H8.out.cell (k := 0) (i := 4) rfl rfl
            have a5 := H8.out.cell (k := 0) (i := 5) rfl rfl
            go_wp2_with fail
            refine HCQ.out.mono ?_
            rintro e w9 ⟨rfl, b9⟩
            have H9 := Lib.hid (H8.out.below b9)
            clear b9 HCQ H8 a0 a1 a2 a3 a4 a5
            have CS := ddecode s w9 (H9.out.lb HLB.out) (by omega)
            cases hds : decB s.data.toList with
            | none =>
              rw [hds] at CS
              have HCS : Hid (Calls Tryd.prog 21 #[.string s] w9 fun e w' => Below w9.heap.size w9 w' ∧ e = .returned (.tuple #[.agg #[.int .i64 0, .int .i64 0, .int .i64 0, .int .i64 0, .int .i64 0, .slice none 0 0], .int .i64 3])) := CS
              clear CS hds
              go_wp2_with fail
              refine HCS.out.mono ?_
              rintro e y1 ⟨b1, rfl⟩
              have H91 := Lib.hid ((H9.out.below b1).more #[.int .i64 0, .int .i64 0, .int .i64 0, .int .i64 0, .int .i64 0, .slice none 0 0])
              have HSD := Lib.hid (dsame ⟨0, 0, 0, 0, 0, []⟩ ⟨0, 0, 0, 0, 0, []⟩ (.slice none 0 0) (.slice none 0 0) (y1.alloc (.cells #[.int .i64 0, .int .i64 0, .int .i64 0, .int .i64 0, .int .i64 0, .slice none 0 0] 24)) ⟨none, 0, rfl, fun j x hj => by simp at hj⟩ ⟨none, 0, rfl, fun j x hj => by simp at hj⟩ (by decide) (by decide))
              rw [show Pl.sameB ⟨0, 0, 0, 0, 0, []⟩ ⟨0, 0, 0, 0, 0, []⟩ = true from Pl.sameB_iff.2 rfl] at HSD
              clear b1 HCS
              go_wp2_with fail
              refine HSD.out.mono ?_
              rintro e y2 ⟨rfl, b2⟩
              go_wp2_with fail
              go_ret
              exact ⟨rfl, (H91.out.below b2).low⟩
            | some d =>
              rw [hds] at CS
              obtain ⟨hgd, hse⟩ := enc_dec hds
              have HCS : Hid (Calls Tryd.prog 21 #[.string s] w9 fun e w' => Below w9.heap.size w9 w' ∧ ∃ x1 p1, Recs (.slice x1 d.recs.length p1) d.recs w' ∧ e = .returned (.tuple #[.agg #[.int .i64 d.base, .int .i64 d.count, .int .i64 d.prod, .int .i64 d.seq, .int .i64 d.time, .slice x1 d.recs.length p1], .int .i64 0])) := CS.mono fun e w' h => ⟨h.1, by
                obtain ⟨-, v, hv, he⟩ := h
                have hv' := hv
                obtain ⟨x1, p1, rfl, -⟩ := hv'
                exact ⟨x1, p1, hv, he⟩⟩
              have HGD := Lib.hid hgd
              have HSE := Lib.hid hse
              have hd8 := (Pl.enc_short hgd).2.2
              clear CS hds hgd hse
              go_wp2_with fail
              refine HCS.out.mono ?_
              rintro e y1 ⟨b1, x1, p1, hr1, rfl⟩
              have hal : Below y1.heap.size y1 (y1.alloc (.cells #[.int .i64 d.base, .int .i64 d.count, .int .i64 d.prod, .int .i64 d.seq, .int .i64 d.time, .slice x1 d.recs.length p1] 24)) := (Below.refl _ _).alloc (Nat.le_refl _) _
              have h91 := (H9.out.below b1).below hal
              have CE := dencode d (.slice x1 d.recs.length p1) _ (h91.lb HLB.out) (hr1.below hal) (by omega)
              rw [HGD.out, if_pos rfl, ← HSE.out, show (⟨s.data.toList.toArray⟩ : ByteArray) = s by simp] at CE
              have HCE := Lib.hid CE
              have H91 := Lib.hid h91
              clear b1 hr1 hal h91 CE HCS
              go_wp2_with fail
              refine HCE.out.mono ?_
              rintro e y2 ⟨rfl, b2⟩
              go_wp2_with fail
              go_ret
              exact ⟨rfl, (H91.out.below b2).low⟩
          | true =>
            rw [hab] at CM
            have hxy := HXY.out
            rw [hab] at hxy
            have HCM := Lib.hid CM
            clear CM hab HXY
            go_wp2_with fail
            refine HCM.out.mono ?_
            rintro e w7 ⟨rfl, b7⟩
            have H7 := Lib.hid (H6.out.below b7)
            clear b7 HCM H6 a0 a1 a2 a3 a4 a5 b0 b1 b2 b3 b4 b5
            have a0 := H7.out.cell (k := 0) (i := 0) rfl rfl
            have a1 := H7.out.cell (k := 0) (i := 1) rfl rfl
            have a2 := H7.out.cell (k := 0) (i := 2) rfl rfl
            have a3 := H7.out.cell (k := 0) (i := 3) rfl rfl
            have a4 := H7.out.cell (k := 0) (i := 4) rfl rfl
            have a5 := H7.out.cell (k := 0) (i := 5) rfl rfl
            have CX := ddecode X w7 (H7.out.lb HLB.out) (by omega)
            rw [HXD.out, dec_enc HGA.out] at CX
            have HCX : Hid (Calls Tryd.prog 21 #[.string X] w7 fun e w' => Below w7.heap.size w7 w' ∧ ∃ x1 p1, Recs (.slice x1 a.recs.length p1) a.recs w' ∧ e = .returned (.tuple #[.agg #[.int .i64 a.base, .int .i64 a.count, .int .i64 a.prod, .int .i64 a.seq, .int .i64 a.time, .slice x1 a.recs.length p1], .int .i64 0])) := CX.mono fun e w' h => ⟨h.1, by
              obtain ⟨-, v, hv, he⟩ := h
              have hv' := hv
              obtain ⟨x1, p1, rfl, -⟩ := hv'
              exact ⟨x1, p1, hv, he⟩⟩
            clear CX
            go_wp2_with fail
            refine HCX.out.mono ?_
            rintro e w8 ⟨b8, x1, p1, hr8, rfl⟩
            have hal : Below w8.heap.size w8 (w8.alloc (.cells #[.int .i64 a.base, .int .i64 a.count, .int .i64 a.prod, .int .i64 a.seq, .int .i64 a.time, .slice x1 a.recs.length p1] 24)) := (Below.refl _ _).alloc (Nat.le_refl _) _
            have h8 := (H7.out.below b8).below hal
            have CQ := dsame a a (.slice x1 a.recs.length p1) (.slice xa a.recs.length pa) _ (hr8.below hal) (GA.out.come.recs.below h8.low) (by omega) (by omega)
            rw [show Pl.sameB a a = true from Pl.sameB_iff.2 rfl] at CQ
            have HCQ := Lib.hid CQ
            have H8 := Lib.hid h8
            clear b8 hr8 hal h8 CQ HCX a0 a1 a2 a3 a4 a5
            have a0 := H8.out.cell (k := 0) (i := 0) rfl rfl
            have a1 := H8.out.cell (k := 0) (i := 1) rfl rfl
            have a2 := H8.out.cell (k := 0) (i := 2) rfl rfl
            have a3 := H8.out.cell (k := 0) (i := 3) rfl rfl
            have a4 := H8.out.cell (k := 0) (i := 4) rfl rfl
            have a5 := H8.out.cell (k := 0) (i := 5) rfl rfl
            go_wp2_with fail
            refine HCQ.out.mono ?_
            rintro e w9 ⟨rfl, b9⟩
            have H9 := Lib.hid (H8.out.below b9)
            clear b9 HCQ H8 a0 a1 a2 a3 a4 a5
            have CS := ddecode s w9 (H9.out.lb HLB.out) (by omega)
            cases hds : decB s.data.toList with
            | none =>
              rw [hds] at CS
              have HCS : Hid (Calls Tryd.prog 21 #[.string s] w9 fun e w' => Below w9.heap.size w9 w' ∧ e = .returned (.tuple #[.agg #[.int .i64 0, .int .i64 0, .int .i64 0, .int .i64 0, .int .i64 0, .slice none 0 0], .int .i64 3])) := CS
              clear CS hds
              go_wp2_with fail
              refine HCS.out.mono ?_
              rintro e y1 ⟨b1, rfl⟩
              have H91 := Lib.hid ((H9.out.below b1).more #[.int .i64 0, .int .i64 0, .int .i64 0, .int .i64 0, .int .i64 0, .slice none 0 0])
              have HSD := Lib.hid (dsame ⟨0, 0, 0, 0, 0, []⟩ ⟨0, 0, 0, 0, 0, []⟩ (.slice none 0 0) (.slice none 0 0) (y1.alloc (.cells #[.int .i64 0, .int .i64 0, .int .i64 0, .int .i64 0, .int .i64 0, .slice none 0 0] 24)) ⟨none, 0, rfl, fun j x hj => by simp at hj⟩ ⟨none, 0, rfl, fun j x hj => by simp at hj⟩ (by decide) (by decide))
              rw [show Pl.sameB ⟨0, 0, 0, 0, 0, []⟩ ⟨0, 0, 0, 0, 0, []⟩ = true from Pl.sameB_iff.2 rfl] at HSD
              clear b1 HCS
              go_wp2_with fail
              refine HSD.out.mono ?_
              rintro e y2 ⟨rfl, b2⟩
              go_wp2_with fail
              go_ret
              exact ⟨rfl, (H91.out.below b2).low⟩
            | some d =>
              rw [hds] at CS
              obtain ⟨hgd, hse⟩ := enc_dec hds
              have HCS : Hid (Calls Tryd.prog 21 #[.string s] w9 fun e w' => Below w9.heap.size w9 w' ∧ ∃ x1 p1, Recs (.slice x1 d.recs.length p1) d.recs w' ∧ e = .returned (.tuple #[.agg #[.int .i64 d.base, .int .i64 d.count, .int .i64 d.prod, .int .i64 d.seq, .int .i64 d.time, .slice x1 d.recs.length p1], .int .i64 0])) := CS.mono fun e w' h => ⟨h.1, by
                obtain ⟨-, v, hv, he⟩ := h
                have hv' := hv
                obtain ⟨x1, p1, rfl, -⟩ := hv'
                exact ⟨x1, p1, hv, he⟩⟩
              have HGD := Lib.hid hgd
              have HSE := Lib.hid hse
              have hd8 := (Pl.enc_short hgd).2.2
              clear CS hds hgd hse
              go_wp2_with fail
              refine HCS.out.mono ?_
              rintro e y1 ⟨b1, x1, p1, hr1, rfl⟩
              have hal : Below y1.heap.size y1 (y1.alloc (.cells #[.int .i64 d.base, .int .i64 d.count, .int .i64 d.prod, .int .i64 d.seq, .int .i64 d.time, .slice x1 d.recs.length p1] 24)) := (Below.refl _ _).alloc (Nat.le_refl _) _
              have h91 := (H9.out.below b1).below hal
              have CE := dencode d (.slice x1 d.recs.length p1) _ (h91.lb HLB.out) (hr1.below hal) (by omega)
              rw [HGD.out, if_pos rfl, ← HSE.out, show (⟨s.data.toList.toArray⟩ : ByteArray) = s by simp] at CE
              have HCE := Lib.hid CE
              have H91 := Lib.hid h91
              clear b1 hr1 hal h91 CE HCS
              go_wp2_with fail
              refine HCE.out.mono ?_
              rintro e y2 ⟨rfl, b2⟩
              go_wp2_with fail
              go_ret
              exact ⟨rfl, (H91.out.below b2).low⟩
end Go.Proofs.YthhlegfmikidpaaDoor
