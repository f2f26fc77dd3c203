import Derived.Test.YtdaoeplblkfapaaGreatDoorM04
import Derived.Test.YtdaoeplblkfapaaGreatDoorM01
import Derived.Test.YtdaoeplblkfapaaGreatDoorM06
import Derived.Test.YtdaoeplblkfapaaGreatDoorProg
import Derived.WalkKit
import Derived.WalkSpells
import Derived.WalkLawsBesides
import Derived.Handy
import Derived.Outline
import Derived.Lib.Hide
import Derived.Lib.Strings
import Derived.Laws.BitsAllLaws
import Derived.Below
import Derived.Deep.QuietTactic
import Derived.BigQuiet
import Derived.RegionTactic
import Derived.BigRegion
import Derived.Laws.BytesString
import Derived.WalkSmall
import Derived.Lib.SmallJoins

/- THE CONTRACTS OF crate.record and crate.Encode. -/
namespace Go.Proofs.YtdaoeplblkfapaaGreatDoor
open Go.RowKit

theorem wb (l : List UInt8) : (⟨l.toArray⟩ : ByteArray).data.toList = l := by simp
/-- The parts of a record's bytes. -/
def parts4 (A B C D : ByteArray) : List ByteArray := [A, B, C, D]
theorem encR_parts (x : Pl.Rc) : (108 : UInt8) :: (((parts4 ⟨(Pl.wInt x.off).toArray⟩ ⟨(Pl.wText x.key).toArray⟩ ⟨(Pl.wText x.val).toArray⟩ ⟨(Pl.wInt (Pl.goneN x.gone)).toArray⟩).map (·.data.toList)).flatten ++ [101]) = Pl.encR x := by
  simp [Pl.encR, parts4]

set_option maxHeartbeats 1000000 in
set_option maxRecDepth 100000 in
theorem drecord (x : Pl.Rc) (hx : Pl.recB x = true) (ho : 0 ≤ x.off ∧ x.off ≤ 1099511627776) (w : World) (lb : Lb w) :
    Calls Tryz.prog 158 #[.agg #[.int .i64 x.off, .string ⟨x.key.toArray⟩, .string ⟨x.val.toArray⟩, .bool x.gone]] w fun e w' => e = .returned (.string ⟨(Pl.encR x).toArray⟩) ∧ Below w.heap.size w w' := by
  obtain ⟨hk, hv, -⟩ := Pl.recB_iff.1 hx
  have hsh := Pl.encR_short hx ho.1 ho.2
  have hep := encR_parts x
  obtain ⟨o, kb, vb, gn⟩ := x
  simp only at ho hk hv hsh hep ⊢
  obtain ⟨K, hK⟩ : ∃ K : ByteArray, (⟨kb.toArray⟩ : ByteArray) = K := ⟨_, rfl⟩
  obtain ⟨V, hV⟩ : ∃ V : ByteArray, (⟨vb.toArray⟩ : ByteArray) = V := ⟨_, rfl⟩
  obtain ⟨I1, hI1⟩ : ∃ I : ByteArray, (⟨(Pl.wInt o).toArray⟩ : ByteArray) = I := ⟨_, rfl⟩
  obtain ⟨TK, hTK⟩ : ∃ I : ByteArray, (⟨(Pl.wText kb).toArray⟩ : ByteArray) = I := ⟨_, rfl⟩
  obtain ⟨TV, hTV⟩ : ∃ I : ByteArray, (⟨(Pl.wText vb).toArray⟩ : ByteArray) = I := ⟨_, rfl⟩
  obtain ⟨IG, hIG⟩ : ∃ I : ByteArray, (⟨(Pl.wInt (Pl.goneN gn)).toArray⟩ : ByteArray) = I := ⟨_, rfl⟩
  rw [hI1, hTK, hTV, hIG] at hep
  have hKs : K.size ≤ 281474976710656 := by rw [← hK, size_list]; omega
  have hVs : V.size ≤ 281474976710656 := by rw [← hV, size_list]; omega
  have cK : K.data.toList = kb := by rw [← hK]
  have cV : V.data.toList = vb := by rw [← hV]
  have hlen : ((parts4 I1 TK TV IG).map (·.data.toList)).flatten.length ≤ 281474976710656 := by
    have h := congrArg List.length hep
    simp only [List.length_cons, List.length_append] at h
    omega
  obtain ⟨R, hR⟩ : ∃ R : ByteArray, (⟨(Pl.encR ⟨o, kb, vb, gn⟩).toArray⟩ : ByteArray) = R := ⟨_, rfl⟩
  have HL : Hid (∀ (wx : World), Calls Tryz.prog 159 #[.slice (some ⟨wx.heap.size, 0, none⟩) 4 4] (wx.alloc (.cells #[.string I1, .string TK, .string TV, .string IG] 9)) fun e w' => e = .returned (.string R) ∧ Below wx.heap.size wx w') := fun wx => by
    have hb := Blk.new wx #[.string I1, .string TK, .string TV, .string IG] 9
    have hal : Below wx.heap.size wx (wx.alloc (.cells #[.string I1, .string TK, .string TV, .string IG] 9)) := (Below.refl _ _).alloc (Nat.le_refl _) _
    have C := bead_list wx.heap.size 0 4 (parts4 I1 TK TV IG) _ (fun j x hj => by
      refine hb.cell ?_
      rw [Nat.zero_add]
      match j, hj with
      | 0, hj => obtain rfl := Option.some.inj hj; rfl
      | 1, hj => obtain rfl := Option.some.inj hj; rfl
      | 2, hj => obtain rfl := Option.some.inj hj; rfl
      | 3, hj => obtain rfl := Option.some.inj hj; rfl
      | j + 4, hj => simp [parts4] at hj) hb.lt (show 4 ≤ 140737488355328 by decide) (Nat.le_refl 4) hlen
    rw [hep, hR] at C
    exact C.mono fun e w' ⟨he, hbw⟩ => ⟨he, hal.trans (hbw.mono hal.size)⟩
  rw [hK, hV, hR]
  have CI := fun (wx : World) (hx : Lb wx) => bead_int o (num_64 ho.1 ho.2) wx hx
  rw [hI1] at CI
  have CK := fun (wx : World) (hx : Lb wx) => bead_text K hKs wx hx
  rw [cK, hTK] at CK
  have CV := fun (wx : World) (hx : Lb wx) => bead_text V hVs wx hx
  rw [cV, hTV] at CV
  obtain ⟨gv, hgv⟩ : ∃ z, Pl.goneN gn = z := ⟨_, rfl⟩
  have CG := fun (wx : World) (hx : Lb wx) => bead_int gv (hgv ▸ goneN_64 gn) wx hx
  rw [← hgv, hIG, hgv] at CG
  have hw0 : Below w.heap.size w (w.alloc (.cells #[.int .i64 o, .string K, .string V, .bool gn] 75)) := (Below.refl _ _).alloc (Nat.le_refl _) _
  have hb0 := Blk.new w #[.int .i64 o, .string K, .string V, .bool gn] 75
  have lb0 := lb.below lb.size hw0
  obtain ⟨W0, hW0⟩ : ∃ W0, w.alloc (.cells #[.int .i64 o, .string K, .string V, .bool gn] 75) = W0 := ⟨_, rfl⟩
  rw [hW0] at hw0 hb0 lb0
  have HE := Lib.hid hW0
  have HW0 := Lib.hid hw0
  have hlbr : ∀ d os, Lb (Sort.grow (redrawn W0 d) os) := fun d os => lb0.below lb0.size (below_regrown W0 d os)
  have HC1 := Lib.hid fun d os => Calls.regrown_of (CI _ (hlbr d os))
  have HC2 := Lib.hid fun d os => Calls.regrown_of (CK _ (hlbr d os))
  have HC3 := Lib.hid fun d os => Calls.regrown_of (CV _ (hlbr d os))
  have HC4 := Lib.hid fun d os => Calls.regrown_of (CG _ (hlbr d os))
  have k0 := cell_regrown (hb0.cell (i := 0) rfl)
  have k1 := cell_regrown (hb0.cell (i := 1) rfl)
  have k2 := cell_regrown (hb0.cell (i := 2) rfl)
  have c3 := hb0.cell (i := 3) rfl
  have HGV := Lib.hid hgv
  clear hx ho hk hv hsh hep hK hV hI1 hTK hTV hIG hKs hVs cK cV hlen hR CI CK CV CG hw0 hb0 lb0 hW0 hlbr hgv lb
  cases gn with
  | true =>
    obtain rfl : gv = 1 := HGV.out.symm
    go_enter Tryz.func158, Tryz.ntmps158
    go_wp2_with fail
    rw [HE.out]
    refine wp_region_below_tail 11 (by kernel_rfl) (by kernel_rfl) ?_
    simp only [List.take_succ_cons, List.take_zero, List.drop_succ_cons, List.drop_zero]
    repeat (go_big_quiet_step (first | (go_at_call 157; with_reducible exact HC1.out _ _) | (go_at_call 157; with_reducible exact HC4.out _ _) | (go_at_call 191; with_reducible exact HC2.out _ _) | (go_at_call 191; with_reducible exact HC3.out _ _)))
    refine wpQuiet_nil ?_
    intro w1 hw1
    obtain ⟨⟨dq, osq⟩, hw1'⟩ := hw1
    have HB1 : Hid (Below W0.heap.size W0 w1) := by rw [hw1']; exact below_regrown W0 dq osq
    clear hw1' HC1 HC2 HC3 HC4 k0 k1 k2 c3
    go_wp2_with fail
    refine (HL.out w1).mono ?_
    rintro e w2 ⟨rfl, b2⟩
    go_wp2_with fail
    go_ret
    exact ⟨rfl, HW0.out.trans ((HB1.out.trans (b2.mono HB1.out.size)).mono HW0.out.size)⟩
  | false =>
    obtain rfl : gv = 0 := HGV.out.symm
    go_enter Tryz.func158, Tryz.ntmps158
    go_wp2_with fail
    rw [HE.out]
    refine wp_region_below_tail 11 (by kernel_rfl) (by kernel_rfl) ?_
    simp only [List.take_succ_cons, List.take_zero, List.drop_succ_cons, List.drop_zero]
    repeat (go_big_quiet_step (first | (go_at_call 157; with_reducible exact HC1.out _ _) | (go_at_call 157; with_reducible exact HC4.out _ _) | (go_at_call 191; with_reducible exact HC2.out _ _) | (go_at_call 191; with_reducible exact HC3.out _ _)))
    refine wpQuiet_nil ?_
    intro w1 hw1
    obtain ⟨⟨dq, osq⟩, hw1'⟩ := hw1
    have HB1 : Hid (Below W0.heap.size W0 w1) := by rw [hw1']; exact below_regrown W0 dq osq
    clear hw1' HC1 HC2 HC3 HC4 k0 k1 k2 c3
    go_wp2_with fail
    refine (HL.out w1).mono ?_
    rintro e w2 ⟨rfl, b2⟩
    go_wp2_with fail
    go_ret
    exact ⟨rfl, HW0.out.trans ((HB1.out.trans (b2.mono HB1.out.size)).mono HW0.out.size)⟩

theorem infoStr' : (Tryz.prog.info? 9).map (fun i => (i.zero, i.size, i.bytes)) = some (some (.string ByteArray.empty), 1, 16) := by kernel_rfl
theorem infoStr : ∃ i, Tryz.prog.info? 9 = some i ∧ i.zero = some (.string ByteArray.empty) ∧ i.size = 1 ∧ i.bytes = 16 := by
  have h := infoStr'
  cases hi : Tryz.prog.info? 9 with
  | none => rw [hi] at h; cases h
  | some i =>
    rw [hi] at h
    simp only [Option.map_some, Option.some.injEq, Prod.mk.injEq] at h
    exact ⟨i, rfl, h.1, h.2.1, h.2.2⟩
theorem nums_good {b : Pl.Bt} (h : Pl.goodB b = true) : ∀ z ∈ Pl.nums b, 0 ≤ z ∧ z ≤ 1099511627776 := by
  obtain ⟨h1, h2, h3, h4, h5, -, -⟩ := Pl.goodB_iff.1 h
  intro z hz
  simp only [Pl.nums, List.mem_cons, List.not_mem_nil, or_false] at hz
  rcases hz with rfl | rfl | rfl | rfl | rfl
  · exact h1
  · omega
  · exact h3
  · exact h4
  · exact h5
def strs (l : List (List UInt8)) : List Value := l.map fun s => .string ⟨s.toArray⟩
theorem strs_snoc (l : List (List UInt8)) (s : List UInt8) : strs (l ++ [s]) = strs l ++ [.string ⟨s.toArray⟩] := by simp [strs]
/-- The parts that have been appended stand in a row of the call's own. -/
def Parts (w : World) (base : Nat) (v : Value) (l : List (List UInt8)) : Prop := w.ownsRow base 9 1 v l.length (strs l)
theorem list_parts {w : World} {base : Nat} {v : Value} {l : List (List UInt8)} (hp : Parts w base v l) (hne : l.length ≠ 0) (hn : l.length ≤ 100) (hlen : l.flatten.length ≤ 281474976710656) :
    Calls Tryz.prog 159 #[v] w fun e w' => e = .returned (.string ⟨(108 :: (l.flatten ++ [101])).toArray⟩) ∧ Below w.heap.size w w' := by
  rcases hp.2 with ⟨-, h0⟩ | ⟨g, cap, cur, rfl, -, hg, hcap, -, -, ht⟩
  · exact absurd h0 hne
  · have hb : Blk w g cur 9 := hg
    have hml : (l.map fun s => (⟨s.toArray⟩ : ByteArray)).length = l.length := List.length_map ..
    have hfl : ((l.map fun s => (⟨s.toArray⟩ : ByteArray)).map (·.data.toList)) = l := by
      rw [List.map_map]
      simp [Function.comp_def]
    have C := bead_list g 0 cap (l.map fun s => (⟨s.toArray⟩ : ByteArray)) w (fun j x hj => by
      rw [Nat.zero_add]
      refine hb.cell ?_
      rw [← Array.getElem?_toList]
      have hjl : j < l.length := by rw [← hml]; exact (List.getElem?_eq_some_iff.1 hj).1
      have h1 : (strs l)[j]? = some (.string x) := by
        unfold strs
        rw [List.getElem?_map] at hj ⊢
        cases hl : l[j]? with
        | none => rw [hl] at hj; cases hj
        | some s => rw [hl] at hj; obtain rfl := Option.some.inj hj; rfl
      rw [← ht, List.getElem?_take_of_lt (by omega)] at h1
      exact h1) hb.lt (by rw [hml]; omega) (by rw [hml]; exact hcap) (by rw [hfl]; exact hlen)
    rw [hfl, hml] at C
    exact C
theorem enc_parts (b : Pl.Bt) : (108 : UInt8) :: (((Pl.nums b).map Pl.wInt ++ b.recs.map Pl.encR).flatten ++ [101]) = Pl.enc b := by
  simp [Pl.enc, Pl.nums, Pl.encRs]
theorem Parts.grown {w w' wa : World} {base : Nat} {v : Value} {l : List (List UInt8)} (hp : Parts wa base v l) (hb : Below base w wa) (hg : wa.grownBy w' v.ownBlock) (hs : base ≤ wa.heap.size) : Below base w w' :=
  ⟨hg.os.trans hb.os, hg.tape.trans hb.tape, hg.output.trans hb.output, Nat.le_trans hb.size hg.size, fun k hk => (hg.block k (by omega) (fun e => by have := (hp.lt k e.symm).1; omega)).trans (hb.block k hk)⟩

set_option maxHeartbeats 2000000 in
set_option maxRecDepth 100000 in
theorem dencode (b : Pl.Bt) (v : Value) (w : World) (lb : Lb w) (h : Recs v b.recs w) (hl : b.recs.length ≤ 1099511627776) :
    Calls Tryz.prog 122 #[.agg #[.int .i64 b.base, .int .i64 b.count, .int .i64 b.prod, .int .i64 b.seq, .int .i64 b.time, v]] w fun e w' =>
      e = (if Pl.goodB b = true then .returned (.tuple #[.string ⟨(Pl.enc b).toArray⟩, .int .i64 0]) else .returned (.tuple #[.string ⟨#[]⟩, .int .i64 1])) ∧ Below w.heap.size w w' := by
  obtain ⟨base, count, prod, seq, time, ls⟩ := b
  simp only at h hl ⊢
  have hb0 := Blk.new w #[.int .i64 base, .int .i64 count, .int .i64 prod, .int .i64 seq, .int .i64 time, v] 34
  have hw0 : Below w.heap.size w (w.alloc (.cells #[.int .i64 base, .int .i64 count, .int .i64 prod, .int .i64 seq, .int .i64 time, v] 34)) := (Below.refl _ _).alloc (Nat.le_refl _) _
  have lb0 := lb.below lb.size hw0
  have h0 := h.below hw0
  obtain ⟨W0, hW0⟩ : ∃ W0, w.alloc (.cells #[.int .i64 base, .int .i64 count, .int .i64 prod, .int .i64 seq, .int .i64 time, v] 34) = W0 := ⟨_, rfl⟩
  rw [hW0] at hb0 hw0 lb0 h0
  have HG := Lib.hid (dgood base count prod seq time ls v W0 lb0 h0 hl)
  have HE := Lib.hid hW0
  have HB0 := Lib.hid hb0
  have HW0 := Lib.hid hw0
  have HR0 := Lib.hid h0
  have HRW := Lib.hid h
  have HLB := Lib.hid lb
  have c0 := hb0.cell (i := 0) rfl
  have c1 := hb0.cell (i := 1) rfl
  have c2 := hb0.cell (i := 2) rfl
  have c3 := hb0.cell (i := 3) rfl
  have c4 := hb0.cell (i := 4) rfl
  have c5 := hb0.cell (i := 5) rfl
  clear hb0 hw0 lb0 h0 hW0 h lb
  cases hg : Pl.goodB ⟨base, count, prod, seq, time, ls⟩ with
  | false =>
    rw [hg] at HG
    rw [if_neg (by decide)]
    clear hg
    go_enter Tryz.func122, Tryz.ntmps122
    go_wp2_with fail
    rw [HE.out]
    refine HG.out.mono ?_
    rintro e w1 ⟨rfl, b1⟩
    go_wp2_with fail
    go_ret2
    exact ⟨rfl, HW0.out.trans (b1.mono HW0.out.size)⟩
  | true =>
    rw [hg] at HG
    rw [if_pos rfl]
    have HGD := Lib.hid hg
    clear hg
    go_enter Tryz.func122, Tryz.ntmps122
    go_wp2_with fail
    rw [HE.out]
    refine HG.out.mono ?_
    rintro e w1 ⟨rfl, b1⟩
    have HB1 := Lib.hid (HB0.out.below b1)
    have HW1 := Lib.hid (HW0.out.trans (b1.mono HW0.out.size))
    have HR1 := Lib.hid (HR0.out.below b1)
    clear b1 HB0 HW0 HR0 c0 c1 c2 c3 c4 c5 HG
    go_wp2_with fail
    refine (dnumbers _ _).mono ?_
    rintro e w2 ⟨rfl, n2, b2⟩
    have HB2 := Lib.hid (HB1.out.below b2)
    have HW2 := Lib.hid (HW1.out.trans (b2.mono HW1.out.size))
    have HR2 := Lib.hid (HR1.out.below b2)
    have HN2 := Lib.hid n2
    clear b2 n2 HB1 HR1
    go_wp2_with fail
    obtain ⟨i0, hi, hz0, hz1, hz2⟩ := infoStr
    go_loopw [4, 14] (fun pv iv wr => ∃ k : Nat, k ≤ 5 ∧ iv = .int .i64 k ∧ Parts wr w2.heap.size pv (((Pl.nums ⟨base, count, prod, seq, time, ls⟩).take k).map Pl.wInt) ∧ Below w2.heap.size w2 wr) (fun _ iv _ => 5 - (intOf iv).toNat)
    case atStart => exact ⟨0, Nat.zero_le _, rfl, World.ownsRow_nil _ _ _ _, Below.refl _ _⟩
    case round =>
      obtain ⟨k, hk, rfl, hparts, hb⟩ := hrel
      have HP := Lib.hid hparts
      have HB := Lib.hid hb
      have HB3 := Lib.hid (HB2.out.below hb)
      have HN3 := Lib.hid (HN2.out.below hb)
      have HW3 := Lib.hid (HW2.out.trans (hb.mono HW2.out.size))
      clear hparts hb
      by_cases hlt : k < 5
      · obtain ⟨z, hz⟩ : ∃ z, (Pl.nums ⟨base, count, prod, seq, time, ls⟩)[k]? = some z := ⟨_, List.getElem?_eq_getElem hlt⟩
        have p0 := HN3.out.cell (five_at w.heap.size k hlt)
        have p1 := nums_cell (ls := ls) HB3.out k z hz
        have hz2' : 0 ≤ z ∧ z ≤ 1099511627776 := nums_good HGD.out z (List.mem_of_getElem? hz)
        have CI := bead_int z (num_64 hz2'.1 hz2'.2) wr (HLB.out.below HLB.out.size HW3.out)
        obtain ⟨I, hI⟩ : ∃ I : ByteArray, (⟨(Pl.wInt z).toArray⟩ : ByteArray) = I := ⟨_, rfl⟩
        rw [hI] at CI
        have HCI := Lib.hid CI
        have hki : (k : Int) < 5 := by omega
        obtain ⟨PL, hPL⟩ : ∃ l, ((Pl.nums ⟨base, count, prod, seq, time, ls⟩).take k).map Pl.wInt = l := ⟨_, rfl⟩
        have HST : Hid (((Pl.nums ⟨base, count, prod, seq, time, ls⟩).take (k + 1)).map Pl.wInt = PL ++ [Pl.wInt z]) := by
          show _ = _
          rw [List.take_add_one, hz, ← hPL]
          simp
        have HLN : Hid (PL.length = k) := by
          show _ = _
          rw [← hPL, List.length_map, List.length_take]
          show min k 5 = k
          omega
        rw [hPL] at HP
        have HI := Lib.hid hI
        clear hz hz2' CI hI hPL
        go_wp2_with fail
        refine HCI.out.mono ?_
        rintro e w3 ⟨rfl, b3⟩
        have HP3 := Lib.hid (own_below (own_below HP.out b3) ((Below.refl w3.heap.size w3).alloc (Nat.le_refl _) (.cells #[.string I] 9)))
        have HB4 := Lib.hid ((HB.out.trans (b3.mono HB.out.size)).alloc (Nat.le_trans HB.out.size b3.size) (.cells #[.string I] 9))
        clear b3 HCI p0 p1
        go_wp2_with (at_builtin; refine wpList_append_own _ rfl _ _ 49 rfl w2.heap.size 9 i0 (.string ByteArray.empty) 1 16 Tryz.underlying49 hi hz0 hz1 hz2 rfl (by decide) _ _ _ rfl HP3.out ⟨w3.heap.size, 0, none⟩ 1 1 [.string I] rfl rfl ?c1 ?c2 ?c3 ?c4 ?c5 ?_)
        case c1 =>
          intro j u hj
          match j, hj with
          | 0, hj => obtain rfl := Option.some.inj hj; exact (Blk.new w3 #[.string I] 9).cell (i := 0) rfl
          | j + 1, hj => simp at hj
        case c2 =>
          intro u hu
          obtain rfl := List.mem_singleton.1 hu
          rfl
        case c3 => rw [HLN.out]; unfold maxLen; omega
        case c4 => rw [HLN.out]; omega
        case c5 => exact HB4.out.size
        intro v' w5 hown5 hgrow5 _
        have HB5 := Lib.hid (Parts.grown HP3.out HB4.out hgrow5 HB4.out.size)
        have HO5 : Hid (Parts w5 w2.heap.size v' (((Pl.nums ⟨base, count, prod, seq, time, ls⟩).take (k + 1)).map Pl.wInt)) := by
          unfold Parts
          rw [HST.out, strs_snoc, List.length_append, HI.out]
          exact hown5
        clear hown5 hgrow5
        go_wp2_with fail
        go_roundw
        case rel => exact ⟨k + 1, by omega, by go_num, HO5.out, HB5.out⟩
        case measure => simp [intOf]; omega
      · obtain rfl : k = 5 := by omega
        have HP5 : Hid (Parts wr w2.heap.size u4 ((Pl.nums ⟨base, count, prod, seq, time, ls⟩).map Pl.wInt)) := HP.out
        have c5 := HB3.out.cell (i := 5) rfl
        clear HP
        obtain ⟨a, cap, rfl, hcell⟩ := HRW.out
        obtain ⟨m, hm⟩ : ∃ m, ls.length = m := ⟨_, rfl⟩
        rw [hm] at hl c5
        have HM := Lib.hid hm
        have HC := Lib.hid hcell
        have hm8 : m ≤ 8 := by rw [← hm]; exact (Pl.enc_short HGD.out).2.2
        clear hm hcell
        have HRG := Lib.hid (Pl.good_recs HGD.out)
        go_wp2_with fail
        clear c5 HRW HB3 HN3 HB2 HN2 HR2
        go_loopw [4, 29] (fun pv iv wr => ∃ k : Nat, k ≤ m ∧ iv = .int .i64 k ∧ Parts wr w2.heap.size pv ((Pl.nums ⟨base, count, prod, seq, time, ls⟩).map Pl.wInt ++ (ls.take k).map Pl.encR) ∧ Below w2.heap.size w2 wr) (fun _ iv _ => m - (intOf iv).toNat)
        case atStart => exact ⟨0, Nat.zero_le _, rfl, by rw [List.take_zero, List.map_nil, List.append_nil]; exact HP5.out, HB.out⟩
        case round =>
          clear HP5
          obtain ⟨k, hk, rfl, hparts, hb⟩ := hrel
          have HP := Lib.hid hparts
          have HBW := Lib.hid hb
          have HWR := Lib.hid (HW2.out.trans (hb.mono HW2.out.size))
          clear hparts hb
          by_cases hlt : k < m
          · obtain ⟨x, hx⟩ : ∃ x, ls[k]? = some x := ⟨_, List.getElem?_eq_getElem (by rw [HM.out]; exact hlt)⟩
            obtain ⟨b, off, rfl, hbl, c0, c1, c2, c3⟩ := HC.out k x hx
            have e : ∀ o, World.cell? _ ⟨b, o, none⟩ = w.cell? ⟨b, o, none⟩ := fun o => HWR.out.cell (p := ⟨b, o, none⟩) hbl
            rw [← e] at c0 c1 c2 c3
            obtain ⟨hx1, hx2, hx3⟩ := HRG.out x (List.mem_of_getElem? hx)
            have hxs := Pl.encR_short hx1 hx2 hx3
            rename World => wq
            have hal : Below wq.heap.size wq (wq.alloc (.cells #[.int .i64 x.off, .string ⟨x.key.toArray⟩, .string ⟨x.val.toArray⟩, .bool x.gone] 75)) := (Below.refl _ _).alloc (Nat.le_refl _) _
            have CR := drecord x hx1 ⟨hx2, hx3⟩ _ (HLB.out.below HLB.out.size (HWR.out.trans (hal.mono HWR.out.size)))
            obtain ⟨I, hI⟩ : ∃ I : ByteArray, (⟨(Pl.encR x).toArray⟩ : ByteArray) = I := ⟨_, rfl⟩
            rw [hI] at CR
            have HCR := Lib.hid CR
            obtain ⟨PL, hPL⟩ : ∃ l, (Pl.nums ⟨base, count, prod, seq, time, ls⟩).map Pl.wInt ++ (ls.take k).map Pl.encR = l := ⟨_, rfl⟩
            have HST : Hid ((Pl.nums ⟨base, count, prod, seq, time, ls⟩).map Pl.wInt ++ (ls.take (k + 1)).map Pl.encR = PL ++ [Pl.encR x]) := by
              show _ = _
              rw [List.take_add_one, hx, ← hPL]
              simp
            have HLN : Hid (PL.length = 5 + k) := by
              show _ = _
              rw [← hPL, List.length_append, List.length_map, List.length_map, List.length_take, HM.out]
              show 5 + min k m = 5 + k
              omega
            rw [hPL] at HP
            have HAL := Lib.hid hal
            have HI := Lib.hid hI
            clear e hbl hx hx1 hx2 hx3 hxs hal CR hI hPL
            go_wp2_with fail
            refine HCR.out.mono ?_
            rintro e w3 ⟨rfl, b3⟩
            have hq := HAL.out.trans (b3.mono HAL.out.size)
            have HP3 := Lib.hid (own_below (own_below HP.out hq) ((Below.refl w3.heap.size w3).alloc (Nat.le_refl _) (.cells #[.string I] 9)))
            have HB4 := Lib.hid ((HBW.out.trans (hq.mono HBW.out.size)).alloc (Nat.le_trans HBW.out.size hq.size) (.cells #[.string I] 9))
            clear b3 hq HCR c0 c1 c2 c3
            go_wp2_with (at_builtin; refine wpList_append_own _ rfl _ _ 49 rfl w2.heap.size 9 i0 (.string ByteArray.empty) 1 16 Tryz.underlying49 hi hz0 hz1 hz2 rfl (by decide) _ _ _ rfl HP3.out ⟨w3.heap.size, 0, none⟩ 1 1 [.string I] rfl rfl ?c1 ?c2 ?c3 ?c4 ?c5 ?_)
            case c1 =>
              intro j u hj
              match j, hj with
              | 0, hj => obtain rfl := Option.some.inj hj; exact (Blk.new w3 #[.string I] 9).cell (i := 0) rfl
              | j + 1, hj => simp at hj
            case c2 =>
              intro u hu
              obtain rfl := List.mem_singleton.1 hu
              rfl
            case c3 => rw [HLN.out]; unfold maxLen; omega
            case c4 => rw [HLN.out]; omega
            case c5 => exact HB4.out.size
            intro v' w5 hown5 hgrow5 _
            have HB5 := Lib.hid (Parts.grown HP3.out HB4.out hgrow5 HB4.out.size)
            have HO5 : Hid (Parts w5 w2.heap.size v' ((Pl.nums ⟨base, count, prod, seq, time, ls⟩).map Pl.wInt ++ (ls.take (k + 1)).map Pl.encR)) := by
              unfold Parts
              rw [HST.out, strs_snoc, List.length_append, HI.out]
              exact hown5
            clear hown5 hgrow5
            go_wp2_with fail
            go_roundw
            case rel => exact ⟨k + 1, by omega, by go_num, HO5.out, HB5.out⟩
            case measure => simp [intOf]; omega
          · obtain rfl : k = m := by omega
            have hp := HP.out
            rw [List.take_of_length_le (by rw [HM.out]; exact Nat.le_refl _)] at hp
            have hl5 : ((Pl.nums ⟨base, count, prod, seq, time, ls⟩).map Pl.wInt ++ ls.map Pl.encR).length = 5 + k := by
              rw [List.length_append, List.length_map, List.length_map, HM.out]
              rfl
            have hep := enc_parts ⟨base, count, prod, seq, time, ls⟩
            have hsh := (Pl.enc_short HGD.out).1
            have C := list_parts hp (by rw [hl5]; omega) (by rw [hl5]; omega) (by
              have h := congrArg List.length hep
              simp only [List.length_cons, List.length_append] at h
              simp only at hsh
              rw [HM.out] at hsh
              omega)
            rw [hep] at C
            have HCL := Lib.hid C
            clear hp hl5 hep hsh C HP
            go_wp2_with fail
            refine HCL.out.mono ?_
            rintro e w6 ⟨rfl, b6⟩
            go_wp2_with fail
            go_ret2
            exact ⟨rfl, HWR.out.trans (b6.mono HWR.out.size)⟩
end Go.Proofs.YtdaoeplblkfapaaGreatDoor

/- THE CONTRACTS OF Sum, the program's and the document's. -/
namespace Go.Proofs.YtdaoeplblkfapaaGreatDoor.Fr
open Go.RowKit

/-- A register as the walk's number. -/
def U (r : BitVec 32) : Int := (r.toNat : Int)
theorem U_nonneg (r : BitVec 32) : 0 ≤ U r := Int.natCast_nonneg _
theorem U_lt (r : BitVec 32) : U r < 4294967296 := by have := r.isLt; unfold U; omega

theorem bits_xor (a b : BitVec 32) : bits .xor .u32 (U a) (U b) = U (a ^^^ b) := by
  unfold U
  rw [u32_xor_nat _ _ a.isLt b.isLt, BitVec.toNat_xor]
theorem bits_and (a b : BitVec 32) : bits .and .u32 (U a) (U b) = U (a &&& b) := by
  unfold U
  rw [u32_and_nat _ _ a.isLt b.isLt, BitVec.toNat_and]
theorem U_of (n : Nat) (h : n < 4294967296) : (n : Int) = U (BitVec.ofNat 32 n) := by
  unfold U
  rw [BitVec.toNat_ofNat, Nat.mod_eq_of_lt h]
theorem U_word8 (r : BitVec 32) (b : UInt8) : bits .xor .u32 (U r) ((b.toNat : Int) % 4294967296) = U (r ^^^ Pl.word8 b) := by
  have hb : b.toNat < 256 := b.toNat_lt
  rw [show (b.toNat : Int) % 4294967296 = (b.toNat : Int) by omega, U_of _ (show b.toNat < 4294967296 by omega), bits_xor]
  rfl
theorem take_snoc (s : ByteArray) (k : Nat) (h : k < s.size) : s.data.toList.take (k + 1) = s.data.toList.take k ++ [s[k]] := by
  rw [List.take_succ_eq_append_getElem (by simpa using h)]; rfl
theorem U_and1 (x : BitVec 32) : bits .and .u32 (U x) 1 = ((x.toNat % 2 : Nat) : Int) := by
  rw [show (1 : Int) = U 1#32 from rfl, bits_and]
  unfold U
  rw [BitVec.toNat_and, show (1#32).toNat = 1 from rfl, Nat.and_one_is_mod]
theorem U_half (x : BitVec 32) : (U x) / (2 : Int) = U (BitVec.ushiftRight x 1) := by
  show U x / 2 = U (x >>> 1)
  unfold U
  rw [BitVec.toNat_ushiftRight, Nat.shiftRight_eq_div_pow]
  omega
theorem U_sh (x : BitVec 32) : bits BinOp.xor IntKind.u32 (U x / 2) (bits BinOp.and IntKind.u32 3988292384 (-bits BinOp.and IntKind.u32 (U x) 1 % 4294967296)) = U (Pl.sh x) := by
  rw [U_and1, U_half, Pl.sh_nat]
  show bits BinOp.xor IntKind.u32 (U (x >>> 1)) _ = _
  rcases Nat.mod_two_eq_zero_or_one x.toNat with h | h
  · rw [h, if_neg (by decide), show (-((0 : Nat) : Int) % 4294967296) = U 0#32 from rfl, show (3988292384 : Int) = U Pl.P from rfl, bits_and, bits_xor, BitVec.and_zero, BitVec.xor_zero]
  · rw [h, if_pos rfl, show (-((1 : Nat) : Int) % 4294967296) = U (BitVec.allOnes 32) from rfl, show (3988292384 : Int) = U Pl.P from rfl, bits_and, bits_xor, BitVec.and_allOnes]
theorem U_not (x : BitVec 32) : bits .xor .u32 4294967295 (U x) = U (~~~ x) := by
  rw [show (4294967295 : Int) = U (BitVec.allOnes 32) from rfl, bits_xor, BitVec.allOnes_xor]
theorem U_not' (x : BitVec 32) : bits .xor .u32 (U x) 4294967295 = U (~~~ x) := by
  rw [show (4294967295 : Int) = U (BitVec.allOnes 32) from rfl, bits_xor, BitVec.xor_allOnes]
theorem U_end {s : ByteArray} {k : Nat} {r : BitVec 32} (hlt : ¬ k < s.size) (h : Pl.regs (s.data.toList.take k) (BitVec.allOnes 32) = r) : bits .xor .u32 IntKind.u32.max (U r) = U (Pl.sum s.data.toList) := by
  rw [List.take_of_length_le (by have : s.data.toList.length = s.size := (Lib.size_eq s).symm; omega)] at h
  rw [show IntKind.u32.max = 4294967295 from rfl, U_not, Pl.sum, h]
theorem U_end' {s : ByteArray} {k : Nat} {r : BitVec 32} (hlt : ¬ k < s.size) (h : Pl.regs (s.data.toList.take k) (BitVec.allOnes 32) = r) : bits .xor .u32 (U r) 4294967295 = U (Pl.sum s.data.toList) := by
  rw [List.take_of_length_le (by have : s.data.toList.length = s.size := (Lib.size_eq s).symm; omega)] at h
  rw [U_not', Pl.sum, h]
theorem U_bit (b : UInt8) (j : Nat) : bits BinOp.and IntKind.u32 ((b.toNat : Int) / 2 ^ j % 4294967296) 1 = ((Pl.bit b j : Nat) : Int) := by
  have hb : b.toNat < 256 := b.toNat_lt
  have hq : b.toNat / 2 ^ j < 256 := Nat.lt_of_le_of_lt (Nat.div_le_self _ _) hb
  have e : (b.toNat : Int) / 2 ^ j = ((b.toNat / 2 ^ j : Nat) : Int) := by
    rw [Int.natCast_ediv, Int.natCast_pow]; rfl
  unfold Pl.bit
  rw [e]
  revert hq
  generalize b.toNat / 2 ^ j = q
  intro hq
  rw [show (q : Int) % 4294967296 = (q : Int) by omega, U_of _ (show q < 4294967296 by omega), U_and1, BitVec.toNat_ofNat, Nat.mod_eq_of_lt (show q < 2 ^ 32 by omega)]
theorem U_bit1 {b : UInt8} {j : Nat} {x : BitVec 32} (h : (bits BinOp.and IntKind.u32 ((b.toNat : Int) / 2 ^ j % 4294967296) 1 != bits BinOp.and IntKind.u32 (U x) 1) = true) : bits BinOp.xor IntKind.u32 (U x / 2) 3988292384 = U (if Pl.bit b j = x.toNat % 2 then x >>> 1 else x >>> 1 ^^^ Pl.P) := by
  rw [U_bit, U_and1] at h
  simp only [bne_iff_ne, ne_eq, Int.natCast_inj] at h
  rw [if_neg h, U_half, show (3988292384 : Int) = U Pl.P from rfl, bits_xor]
  rfl
theorem U_bit0 {b : UInt8} {j : Nat} {x : BitVec 32} (h : (bits BinOp.and IntKind.u32 ((b.toNat : Int) / 2 ^ j % 4294967296) 1 != bits BinOp.and IntKind.u32 (U x) 1) = false) : (U x) / (2 : Int) = U (if Pl.bit b j = x.toNat % 2 then x >>> 1 else x >>> 1 ^^^ Pl.P) := by
  rw [U_bit, U_and1] at h
  simp only [bne_eq_false_iff_eq, Int.natCast_inj] at h
  rw [if_pos h]
  exact U_half x

set_option maxHeartbeats 1000000 in
set_option maxRecDepth 100000 in
theorem sum_any (s : ByteArray) (w : World) (hs : s.size ≤ 140737488355328) :
    Calls Tryz.prog 161 #[.string s] w fun e w' => e = .returned (.int .u32 (U (Pl.sum s.data.toList))) ∧ w = w' := by
  go_enter Tryz.func161, Tryz.ntmps161
  go_wp2
  go_loop [3, 7] (fun r i => ∃ k : Nat, k ≤ s.size ∧ i = .int .i64 k ∧ r = .int .u32 (U (Pl.regs (s.data.toList.take k) (BitVec.allOnes 32)))) (fun _ i => s.size - (intOf i).toNat)
  case atStart => exact ⟨0, Nat.zero_le _, rfl, rfl⟩
  case round =>
    obtain ⟨k, hk, rfl, rfl⟩ := hrel
    obtain ⟨r, hr⟩ : ∃ r, Pl.regs (s.data.toList.take k) (BitVec.allOnes 32) = r := ⟨_, rfl⟩
    have HR := Lib.hid hr
    rw [hr]
    clear hr
    have u0 := U_nonneg r
    have u1 := U_lt r
    by_cases hlt : k < s.size
    · have hx : bits BinOp.xor IntKind.u32 (U r) ((s[k].toNat : Int) % 4294967296) = U (r ^^^ Pl.word8 s[k]) := U_word8 r s[k]
      go_wp2
      clear hx u0 u1
      obtain ⟨q, hq⟩ : ∃ q, r ^^^ Pl.word8 s[k] = q := ⟨_, rfl⟩
      have HQ := Lib.hid hq
      rw [hq]
      clear hq
      go_loop [3, 16] (fun r i => ∃ j : Nat, j ≤ 8 ∧ i = .int .i64 j ∧ r = .int .u32 (U (Pl.shn j q))) (fun _ i => 8 - (intOf i).toNat)
      case atStart => exact ⟨0, by omega, rfl, rfl⟩
      case round =>
        obtain ⟨j, hj, rfl, rfl⟩ := hrel
        obtain ⟨x, hx⟩ : ∃ x, Pl.shn j q = x := ⟨_, rfl⟩
        have HX := Lib.hid hx
        rw [hx]
        clear hx
        have u0 := U_nonneg x
        by_cases hlt8 : j < 8
        · go_wp2
          go_round
          case rel => exact ⟨j + 1, by omega, by go_num, by rw [U_sh, Pl.shn_succ, HX.out]⟩
          case measure => simp [intOf]; omega
        · go_wp2
          go_round
          case rel => exact ⟨k + 1, by omega, by go_num, by
            obtain rfl : j = 8 := by omega
            rw [take_snoc s k hlt, Pl.regs_append, HR.out, ← HX.out, ← HQ.out]
            rfl⟩
          case measure => simp [intOf]; omega
    · clear u1
      go_wp2
      go_ret
      exact ⟨congrArg (fun z => Ending.returned (.int .u32 z)) (U_end hlt HR.out), rfl⟩

set_option maxHeartbeats 1000000 in
set_option maxRecDepth 100000 in
theorem rsum_any (s : ByteArray) (w : World) (hs : s.size ≤ 140737488355328) :
    Calls Tryz.prog 103 #[.string s] w fun e w' => e = .returned (.int .u32 (U (Pl.sum s.data.toList))) ∧ w = w' := by
  go_enter Tryz.func103, Tryz.ntmps103
  go_wp2
  go_loop [3, 4] (fun r i => ∃ k : Nat, k ≤ s.size ∧ i = .int .i64 k ∧ r = .int .u32 (U (Pl.regs (s.data.toList.take k) (BitVec.allOnes 32)))) (fun _ i => s.size - (intOf i).toNat)
  case atStart => exact ⟨0, Nat.zero_le _, rfl, rfl⟩
  case round =>
    obtain ⟨k, hk, rfl, rfl⟩ := hrel
    obtain ⟨r, hr⟩ : ∃ r, Pl.regs (s.data.toList.take k) (BitVec.allOnes 32) = r := ⟨_, rfl⟩
    have HR := Lib.hid hr
    rw [hr]
    clear hr
    by_cases hlt : k < s.size
    · go_wp2
      go_loop [3, 5] (fun r' i => ∃ j : Nat, j ≤ 8 ∧ i = .int .i64 j ∧ r' = .int .u32 (U (Pl.rk r s[k] j))) (fun _ i => 8 - (intOf i).toNat)
      case atStart => exact ⟨0, by omega, rfl, rfl⟩
      case round =>
        obtain ⟨j, hj, rfl, rfl⟩ := hrel
        obtain ⟨x, hx⟩ : ∃ x, Pl.rk r s[k] j = x := ⟨_, rfl⟩
        have HX := Lib.hid hx
        rw [hx]
        clear hx
        have u0 := U_nonneg x
        by_cases hlt8 : j < 8
        · go_wp2
          · go_round
            case rel => exact ⟨j + 1, by omega, by go_num, by rw [U_bit1 ‹_›, ← HX.out]; rfl⟩
            case measure => simp [intOf]; omega
          · go_round
            case rel => exact ⟨j + 1, by omega, by go_num, congrArg (Value.int .u32) ((U_bit0 ‹_›).trans (by rw [← HX.out]; rfl))⟩
            case measure => simp [intOf]; omega
        · go_wp2
          go_round
          case rel => exact ⟨k + 1, by omega, by go_num, by
            obtain rfl : j = 8 := by omega
            rw [take_snoc s k hlt, Pl.regs_append, HR.out, ← HX.out, Pl.rk_byS]
            rfl⟩
          case measure => simp [intOf]; omega
    · go_wp2
      go_ret
      exact ⟨congrArg (fun z => Ending.returned (.int .u32 z)) (U_end' hlt HR.out), rfl⟩
end Go.Proofs.YtdaoeplblkfapaaGreatDoor.Fr

/- THE CONTRACTS OF THE NUMBERS OF FOUR BYTES: split, first, number; four, read. -/
namespace Go.Proofs.YtdaoeplblkfapaaGreatDoor.Fr
open Go.RowKit

theorem below_drewN {B : Nat} (w : World) (n : Nat) : Below B w (w.drewN n) := ⟨rfl, rfl, rfl, Nat.le_refl _, fun _ _ => rfl⟩

/-- A slice over four bytes as a text. -/
theorem conv4 (wx : World) (b : Nat) (n0 n1 n2 n3 : Int) (h0 : wx.cell? ⟨b, 0, none⟩ = some (.int .u8 n0)) (h1 : wx.cell? ⟨b, 1, none⟩ = some (.int .u8 n1)) (h2 : wx.cell? ⟨b, 2, none⟩ = some (.int .u8 n2)) (h3 : wx.cell? ⟨b, 3, none⟩ = some (.int .u8 n3)) :
    (convert 90 9 (.slice (some ⟨b, 0, none⟩) 4 4)).run Tryz.prog wx = .ok (.string ⟨#[UInt8.ofNat n0.toNat, UInt8.ofNat n1.toNat, UInt8.ofNat n2.toNat, UInt8.ofNat n3.toNat]⟩) wx := by
  rw [run_convert_bytes_string wx _ _ 5 _ _ _ Tryz.underlying90 Tryz.underlying5 Tryz.underlying9,
    run_bytesToString wx ⟨b, 0, none⟩ 4 4 [n0, n1, n2, n3] (run_loadCells_list wx ⟨b, 0, none⟩ [.int .u8 n0, .int .u8 n1, .int .u8 n2, .int .u8 n3] (fun j v hv => by
      match j, hv with
      | 0, hv => obtain rfl := Option.some.inj hv; exact h0
      | 1, hv => obtain rfl := Option.some.inj hv; exact h1
      | 2, hv => obtain rfl := Option.some.inj hv; exact h2
      | 3, hv => obtain rfl := Option.some.inj hv; exact h3
      | j + 4, hv => simp at hv))]
  rfl
theorem cells_four (w : World) (x0 x1 x2 x3 : Value) (T : TypeId) : (w.alloc (.cells #[x0, x1, x2, x3] T)).cell? ⟨w.heap.size, 0, none⟩ = some x0 ∧ (w.alloc (.cells #[x0, x1, x2, x3] T)).cell? ⟨w.heap.size, 1, none⟩ = some x1 ∧ (w.alloc (.cells #[x0, x1, x2, x3] T)).cell? ⟨w.heap.size, 2, none⟩ = some x2 ∧ (w.alloc (.cells #[x0, x1, x2, x3] T)).cell? ⟨w.heap.size, 3, none⟩ = some x3 := by
  have h := heap_alloc_new w (.cells #[x0, x1, x2, x3] T)
  refine ⟨?_, ?_, ?_, ?_⟩ <;> (unfold World.cell?; rw [h]; rfl)
theorem le_of_U (v : BitVec 32) : (⟨#[UInt8.ofNat (U v % 256).toNat, UInt8.ofNat (U v / 256 % 256).toNat, UInt8.ofNat (U v / 65536 % 256).toNat, UInt8.ofNat (U v / 16777216 % 256).toNat]⟩ : ByteArray) = ⟨(Pl.le v).toArray⟩ := by
  unfold Pl.le U
  rw [show ((v.toNat : Int) % 256).toNat = v.toNat % 256 by omega, show ((v.toNat : Int) / 256 % 256).toNat = v.toNat / 256 % 256 by omega, show ((v.toNat : Int) / 65536 % 256).toNat = v.toNat / 65536 % 256 by omega, show ((v.toNat : Int) / 16777216 % 256).toNat = v.toNat / 16777216 % 256 by omega]
theorem num_or (a b c d : UInt8) : bits BinOp.or IntKind.u32 (bits BinOp.or IntKind.u32 (bits BinOp.or IntKind.u32 ((a.toNat : Int) % 4294967296) ((b.toNat : Int) % 4294967296 * 256 % 4294967296)) ((c.toNat : Int) % 4294967296 * 65536 % 4294967296)) ((d.toNat : Int) % 4294967296 * 16777216 % 4294967296) = U (BitVec.ofNat 32 (Pl.num a.toNat b.toNat c.toNat d.toNat)) := by
  have ha : a.toNat < 256 := a.toNat_lt
  have hb : b.toNat < 256 := b.toNat_lt
  have hc : c.toNat < 256 := c.toNat_lt
  have hd : d.toNat < 256 := d.toNat_lt
  rw [show (a.toNat : Int) % 4294967296 = (a.toNat : Int) by omega, show (b.toNat : Int) % 4294967296 * 256 % 4294967296 = ((b.toNat * 256 : Nat) : Int) by omega, show (c.toNat : Int) % 4294967296 * 65536 % 4294967296 = ((c.toNat * 65536 : Nat) : Int) by omega, show (d.toNat : Int) % 4294967296 * 16777216 % 4294967296 = ((d.toNat * 16777216 : Nat) : Int) by omega]
  rw [u32_or_nat _ _ (by omega) (by omega), Nat.or_comm, nat_join 8 _ _ (by omega) (by omega)]
  rw [u32_or_nat _ _ (by omega) (by omega), Nat.or_comm, nat_join 16 _ _ (by omega) (by omega)]
  rw [u32_or_nat _ _ (by omega) (by omega), Nat.or_comm, nat_join 24 _ _ (by omega) (by omega)]
  rw [show d.toNat * 16777216 + (c.toNat * 65536 + (b.toNat * 256 + a.toNat)) = Pl.num a.toNat b.toNat c.toNat d.toNat by unfold Pl.num; omega]
  exact U_of _ (by unfold Pl.num; omega)
theorem num_sum (a b c d : UInt8) : (((a.toNat : Int) + (b.toNat : Int) % 4294967296 * 256 + (c.toNat : Int) % 4294967296 * 65536) % 4294967296 + (d.toNat : Int) % 4294967296 * 16777216 % 4294967296) % 4294967296 = U (BitVec.ofNat 32 (Pl.num a.toNat b.toNat c.toNat d.toNat)) := by
  have ha : a.toNat < 256 := a.toNat_lt
  have hb : b.toNat < 256 := b.toNat_lt
  have hc : c.toNat < 256 := c.toNat_lt
  have hd : d.toNat < 256 := d.toNat_lt
  rw [← U_of _ (by unfold Pl.num; omega)]
  unfold Pl.num
  omega

set_option maxHeartbeats 1000000 in
set_option maxRecDepth 100000 in
theorem split_any (z : Int) (_u0 : 0 ≤ z) (w : World) :
    Calls Tryz.prog 160 #[.int .u32 z] w fun e w' => e = .returned (.agg #[.int .u8 (z % 256), .int .u8 (z / 256 % 256), .int .u8 (z / 65536 % 256), .int .u8 (z / 16777216 % 256)]) ∧ Below w.heap.size w w' := by
  go_enter Tryz.func160, Tryz.ntmps160
  go_wp2
  exact bodyPost_ret (v := .agg #[.int .u8 (z % 256), .int .u8 (z / 256 % 256), .int .u8 (z / 65536 % 256), .int .u8 (z / 16777216 % 256)]) (by simp [results, Tryz.results160, go_sem]) rfl ⟨rfl, (Below.refl _ _).alloc (Nat.le_refl _) _⟩

set_option maxHeartbeats 1000000 in
set_option maxRecDepth 100000 in
theorem first_any (s : ByteArray) (w : World) (hs : 4 ≤ s.size) :
    Calls Tryz.prog 204 #[.string s] w fun e w' => e = .returned (.agg #[.int .u8 (s[0].toNat : Int), .int .u8 (s[1].toNat : Int), .int .u8 (s[2].toNat : Int), .int .u8 (s[3].toNat : Int)]) ∧ Below w.heap.size w w' := by
  have h0 : 0 < s.size := by omega
  have h1 : (1 : Int) < (s.size : Int) := by omega
  have h2 : (2 : Int) < (s.size : Int) := by omega
  have h3 : (3 : Int) < (s.size : Int) := by omega
  go_enter Tryz.func204, Tryz.ntmps204
  go_wp2
  go_region
  go_wp2
  exact bodyPost_ret (v := .agg #[.int .u8 (s[0].toNat : Int), .int .u8 (s[1].toNat : Int), .int .u8 (s[2].toNat : Int), .int .u8 (s[3].toNat : Int)]) (by simp [results, Tryz.results204, go_sem]) rfl ⟨rfl, (((Below.refl _ _).alloc (Nat.le_refl _) _).trans (below_drewN _ _))⟩

set_option maxHeartbeats 1000000 in
set_option maxRecDepth 100000 in
theorem number_any (a b c d : UInt8) (w : World) :
    Calls Tryz.prog 205 #[.agg #[.int .u8 (a.toNat : Int), .int .u8 (b.toNat : Int), .int .u8 (c.toNat : Int), .int .u8 (d.toNat : Int)]] w fun e w' => e = .returned (.int .u32 (U (BitVec.ofNat 32 (Pl.num a.toNat b.toNat c.toNat d.toNat)))) ∧ Below w.heap.size w w' := by
  go_enter Tryz.func205, Tryz.ntmps205
  go_wp2
  go_ret
  exact ⟨congrArg (fun z => Ending.returned (.int .u32 z)) (num_or a b c d), (Below.refl _ _).alloc (Nat.le_refl _) _⟩

set_option maxHeartbeats 1000000 in
set_option maxRecDepth 100000 in
theorem rfour_any (z : Int) (_u0 : 0 ≤ z) (w : World) :
    Calls Tryz.prog 102 #[.int .u32 z] w fun e w' => e = .returned (.string ⟨#[UInt8.ofNat (z % 256).toNat, UInt8.ofNat (z / 256 % 256).toNat, UInt8.ofNat (z / 65536 % 256).toNat, UInt8.ofNat (z / 16777216 % 256).toNat]⟩) ∧ Below w.heap.size w w' := by
  obtain ⟨c0, c1, c2, c3⟩ := cells_four w (.int .u8 (z % 256)) (.int .u8 (z / 256 % 256)) (.int .u8 (z / 65536 % 256)) (.int .u8 (z / 16777216 % 256)) 5
  have hcv := conv4 _ _ _ _ _ _ c0 c1 c2 c3
  clear c0 c1 c2 c3
  go_enter Tryz.func102, Tryz.ntmps102
  go_wp2
  go_ret
  exact ⟨rfl, (Below.refl _ _).alloc (Nat.le_refl _) _⟩

set_option maxHeartbeats 1000000 in
set_option maxRecDepth 100000 in
theorem read_any (s : ByteArray) (w : World) (hs : 4 ≤ s.size) :
    Calls Tryz.prog 177 #[.string s] w fun e w' => e = .returned (.int .u32 (U (BitVec.ofNat 32 (Pl.num s[0].toNat s[1].toNat s[2].toNat s[3].toNat)))) ∧ ∃ n, w' = w.drewN n := by
  have h0 : 0 < s.size := by omega
  have h1 : (1 : Int) < (s.size : Int) := by omega
  have h2 : (2 : Int) < (s.size : Int) := by omega
  have h3 : (3 : Int) < (s.size : Int) := by omega
  go_enter Tryz.func177, Tryz.ntmps177
  go_wp2
  go_quiet (fail)
  go_wp2
  go_ret
  exact ⟨congrArg (fun z => Ending.returned (.int .u32 z)) (num_sum s[0] s[1] s[2] s[3]), ⟨_, rfl⟩⟩
end Go.Proofs.YtdaoeplblkfapaaGreatDoor.Fr

/- THE CONTRACTS OF Put, the program's and the document's. -/
namespace Go.Proofs.YtdaoeplblkfapaaGreatDoor.Fr
open Go.RowKit


theorem ofList_eq (s : ByteArray) (l : List UInt8) (h : l = s.data.toList) : s = ⟨l.toArray⟩ := by
  obtain ⟨⟨k⟩⟩ := s
  simp at h
  rw [h]
theorem frame_eq (s : ByteArray) (v : BitVec 32) (hs : s.size ≤ 16384) (hv : Pl.sum s.data.toList = v) : (⟨#[UInt8.ofNat (s.size % 256), UInt8.ofNat (s.size / 256 % 256), UInt8.ofNat (s.size / 65536 % 256), UInt8.ofNat (s.size / 16777216 % 256)]⟩ ++ ⟨#[UInt8.ofNat (U v % 256).toNat, UInt8.ofNat (U v / 256 % 256).toNat, UInt8.ofNat (U v / 65536 % 256).toNat, UInt8.ofNat (U v / 16777216 % 256).toNat]⟩ ++ s : ByteArray) = ⟨(Pl.frame s.data.toList).toArray⟩ := by
  rw [le_of_U]
  apply ofList_eq
  rw [Joins.data_append, Joins.data_append]
  have hl : s.data.toList.length = s.size := (Lib.size_eq s).symm
  have e : (UInt8.ofNat (s.size % 256) :: UInt8.ofNat (s.size / 256 % 256) :: UInt8.ofNat (s.size / 65536 % 256) :: UInt8.ofNat (s.size / 16777216 % 256) :: []) = Pl.le (BitVec.ofNat 32 s.data.toList.length) := by
    rw [hl]
    unfold Pl.le
    rw [BitVec.toNat_ofNat, Nat.mod_eq_of_lt (show s.size < 2 ^ 32 by omega)]
  rw [Pl.frame, ← e, hv]
set_option maxHeartbeats 1000000 in
set_option maxRecDepth 100000 in
theorem put_long (s : ByteArray) (w : World) (hs : 16384 < s.size) :
    Calls Tryz.prog 123 #[.string s] w fun e w' => e = .returned (.tuple #[.string ⟨#[]⟩, .int .i64 4]) ∧ w = w' := by
  go_enter Tryz.func123, Tryz.ntmps123
  go_wp2
  go_ret2
  exact ⟨rfl, rfl⟩
set_option maxHeartbeats 1000000 in
set_option maxRecDepth 100000 in
theorem rput_long (s : ByteArray) (w : World) (hs : 16384 < s.size) :
    Calls Tryz.prog 49 #[.string s] w fun e w' => e = .returned (.tuple #[.string ⟨#[]⟩, .int .i64 4]) ∧ w = w' := by
  go_enter Tryz.func49, Tryz.ntmps49
  go_wp2
  go_ret2
  exact ⟨rfl, rfl⟩

set_option maxHeartbeats 1000000 in
set_option maxRecDepth 100000 in
theorem rput_fits (s : ByteArray) (w : World) (hs : s.size ≤ 16384) :
    Calls Tryz.prog 49 #[.string s] w fun e w' => e = .returned (.tuple #[.string ⟨(Pl.frame s.data.toList).toArray⟩, .int .i64 0]) ∧ Below w.heap.size w w' := by
  have u0 := U_nonneg (Pl.sum s.data.toList)
  obtain ⟨v, hv⟩ : ∃ v, Pl.sum s.data.toList = v := ⟨_, rfl⟩
  have HV := Lib.hid hv
  have C1 := fun w => rsum_any s w (by omega)
  rw [hv] at C1 u0
  clear hv
  go_enter Tryz.func49, Tryz.ntmps49
  go_wp2_with fail
  refine (rfour_any _ (by omega) _).mono ?_
  rintro e w1 ⟨rfl, b1⟩
  go_wp2_with fail
  refine (C1 _).mono ?_
  rintro e w' ⟨rfl, rfl⟩
  go_wp2_with fail
  refine (rfour_any _ u0 _).mono ?_
  rintro e w2 ⟨rfl, b2⟩
  go_wp2_with fail
  go_ret2
  exact ⟨congrArg (fun x => Ending.returned (.tuple #[.string x, .int .i64 0])) (frame_eq s v hs HV.out), b1.trans (b2.mono b1.size)⟩

set_option maxHeartbeats 1000000 in
set_option maxRecDepth 100000 in
theorem put_fits (s : ByteArray) (w : World) (hs : s.size ≤ 16384) :
    Calls Tryz.prog 123 #[.string s] w fun e w' => e = .returned (.tuple #[.string ⟨(Pl.frame s.data.toList).toArray⟩, .int .i64 0]) ∧ Below w.heap.size w w' := by
  have u0 := U_nonneg (Pl.sum s.data.toList)
  obtain ⟨v, hv⟩ : ∃ v, Pl.sum s.data.toList = v := ⟨_, rfl⟩
  have HV := Lib.hid hv
  have C1 := fun w => sum_any s w (by omega)
  rw [hv] at C1 u0
  clear hv
  go_enter Tryz.func123, Tryz.ntmps123
  go_wp2_with fail
  refine (split_any _ (by omega) _).mono ?_
  rintro e w1 ⟨rfl, b1⟩
  go_wp2_with fail
  refine (C1 _).mono ?_
  rintro e w' ⟨rfl, rfl⟩
  go_wp2_with fail
  refine (split_any _ u0 _).mono ?_
  rintro e w2 ⟨rfl, b2⟩
  go_wp2_with fail
  have b12 := b1.trans (b2.mono b1.size)
  obtain ⟨c0, c1, c2, c3⟩ := cells_four w2 (.int .u8 ((s.size : Int) % 256)) (.int .u8 ((s.size : Int) / 256 % 256)) (.int .u8 ((s.size : Int) / 65536 % 256)) (.int .u8 ((s.size : Int) / 16777216 % 256)) 188
  obtain ⟨d0, d1, d2, d3⟩ := cells_four (w2.alloc (.cells #[.int .u8 ((s.size : Int) % 256), .int .u8 ((s.size : Int) / 256 % 256), .int .u8 ((s.size : Int) / 65536 % 256), .int .u8 ((s.size : Int) / 16777216 % 256)] 188)) (.int .u8 (U v % 256)) (.int .u8 (U v / 256 % 256)) (.int .u8 (U v / 65536 % 256)) (.int .u8 (U v / 16777216 % 256)) 188
  have b3 : Below w2.heap.size w2 (w2.alloc (.cells #[.int .u8 ((s.size : Int) % 256), .int .u8 ((s.size : Int) / 256 % 256), .int .u8 ((s.size : Int) / 65536 % 256), .int .u8 ((s.size : Int) / 16777216 % 256)] 188)) := (Below.refl _ _).alloc (Nat.le_refl _) _
  have e3 : (w2.alloc (.cells #[.int .u8 ((s.size : Int) % 256), .int .u8 ((s.size : Int) / 256 % 256), .int .u8 ((s.size : Int) / 65536 % 256), .int .u8 ((s.size : Int) / 16777216 % 256)] 188)).heap.size = w2.heap.size + 1 := by simp
  generalize w2.alloc (.cells #[.int .u8 ((s.size : Int) % 256), .int .u8 ((s.size : Int) / 256 % 256), .int .u8 ((s.size : Int) / 65536 % 256), .int .u8 ((s.size : Int) / 16777216 % 256)] 188) = w3 at *
  have b4 : Below w3.heap.size w3 (w3.alloc (.cells #[.int .u8 (U v % 256), .int .u8 (U v / 256 % 256), .int .u8 (U v / 65536 % 256), .int .u8 (U v / 16777216 % 256)] 188)) := (Below.refl _ _).alloc (Nat.le_refl _) _
  generalize w3.alloc (.cells #[.int .u8 (U v % 256), .int .u8 (U v / 256 % 256), .int .u8 (U v / 65536 % 256), .int .u8 (U v / 16777216 % 256)] 188) = w4 at *
  rw [e3] at d0 d1 d2 d3
  have lat : ∀ o x, w3.cell? ⟨w2.heap.size, o, none⟩ = some x → w4.cell? ⟨w2.heap.size, o, none⟩ = some x := fun o x h => by
    rw [b4.cell (p := ⟨w2.heap.size, o, none⟩) (by show w2.heap.size < w3.heap.size; omega)]
    exact h
  have q1 := fun n => conv4 (w4.drewN n) w2.heap.size _ _ _ _ (lat _ _ c0) (lat _ _ c1) (lat _ _ c2) (lat _ _ c3)
  have q2 := fun n => conv4 (w4.drewN n) (w2.heap.size + 1) _ _ _ _ d0 d1 d2 d3
  have b14 : Below w.heap.size w w4 := b12.trans ((b3.mono b12.size).trans (b4.mono (Nat.le_trans b12.size b3.size)))
  clear c0 c1 c2 c3 d0 d1 d2 d3 lat b1 b2 b12 b3 b4 e3 C1
  go_quiet (fail)
  go_wp2
  go_ret2
  exact ⟨congrArg (fun x => Ending.returned (.tuple #[.string x, .int .i64 0])) (frame_eq s v hs HV.out), b14.trans (below_drewN _ _)⟩
end Go.Proofs.YtdaoeplblkfapaaGreatDoor.Fr
