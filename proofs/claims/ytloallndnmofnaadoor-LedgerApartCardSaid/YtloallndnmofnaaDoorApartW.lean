/- The walk of the law LedgerApart. -/
import Derived.Test.YtloallndnmofnaaDoorMade
import Derived.Deep.RegionHeld3
import Derived.Deep.DeepCutAuto
import Derived.IntWalk
namespace Go.Proofs.YtloallndnmofnaaDoor
open Go.RowKit

set_option maxHeartbeats 4000000 in
set_option maxRecDepth 100000 in
theorem apart_any (v : Value) (zs : List P2) (who : Int) (w : World) (lb : Lg w) (h : Pairs w w.heap.size v zs) :
    Calls Tryd.prog 6 #[v, .int .i64 who] w fun e w' => e = .returned (.bool true) ∧ RowKit.Below w.heap.size w w' := by
  have h2 := lb.size
  obtain ⟨a, cap, hv, -⟩ := h.lies
  subst hv
  obtain ⟨m, hm⟩ : ∃ m, zs.length = m := ⟨_, rfl⟩
  have HP := Lib.hid h
  rw [hm] at HP ⊢
  have HM := Lib.hid hm
  have H2 := Lib.hid h2
  have HA := Lib.hid (awake_any w lb)
  have HLB := Lib.hid lb
  obtain ⟨Q, hQ1, hQ2, hQ3⟩ := mod_nat who 4 (by omega) (by omega)
  have hQ4 : Q < 4 := by omega
  clear h h2 lb hm
  go_enter Tryd.func6, Tryd.ntmps6
  go_wp2_with fail
  refine HA.out.mono ?_
  rintro e w1 ⟨rfl, b1⟩
  have HN := Lib.hid (s_new w w1 b1 (HLB.out.below HLB.out.size b1))
  have HB1 := Lib.hid b1
  clear b1 HA
  go_wp2_with fail
  refine HN.out.mono ?_
  rintro e w2 ⟨rfl, hls, b2⟩
  have HN2 := Lib.hid (s_new w w2 hls.low hls.lg)
  have HL2 := Lib.hid hls
  clear hls b2
  go_wp2_with fail
  refine HN2.out.mono ?_
  rintro e w3 ⟨rfl, hls3, b3⟩
  have htwo : Two w w3 w1.heap.size w2.heap.size (fun k => k = w1.heap.size) (fun k => k = w2.heap.size) [] [] := ⟨HL2.out.below b3, hls3, fun k hk hk2 => by
    have := HL2.out.lgr.bnd _ rfl
    omega⟩
  have HT := Lib.hid htwo
  obtain ⟨r1, hr1⟩ : ∃ rb, w1.heap.size = rb := ⟨_, rfl⟩
  obtain ⟨r2, hr2⟩ : ∃ rb, w2.heap.size = rb := ⟨_, rfl⟩
  rw [hr1, hr2] at HT
  rw [hr1, hr2]
  clear htwo hls3 b3 hr1 hr2 hQ1 hQ3
  go_wp2_with fail
  go_loopw [7] (fun iv wr => ∃ (i : Nat) (B1 B2 : Nat → Prop) (T1 T2 : Ld.Tb), i ≤ m ∧ (i : Int) ≤ 120 ∧ iv = .int .i64 i ∧ Two w wr r1 r2 B1 B2 T1 T2 ∧ Ld.Alike T1 T2 Q i) (fun iv _ => m - (intOf iv).toNat)
  case atStart => exact ⟨0, _, _, [], [], by omega, by omega, rfl, HT.out, ⟨rfl, fun _ h => (by cases h), fun _ h => (by cases h), fun _ _ h => (by cases h)⟩⟩
  case round =>
    obtain ⟨i, B1, B2, T1, T2, hi, hi120, rfl, htw, hal⟩ := hrel
    have HTW := Lib.hid htw
    have HAL := Lib.hid hal
    clear htw hal HT HL2 HN HN2
    by_cases hin : i < m ∧ (i : Int) < 120
    · obtain ⟨hlt, hl2⟩ := hin
      obtain ⟨z, hz⟩ : ∃ z, zs[i]? = some z := ⟨_, List.getElem?_eq_getElem (by rw [HM.out]; exact hlt)⟩
      obtain ⟨a', cap', hv, hc⟩ := (HP.out.below HTW.out.l1.low).lies
      obtain ⟨b, off, rfl, hblt, c0, c1⟩ := hc i z hz
      injection hv with hv1 hv2 hv3
      subst hv1
      obtain ⟨z0, z1⟩ := z
      obtain ⟨P, hP1, hP2, hP3⟩ := mod_nat z0 4 (by omega) (by omega)
      obtain ⟨S, hS1, hS2, hS3⟩ := mod_nat z1 20 (by omega) (by omega)
      have hP4 : P < 4 := by omega
      have hS4 : S < 20 := by omega
      have hPw : IntKind.i64.wrap (P : Int) = (P : Int) := by rw [IntKind.wrap_i64]; omega
      have hSw : IntKind.i64.wrap (S : Int) = (S : Int) := by rw [IntKind.wrap_i64]; omega
      simp only at c0 c1
      have hbw : b < wr.heap.size := by have := HTW.out.l1.low.size; omega
      have hi0 : (0 : Int) ≤ (i : Int) := by omega
      have him : (i : Int) < (m : Int) := by omega
      clear hc hz hv2 hv3 HP
      go_upto_region 9 with fail
      have HB12 : Hid (∀ k, B1 k ∨ B2 k → k < wr.heap.size) := fun k hk => by
        rcases hk with hk | hk
        · exact HTW.out.l1.lgr.bnd k hk
        · exact HTW.out.l2.lgr.bnd k hk
      go_cut [8] (fun s8 wx => ∃ t g : Nat, s8 = .pointer (some ⟨t, 0, none⟩) ∧ Made wr t g i P S B1 B2 wx)
      case first =>
        have n1 := World.new_ne wr ⟨b, off + i * 2, none⟩ c0
        go_region_held3 (fun w' => w'.cell? ⟨b, off + i * 2, none⟩ = some (.int .i64 z0) ∧ w'.cell? ⟨b, off + i * 2 + 1, none⟩ = some (.int .i64 z1))
          (first
            | go_keep
            | (go_split_ands; exact ⟨bcell6 hb (by assumption), bcell6 hb (by assumption)⟩)
            | (go_split_ands; exact ⟨bcell6 ((Below.refl _ _).alloc (Nat.le_refl _) _) k0, bcell6 ((Below.refl _ _).alloc (Nat.le_refl _) _) k1⟩))
          (first
            | (go_at_call 20; refine (dbatch' _ _ _ _).mono ?_; rintro e w5 ⟨rfl, hr, hb⟩; (first | (have k0 := bcell6 hb c0; have k1 := bcell6 hb c1) | (have k0 := bcell6 hb (bcell6 (alc wr) c0); have k1 := bcell6 hb (bcell6 (alc wr) c1))); (first | (have hz := Blk.below (zero_bat wr) (below_of (wr := wr.alloc (.cells zeroB 34)) hb rfl rfl rfl rfl); have q0 : w5.cell? ⟨wr.heap.size, 0, none⟩ = some (.int .i64 0) := hz.cell (i := 0) rfl; have q1 : w5.cell? ⟨wr.heap.size, 1, none⟩ = some (.int .i64 0) := hz.cell (i := 1) rfl; have q2 : w5.cell? ⟨wr.heap.size, 2, none⟩ = some (.int .i64 0) := hz.cell (i := 2) rfl; have q3 : w5.cell? ⟨wr.heap.size, 3, none⟩ = some (.int .i64 0) := hz.cell (i := 3) rfl; have q4 : w5.cell? ⟨wr.heap.size, 4, none⟩ = some (.int .i64 0) := hz.cell (i := 4) rfl; have q5 : w5.cell? ⟨wr.heap.size, 5, none⟩ = some (.slice none 0 0) := hz.cell (i := 5) rfl; have f0 : w5.frozen? ⟨wr.heap.size, 0, none⟩ = false := hz.free (i := 0); have f1 : w5.frozen? ⟨wr.heap.size, 1, none⟩ = false := hz.free (i := 1); have f2 : w5.frozen? ⟨wr.heap.size, 2, none⟩ = false := hz.free (i := 2); have f3 : w5.frozen? ⟨wr.heap.size, 3, none⟩ = false := hz.free (i := 3); have f4 : w5.frozen? ⟨wr.heap.size, 4, none⟩ = false := hz.free (i := 4); have f5 : w5.frozen? ⟨wr.heap.size, 5, none⟩ = false := hz.free (i := 5)) | skip)))
        · go_wp2_with fail
          go_meet
          exact ⟨_, wr.heap.size + 1, rfl, made_a (base := i) (prod := P) (seq := S) (g := wr.heap.size + 1) HB12.out rfl hr (below_of hb rfl rfl rfl rfl)⟩
        · go_wp2_with fail
          go_meet
          exact ⟨_, wr.heap.size + 1 + 1, rfl, made_b (base := i) (prod := P) (seq := S) (g := wr.heap.size + 1 + 1) HB12.out rfl (by rw [← alc_size]; exact hr) (below_of (wr := wr.alloc (.cells zeroB 34)) hb rfl rfl rfl rfl)⟩
      case rest =>
        obtain ⟨t, g, rfl, hbt, hrc, ⟨n1, n2, n3, n4⟩, hbl⟩ := hcut
        have HT1 := Lib.hid (HTW.out.below hbl)
        have HAD := Lib.hid (s_add (prod := (P : Int)) (seq := (S : Int)) (base := (i : Int)) HT1.out.l1 H2.out hrc (Ld.numB_nat (by omega)) (Ld.numB_nat (by omega)) (by omega) (by omega))
        have HBT := Lib.hid hbt
        have HRC := Lib.hid hrc
        have HNN := Lib.hid (And.intro n1 (And.intro n2 (And.intro n3 n4)))
        have y0 : World.cell? _ ⟨t, 0, none⟩ = some (Value.int .i64 i) := hbt.cell (i := 0) rfl
        have y1 : World.cell? _ ⟨t, 1, none⟩ = some (Value.int .i64 1) := hbt.cell (i := 1) rfl
        have y2 : World.cell? _ ⟨t, 2, none⟩ = some (Value.int .i64 P) := hbt.cell (i := 2) rfl
        have y3 : World.cell? _ ⟨t, 3, none⟩ = some (Value.int .i64 S) := hbt.cell (i := 3) rfl
        have y4 : World.cell? _ ⟨t, 4, none⟩ = some (Value.int .i64 0) := hbt.cell (i := 4) rfl
        have y5 : World.cell? _ ⟨t, 5, none⟩ = some (Value.slice (some ⟨g, 0, none⟩) 1 1) := hbt.cell (i := 5) rfl
        clear hbt hrc n1 n2 n3 n4 hbl c0 c1
        go_wp2_with fail
        refine HAD.out.mono ?_
        rintro e w6 ⟨rfl, B1', hl1, hm1⟩
        have HT2 := Lib.hid (HT1.out.first H2.out hl1 hm1)
        have HBT2 := Lib.hid (HBT.out.moved hm1 HNN.out.1).1
        have HRC2 := Lib.hid (recs_moved HRC.out hm1 HNN.out.2.2.1)
        obtain ⟨c, hc⟩ : ∃ c, Ld.addE T1 P S i = c := ⟨_, rfl⟩
        have HCE := Lib.hid hc
        rw [hc]
        have y2 : w6.cell? ⟨t, 2, none⟩ = some (Value.int .i64 P) := HBT2.out.cell (i := 2) rfl
        clear hl1 hm1 hc HAD
        by_cases hPQ : P = Q
        · subst hPQ
          have HAD2 := Lib.hid (s_add (prod := (P : Int)) (seq := (S : Int)) (base := (i : Int)) HT2.out.l2 H2.out HRC2.out (Ld.numB_nat (by omega)) (Ld.numB_nat (by omega)) (by omega) (by omega))
          have HCE2 : Hid (Ld.addE T2 P S i = c) := by
            show _ = _
            rw [← HAL.out.addE HTW.out.l1.good HTW.out.l2.good (Ld.numB_nat (by omega)) (Ld.numB_nat (by omega))]
            exact HCE.out
          have y0 : w6.cell? ⟨t, 0, none⟩ = some (Value.int .i64 i) := HBT2.out.cell (i := 0) rfl
          have y1 : w6.cell? ⟨t, 1, none⟩ = some (Value.int .i64 1) := HBT2.out.cell (i := 1) rfl
          have y3 : w6.cell? ⟨t, 3, none⟩ = some (Value.int .i64 S) := HBT2.out.cell (i := 3) rfl
          have y4 : w6.cell? ⟨t, 4, none⟩ = some (Value.int .i64 0) := HBT2.out.cell (i := 4) rfl
          have y5 : w6.cell? ⟨t, 5, none⟩ = some (Value.slice (some ⟨g, 0, none⟩) 1 1) := HBT2.out.cell (i := 5) rfl
          go_wp2_with fail
          refine HAD2.out.mono ?_
          rintro e w7 ⟨rfl, B2', hl2, hm2⟩
          have HT3 := Lib.hid (HT2.out.second H2.out hl2 hm2)
          have HAL2 : Hid (Ld.Alike (if Ld.addE T1 P S i = 0 then Ld.addT T1 P S i 1 else T1) (if Ld.addE T2 P S i = 0 then Ld.addT T2 P S i 1 else T2) P ((i + 1 : Nat) : Int)) := by
            have := HAL.out.both HTW.out.l1.good HTW.out.l2.good (seq := (S : Int)) (by omega) (Ld.numB_nat (by omega)) (Ld.numB_nat (by omega)) (by omega) (by omega)
            have e1 : ((i + 1 : Nat) : Int) = (i : Int) + 1 := by omega
            rw [e1]
            exact this
          rw [HCE2.out]
          clear hl2 hm2 y0 y1 y2 y3 y4 y5
          go_wp2_with fail
          go_roundw
          case rel => exact ⟨i + 1, B1', B2', _, _, by omega, by omega, by go_num, HT3.out, HAL2.out⟩
          case measure => simp [intOf]; omega
        · have hne : ((P : Int) == (Q : Int)) = false := by simp; omega
          have HAL2 : Hid (Ld.Alike (if Ld.addE T1 P S i = 0 then Ld.addT T1 P S i 1 else T1) T2 Q ((i + 1 : Nat) : Int)) := by
            have := HAL.out.other HTW.out.l1.good (q := (P : Int)) (seq := (S : Int)) (by omega) (by omega) (by omega) (by omega)
            have e1 : ((i + 1 : Nat) : Int) = (i : Int) + 1 := by omega
            rw [e1]
            exact this
          go_wp2_with fail
          go_roundw
          case rel => exact ⟨i + 1, B1', B2, _, T2, by omega, by omega, by go_num, HT2.out, HAL2.out⟩
          case measure => simp [intOf]; omega
    · by_cases hlt : i < m
      · have hl2 : ¬ ((i : Int) < 120) := fun h => hin ⟨hlt, h⟩
        clear hin
        go_wp2_with fail
        go_loopw [10] (fun kv wx => ∃ k : Nat, k ≤ 22 ∧ kv = .int .i64 k ∧ Two w wx r1 r2 B1 B2 T1 T2) (fun kv _ => 22 - (intOf kv).toNat)
        case atStart => exact ⟨0, by omega, rfl, HTW.out⟩
        case round =>
          obtain ⟨k, hk, rfl, htw⟩ := hrel
          have HT2 := Lib.hid htw
          clear htw
          by_cases hk2 : k < 22
          · obtain ⟨⟨⟨s0, s1, s2⟩, c⟩, hck⟩ : ∃ x, Ld.check T1 Q k = x := ⟨_, rfl⟩
            have hck2 : Ld.check T2 Q k = (⟨s0, s1, s2⟩, c) := by rw [← HAL.out.chk HTW.out.l1.good HTW.out.l2.good, hck]
            have HC1 := Lib.hid (s_check HT2.out.l1 Q k s0 s1 s2 c hck)
            have HCK2 := Lib.hid hck2
            clear hck hck2
            go_wp2_with fail
            refine HC1.out.mono ?_
            rintro e v1 ⟨rfl, hb1⟩
            have a1 : RowKit.Below v1.heap.size v1 (v1.alloc (.cells #[.int .i64 s0, .int .i64 s1, .int .i64 s2] 41)) := (Below.refl _ _).alloc (Nat.le_refl _) _
            have hx1 := Blk.new v1 #[.int .i64 s0, .int .i64 s1, .int .i64 s2] 41
            have HT3 := Lib.hid ((HT2.out.below hb1).below a1)
            have HX1 := Lib.hid hx1
            have HC2 := Lib.hid (s_check HT3.out.l2 Q k s0 s1 s2 c HCK2.out)
            clear hb1 a1 hx1
            go_wp2_with fail
            refine HC2.out.mono ?_
            rintro e v2 ⟨rfl, hb2⟩
            have a2 : RowKit.Below v2.heap.size v2 (v2.alloc (.cells #[.int .i64 s0, .int .i64 s1, .int .i64 s2] 41)) := (Below.refl _ _).alloc (Nat.le_refl _) _
            have hx2 := (HX1.out.below hb2).below a2
            have HT4 := Lib.hid ((HT3.out.below hb2).below a2)
            have y0 := hx2.cell (i := 0) rfl
            have y1 := hx2.cell (i := 1) rfl
            have y2 := hx2.cell (i := 2) rfl
            clear hb2 a2 hx2
            go_wp2_with fail
            go_roundw
            case rel => exact ⟨k + 1, by omega, by go_num, HT4.out⟩
            case measure => simp [intOf]; omega
          · obtain rfl : k = 22 := by omega
            go_wp2_with fail
            go_ret
            exact ⟨rfl, HT2.out.l1.low⟩
      · have hge : decide (i < m) = false := decide_eq_false hlt
        clear hin
        go_wp2_with fail
        go_loopw [10] (fun kv wx => ∃ k : Nat, k ≤ 22 ∧ kv = .int .i64 k ∧ Two w wx r1 r2 B1 B2 T1 T2) (fun kv _ => 22 - (intOf kv).toNat)
        case atStart => exact ⟨0, by omega, rfl, HTW.out⟩
        case round =>
          obtain ⟨k, hk, rfl, htw⟩ := hrel
          have HT2 := Lib.hid htw
          clear htw
          by_cases hk2 : k < 22
          · obtain ⟨⟨⟨s0, s1, s2⟩, c⟩, hck⟩ : ∃ x, Ld.check T1 Q k = x := ⟨_, rfl⟩
            have hck2 : Ld.check T2 Q k = (⟨s0, s1, s2⟩, c) := by rw [← HAL.out.chk HTW.out.l1.good HTW.out.l2.good, hck]
            have HC1 := Lib.hid (s_check HT2.out.l1 Q k s0 s1 s2 c hck)
            have HCK2 := Lib.hid hck2
            clear hck hck2
            go_wp2_with fail
            refine HC1.out.mono ?_
            rintro e v1 ⟨rfl, hb1⟩
            have a1 : RowKit.Below v1.heap.size v1 (v1.alloc (.cells #[.int .i64 s0, .int .i64 s1, .int .i64 s2] 41)) := (Below.refl _ _).alloc (Nat.le_refl _) _
            have hx1 := Blk.new v1 #[.int .i64 s0, .int .i64 s1, .int .i64 s2] 41
            have HT3 := Lib.hid ((HT2.out.below hb1).below a1)
            have HX1 := Lib.hid hx1
            have HC2 := Lib.hid (s_check HT3.out.l2 Q k s0 s1 s2 c HCK2.out)
            clear hb1 a1 hx1
            go_wp2_with fail
            refine HC2.out.mono ?_
            rintro e v2 ⟨rfl, hb2⟩
            have a2 : RowKit.Below v2.heap.size v2 (v2.alloc (.cells #[.int .i64 s0, .int .i64 s1, .int .i64 s2] 41)) := (Below.refl _ _).alloc (Nat.le_refl _) _
            have hx2 := (HX1.out.below hb2).below a2
            have HT4 := Lib.hid ((HT3.out.below hb2).below a2)
            have y0 := hx2.cell (i := 0) rfl
            have y1 := hx2.cell (i := 1) rfl
            have y2 := hx2.cell (i := 2) rfl
            clear hb2 a2 hx2
            go_wp2_with fail
            go_roundw
            case rel => exact ⟨k + 1, by omega, by go_num, HT4.out⟩
            case measure => simp [intOf]; omega
          · obtain rfl : k = 22 := by omega
            go_wp2_with fail
            go_ret
            exact ⟨rfl, HT2.out.l1.low⟩
end Go.Proofs.YtloallndnmofnaaDoor
