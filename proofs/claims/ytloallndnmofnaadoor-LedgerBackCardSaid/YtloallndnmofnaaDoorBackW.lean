/- LedgerBack's WALK. -/
import Derived.Test.YtloallndnmofnaaDoorTDec
import Derived.Test.YtloallndnmofnaaDoorFr2
import Derived.Test.YtloallndnmofnaaDoorSm
import Derived.Test.YtloallndnmofnaaDoorAskd
import Derived.Test.YtloallndnmofnaaDoorMade
import Derived.Test.YtloallndnmofnaaDoorCEq
namespace Go.Proofs.YtloallndnmofnaaDoor
open Go.RowKit

theorem bytes_eq {s : ByteArray} {l : List UInt8} (h : s.data.toList = l) : (⟨l.toArray⟩ : ByteArray) = s := by
  subst h
  simp
set_option maxHeartbeats 16000000 in
set_option maxRecDepth 100000 in
theorem back_any (av bv : Value) (zs ys : List P2) (s : ByteArray) (w : World) (lb : Lb w) (hp : Pairs w w.heap.size av zs) (hq : Pairs w w.heap.size bv ys) (hs : s.size ≤ 281474976710656) :
    Calls Tryd.prog 5 #[av, bv, .string s] w fun e w' => e = .returned (.bool true) ∧ RowKit.Below w.heap.size w w' := by
  have HA := Lib.hid (awake_any w lb.lg)
  have HLB := Lib.hid lb
  have H2 : Hid (2 ≤ w.heap.size) := lb.lg.size
  have HPS := Lib.hid hp
  have HQS := Lib.hid hq
  have HSS := Lib.hid hs
  obtain ⟨aa, ac, rfl, -⟩ := hp.lies
  obtain ⟨ba, bc, rfl, -⟩ := hq.lies
  obtain ⟨m, hm⟩ : ∃ m, zs.length = m := ⟨_, rfl⟩
  obtain ⟨q, hq'⟩ : ∃ q, ys.length = q := ⟨_, rfl⟩
  have HM := Lib.hid hm
  have HQ := Lib.hid hq'
  rw [hm] at HPS ⊢
  rw [hq'] at HQS ⊢
  clear lb hp hq hs hm hq'
  go_enter Tryd.func5, Tryd.ntmps5
  go_wp2_with fail
  refine HA.out.mono ?_
  rintro e w1 ⟨rfl, b1⟩
  have HB1 := Lib.hid b1
  clear b1 HA
  by_cases hq60 : 60 < q
  · have hd : decide ((60 : Int) < (q : Int)) = true := decide_eq_true (by omega)
    go_wp2_with fail
    go_ret
    exact ⟨rfl, HB1.out⟩
  · have hd : decide ((60 : Int) < (q : Int)) = false := decide_eq_false (by omega)
    have HN := Lib.hid (s_new w w1 HB1.out (HLB.out.lg.below H2.out HB1.out))
    go_wp2_with fail
    clear hd
    refine HN.out.mono ?_
    rintro e w2 ⟨rfl, hls, b2⟩
    obtain ⟨rb, hrb⟩ : ∃ rb, w1.heap.size = rb := ⟨_, rfl⟩
    rw [hrb] at hls ⊢
    have HL := Lib.hid hls
    clear hls b2 hrb HN
    go_wp2_with fail
    go_loopw [8] (fun iv wr => ∃ (i : Nat) (B : Nat → Prop) (T : Ld.Tb), i ≤ m ∧ (i : Int) ≤ 120 ∧ iv = .int .i64 i ∧ LS w wr rb B T) (fun iv _ => m - (intOf iv).toNat)
    case atStart => exact ⟨0, _, _, Nat.zero_le _, by omega, rfl, HL.out⟩
    case round =>
      obtain ⟨i, B, T, hi, hi120, rfl, hls⟩ := hrel
      have HE := Lib.hid hls
      have HLOW := Lib.hid hls.low
      clear hls HL
      go_upto_region 7 with fail
      go_cut [40] (fun s wx => s = .bool (decide (i < m ∧ i < 120)) ∧ wx = wr)
      case first =>
        by_cases hlt : i < m
        · by_cases hl2 : (i : Int) < 120
          · go_wp2_with fail
            go_meet
            case rel => exact ⟨boolX (by simp; omega), rfl⟩
          · go_wp2_with fail
            go_meet
            case rel => exact ⟨boolX (by simp; omega), rfl⟩
        · have hge : decide (i < m) = false := decide_eq_false hlt
          go_wp2_with fail
          go_meet
          case rel => exact ⟨boolX (by simp; omega), rfl⟩
      case rest =>
        obtain ⟨rfl, hwc⟩ := hcut
        subst hwc
        by_cases hin : i < m ∧ i < 120
        · rw [decide_eq_true hin]
          obtain ⟨hlt, hl2⟩ := hin
          obtain ⟨z, hz⟩ : ∃ z, zs[i]? = some z := ⟨_, List.getElem?_eq_getElem (by rw [HM.out]; exact hlt)⟩
          obtain ⟨pa, pc, hpv, hpc⟩ := HPS.out.lies
          obtain ⟨b, off, hpa, hpl, cw0, cw1⟩ := hpc i z hz
          injection hpv with hpv1 hpv2 hpv3
          rw [hpa] at hpv1
          subst hpv1
          obtain ⟨z0, z1⟩ := z
          simp only at cw0 cw1
          have c0 := bcell6 HLOW.out cw0
          have c1 := bcell6 HLOW.out cw1
          have HCW := Lib.hid (And.intro cw0 cw1)
          clear cw0 cw1
          obtain ⟨P, hP1, hP2, hP3⟩ := mod_nat z0 4 (by omega) (by omega)
          obtain ⟨S, hS1, hS2, hS3⟩ := mod_nat z1 20 (by omega) (by omega)
          have hPw : IntKind.i64.wrap (P : Int) = (P : Int) := by rw [IntKind.wrap_i64]; omega
          have hSw : IntKind.i64.wrap (S : Int) = (S : Int) := by rw [IntKind.wrap_i64]; omega
          have HAD : Hid (∀ (W : World) v, RowKit.Below wc.heap.size wc W → Recs v [oneRc i] W → Calls Tryd.prog 14 #[.pointer (some ⟨rb, 0, none⟩), .agg #[.int .i64 i, .int .i64 1, .int .i64 P, .int .i64 S, .int .i64 0, v]] W (SAdded w W rb B T P S i)) := fun W v hb hr => s_add (HE.out.below hb) H2.out hr (Ld.numB_nat (by omega)) (Ld.numB_nat (by omega)) (by omega) (by omega)
          have hi0 : (0 : Int) ≤ (i : Int) := by omega
          have him : (i : Int) < (m : Int) := by omega
          have HC0 := Lib.hid (And.intro c0 c1)
          clear hz hpc hpv2 hpv3 hpa hpl
          go_wp2_with fail
          go_region_held3 (fun w' => w'.cell? ⟨b, off + i * 2, none⟩ = some (.int .i64 z0) ∧ w'.cell? ⟨b, off + i * 2 + 1, none⟩ = some (.int .i64 z1))
            (first
              | go_keep
              | (exact ⟨bcell6 HL6.out.low HCW.out.1, bcell6 HL6.out.low HCW.out.2⟩)
              | (exact ⟨bcell6 hbw HC0.out.1, bcell6 hbw HC0.out.2⟩)
              | fail)
            (first
              | (go_at_call 20; refine (dbatch' _ _ _ _).mono ?_; rintro e w5 ⟨rfl, hr, hb⟩; have hbw := below_as (wr := wc) hb rfl rfl rfl rfl)
              | (go_at_call 14; refine (HAD.out _ _ hbw hr).mono ?_; rintro e w6 ⟨rfl, B', hl6, hm6⟩; have HL6 := Lib.hid hl6; clear hl6 hm6)
              | fail)
          go_wp2_with fail
          go_roundw
          case rel => exact ⟨i + 1, _, _, by omega, by omega, by go_num, HL6.out⟩
          case measure => simp [intOf]; omega
        · rw [decide_eq_false hin]
          clear hin
          have HTB := Lib.hid (s_table HE.out)
          have HG := Lib.hid HE.out.good
          go_wp2_with fail
          refine HTB.out.mono ?_
          rintro e w5 ⟨tv, tb, E, rfl, hown, hE, -, hb5⟩
          have htab := hown.tab (fun _ => True) (fun _ _ => trivial)
          rw [hE] at htab
          have HT5 := Lib.hid htab
          have HL5 := Lib.hid (HE.out.below hb5)
          obtain ⟨S, hS⟩ : ∃ S : ByteArray, (⟨(Ld.encT T).toArray⟩ : ByteArray) = S := ⟨_, rfl⟩
          have CE := dtenc _ tv T w5 (HLB.out.below HLB.out.size HL5.out.low) htab HG.out
          rw [hS] at CE
          have HCE := Lib.hid CE
          have hSl : S.data.toList = Ld.encT T := by rw [← hS]
          have hSs : S.size ≤ 281474976710656 := by
            have h1 := Ld.encT_len HG.out
            have e1 : S.size = S.data.size := rfl
            have e2 : S.data.toList.length = S.data.size := Array.length_toList
            rw [hSl] at e2
            omega
          have hdec : Ld.decT 5 64 S.data.toList = some T := (Ld.decT_iff (by omega) (by omega)).2 ⟨HG.out, hSl⟩
          have HCD := Lib.hid (fun w' (h : RowKit.Below w.heap.size w w') => ddect S w' (HLB.out.below HLB.out.size h) hSs)
          rw [hdec] at HCD
          clear hown hE hb5 htab CE hS hSl hSs hdec HTB
          go_wp2_with fail
          refine HCE.out.mono ?_
          rintro e w6 ⟨rfl, hb6⟩
          have HL6 := Lib.hid (HL5.out.below hb6)
          have HT6 := Lib.hid (HT5.out.below hb6)
          clear hb6 HCE HL5 HT5
          go_wp2_with fail
          refine (HCD.out w6 HL6.out.low).mono ?_
          rintro e w7 ⟨⟨uv, rfl, htu⟩, hb7⟩
          have HL7 := Lib.hid (HL6.out.below hb7)
          have HT7 := Lib.hid (HT6.out.below hb7)
          have htu' := htu.mono (Q := fun _ => True) (fun _ _ _ => trivial)
          have HU7 := Lib.hid htu'
          have HCF := Lib.hid (dfrom_ok uv T w7 htu' HG.out)
          clear hb7 htu htu' HL6 HT6 HCD
          go_wp2_with fail
          refine HCF.out.mono ?_
          rintro e w8 ⟨rb2, B2, rfl, hlg2, hB2, hb8⟩
          have HL8 := Lib.hid (HL7.out.below hb8)
          have hl2 : LS w w8 rb2 B2 T := ⟨hlg2, HG.out, HL8.out.low, fun k hk => by have := hB2 k hk; have := HL7.out.low.size; omega, HL8.out.lg⟩
          have HM8 := Lib.hid hl2
          have HSM := Lib.hid (rsame _ _ tv uv T w8 (HT7.out.below hb8) (HU7.out.below hb8) (good_short HG.out).1 (good_short HG.out).2)
          clear hlg2 hB2 hb8 hl2 HCF HL7 HT7 HU7
          go_wp2_with fail
          refine HSM.out.mono ?_
          rintro e w9 ⟨rfl, hb9⟩
          have HL9 := Lib.hid (HL8.out.below hb9)
          have HM9 := Lib.hid (HM8.out.below hb9)
          clear hb9 HSM HL8 HM8
          go_wp2_with fail
          go_loopw [16] (fun jv wx => ∃ j : Nat, j ≤ q ∧ jv = .int .i64 j ∧ RowKit.Below w9.heap.size w9 wx) (fun jv _ => q - (intOf jv).toNat)
          case atStart => exact ⟨0, Nat.zero_le _, rfl, Below.refl _ _⟩
          case round =>
            obtain ⟨j, hj, rfl, hbx⟩ := hrel
            have HBX := Lib.hid hbx
            have HX2 := Lib.hid (HL9.out.below hbx)
            have HX3 := Lib.hid (HM9.out.below hbx)
            have HLO2 : Hid (RowKit.Below w.heap.size w wr) := HX2.out.low
            clear hbx
            by_cases hjq : j < q
            · obtain ⟨z, hz⟩ : ∃ z, ys[j]? = some z := ⟨_, List.getElem?_eq_getElem (by rw [HQ.out]; exact hjq)⟩
              obtain ⟨pa, pc, hpv, hpc⟩ := (HQS.out.below HLO2.out).lies
              obtain ⟨b, off, hpa, hpl, c0, c1⟩ := hpc j z hz
              injection hpv with hpv1 hpv2 hpv3
              rw [hpa] at hpv1
              subst hpv1
              obtain ⟨z0, z1⟩ := z
              simp only at c0 c1
              obtain ⟨⟨⟨s0, s1, s2⟩, c⟩, hck⟩ : ∃ x, Ld.check T z0 z1 = x := ⟨_, rfl⟩
              have HCHK : Hid (∀ w1, RowKit.Below wr.heap.size wr w1 → Calls Tryd.prog 15 #[.pointer (some ⟨rb, 0, none⟩), .int .i64 z0, .int .i64 z1] w1 fun e w' => e = .returned (.tuple #[.agg #[.int .i64 s0, .int .i64 s1, .int .i64 s2], .int .i64 c]) ∧ RowKit.Below w1.heap.size w1 w') := fun w1 h => s_check (HX2.out.below h) z0 z1 s0 s1 s2 c hck
              have HRCK : Hid (∀ w1, RowKit.Below wr.heap.size wr w1 → Calls Tryd.prog 15 #[.pointer (some ⟨rb2, 0, none⟩), .int .i64 z0, .int .i64 z1] w1 fun e w' => e = .returned (.tuple #[.agg #[.int .i64 s0, .int .i64 s1, .int .i64 s2], .int .i64 c]) ∧ RowKit.Below w1.heap.size w1 w') := fun w1 h => s_check (HX3.out.below h) z0 z1 s0 s1 s2 c hck
              have HC0 := Lib.hid c0
              have HC1 := Lib.hid c1
              have hj0 : (0 : Int) ≤ (j : Int) := by omega
              have hj1 : (j : Int) < (q : Int) := by omega
              have n1 := World.new_ne wr ⟨b, off + j * 2, none⟩ c0
              clear hz hpc hpv2 hpv3 hpa hpl hck
              go_upto_region 19 with fail
              go_cut [17, 18] (fun s15 s16 wx => ∃ t : Nat, s15 = .pointer (some ⟨t, 0, none⟩) ∧ s16 = .int .i64 c ∧ Askd wr t s0 s1 s2 wx)
              case first =>
                go_region_held3 (fun w' => w'.cell? ⟨b, off + j * 2, none⟩ = some (.int .i64 z0) ∧ w'.cell? ⟨b, off + j * 2 + 1, none⟩ = some (.int .i64 z1))
                  (first
                    | go_keep
                    | (go_split_ands; exact ⟨bcell6 hb (by assumption), bcell6 hb (by assumption)⟩)
                    | (go_split_ands; exact ⟨bcell6 ((Below.refl _ _).alloc (Nat.le_refl _) _) k0, bcell6 ((Below.refl _ _).alloc (Nat.le_refl _) _) k1⟩))
                  (first
                    | (go_at_call 15; refine (HCHK.out _ (by first | exact ⟨rfl, rfl, rfl, Nat.le_refl _, fun _ _ => rfl⟩ | exact ⟨(alc3 wr).os, (alc3 wr).tape, (alc3 wr).output, (alc3 wr).size, (alc3 wr).block⟩)).mono ?_; rintro e w5 ⟨rfl, hb⟩; (first | (have k0 := bcell6 hb c0; have k1 := bcell6 hb c1) | (have k0 := bcell6 hb (bcell6 (alc3 wr) c0); have k1 := bcell6 hb (bcell6 (alc3 wr) c1))); (first | (have hz := Blk.below (zero_slot wr) (below_as (wr := World.alloc wr (.cells zeroS3 41)) hb rfl rfl rfl rfl); have q0 : w5.cell? ⟨wr.heap.size, 0, none⟩ = some (.int .i64 0) := hz.cell (i := 0) rfl; have q1 : w5.cell? ⟨wr.heap.size, 1, none⟩ = some (.int .i64 0) := hz.cell (i := 1) rfl; have q2 : w5.cell? ⟨wr.heap.size, 2, none⟩ = some (.int .i64 0) := hz.cell (i := 2) rfl; have f0 : w5.frozen? ⟨wr.heap.size, 0, none⟩ = false := hz.free (i := 0); have f1 : w5.frozen? ⟨wr.heap.size, 1, none⟩ = false := hz.free (i := 1); have f2 : w5.frozen? ⟨wr.heap.size, 2, none⟩ = false := hz.free (i := 2)) | skip)))
                · go_wp2_with fail
                  go_meet
                  exact ⟨_, rfl, rfl, askd_a (below_as hb rfl rfl rfl rfl)⟩
                · go_wp2_with fail
                  go_meet
                  exact ⟨_, rfl, rfl, askd_b (below_as (wr := World.alloc wr (.cells zeroS3 41)) hb rfl rfl rfl rfl)⟩
              case rest =>
                obtain ⟨t1, rfl, rfl, ha1, ha2, ha3⟩ := hcut
                obtain ⟨wd, rfl⟩ : ∃ wd : World, wd = wc := ⟨_, rfl⟩
                have HAS := Lib.hid (And.intro ha1 ha3)
                have c0 := bcell6 HAS.out.2 HC0.out
                have c1 := bcell6 HAS.out.2 HC1.out
                have n1 := World.new_ne wd ⟨b, off + j * 2, none⟩ c0
                have HRC2 := Lib.hid (fun w1 (h : RowKit.Below wd.heap.size wd w1) => HRCK.out w1 (HAS.out.2.trans (h.mono HAS.out.2.size)))
                clear ha1 ha2 ha3 HRCK HCHK
                go_upto_region 20 with fail
                go_cut [19, 20] (fun s17 s18 wx => ∃ t : Nat, s17 = .pointer (some ⟨t, 0, none⟩) ∧ s18 = .int .i64 c ∧ Askd wd t s0 s1 s2 wx)
                case first =>
                  go_region_held3 (fun w' => w'.cell? ⟨b, off + j * 2, none⟩ = some (.int .i64 z0) ∧ w'.cell? ⟨b, off + j * 2 + 1, none⟩ = some (.int .i64 z1))
                    (first
                      | go_keep
                      | (go_split_ands; exact ⟨bcell6 hb (by assumption), bcell6 hb (by assumption)⟩)
                      | (go_split_ands; exact ⟨bcell6 ((Below.refl _ _).alloc (Nat.le_refl _) _) k0, bcell6 ((Below.refl _ _).alloc (Nat.le_refl _) _) k1⟩))
                    (first
                      | (go_at_call 15; refine (HRC2.out _ (by first | exact ⟨rfl, rfl, rfl, Nat.le_refl _, fun _ _ => rfl⟩ | exact ⟨(alc3 wd).os, (alc3 wd).tape, (alc3 wd).output, (alc3 wd).size, (alc3 wd).block⟩)).mono ?_; rintro e w5 ⟨rfl, hb⟩; (first | (have k0 := bcell6 hb c0; have k1 := bcell6 hb c1) | (have k0 := bcell6 hb (bcell6 (alc3 wd) c0); have k1 := bcell6 hb (bcell6 (alc3 wd) c1))); (first | (have hz := Blk.below (zero_slot wd) (below_as (wr := World.alloc wd (.cells zeroS3 41)) hb rfl rfl rfl rfl); have q0 : w5.cell? ⟨wd.heap.size, 0, none⟩ = some (.int .i64 0) := hz.cell (i := 0) rfl; have q1 : w5.cell? ⟨wd.heap.size, 1, none⟩ = some (.int .i64 0) := hz.cell (i := 1) rfl; have q2 : w5.cell? ⟨wd.heap.size, 2, none⟩ = some (.int .i64 0) := hz.cell (i := 2) rfl; have f0 : w5.frozen? ⟨wd.heap.size, 0, none⟩ = false := hz.free (i := 0); have f1 : w5.frozen? ⟨wd.heap.size, 1, none⟩ = false := hz.free (i := 1); have f2 : w5.frozen? ⟨wd.heap.size, 2, none⟩ = false := hz.free (i := 2)) | skip)))
                  · go_wp2_with fail
                    go_meet
                    exact ⟨_, rfl, rfl, askd_a (below_as hb rfl rfl rfl rfl)⟩
                  · go_wp2_with fail
                    go_meet
                    exact ⟨_, rfl, rfl, askd_b (below_as (wr := World.alloc wd (.cells zeroS3 41)) hb rfl rfl rfl rfl)⟩
                case rest =>
                  obtain ⟨t2, rfl, rfl, hd1, hd2, hd3⟩ := hcut
                  obtain ⟨we, rfl⟩ : ∃ we : World, we = wc := ⟨_, rfl⟩
                  have x1 := HAS.out.1.below hd3
                  have y0 := x1.cell (i := 0) rfl
                  have y1 := x1.cell (i := 1) rfl
                  have y2 := x1.cell (i := 2) rfl
                  have v0 := hd1.cell (i := 0) rfl
                  have v1 := hd1.cell (i := 1) rfl
                  have v2 := hd1.cell (i := 2) rfl
                  have HBE := Lib.hid (HBX.out.trans ((HAS.out.2.trans (hd3.mono HAS.out.2.size)).mono HBX.out.size))
                  clear x1 hd1 hd2 hd3 c0 c1 n1
                  go_wp2_with fail
                  go_roundw
                  case rel => exact ⟨j + 1, by omega, by go_num, HBE.out⟩
                  case measure => simp [intOf]; omega
            · obtain rfl : j = q := by omega
              have HNC : Hid (∀ w', Calls Tryd.prog 15 #[.pointer none, .int .i64 0, .int .i64 0] w' fun e w'' => e = .returned (.tuple #[.agg #[.int .i64 0, .int .i64 0, .int .i64 0], .int .i64 2]) ∧ RowKit.Below w'.heap.size w' w'') := fun w' => dcheck_nil 0 0 w'
              have CD := ddect s wr (HLB.out.below HLB.out.size HLO2.out) HSS.out
              obtain ⟨r, hr⟩ : ∃ r, Ld.decT 5 64 s.data.toList = r := ⟨_, rfl⟩
              rw [hr] at CD
              have HCD := Lib.hid CD
              have HR := Lib.hid hr
              clear CD hr
              cases r with
              | none =>
                go_wp2_with fail
                refine HCD.out.mono ?_
                rintro e v1 ⟨rfl, hb1⟩
                have HV1 := Lib.hid (HLO2.out.trans (hb1.mono HLO2.out.size))
                clear hb1 HCD
                go_wp2_with fail
                refine (HNC.out v1).mono ?_
                rintro e v2 ⟨rfl, hb2⟩
                have HV2 := Lib.hid (HV1.out.trans (hb2.mono HV1.out.size))
                clear hb2
                go_wp2_with fail
                refine (dadd_nil _ _ ⟨_, _, _, _, _, _, rfl⟩).mono ?_
                rintro e v3 ⟨rfl, hb3⟩
                have hal := (Below.refl v2.heap.size v2).alloc (Nat.le_refl _) (.cells #[.int .i64 0, .int .i64 0, .int .i64 0] 41)
                have HV3 := Lib.hid (HV2.out.trans ((hal.trans (hb3.mono hal.size)).mono HV2.out.size))
                clear hb3 hal
                go_wp2_with fail
                refine (dtable_nil _).mono ?_
                rintro e v4 ⟨rfl, rfl⟩
                go_wp2_with fail
                go_ret
                exact ⟨rfl, HV3.out⟩
              | some V =>
                obtain ⟨hVG, hVs⟩ := (Ld.decT_iff (by omega) (by omega)).1 HR.out
                have HVG := Lib.hid hVG
                have HVS := Lib.hid (bytes_eq hVs)
                clear hVG hVs
                go_wp2_with fail
                refine HCD.out.mono ?_
                rintro e v1 ⟨⟨vv, rfl, htv⟩, hb1⟩
                have HV1 := Lib.hid (HLO2.out.trans (hb1.mono HLO2.out.size))
                have CE := dtenc _ vv V v1 (HLB.out.below HLB.out.size HV1.out) htv HVG.out
                rw [HVS.out] at CE
                have HCE := Lib.hid CE
                clear hb1 HCD CE htv
                go_wp2_with fail
                refine HCE.out.mono ?_
                rintro e v2 ⟨rfl, hb2⟩
                have HV2 := Lib.hid (HV1.out.trans (hb2.mono HV1.out.size))
                clear hb2 HCE
                go_wp2_with fail
                refine (HNC.out v2).mono ?_
                rintro e v3 ⟨rfl, hb3⟩
                have HV3 := Lib.hid (HV2.out.trans (hb3.mono HV2.out.size))
                clear hb3
                go_wp2_with fail
                refine (dadd_nil _ _ ⟨_, _, _, _, _, _, rfl⟩).mono ?_
                rintro e v4 ⟨rfl, hb4⟩
                have hal := (Below.refl v3.heap.size v3).alloc (Nat.le_refl _) (.cells #[.int .i64 0, .int .i64 0, .int .i64 0] 41)
                have HV4 := Lib.hid (HV3.out.trans ((hal.trans (hb4.mono hal.size)).mono HV3.out.size))
                clear hb4 hal
                go_wp2_with fail
                refine (dtable_nil _).mono ?_
                rintro e v5 ⟨rfl, rfl⟩
                go_wp2_with fail
                go_ret
                exact ⟨rfl, HV4.out⟩
end Go.Proofs.YtloallndnmofnaaDoor
