/- LedgerExact's WALK. -/
import Derived.Test.YtloallndnmofnaaDoorEx
import Derived.Test.YtloallndnmofnaaDoorGd
import Derived.Test.YtloallndnmofnaaDoorGreat
import Derived.Test.YtloallndnmofnaaDoorOpenT
import Derived.Test.YtloallndnmofnaaDoorCEq
import Derived.Deep.RegionHeld3
import Derived.Deep.DeepCutAuto
namespace Go.Proofs.YtloallndnmofnaaDoor
open Go.RowKit

theorem boolW {a b : Bool} (h : a = b) : Value.bool a = .bool b := by rw [h]
set_option maxHeartbeats 16000000 in
set_option maxRecDepth 100000 in
theorem exact_any (tv bv av : Value) (T : Ld.Tb) (bs : List Pl.Bt) (zs : List P2) (w : World) (lb : Lg w) (ht : TabAt (fun b => b < w.heap.size) tv T w) (hb : Bts w w.heap.size bv bs) (hp : Pairs w w.heap.size av zs) :
    Calls Tryd.prog 3 #[tv, bv, av] w fun e w' => e = .returned (.bool true) ∧ RowKit.Below w.heap.size w w' := by
  have HA := Lib.hid (awake_any w lb)
  have HLB := Lib.hid lb
  have H2 := Lib.hid lb.size
  have HT := Lib.hid ht
  have HBS := Lib.hid hb
  have HPS := Lib.hid hp
  obtain ⟨ba, bc, rfl, -⟩ := hb.lies
  obtain ⟨aa, ac, rfl, -⟩ := hp.lies
  obtain ⟨m, hm⟩ : ∃ m, bs.length = m := ⟨_, rfl⟩
  obtain ⟨q, hq⟩ : ∃ q, zs.length = q := ⟨_, rfl⟩
  have HM := Lib.hid hm
  have HQ := Lib.hid hq
  rw [hm] at HBS ⊢
  rw [hq] at HPS ⊢
  have HGR := Lib.hid (fun w' (h : RowKit.Below w.heap.size w w') => great_any _ tv T w' (HT.out.below h))
  have HGD := Lib.hid (fun w' (h : RowKit.Below w.heap.size w w') => good_any _ tv T w' (HT.out.below h))
  have HTT := Lib.hid (fun w' (h : RowKit.Below w.heap.size w w') => (HT.out.below h).mono (Q := fun _ => True) (fun _ _ _ => trivial))
  clear lb ht hb hp hm hq
  go_enter Tryd.func3, Tryd.ntmps3
  go_wp2_with fail
  refine HA.out.mono ?_
  rintro e w1 ⟨rfl, b1⟩
  have HB1 := Lib.hid b1
  have HG1 := Lib.hid (HGR.out w1 b1)
  clear b1 HA
  obtain ⟨gr, hgr⟩ : ∃ gr, Ld.greatB T = gr := ⟨_, rfl⟩
  rw [hgr] at HG1
  have HGE := Lib.hid hgr
  clear hgr
  cases gr with
  | true =>
    go_wp2_with fail
    refine HG1.out.mono ?_
    rintro e w' ⟨rfl, rfl⟩
    go_wp2_with fail
    go_ret
    exact ⟨rfl, HB1.out⟩
  | false =>
    by_cases hq100 : 100 < q
    · have hd : decide ((100 : Int) < (q : Int)) = true := decide_eq_true (by omega)
      go_wp2_with fail
      refine HG1.out.mono ?_
      rintro e w' ⟨rfl, rfl⟩
      go_wp2_with fail
      go_ret
      exact ⟨rfl, HB1.out⟩
    · have hd : decide ((100 : Int) < (q : Int)) = false := decide_eq_false (by omega)
      have HTL := Lib.hid (Ld.great_no HGE.out)
      go_wp2_with fail
      refine HG1.out.mono ?_
      rintro e w' ⟨rfl, rfl⟩
      obtain ⟨gd, hgd⟩ : ∃ gd, Ld.goodB T = gd := ⟨_, rfl⟩
      have HGB := Lib.hid hgd
      rw [hgd] at HGD
      clear hgd HG1
      cases gd with
      | false =>
        have HF := Lib.hid (dfrom_no tv T w1 (HTT.out w1 HB1.out) HTL.out.1 HTL.out.2 HGB.out)
        go_wp2_with fail
        refine HF.out.mono ?_
        rintro e w2 ⟨rfl, hb2⟩
        have HB2 := Lib.hid (HB1.out.trans (hb2.mono HB1.out.size))
        have HG2 := Lib.hid (HGD.out w2 HB2.out)
        clear hb2 HF
        go_wp2_with fail
        refine HG2.out.mono ?_
        rintro e w3 ⟨rfl, hb3⟩
        have HB3 := Lib.hid (HB2.out.trans (hb3.mono HB2.out.size))
        clear hb3
        go_wp2_with fail
        go_ret
        exact ⟨rfl, HB3.out⟩
      | true =>
        have HF := Lib.hid (dfrom_ok tv T w1 (HTT.out w1 HB1.out) HGB.out)
        go_wp2_with fail
        refine HF.out.mono ?_
        rintro e w2 ⟨rb, B0, rfl, hlg2, hB0, hb2⟩
        have HB2 := Lib.hid (HB1.out.trans (hb2.mono HB1.out.size))
        have HG2 := Lib.hid (HGD.out w2 HB2.out)
        have HL2 := Lib.hid (And.intro hlg2 (And.intro hB0 hb2))
        clear hlg2 hB0 hb2 HF
        go_wp2_with fail
        refine HG2.out.mono ?_
        rintro e w3 ⟨rfl, hb3⟩
        have HB3 := Lib.hid (HB2.out.trans (hb3.mono HB2.out.size))
        have HCP := Lib.hid (rcopy tv T w3 (HTT.out w3 HB3.out) HGB.out)
        have HB23 := Lib.hid hb3
        clear hb3 HG2
        go_wp2_with fail
        refine HCP.out.mono ?_
        rintro e w4 ⟨tv4, tb4, E4, rfl, hown4, hE4, hf4, hb4⟩
        have HEX : Hid (Ex w w4 rb B0 T tv4) := by
          obtain ⟨h1, h2, h3⟩ := HL2.out
          exact Ex.start HB1.out HLB.out HGB.out (h1.below HB23.out) h2 (h3.trans (HB23.out.mono h3.size)) hown4 hE4 hf4 hb4
        clear hown4 hE4 hf4 hb4 HL2 HB23 HCP HGD HGR HTT
        go_wp2_with fail
        go_loopw [9, 10] (fun tv' iv wr => ∃ (k : Nat) (B : Nat → Prop) (T' : Ld.Tb), k ≤ m ∧ iv = .int .i64 k ∧ Ex w wr rb B T' tv') (fun _ iv _ => m - (intOf iv).toNat)
        case atStart => exact ⟨0, B0, T, Nat.zero_le _, rfl, HEX.out⟩
        case round =>
          obtain ⟨k, B, T', hk, rfl, hex⟩ := hrel
          have HE := Lib.hid hex
          clear hex HEX
          have HLOW := Lib.hid HE.out.ls.low
          go_upto_region 12 with fail
          go_cut [57] (fun s wx => s = .bool (decide (k < m ∧ k < 120)) ∧ wx = wr)
          case first =>
            by_cases hlt : k < m
            · by_cases hl2 : (k : Int) < 120
              · go_wp2_with fail
                go_meet
                case rel => exact ⟨boolW (by simp; omega), rfl⟩
              · go_wp2_with fail
                go_meet
                case rel => exact ⟨boolW (by simp; omega), rfl⟩
            · have hge : decide (k < m) = false := decide_eq_false hlt
              go_wp2_with fail
              go_meet
              case rel => exact ⟨boolW (by simp; omega), rfl⟩
          case rest =>
            obtain ⟨rfl, hwc⟩ := hcut
            subst hwc
            by_cases hin : k < m ∧ k < 120
            · rw [decide_eq_true hin]
              obtain ⟨hlt, hl2⟩ := hin
              obtain ⟨x, hx⟩ : ∃ x, bs[k]? = some x := ⟨_, List.getElem?_eq_getElem (by rw [HM.out]; exact hlt)⟩
              obtain ⟨ba', bc', hbv, hbc⟩ := (HBS.out.below HLOW.out (Nat.le_refl _)).lies
              obtain ⟨b, off, rv, hba, hbl, hcs, hrc, hI0, hI1⟩ := hbc k x hx
              injection hbv with hbv1 hbv2 hbv3
              rw [hba] at hbv1
              subst hbv1
              have HR := Lib.hid hrc
              have HBL : Hid (b < wc.heap.size) := by have := HLOW.out.size; show b < _; omega
              obtain ⟨base, count, prod, seq, time, ls⟩ := x
              simp only at hcs hrc hI0 hI1
              have HC := Lib.hid hcs
              have HI := Lib.hid (And.intro hI0 hI1)
              obtain ⟨ra, rc, hrv, hrcell⟩ := hrc
              obtain ⟨n, hn⟩ : ∃ n, ls.length = n := ⟨_, rfl⟩
              rw [hn] at hrv
              subst hrv
              have HN := Lib.hid hn
              have HRC := Lib.hid hrcell
              have c5 := HC.out.2.2.2.2.2
              have hk0 : (0 : Int) ≤ (k : Int) := by omega
              have hk1 : (k : Int) < (m : Int) := by omega
              clear hx hbc hbv2 hbv3 hcs hI0 hI1 hn hrcell hba hbl
              by_cases h40 : 40 < n
              · have hd4 : decide ((40 : Int) < (n : Int)) = true := decide_eq_true (by omega)
                go_wp2_with fail
                go_ret
                exact ⟨rfl, HLOW.out⟩
              · have hd4 : decide ((40 : Int) < (n : Int)) = false := decide_eq_false (by omega)
                go_wp2_with fail
                clear hd4 c5
                go_loopw [11] (fun jv wx => ∃ j : Nat, j ≤ n ∧ jv = .int .i64 j ∧ RowKit.Below wc.heap.size wc wx) (fun jv _ => n - (intOf jv).toNat)
                case atStart => exact ⟨0, Nat.zero_le _, rfl, Below.refl _ _⟩
                case round =>
                  obtain ⟨j, hj, rfl, hbx⟩ := hrel
                  have HBX := Lib.hid hbx
                  have c5 := bcell6 hbx HC.out.2.2.2.2.2
                  clear hbx
                  by_cases hjn : j < n
                  · obtain ⟨r, hr⟩ : ∃ r, ls[j]? = some r := ⟨_, List.getElem?_eq_getElem (by rw [HN.out]; exact hjn)⟩
                    obtain ⟨g, ro, rfl, hgl, -, d1, d2, -⟩ := HRC.out j r hr
                    obtain ⟨K, hK⟩ : ∃ K : ByteArray, (⟨r.key.toArray⟩ : ByteArray) = K := ⟨_, rfl⟩
                    obtain ⟨V, hV⟩ : ∃ V : ByteArray, (⟨r.val.toArray⟩ : ByteArray) = V := ⟨_, rfl⟩
                    rw [hK] at d1
                    rw [hV] at d2
                    have d1 := bcell6 HBX.out d1
                    have d2 := bcell6 HBX.out d2
                    have hj0 : (0 : Int) ≤ (j : Int) := by omega
                    have hj1 : (j : Int) < (n : Int) := by omega
                    clear hK hV hr hgl
                    by_cases hK1 : 1000 < K.size
                    · have e1 : decide ((1000 : Int) < (K.size : Int)) = true := decide_eq_true (by omega)
                      go_wp2_with fail
                      go_ret
                      exact ⟨rfl, HLOW.out.trans (HBX.out.mono HLOW.out.size)⟩
                    · have e1 : decide ((1000 : Int) < (K.size : Int)) = false := decide_eq_false (by omega)
                      by_cases hV1 : 1000 < V.size
                      · have e2 : decide ((1000 : Int) < (V.size : Int)) = true := decide_eq_true (by omega)
                        go_wp2_with fail
                        go_ret
                        exact ⟨rfl, HLOW.out.trans (HBX.out.mono HLOW.out.size)⟩
                      · have e2 : decide ((1000 : Int) < (V.size : Int)) = false := decide_eq_false (by omega)
                        go_wp2_with fail
                        go_roundw
                        case rel => exact ⟨j + 1, by omega, by go_num, HBX.out⟩
                        case measure => simp [intOf]; omega
                  · obtain rfl : j = n := by omega
                    have HX2 := Lib.hid (HE.out.below HBX.out)
                    have HLS : Hid (ls.length ≤ 1099511627776) := by have := HN.out; show _ ≤ _; omega
                    have HRE : Hid (∀ w', RowKit.Below wc.heap.size wc w' → Recs (.slice ra j rc) ls w') := fun w' h => HR.out.below h
                    have HCE : Hid (∀ w', RowKit.Below wc.heap.size wc w' → w'.cell? ⟨b, off + k * 6, none⟩ = some (.int .i64 base) ∧ w'.cell? ⟨b, off + k * 6 + 1, none⟩ = some (.int .i64 count) ∧ w'.cell? ⟨b, off + k * 6 + 2, none⟩ = some (.int .i64 prod) ∧ w'.cell? ⟨b, off + k * 6 + 3, none⟩ = some (.int .i64 seq) ∧ w'.cell? ⟨b, off + k * 6 + 4, none⟩ = some (.int .i64 time) ∧ w'.cell? ⟨b, off + k * 6 + 5, none⟩ = some (.slice ra j rc)) := fun w' h => by
                      obtain ⟨h0, h1, h2, h3, h4, h5⟩ := HC.out
                      exact ⟨bcell6 h h0, bcell6 h h1, bcell6 h h2, bcell6 h h3, bcell6 h h4, bcell6 h h5⟩
                    have HRA := Lib.hid (radd _ u9 T' base count prod seq time ls (.slice ra j rc) wr HX2.out.tab HX2.out.ls.good (HRE.out wr HBX.out) HLS.out HI.out.2 HI.out.1)
                    obtain ⟨d0, d1, d2, d3, d4, d5⟩ := HCE.out wr HBX.out
                    obtain ⟨gb, hgb⟩ : ∃ gb, Pl.goodB ⟨base, count, prod, seq, time, ls⟩ = gb := ⟨_, rfl⟩
                    have HGBT := Lib.hid hgb
                    rw [hgb] at HRA
                    clear c5 hgb
                    go_wp2_with fail
                    refine HRA.out.mono ?_
                    rintro e v2 ⟨v', rfl, ht2, hb2⟩
                    have HB2 := Lib.hid (HBX.out.trans (hb2.mono HBX.out.size))
                    have HT2 := Lib.hid ht2
                    have HB2' := Lib.hid hb2
                    have HAD := Lib.hid (s_addG (HX2.out.below hb2).ls H2.out (base := base) (count := count) (prod := prod) (seq := seq) (time := time) (HRE.out v2 HB2.out) HLS.out)
                    rw [HGBT.out] at HAD
                    obtain ⟨c, hc⟩ : ∃ c, Ld.addR gb T' prod seq base = c := ⟨_, rfl⟩
                    have HCC := Lib.hid hc
                    rw [hc]
                    clear d0 d1 d2 d3 d4 d5 hb2 ht2 hc HRA
                    obtain ⟨d0, d1, d2, d3, d4, d5⟩ := HCE.out v2 HB2.out
                    go_wp2_with fail
                    refine HAD.out.mono ?_
                    rintro e v3 ⟨rfl, B', hl3, hm3⟩
                    have HL3 := Lib.hid hl3
                    have HM3 := Lib.hid hm3
                    rw [HCC.out]
                    clear d0 d1 d2 d3 d4 d5 hl3 hm3 HAD
                    by_cases hc0 : c = 0
                    · subst hc0
                      have HFX : Hid (Ex w v3 rb B' (Ld.addT T' prod seq base count) v') := HX2.out.yes HB2'.out (HT2.out HCC.out) HL3.out HM3.out HCC.out
                      go_wp2_with fail
                      go_roundw
                      case rel => exact ⟨k + 1, B', _, by omega, by go_num, HFX.out⟩
                      case measure => simp [intOf]; omega
                    · have hce : (c == 0) = false := by simpa using hc0
                      have HFX : Hid (Ex w v3 rb B' T' u9) := (HX2.out.below HB2'.out).no HL3.out HM3.out (by rw [HCC.out]; exact hc0)
                      go_wp2_with fail
                      go_roundw
                      case rel => exact ⟨k + 1, B', T', by omega, by go_num, HFX.out⟩
                      case measure => simp [intOf]; omega
            · rw [decide_eq_false hin]
              clear hin
              go_wp2_with fail
              go_loopw [14] (fun jv wx => ∃ j : Nat, j ≤ q ∧ jv = .int .i64 j ∧ RowKit.Below wc.heap.size wc wx) (fun jv _ => q - (intOf jv).toNat)
              case atStart => exact ⟨0, Nat.zero_le _, rfl, Below.refl _ _⟩
              case round =>
                obtain ⟨j, hj, rfl, hbx⟩ := hrel
                have HBX := Lib.hid hbx
                have HX2 := Lib.hid (HE.out.below hbx)
                have HLO2 := Lib.hid (HLOW.out.trans (hbx.mono HLOW.out.size))
                clear hbx
                by_cases hjq : j < q
                · obtain ⟨z, hz⟩ : ∃ z, zs[j]? = some z := ⟨_, List.getElem?_eq_getElem (by rw [HQ.out]; exact hjq)⟩
                  obtain ⟨pa, pc, hpv, hpc⟩ := (HPS.out.below HLO2.out).lies
                  obtain ⟨b, off, hpa, hpl, c0, c1⟩ := hpc j z hz
                  injection hpv with hpv1 hpv2 hpv3
                  rw [hpa] at hpv1
                  subst hpv1
                  obtain ⟨z0, z1⟩ := z
                  simp only at c0 c1
                  obtain ⟨⟨⟨s0, s1, s2⟩, c⟩, hck⟩ : ∃ x, Ld.check T' z0 z1 = x := ⟨_, rfl⟩
                  have HCHK : Hid (∀ w1, RowKit.Below wr.heap.size wr w1 → Calls Tryd.prog 15 #[.pointer (some ⟨rb, 0, none⟩), .int .i64 z0, .int .i64 z1] w1 fun e w' => e = .returned (.tuple #[.agg #[.int .i64 s0, .int .i64 s1, .int .i64 s2], .int .i64 c]) ∧ RowKit.Below w1.heap.size w1 w') := fun w1 h => s_check (HX2.out.below h).ls z0 z1 s0 s1 s2 c hck
                  have HRCK : Hid (∀ w1, RowKit.Below wr.heap.size wr w1 → Calls Tryd.prog 16 #[u9, .int .i64 z0, .int .i64 z1] w1 fun e w' => e = .returned (.tuple #[.agg #[.int .i64 s0, .int .i64 s1, .int .i64 s2], .int .i64 c]) ∧ RowKit.Below w1.heap.size w1 w') := fun w1 h => by
                    have := check_any _ u9 T' z0 z1 w1 (HX2.out.below h).tab HX2.out.ls.good
                    rw [hck] at this
                    exact this
                  have HC0 := Lib.hid c0
                  have HC1 := Lib.hid c1
                  have hj0 : (0 : Int) ≤ (j : Int) := by omega
                  have hj1 : (j : Int) < (q : Int) := by omega
                  have n1 := World.new_ne wr ⟨b, off + j * 2, none⟩ c0
                  clear hz hpc hpv2 hpv3 hpa hpl hck
                  go_upto_region 29 with fail
                  go_cut [15, 16] (fun s15 s16 wx => ∃ t : Nat, s15 = .pointer (some ⟨t, 0, none⟩) ∧ s16 = .int .i64 c ∧ Askd wr t s0 s1 s2 wx)
                  case first =>
                    go_region_held3 (fun w' => w'.cell? ⟨b, off + j * 2, none⟩ = some (.int .i64 z0) ∧ w'.cell? ⟨b, off + j * 2 + 1, none⟩ = some (.int .i64 z1))
                      (first
                        | go_keep
                        | (go_split_ands; exact ⟨bcell6 hb (by assumption), bcell6 hb (by assumption)⟩)
                        | (go_split_ands; exact ⟨bcell6 ((Below.refl _ _).alloc (Nat.le_refl _) _) k0, bcell6 ((Below.refl _ _).alloc (Nat.le_refl _) _) k1⟩))
                      (first
                        | (go_at_call 15; refine (HCHK.out _ (by first | exact ⟨rfl, rfl, rfl, Nat.le_refl _, fun _ _ => rfl⟩ | exact ⟨(alc3 wr).os, (alc3 wr).tape, (alc3 wr).output, (alc3 wr).size, (alc3 wr).block⟩)).mono ?_; rintro e w5 ⟨rfl, hb⟩; (first | (have k0 := bcell6 hb c0; have k1 := bcell6 hb c1) | (have k0 := bcell6 hb (bcell6 (alc3 wr) c0); have k1 := bcell6 hb (bcell6 (alc3 wr) c1))); (first | (have hz := Blk.below (zero_slot wr) (below_as (wr := World.alloc wr (.cells zeroS3 41)) hb rfl rfl rfl rfl); have q0 : w5.cell? ⟨wr.heap.size, 0, none⟩ = some (.int .i64 0) := hz.cell (i := 0) rfl; have q1 : w5.cell? ⟨wr.heap.size, 1, none⟩ = some (.int .i64 0) := hz.cell (i := 1) rfl; have q2 : w5.cell? ⟨wr.heap.size, 2, none⟩ = some (.int .i64 0) := hz.cell (i := 2) rfl; have f0 : w5.frozen? ⟨wr.heap.size, 0, none⟩ = false := hz.free (i := 0); have f1 : w5.frozen? ⟨wr.heap.size, 1, none⟩ = false := hz.free (i := 1); have f2 : w5.frozen? ⟨wr.heap.size, 2, none⟩ = false := hz.free (i := 2)) | skip)))
                    · go_wp2_with fail
                      go_meet
                      exact ⟨_, rfl, rfl, askd_a (below_as hb rfl rfl rfl rfl)⟩
                    · go_wp2_with fail
                      go_meet
                      exact ⟨_, rfl, rfl, askd_b (below_as (wr := World.alloc wr (.cells zeroS3 41)) hb rfl rfl rfl rfl)⟩
                  case rest =>
                    obtain ⟨t1, rfl, rfl, ha1, ha2, ha3⟩ := hcut
                    obtain ⟨wd, rfl⟩ : ∃ wd : World, wd = wc := ⟨_, rfl⟩
                    have HAS := Lib.hid (And.intro ha1 ha3)
                    have c0 := bcell6 HAS.out.2 HC0.out
                    have c1 := bcell6 HAS.out.2 HC1.out
                    have n1 := World.new_ne wd ⟨b, off + j * 2, none⟩ c0
                    have HRC2 := Lib.hid (fun w1 (h : RowKit.Below wd.heap.size wd w1) => HRCK.out w1 (HAS.out.2.trans (h.mono HAS.out.2.size)))
                    clear ha1 ha2 ha3 HRCK HCHK
                    go_upto_region 30 with fail
                    go_cut [17, 18] (fun s17 s18 wx => ∃ t : Nat, s17 = .pointer (some ⟨t, 0, none⟩) ∧ s18 = .int .i64 c ∧ Askd wd t s0 s1 s2 wx)
                    case first =>
                      go_region_held3 (fun w' => w'.cell? ⟨b, off + j * 2, none⟩ = some (.int .i64 z0) ∧ w'.cell? ⟨b, off + j * 2 + 1, none⟩ = some (.int .i64 z1))
                        (first
                          | go_keep
                          | (go_split_ands; exact ⟨bcell6 hb (by assumption), bcell6 hb (by assumption)⟩)
                          | (go_split_ands; exact ⟨bcell6 ((Below.refl _ _).alloc (Nat.le_refl _) _) k0, bcell6 ((Below.refl _ _).alloc (Nat.le_refl _) _) k1⟩))
                        (first
                          | (go_at_call 16; refine (HRC2.out _ (by first | exact ⟨rfl, rfl, rfl, Nat.le_refl _, fun _ _ => rfl⟩ | exact ⟨(alc3 wd).os, (alc3 wd).tape, (alc3 wd).output, (alc3 wd).size, (alc3 wd).block⟩)).mono ?_; rintro e w5 ⟨rfl, hb⟩; (first | (have k0 := bcell6 hb c0; have k1 := bcell6 hb c1) | (have k0 := bcell6 hb (bcell6 (alc3 wd) c0); have k1 := bcell6 hb (bcell6 (alc3 wd) c1))); (first | (have hz := Blk.below (zero_slot wd) (below_as (wr := World.alloc wd (.cells zeroS3 41)) hb rfl rfl rfl rfl); have q0 : w5.cell? ⟨wd.heap.size, 0, none⟩ = some (.int .i64 0) := hz.cell (i := 0) rfl; have q1 : w5.cell? ⟨wd.heap.size, 1, none⟩ = some (.int .i64 0) := hz.cell (i := 1) rfl; have q2 : w5.cell? ⟨wd.heap.size, 2, none⟩ = some (.int .i64 0) := hz.cell (i := 2) rfl; have f0 : w5.frozen? ⟨wd.heap.size, 0, none⟩ = false := hz.free (i := 0); have f1 : w5.frozen? ⟨wd.heap.size, 1, none⟩ = false := hz.free (i := 1); have f2 : w5.frozen? ⟨wd.heap.size, 2, none⟩ = false := hz.free (i := 2)) | skip)))
                      · go_wp2_with fail
                        go_meet
                        exact ⟨_, rfl, rfl, askd_a (below_as hb rfl rfl rfl rfl)⟩
                      · go_wp2_with fail
                        go_meet
                        exact ⟨_, rfl, rfl, askd_b (below_as (wr := World.alloc wd (.cells zeroS3 41)) hb rfl rfl rfl rfl)⟩
                    case rest =>
                      obtain ⟨t2, rfl, rfl, hd1, hd2, hd3⟩ := hcut
                      obtain ⟨we, rfl⟩ : ∃ we : World, we = wc := ⟨_, rfl⟩
                      have x1 := HAS.out.1.below hd3
                      have y0 := x1.cell (i := 0) rfl
                      have y1 := x1.cell (i := 1) rfl
                      have y2 := x1.cell (i := 2) rfl
                      have v0 := hd1.cell (i := 0) rfl
                      have v1 := hd1.cell (i := 1) rfl
                      have v2 := hd1.cell (i := 2) rfl
                      have HBE := Lib.hid (HBX.out.trans ((HAS.out.2.trans (hd3.mono HAS.out.2.size)).mono HBX.out.size))
                      clear x1 hd1 hd2 hd3 c0 c1 n1
                      go_wp2_with fail
                      go_roundw
                      case rel => exact ⟨j + 1, by omega, by go_num, HBE.out⟩
                      case measure => simp [intOf]; omega
                · obtain rfl : j = q := by omega
                  have HTB := Lib.hid (s_table HX2.out.ls)
                  go_wp2_with fail
                  refine HTB.out.mono ?_
                  rintro e v6 ⟨tv6, tb6, E6, rfl, hown6, hE6, -, hb6⟩
                  have htab := hown6.tab (fun _ => True) (fun _ _ => trivial)
                  rw [hE6] at htab
                  have HSM := Lib.hid (rsame _ _ tv6 u9 T' v6 htab (HX2.out.tab.below hb6) (good_short HX2.out.ls.good).1 (good_short HX2.out.ls.good).2)
                  have HB6 := Lib.hid (HLO2.out.trans (hb6.mono HLO2.out.size))
                  clear hown6 hE6 hb6 htab HTB
                  go_wp2_with fail
                  refine HSM.out.mono ?_
                  rintro e v7 ⟨rfl, hb7⟩
                  have HB7 := Lib.hid (HB6.out.trans (hb7.mono HB6.out.size))
                  clear hb7 HSM
                  go_wp2_with fail
                  go_ret
                  exact ⟨rfl, HB7.out⟩
end Go.Proofs.YtloallndnmofnaaDoor
