/- The walk of the law TapeArms. -/
import Derived.Test.YtnenpcbofbcllaaPrts
namespace Go.Proofs.Ytnenpcbofbcllaa
open Go.RowKit Go.Maps

/-- What holds ahead of each round. -/
def Arming (ps : List Pt) (w : World) (t N : Nat) (av iv : Value) (wr : World) : Prop :=
  ∃ (i tot nf : Nat) (B : Nat → Prop) (f : View), i ≤ ps.length ∧ i ≤ 80 ∧ i < N ∧ av = .int .i64 i ∧ iv = .int .i64 i ∧ St wr t B f tot nf ⟨1048576, false, (N : Int) - i, i, 0⟩ ∧ Own w wr B ∧ tot ≤ 1024 * i ∧ nf ≤ i ∧ ∀ k, k ≠ [97] → f k = none

set_option maxHeartbeats 2000000 in
theorem arms_any (n : Int) (a : Option Addr) (cap : Nat) (ps : List Pt) (w : World) (hp : Prts w w.heap.size (.slice a ps.length cap) ps) :
    Calls Try.prog 6 #[.int .i64 n, .slice a ps.length cap] w fun e w' => e = .returned (.bool true) ∧ RowKit.Below w.heap.size w w' := by
  obtain ⟨K, hK, hK2, hK3⟩ := mod_nat n 100 (by decide) (by decide)
  have HAW := Lib.hid awake_any
  have HP := Lib.hid hp
  have HNEW := Lib.hid (fun w => s_new 1048576 w (by decide) (by decide))
  obtain ⟨m, hm⟩ : ∃ m, ps.length = m := ⟨_, rfl⟩
  have HM := Lib.hid hm
  rw [hm] at HP ⊢
  clear hp hm
  go_enter Try.func6, Try.ntmps6
  go_wp2_with fail
  refine (HAW.out _).mono ?_
  rintro e w1 ⟨rfl, b1⟩
  have HB1 := Lib.hid b1
  clear b1
  go_wp2_with fail
  refine (HNEW.out _).mono ?_
  rintro x w2 ⟨t, B2, rfl, S2, b2, o2⟩
  have O2 : Own w w2 B2 := ⟨HB1.out.trans (b2.mono HB1.out.size), fun b hb => Nat.le_trans HB1.out.size (o2 b hb)⟩
  have A := s_arm S2 (1 + (K : Int))
  rw [show max (1 + (K : Int)) 0 = 1 + (K : Int) by omega] at A
  have HA := Lib.hid A
  have HO2 := Lib.hid O2
  clear S2 O2 A b2 o2
  go_wp2_with fail
  refine HA.out.mono ?_
  rintro x w3 ⟨⟨y, rfl⟩, B3, S3, m3⟩
  obtain ⟨N, hN⟩ : ∃ N : Nat, N = 1 + K := ⟨_, rfl⟩
  have hNI : (1 : Int) + (K : Int) = (N : Int) := by omega
  have hN0 : 0 < N := by omega
  have hN100 : N ≤ 100 := by omega
  have hst : Arming ps w t N (.int .i64 0) (.int .i64 0) w3 := ⟨0, 0, 0, B3, _, Nat.zero_le _, by omega, hN0, rfl, rfl, by rw [hNI] at S3; simpa using S3, HO2.out.moved m3, Nat.le_refl _, Nat.le_refl _, fun _ _ => rfl⟩
  have HST := Lib.hid hst
  clear hst S3 m3 hN hK2
  go_wp2_with fail
  go_loopw [6, 7] (fun av iv wr => Arming ps w t N av iv wr) (fun _ iv _ => m - (intOf iv).toNat)
  case atStart => exact HST.out
  case round =>
    obtain ⟨i, tot, nf, B, f, hi, hi80, hiN, rfl, rfl, S, O, htot, hnf, hf⟩ := hrel
    rw [HM.out] at hi
    have HS := Lib.hid S
    have HO := Lib.hid O
    have HT := Lib.hid htot
    have HNF := Lib.hid hnf
    have HF := Lib.hid hf
    clear S O htot hnf hf HST
    by_cases hlt : i < m
    · by_cases h80 : i < 80
      · obtain ⟨x, hx⟩ : ∃ x, ps[i]? = some x := ⟨_, List.getElem?_eq_getElem (by rw [HM.out]; exact hlt)⟩
        obtain ⟨a', cap', hva, hcell⟩ := HP.out
        obtain ⟨b, off, hab, hbl, -, hc1, -⟩ := hcell i x hx
        obtain rfl : a = some ⟨b, off, none⟩ := by injection hva with h1 h2 h3; rw [h1, hab]
        obtain ⟨X, hX⟩ : ∃ X : ByteArray, (⟨x.S.toArray⟩ : ByteArray) = X := ⟨_, rfl⟩
        obtain ⟨r, hr⟩ : ∃ r, x.S.length = r := ⟨_, rfl⟩
        have hXs : X.size = r := by rw [← hX, size_list, hr]
        have hcx : wr.cell? ⟨b, off + i * 3 + 1, none⟩ = some (.string X) := by rw [← hX]; exact (HO.out.low.cell (p := ⟨b, off + i * 3 + 1, none⟩) hbl).trans hc1
        have HX := Lib.hid hX
        have HR := Lib.hid hr
        clear hva hcell hx hX hr hc1 hbl
        by_cases hbig : 1024 < r
        · go_wp2_with fail
          go_ret
          exact ⟨rfl, HO.out.low⟩
        · have q : Small ⟨1048576, false, (N : Int) - i, i, 0⟩ := ⟨rfl, by show i ≤ _; omega, by show 0 ≤ _; omega, by show 0 ≤ (N : Int) - i ∧ (N : Int) - i ≤ _; omega⟩
          obtain ⟨R0, e0, A1⟩ := s_read_any HS.out rfl [97] (by decide)
          have A2 := s_sync_none HS.out rfl [110, 111, 110, 101] (by decide) (HF.out _ (by decide))
          have A3 := s_append_bad HS.out rfl [] [120] (by decide) rfl
          have A4 := s_acts HS.out
          have A5 := s_append HS.out q [97] x.S rfl (by have := HNF.out; omega) (by have := HT.out; have := HR.out; show tot + x.S.length ≤ 1048576; omega)
          rw [HX.out] at A5
          have H1 := Lib.hid A1
          have H2 := Lib.hid A2
          have H3 := Lib.hid A3
          have H4 := Lib.hid A4
          have H5 := Lib.hid A5
          clear A1 A2 A3 A4 A5
          have hii : ((i : Int) != (i : Int)) = false := by simp
          by_cases hlast : i + 1 = N
          · have hr10 : actR ⟨1048576, false, (N : Int) - i, i, 0⟩ = 10 := by simp only [actR]; rw [if_pos (by omega)]
            have hs10 : actS ⟨1048576, false, (N : Int) - i, i, 0⟩ = ⟨1048576, true, 0, i + 1, 1⟩ := by simp only [actS]; rw [if_neg (by omega), if_pos (by omega)]
            rw [hr10, hs10] at H5
            have heq : ((i : Int) + 1) = (N : Int) := by omega
            clear hr10 hs10
            go_wp2_with fail
            refine H1.out.mono ?_
            rintro e w4 ⟨rfl, rfl⟩
            go_wp2_with fail
            refine H2.out.mono ?_
            rintro e w4 ⟨rfl, rfl⟩
            go_wp2_with fail
            refine H3.out.mono ?_
            rintro e w4 ⟨rfl, rfl⟩
            go_wp2_with fail
            refine H4.out.mono ?_
            rintro e w4 ⟨rfl, rfl⟩
            go_wp2_with fail
            refine H5.out.mono ?_
            rintro e w4 ⟨rfl, B4, S4, m4⟩
            have G1 := Lib.hid (s_down S4)
            have G2 := Lib.hid (s_acts S4)
            have G3 := Lib.hid (s_life S4)
            have G4 := Lib.hid (HO.out.moved m4)
            clear S4 m4
            go_wp2_with fail
            refine G1.out.mono ?_
            rintro e w5 ⟨rfl, rfl⟩
            go_wp2_with fail
            refine G2.out.mono ?_
            rintro e w5 ⟨rfl, rfl⟩
            go_wp2_with fail
            refine G1.out.mono ?_
            rintro e w5 ⟨rfl, rfl⟩
            go_wp2_with fail
            refine G3.out.mono ?_
            rintro e w5 ⟨rfl, rfl⟩
            go_wp2_with fail
            go_ret
            exact ⟨rfl, G4.out.low⟩
          · have hr0 : actR ⟨1048576, false, (N : Int) - i, i, 0⟩ = 0 := by simp only [actR]; rw [if_neg (by omega)]
            have hs0 : actS ⟨1048576, false, (N : Int) - i, i, 0⟩ = ⟨1048576, false, (N : Int) - ((i + 1 : Nat) : Int), i + 1, 0⟩ := by
              simp only [actS]
              rw [if_neg (by omega), if_neg (by omega)]
              simp only [Sc.mk.injEq, true_and, and_true]
              omega
            rw [hr0, hs0] at H5
            have hne : (((i : Int) + 1) == (N : Int)) = false := by simp; omega
            clear hr0 hs0
            go_wp2_with fail
            refine H1.out.mono ?_
            rintro e w4 ⟨rfl, rfl⟩
            go_wp2_with fail
            refine H2.out.mono ?_
            rintro e w4 ⟨rfl, rfl⟩
            go_wp2_with fail
            refine H3.out.mono ?_
            rintro e w4 ⟨rfl, rfl⟩
            go_wp2_with fail
            refine H4.out.mono ?_
            rintro e w4 ⟨rfl, rfl⟩
            go_wp2_with fail
            refine H5.out.mono ?_
            rintro e w4 ⟨rfl, B4, S4, m4⟩
            have G1 := Lib.hid (s_down S4)
            have G2 := Lib.hid (s_acts S4)
            have HS4 := Lib.hid S4
            have G4 := Lib.hid (HO.out.moved m4)
            clear S4 m4
            go_wp2_with fail
            refine G1.out.mono ?_
            rintro e w5 ⟨rfl, rfl⟩
            go_wp2_with fail
            refine G2.out.mono ?_
            rintro e w5 ⟨rfl, rfl⟩
            go_wp2_with fail
            refine G1.out.mono ?_
            rintro e w5 ⟨rfl, rfl⟩
            go_wp2_with fail
            go_roundw
            case rel => exact ⟨i + 1, _, _, B4, _, by rw [HM.out]; exact hlt, by omega, by omega, by go_num, by go_num, HS4.out, G4.out, by have := HT.out; have := HR.out; omega, by have := HNF.out; split <;> omega, fun k hk => by rw [upd_other _ _ hk]; exact HF.out k hk⟩
            case measure => simp [intOf]; omega
      · have hge : ((i : Int) < 80) = False := by simp; omega
        have H1 := Lib.hid (s_life HS.out)
        go_wp2_with fail
        refine H1.out.mono ?_
        rintro e w4 ⟨rfl, rfl⟩
        go_wp2_with fail
        go_ret
        exact ⟨rfl, HO.out.low⟩
    · have H1 := Lib.hid (s_life HS.out)
      go_wp2_with fail
      refine H1.out.mono ?_
      rintro e w4 ⟨rfl, rfl⟩
      go_wp2_with fail
      go_ret
      exact ⟨rfl, HO.out.low⟩
end Go.Proofs.Ytnenpcbofbcllaa
