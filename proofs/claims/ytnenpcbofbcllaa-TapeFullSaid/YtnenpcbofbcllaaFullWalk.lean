/- The walk of the law TapeFull. -/
import Derived.Test.YtnenpcbofbcllaaLetter
namespace Go.Proofs.Ytnenpcbofbcllaa
open Go.RowKit Go.Maps

/-- What holds ahead of each round. -/
def Filling (ps : List Pt) (w : World) (t room : Nat) (sv iv : Value) (wr : World) : Prop :=
  ∃ (i tot nf acts : Nat) (B : Nat → Prop) (f : View), i ≤ ps.length ∧ i ≤ 60 ∧ sv = .int .i64 tot ∧ iv = .int .i64 i ∧ St wr t B f tot nf ⟨room, false, 0, acts, 0⟩ ∧ Own w wr B ∧ nf ≤ i ∧ acts ≤ i

set_option maxRecDepth 100000 in
set_option maxHeartbeats 4000000 in
theorem full_any (n : Int) (a : Option Addr) (cap : Nat) (ps : List Pt) (w : World) (hp : Prts w w.heap.size (.slice a ps.length cap) ps) :
    Calls Try.prog 5 #[.int .i64 n, .slice a ps.length cap] w fun e w' => e = .returned (.bool true) ∧ RowKit.Below w.heap.size w w' := by
  obtain ⟨Q, hQ, hQ2, hQ3⟩ := mod_nat n 3000 (by decide) (by decide)
  have HAW := Lib.hid awake_any
  have HP := Lib.hid hp
  have HNEW := Lib.hid (fun w => s_new (Q : Int) w (by omega) (by omega))
  obtain ⟨m, hm⟩ : ∃ m, ps.length = m := ⟨_, rfl⟩
  have HM := Lib.hid hm
  rw [hm] at HP ⊢
  clear hp hm
  go_enter Try.func5, Try.ntmps5
  go_wp2_with fail
  refine (HAW.out _).mono ?_
  rintro e w1 ⟨rfl, b1⟩
  have HB1 := Lib.hid b1
  clear b1
  go_wp2_with fail
  refine (HNEW.out _).mono ?_
  rintro x w2 ⟨t, B2, rfl, S2, b2, o2⟩
  have O2 : Own w w2 B2 := ⟨HB1.out.trans (b2.mono HB1.out.size), fun b hb => Nat.le_trans HB1.out.size (o2 b hb)⟩
  have hst : Filling ps w t Q (.int .i64 0) (.int .i64 0) w2 := ⟨0, 0, 0, 0, B2, _, Nat.zero_le _, by omega, rfl, rfl, by simpa using S2, O2, Nat.le_refl _, Nat.le_refl _⟩
  have HST := Lib.hid hst
  clear hst S2 b2 o2 O2
  go_wp2_with fail
  go_loopw [6, 7] (fun sv iv wr => Filling ps w t Q sv iv wr) (fun _ iv _ => m - (intOf iv).toNat)
  case atStart => exact HST.out
  case round =>
    obtain ⟨i, tot, nf, acts, B, f, hi, hi60, rfl, rfl, S, O, hnf, hac⟩ := hrel
    rw [HM.out] at hi
    have HS := Lib.hid S
    have HO := Lib.hid O
    have HNF := Lib.hid hnf
    have HAC := Lib.hid hac
    have hfit : tot ≤ Q := S.fit.1
    have HQ2 := Lib.hid hQ2
    clear S O hnf hac HST hQ hQ3 hQ2
    by_cases hlt : i < m
    · by_cases h60 : i < 60
      · obtain ⟨x, hx⟩ : ∃ x, ps[i]? = some x := ⟨_, List.getElem?_eq_getElem (by rw [HM.out]; exact hlt)⟩
        obtain ⟨a', cap', hva, hcell⟩ := HP.out
        obtain ⟨b, off, hab, hbl, hc0, hc1, -⟩ := hcell i x hx
        obtain rfl : a = some ⟨b, off, none⟩ := by injection hva with h1 h2 h3; rw [h1, hab]
        obtain ⟨X, hX⟩ : ∃ X : ByteArray, (⟨x.S.toArray⟩ : ByteArray) = X := ⟨_, rfl⟩
        obtain ⟨r, hr⟩ : ∃ r, x.S.length = r := ⟨_, rfl⟩
        have hXs : X.size = r := by rw [← hX, size_list, hr]
        obtain ⟨z, hz⟩ : ∃ z, x.n = z := ⟨_, rfl⟩
        obtain ⟨K, hK, hK2, hK3⟩ := mod_nat z 4 (by decide) (by decide)
        rw [hX] at hc1
        rw [hz] at hc0
        have hcn : wr.cell? ⟨b, off + i * 3, none⟩ = some (.int .i64 z) := HO.out.cell hbl hc0
        have HBL := Lib.hid hbl
        have HC1 := Lib.hid hc1
        obtain ⟨KN, hKN⟩ : ∃ KN : ByteArray, (⟨(nm K).toArray⟩ : ByteArray) = KN := ⟨_, rfl⟩
        have hconv := name_conv K (by omega) wr
        rw [hKN] at hconv
        have hb4 : RowKit.Below wr.heap.size wr (wr.alloc (.cells #[.int .u8 (97 + (K : Int))] 5)) := (Below.refl _ _).alloc (Nat.le_refl _) _
        obtain ⟨W1, hW1⟩ : ∃ W, wr.alloc (.cells #[.int .u8 (97 + (K : Int))] 5) = W := ⟨_, rfl⟩
        rw [hW1] at hconv hb4
        have S1 := HS.out.below hb4
        obtain ⟨e1, A1⟩ := s_read_cur S1 rfl (nm K) (by rw [nm_len]; decide)
        obtain ⟨C, hC⟩ : ∃ C : ByteArray, (⟨(cur f (nm K)).toArray⟩ : ByteArray) = C := ⟨_, rfl⟩
        have hCs : C.size ≤ 4194304 := by
          rw [← hC, size_list]
          have h1 := cur_sized HS.out (nm K)
          have h2 := HS.out.fit
          omega
        have hQr : Q ≤ 4194304 := HS.out.fit.2
        rw [hKN, hC] at A1
        have H1 := Lib.hid A1
        have H2 := Lib.hid (s_names S1)
        have HS1 := Lib.hid S1
        have HO1 := Lib.hid (HO.out.below hb4)
        have HX := Lib.hid hX
        have HR := Lib.hid hr
        have HKN := Lib.hid hKN
        have HC := Lib.hid hC
        clear hva hcell hx hX hr hc0 hc1 hbl hz hKN hC S1 A1 hb4
        go_wp2_with fail
        refine H1.out.mono ?_
        rintro y w5 ⟨rfl, rfl⟩
        go_wp2_with fail
        refine H2.out.mono ?_
        rintro y w5 ⟨⟨ao, cp, rfl⟩, b5⟩
        have S5 := HS1.out.below b5
        have O5 := HO1.out.below b5
        have hcx5 := O5.cell HBL.out HC1.out
        clear hcn hconv hW1 b5 hK hK2 hK3
        by_cases hroom : tot + r ≤ Q
        · have A3 := s_append S5 (small_of Q acts (by have := HAC.out; omega)) (nm K) x.S (nm_ok K) (by have := HNF.out; omega) (by rw [HR.out]; exact hroom)
          rw [HKN.out, HX.out, show actR ⟨Q, false, 0, acts, 0⟩ = 0 from rfl, show actS ⟨Q, false, 0, acts, 0⟩ = ⟨Q, false, 0, acts + 1, 0⟩ from rfl, HR.out] at A3
          have H3 := Lib.hid A3
          have HO5 := Lib.hid O5
          clear S5 O5 A3
          go_wp2_with fail
          refine H3.out.mono ?_
          rintro y w6 ⟨rfl, B6, S6, m6⟩
          have O6 := HO5.out.moved m6
          have hcx6 := O6.cell HBL.out HC1.out
          obtain ⟨e2, A4⟩ := s_read_cur S6 rfl (nm K) (by rw [nm_len]; decide)
          obtain ⟨D, hD⟩ : ∃ D : ByteArray, C ++ X = D := ⟨_, rfl⟩
          rw [cur_more, ← bytes_append, HC.out, HX.out, hD, HKN.out] at A4
          have A5 : Calls Try.prog 18 #[.pointer (some ⟨t, 0, none⟩)] w6 fun e w' => e = .returned (.int .i64 ((Q : Int) - ((tot : Int) + (r : Int)))) ∧ RowKit.Below w6.heap.size w6 w' := s_left S6
          have H4 := Lib.hid A4
          have H5 := Lib.hid A5
          have HS6 := Lib.hid S6
          have HO6 := Lib.hid O6
          clear S6 O6 A4 A5 m6 hcx5
          go_wp2_with fail
          refine H4.out.mono ?_
          rintro y w7 ⟨rfl, rfl⟩
          go_wp2_with fail
          refine H5.out.mono ?_
          rintro y w7 ⟨rfl, b7⟩
          have HB7 := Lib.hid b7
          clear b7 hcx6
          go_wp2_with fail
          go_roundw
          case rel => exact ⟨i + 1, tot + r, _, acts + 1, B6, _, by rw [HM.out]; exact hlt, by omega, by go_num, by go_num, HS6.out.below HB7.out, HO6.out.below HB7.out, by have := HNF.out; split <;> omega, by have := HAC.out; omega⟩
          case measure => simp [intOf]; omega
        · have A3 := s_append_full S5 rfl (nm K) x.S (nm_ok K) (by have := HNF.out; omega) (by rw [HR.out]; show Q < tot + r; omega)
          rw [HKN.out, HX.out] at A3
          have hgt : (Q : Int) - (tot : Int) < (r : Int) := by omega
          have H3 := Lib.hid A3
          have HO5 := Lib.hid O5
          have HS5 := Lib.hid S5
          clear S5 O5 A3
          go_wp2_with fail
          refine H3.out.mono ?_
          rintro y w6 ⟨rfl, b6⟩
          have S6 := HS5.out.below b6
          have O6 := HO5.out.below b6
          have hcx6 := O6.cell HBL.out HC1.out
          obtain ⟨e2, A4⟩ := s_read_cur S6 rfl (nm K) (by rw [nm_len]; decide)
          rw [HC.out, HKN.out] at A4
          have H4 := Lib.hid A4
          have H5 := Lib.hid (s_names S6)
          have HS6 := Lib.hid S6
          have HO6 := Lib.hid O6
          clear S6 O6 A4 b6 hcx5
          go_wp2_with fail
          refine H4.out.mono ?_
          rintro y w7 ⟨rfl, rfl⟩
          go_wp2_with fail
          refine H5.out.mono ?_
          rintro y w7 ⟨⟨ao7, cp7, rfl⟩, b7⟩
          have S7 := HS6.out.below b7
          have O7 := HO6.out.below b7
          have A6 : Calls Try.prog 18 #[.pointer (some ⟨t, 0, none⟩)] w7 fun e w' => e = .returned (.int .i64 ((Q : Int) - (tot : Int))) ∧ RowKit.Below w7.heap.size w7 w' := s_left S7
          have H6 := Lib.hid A6
          have HS7 := Lib.hid S7
          have HO7 := Lib.hid O7
          clear S7 O7 A6 b7 hcx6
          go_wp2_with fail
          refine H6.out.mono ?_
          rintro y w8 ⟨rfl, b8⟩
          have HB8 := Lib.hid b8
          clear b8
          go_wp2_with fail
          go_roundw
          case rel => exact ⟨i + 1, tot, nf, acts, B, f, by rw [HM.out]; exact hlt, by omega, by go_num, by go_num, HS7.out.below HB8.out, HO7.out.below HB8.out, by have := HNF.out; omega, by have := HAC.out; omega⟩
          case measure => simp [intOf]; omega
      · go_wp2_with fail
        go_ret
        exact ⟨rfl, HO.out.low⟩
    · go_wp2_with fail
      go_ret
      exact ⟨rfl, HO.out.low⟩
end Go.Proofs.Ytnenpcbofbcllaa
