/- THE WALK of ShareFair. -/
import Derived.Test.YtaefcbgmljaleaaAwk10
namespace Go.Proofs.Ytaefcbgmljaleaa
open Go.RowKit

theorem fromN_at {c s k : Nat} (h : k < s) : (Sh.fromN c s)[k]? = some (((c + k : Nat) : Int) + 1) := by
  unfold Sh.fromN
  rw [List.getElem?_map, List.getElem?_range h]
  simp
theorem fromN_len (c s : Nat) : (Sh.fromN c s).length = s := by simp [Sh.fromN]
theorem own_mem {parts : Int} {L : List ByteArray} (hg : Sh.goodB L = true) (h0 : 0 ≤ parts) (h4 : parts ≤ 4) {i k : Nat} (hi : i < L.length) (hk : k < Sh.sharN (parts - 1).toNat L.length i) :
    Sh.ownerOf (Sh.msOf parts L) (((Sh.cntTo (parts - 1).toNat L.length i + k : Nat) : Int) + 1) = some (L.getD i default) := by
  refine ownerOf_hit ?_
  unfold Sh.msOf
  rw [if_pos ⟨hg, h0, h4⟩]
  exact Sh.owner_at _ i k hi hk
set_option maxRecDepth 100000 in
set_option maxHeartbeats 8000000 in
theorem fair_walk {A : Nat → Prop} (parts : Int) (v : Value) (L : List ByteArray) (w : World) (h : Nms A w v L) :
    Calls Try.prog 3 #[.int .i64 parts, v] w fun e w' => e = .returned (.bool true) ∧ Below w.heap.size w w' := by
  have HAW := Lib.hid (awake_any w)
  have HGR := Lib.hid (fun wx (hb : Below w.heap.size w wx) => great_any v L wx (h.below hb))
  have HGD := Lib.hid (fun wx (hb : Below w.heap.size w wx) => good_any v L wx (h.below hb))
  have HOW := Lib.hid (fun p wx (hb : Below w.heap.size w wx) => owner_any parts v L p wx (h.below hb))
  have HPA := Lib.hid (fun y wx (hb : Below w.heap.size w wx) => parts_any parts v L y wx (h.below hb))
  obtain ⟨a, cap, rfl⟩ := h.form
  obtain ⟨m, hm⟩ : ∃ m, L.length = m := ⟨_, rfl⟩
  have HV := Lib.hid h
  have HM := Lib.hid hm
  rw [hm] at HGR HGD HOW HPA ⊢
  clear h hm
  go_enter Try.func3, Try.ntmps3
  go_wp2_with fail
  refine HAW.out.mono ?_
  rintro e w1 ⟨rfl, hb1⟩
  have HB1 := Lib.hid hb1
  clear hb1
  go_wp2_with fail
  refine (HGR.out _ HB1.out).mono ?_
  rintro e _ ⟨g, rfl, rfl, hg50⟩
  have HG50 := Lib.hid hg50
  clear hg50
  cases g with
  | true =>
    go_wp2_with fail
    go_ret
    exact ⟨rfl, HB1.out⟩
  | false =>
    go_wp2_with fail
    refine (HGD.out _ HB1.out).mono ?_
    rintro e w2 ⟨rfl, hb2⟩
    have HB2 := Lib.hid (HB1.out.trans (hb2.mono HB1.out.size))
    clear hb2
    by_cases hg : Sh.goodB L = true
    · by_cases hm0 : 0 < m
      · by_cases h0 : 0 ≤ parts
        · by_cases h4 : parts ≤ 4
          · have hmz : ((m : Int) == 0) = false := by simp; omega
            have hm4 : m ≤ 4 := by have := Sh.good_len hg; rw [HM.out] at this; omega
            obtain ⟨P, hP⟩ : ∃ P, (parts - 1).toNat = P := ⟨_, rfl⟩
            have hP4 : P < 4 := by omega
            have HPO : Hid (∀ i x, L[i]? = some x → Sh.pOf 0 (Sh.msOf parts L) x = Sh.fromN (Sh.cntTo P m i) (Sh.sharN P m i)) := Lib.hid fun i x hx => by
              have := Sh.parts_of hg h0 h4 (i := i) (List.getElem?_eq_some_iff.1 hx).1
              rwa [getD_of hx, hP, HM.out] at this
            have HOO : Hid (∀ i k x, L[i]? = some x → k < Sh.sharN P m i → Sh.ownerOf (Sh.msOf parts L) (((Sh.cntTo P m i + k : Nat) : Int) + 1) = some x) := Lib.hid fun i k x hx hk => by
              have := own_mem hg h0 h4 (i := i) (k := k) (List.getElem?_eq_some_iff.1 hx).1 (by rw [hP, HM.out]; exact hk)
              rwa [getD_of hx, hP, HM.out] at this
            have HP2 : Hid ((0 : Int) ≤ parts - 1 → parts - 1 = (P : Int)) := Lib.hid (by omega)
            have HP3 : Hid (parts - 1 < 0 → P = 0) := Lib.hid (by omega)
            have HCN : Hid (∀ i, i ≤ m → Sh.cntTo P m i ≤ 16) := Lib.hid fun i hi => Sh.cnt_small P hP4 m (by omega) i (by omega)
            have HSS : Hid (∀ i, i < m → Sh.sharN P m i ≤ 4) := Lib.hid fun i hi => Sh.shar_small P hP4 m (by omega) i (by omega)
            have HSF : Hid (∀ i, i + 1 < m → Sh.sharN P m (i + 1) ≤ Sh.sharN P m i) := Lib.hid fun i hi => Sh.shar_falls P hP4 m (by omega) i (by omega) hi
            have HSN : Hid (∀ i, i < m → Sh.sharN P m 0 ≤ Sh.sharN P m i + 1) := Lib.hid fun i hi => Sh.shar_near P hP4 m (by omega) i (by omega) hi
            have HCA : Hid (Sh.cntTo P m m = P) := Lib.hid (Sh.cnt_all P hP4 m (by omega) hm0)
            clear hP
            go_wp2_with fail
            go_loopw [5, 6, 7, 8, 9, 10, 11, 12] (fun sv tv lv iv _ _ _ _ wr => ∃ (i : Nat) (ls : Int), i ≤ m ∧ sv = .int .i64 (Sh.cntTo P m i : Nat) ∧ tv = .int .i64 (Sh.cntTo P m i : Nat) ∧ lv = .int .i64 ls ∧ iv = .int .i64 i ∧ Below w.heap.size w wr ∧ (0 < i → ls = (Sh.sharN P m (i - 1) : Nat)) ∧ (-1 ≤ ls ∧ ls ≤ 5)) (fun _ _ _ iv _ _ _ _ _ => m - (intOf iv).toNat)
            case atStart => exact ⟨0, parts, Nat.zero_le _, rfl, rfl, rfl, rfl, HB2.out, fun h => absurd h (by omega), by omega, by omega⟩
            case round =>
              obtain ⟨i, ls, hi, rfl, rfl, rfl, rfl, hb, hls, hl1, hl2⟩ := hrel
              have HB := Lib.hid hb
              have HLS := Lib.hid hls
              have hc16 := HCN.out i hi
              obtain ⟨c, hc⟩ : ∃ c, Sh.cntTo P m i = c := ⟨_, rfl⟩
              rw [hc] at hc16 ⊢
              have HC := Lib.hid hc
              clear hls hb hc
              by_cases hlt : i < m
              · obtain ⟨x, hx⟩ : ∃ x, L[i]? = some x := ⟨_, List.getElem?_eq_getElem (by rw [HM.out]; exact hlt)⟩
                obtain ⟨b, p, cap', e, -, hbl, c0⟩ := (HV.out.below HB.out).at hx
                obtain rfl : a = some ⟨b, p, none⟩ := by injection e
                have hs4 := HSS.out i hlt
                obtain ⟨s, hs⟩ : ∃ s, Sh.sharN P m i = s := ⟨_, rfl⟩
                rw [hs] at hs4
                have HX := Lib.hid hx
                have HS := Lib.hid hs
                have HPC := HPA.out x wr HB.out
                rw [HPO.out i x hx, HC.out, hs] at HPC
                have HPD := Lib.hid HPC
                have i0 : (0 : Int) ≤ (i : Int) := by omega
                have i1 : (i : Int) < (m : Int) := by omega
                clear e hx hs HPC
                go_wp2_with fail
                refine HPD.out.mono ?_
                rintro e w3 ⟨hb3, v3, g3, rfl, hz3⟩
                rw [fromN_len] at hz3
                obtain ⟨a3, c3, rfl⟩ := hz3.form
                have HZ3 := Lib.hid hz3
                have HB3 := Lib.hid (HB.out.trans (hb3.mono HB.out.size))
                have HR3 := Lib.hid (Below.refl w3.heap.size w3)
                have c0 := (hb3.cell (p := ⟨b, p + i, none⟩) hbl).trans c0
                have hbl3 : b < w3.heap.size := Nat.lt_of_lt_of_le hbl hb3.size
                clear hb3 hz3
                go_wp2_with fail
                go_loopw [6, 10, 11, 12] (fun tv kv _ _ wr' => ∃ (k n : Nat), k ≤ s ∧ c + k ≤ n ∧ n ≤ c + k ∧ tv = .int .i64 n ∧ kv = .int .i64 k ∧ Below w3.heap.size w3 wr') (fun _ kv _ _ _ => s - (intOf kv).toNat)
                case atStart => exact ⟨0, c, Nat.zero_le _, by omega, by omega, rfl, rfl, HR3.out⟩
                case round =>
                  obtain ⟨k, n, hk, hn1, hn2, rfl, rfl, hb4⟩ := hrel
                  have HB4 := Lib.hid hb4
                  by_cases hks : k < s
                  · obtain ⟨b5, p5, c5, e5, -, hbl5, d0⟩ := nums_at (HZ3.out.below hb4).rd (by omega) (fromN_at (c := c) hks)
                    obtain rfl : a3 = some ⟨b5, p5, none⟩ := by injection e5
                    have hcn : c + k = n := by omega
                    rw [hcn] at d0
                    have c4 := (hb4.cell (p := ⟨b, p + i, none⟩) hbl3).trans c0
                    have HOC := HOW.out ((n : Int) + 1) wr (HB3.out.trans (hb4.mono HB3.out.size))
                    have hoo := HOO.out i k x HX.out (by rw [HS.out]; exact hks)
                    rw [HC.out, hcn] at hoo
                    rw [hoo] at HOC
                    have HOD := Lib.hid HOC
                    have hbl4 : b < wr.heap.size := Nat.lt_of_lt_of_le hbl3 hb4.size
                    have k0 : (0 : Int) ≤ (k : Int) := by omega
                    have k1 : (k : Int) < (s : Int) := by omega
                    clear e5 hoo HOC hcn hb4
                    go_wp2_with fail
                    refine HOD.out.mono ?_
                    rintro e w5 ⟨hb5, rfl⟩
                    have hre : (Value.tuple #[.string ((some x).getD ⟨#[]⟩), .bool (some x).isSome]) = .tuple #[.string x, .bool true] := rfl
                    rw [hre]
                    have HB5 := Lib.hid (HB4.out.trans (hb5.mono HB4.out.size))
                    have c5' := (hb5.cell (p := ⟨b, p + i, none⟩) hbl4).trans c4
                    have d5 := (hb5.cell (p := ⟨b5, p5 + k, none⟩) hbl5).trans d0
                    clear hb5 hre c4 d0
                    go_wp2_with fail
                    go_roundw
                    case rel => exact ⟨k + 1, n + 1, by omega, by omega, by omega, by go_num, by go_num, HB5.out⟩
                    case measure => simp [intOf]; omega
                  · have hks' : k = s := by omega
                    have HNX : Hid (Sh.cntTo P m (i + 1) = n) := Lib.hid (by rw [Sh.cntTo, HC.out, HS.out]; omega)
                    have HCS : Hid (Sh.cntTo P m (i + 1) = c + s) := Lib.hid (by rw [Sh.cntTo, HC.out, HS.out])
                    have HB6 := Lib.hid (HB3.out.trans (hb4.mono HB3.out.size))
                    have HSL : Hid ((s : Int) = (Sh.sharN P m (i + 1 - 1) : Nat)) := Lib.hid (by rw [Nat.add_sub_cancel, HS.out])
                    clear hks' hb4
                    by_cases hi0 : 0 < i
                    · have hsl : (s : Int) ≤ ls := by
                        rw [HLS.out hi0]
                        have := HSF.out (i - 1) (by omega)
                        rw [show i - 1 + 1 = i by omega, HS.out] at this
                        omega
                      have hd : decide ((0 : Int) < (i : Int)) = true := by simp; omega
                      have hd' : decide (0 < i) = true := by simp; omega
                      have hd2 : decide (ls < (s : Int)) = false := by simp; omega
                      go_wp2_with fail
                      go_roundw
                      case rel => exact ⟨i + 1, s, by omega, by rw [HCS.out]; go_num, by rw [HNX.out], rfl, by go_num, HB6.out, fun _ => HSL.out, by omega, by omega⟩
                      case measure => simp [intOf]; omega
                    · have hd : decide ((0 : Int) < (i : Int)) = false := by simp; omega
                      have hd' : decide (0 < i) = false := by simp; omega
                      go_wp2_with fail
                      go_roundw
                      case rel => exact ⟨i + 1, s, by omega, by rw [HCS.out]; go_num, by rw [HNX.out], rfl, by go_num, HB6.out, fun _ => HSL.out, by omega, by omega⟩
                      case measure => simp [intOf]; omega
              · have him : i = m := by omega
                obtain ⟨y, hy⟩ : ∃ y, L[0]? = some y := ⟨_, List.getElem?_eq_getElem (by rw [HM.out]; exact hm0)⟩
                obtain ⟨b, p, cap', e, -, hbl, c0⟩ := (HV.out.below HB.out).at hy
                obtain rfl : a = some ⟨b, p, none⟩ := by injection e
                rw [Nat.add_zero] at c0
                have hcP : c = P := by rw [← HC.out, him]; exact HCA.out
                have HPC := HPA.out y wr HB.out
                rw [HPO.out 0 y hy] at HPC
                have hnear : (Sh.sharN P m 0 : Int) ≤ ls + 1 := by
                  rw [HLS.out (by omega)]
                  have := HSN.out (i - 1) (by omega)
                  omega
                obtain ⟨s0, hs0⟩ : ∃ s0, Sh.sharN P m 0 = s0 := ⟨_, rfl⟩
                rw [hs0] at HPC hnear
                have HPD := Lib.hid HPC
                have m0 : (0 : Int) < (m : Int) := by omega
                clear e hy him HPC hs0
                by_cases hpp : (0 : Int) ≤ parts - 1
                · have he : ((c : Int) == parts - 1) = true := by rw [HP2.out hpp, hcP]; simp
                  clear hcP
                  go_wp2_with fail
                  refine HPD.out.mono ?_
                  rintro e w3 ⟨hb3, v3, g3, rfl, hz3⟩
                  rw [fromN_len] at hz3
                  obtain ⟨a3, c3, rfl⟩ := hz3.form
                  have HB3 := Lib.hid (HB.out.trans (hb3.mono HB.out.size))
                  clear hb3 hz3
                  go_wp2_with fail
                  go_ret
                  exact ⟨rfl, HB3.out⟩
                · have he : ((c : Int) == 0) = true := by rw [hcP, HP3.out (by omega)]; rfl
                  clear hcP
                  go_wp2_with fail
                  refine HPD.out.mono ?_
                  rintro e w3 ⟨hb3, v3, g3, rfl, hz3⟩
                  rw [fromN_len] at hz3
                  obtain ⟨a3, c3, rfl⟩ := hz3.form
                  have HB3 := Lib.hid (HB.out.trans (hb3.mono HB.out.size))
                  clear hb3 hz3
                  go_wp2_with fail
                  go_ret
                  exact ⟨rfl, HB3.out⟩
          · have hmz : ((m : Int) == 0) = false := by simp; omega
            go_wp2_with fail
            go_ret
            exact ⟨rfl, HB2.out⟩
        · have hmz : ((m : Int) == 0) = false := by simp; omega
          go_wp2_with fail
          go_ret
          exact ⟨rfl, HB2.out⟩
      · have hmz : ((m : Int) == 0) = true := by simp; omega
        go_wp2_with fail
        go_ret
        exact ⟨rfl, HB2.out⟩
    · have hg : Sh.goodB L = false := by simpa using hg
      go_wp2_with fail
      go_ret
      exact ⟨rfl, HB2.out⟩
end Go.Proofs.Ytaefcbgmljaleaa
