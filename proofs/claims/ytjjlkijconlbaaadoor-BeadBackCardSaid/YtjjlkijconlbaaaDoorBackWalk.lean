/- The walk of the law BeadBack. -/
import Derived.Test.YtjjlkijconlbaaaDoorTexts
import Derived.Deep.RegionWith
import Derived.Deep.QuietTactic
import Derived.BigQuiet
namespace Go.Proofs.YtjjlkijconlbaaaDoor
open Go.RowKit

theorem Kb.undrew {b : Nat} {w w' : World} (h : Kb b w.drew w') : Kb b w w' := ⟨h.os, h.tape, h.output, h.size, h.block⟩
theorem getD_texts (ss : List ByteArray) (k : Nat) (hk : k < ss.length) : (ss.map (·.data.toList)).getD k [] = (ss.getD k ByteArray.empty).data.toList := by simp [hk]

set_option maxHeartbeats 4000000 in
set_option maxRecDepth 100000 in
theorem back_any (aa : Option Addr) (cap : Nat) (zs : List Int) (ta : Option Addr) (tcap : Nat) (ss : List ByteArray) (w : World) (hl : Lb w) (hz : ∀ z ∈ zs, Pl.I64 z) (hA : Nums aa zs w) (hT : Texts ta ss w) (hss : ∀ s ∈ ss, s.size ≤ maxLen) (hlen : zs.length ≤ maxLen) (htlen : ss.length ≤ maxLen) :
    Calls Tryd.prog 5 #[.slice aa zs.length cap, .slice ta ss.length tcap] w fun e w' => e = .returned (.bool true) ∧ Below w.heap.size w w' := by
  unfold maxLen at hlen htlen hss
  by_cases h50 : 50 < zs.length ∨ 50 < ss.length
  · have h50 : 50 < zs.length ∨ (¬ 50 < zs.length ∧ 50 < ss.length) := by omega
    have HS := Lib.hid hss
    have HA := Lib.hid hA
    have HT := Lib.hid hT
    have HZ := Lib.hid hz
    clear hss hA hT hz
    rcases h50 with h50 | ⟨h1, h50⟩
    all_goals
      go_enter Tryd.func5, Tryd.ntmps5
      go_wp2_with fail
      refine (awake_any _ hl).mono ?_
      rintro e w1 ⟨rfl, b1⟩
      go_wp2_with fail
      go_ret
      exact ⟨rfl, b1⟩
  · have hz50 : zs.length ≤ 50 := by omega
    have hs50 : ss.length ≤ 50 := by omega
    have HS := Lib.hid hss
    have HA := Lib.hid hA
    have HT := Lib.hid hT
    have HZ := Lib.hid hz
    clear hss hA hT hz h50
    go_enter Tryd.func5, Tryd.ntmps5
    go_wp2_with fail
    refine (awake_any _ hl).mono ?_
    rintro e w1 ⟨rfl, b1⟩
    go_wp2_with fail
    go_loopw [5, 6] (fun s i wr => ∃ k : Nat, k ≤ zs.length ∧ i = .int .i64 k ∧ s = .string ⟨(wInts (zs.take k)).toArray⟩ ∧ Below w.heap.size w wr) (fun _ i _ => zs.length - (intOf i).toNat)
    case atStart => exact ⟨0, Nat.zero_le _, rfl, rfl, b1⟩
    case round =>
      clear b1
      obtain ⟨k, hk, rfl, rfl, br⟩ := hrel
      by_cases hlt : k < zs.length
      · obtain ⟨nb, off, rfl, hc⟩ := HA.out.cell br hlt
        have hlr := hl.below hl.size br
        obtain ⟨z, hzk⟩ : ∃ z, zs.getD k 0 = z := ⟨_, rfl⟩
        have hzi : Pl.I64 z := by rw [← hzk, show zs.getD k 0 = zs[k] by simp [hlt]]; exact HZ.out _ (List.getElem_mem hlt)
        have hst := wInts_take zs k hlt
        have hlk : (wInts (zs.take k)).length ≤ 23 * k := by
          have := wInts_len (zs.take k) (fun x hx => HZ.out x (List.mem_of_mem_take hx))
          rw [List.length_take] at this
          omega
        have hlz := wInt_len z hzi
        rw [hzk] at hc hst
        have HST := Lib.hid hst
        clear hst hzk
        obtain ⟨l, hll⟩ : ∃ l, l = wInts (zs.take k) := ⟨_, rfl⟩
        have HLL := Lib.hid hll
        rw [← hll] at hlk ⊢
        clear hll
        go_wp2_with fail
        refine (bead_int z hzi _ hlr).mono ?_
        rintro e w2 ⟨rfl, b2⟩
        go_wp2_with fail
        all_goals first | (exfalso; omega) | skip
        go_roundw
        case rel => exact ⟨k + 1, by omega, by go_num, by rw [HST.out, ← HLL.out]; exact congrArg Value.string (app_mk l _), br.trans (b2.mono br.size)⟩
        case measure => simp [intOf]; omega
      · obtain rfl : k = zs.length := by omega
        rw [List.take_length]
        clear hk hlt
        have hlk := wInts_len zs HZ.out
        obtain ⟨wo, rfl⟩ : ∃ wo : World, wo = wr := ⟨_, rfl⟩
        go_wp2_with fail
        go_loopw [7, 8] (fun t i wr => ∃ k : Nat, k ≤ ss.length ∧ i = .int .i64 k ∧ (∀ x ∈ (ss.map (·.data.toList)).take k, x.length ≤ 4096) ∧ t = .string ⟨(wOnes ((ss.map (·.data.toList)).take k)).toArray⟩ ∧ Below w.heap.size w wr) (fun _ i _ => ss.length - (intOf i).toNat)
        case atStart => exact ⟨0, Nat.zero_le _, rfl, by simp, rfl, br⟩
        case round =>
          clear br
          obtain ⟨k, hk, rfl, hsm, rfl, br⟩ := hrel
          by_cases hlt : k < ss.length
          · obtain ⟨nb, off, rfl, hc⟩ := HT.out.cell br hlt
            have hlr := hl.below hl.size br
            obtain ⟨s, hsk⟩ : ∃ s, ss.getD k ByteArray.empty = s := ⟨_, rfl⟩
            have hg := getD_texts ss k hlt
            have hst := wOnes_take (ss.map (·.data.toList)) k (by simpa using hlt)
            have hmem : s.data.toList = (ss.map (·.data.toList))[k]'(by simpa using hlt) := by rw [← hsk, ← hg]; simp [hlt]
            have hslen : s.size ≤ 2 ^ 63 - 1 := by
              rw [← hsk, show ss.getD k ByteArray.empty = ss[k] by simp [hlt]]
              exact HS.out _ (List.getElem_mem hlt)
            rw [hsk] at hc hg
            rw [hg] at hst
            have hlk2 : (wOnes ((ss.map (·.data.toList)).take k)).length ≤ 4200 * k := by
              have := wOnes_len _ hsm
              rw [List.length_take] at this
              omega
            have HSM := Lib.hid hsm
            have HST := Lib.hid hst
            have HM := Lib.hid hmem
            obtain ⟨l, hll⟩ : ∃ l, l = wOnes ((ss.map (·.data.toList)).take k) := ⟨_, rfl⟩
            have HLL := Lib.hid hll
            rw [← hll] at hlk2 ⊢
            clear hll hst hmem hsm hg hsk
            by_cases h4096 : 4096 < s.size
            · go_wp2_with fail
              go_ret
              exact ⟨rfl, br⟩
            · go_wp2_with fail
              refine (bead_text s (by omega) _ hlr).mono ?_
              rintro e w2 ⟨rfl, b2⟩
              have br2 := br.trans (b2.mono br.size)
              go_wp2_with fail
              have hwl := wText_len2 s.data.toList (by rw [← Lib.size_eq]; omega)
              rw [← Lib.size_eq] at hwl
              refine (bead_list1 (Pl.wText s.data.toList) (by omega) w2).mono ?_
              rintro e w3 ⟨rfl, b3⟩
              have br3 := br2.trans (b3.mono br2.size)
              clear br2 b2 b3
              have hst := HST.out
              rw [← HLL.out] at hst
              have hone : (wOne s.data.toList).length ≤ 4200 := wOne_len _ (by rw [← Lib.size_eq]; omega)
              obtain ⟨o, ho⟩ : ∃ o, o = wOne s.data.toList := ⟨_, rfl⟩
              rw [show (108 : UInt8) :: (Pl.wText s.data.toList ++ [101]) = o from ho.symm]
              rw [← ho] at hone hst
              have HST2 := Lib.hid hst
              clear hst ho HST
              go_wp2_with fail
              all_goals first | (exfalso; omega) | skip
              go_roundw
              case rel =>
                refine ⟨k + 1, by omega, by go_num, ?_, by rw [HST2.out]; exact congrArg Value.string (app_mk l _), br3⟩
                intro x hx
                rw [List.take_add_one, List.getElem?_eq_getElem (by simpa using hlt), ← HM.out] at hx
                rcases List.mem_append.1 hx with h | h
                · exact HSM.out x h
                · have : x = s.data.toList := by simpa using h
                  rw [this, ← Lib.size_eq]
                  omega
              case measure => simp [intOf]; omega
          · obtain rfl : k = ss.length := by omega
            clear hlt hk
            have hts : (ss.map (·.data.toList)).take ss.length = ss.map (·.data.toList) := by
              rw [show ss.length = (ss.map (·.data.toList)).length by simp, List.take_length]
            rw [hts] at hsm ⊢
            have hlo := wOnes_len _ hsm
            rw [List.length_map] at hlo
            obtain ⟨ts, hts2⟩ : ∃ ts, ts = ss.map (·.data.toList) := ⟨_, rfl⟩
            have HG := Lib.hid (fun j (hj : j < ss.length) => show ts.getD j [] = (ss.getD j ByteArray.empty).data.toList by rw [hts2]; exact getD_texts ss j hj)
            have HTL := Lib.hid (show ts.length = ss.length by rw [hts2]; simp)
            rw [← hts2] at hsm hlo ⊢
            have HSM := Lib.hid hsm
            clear hts2 hts hsm
            obtain ⟨wo2, rfl⟩ : ∃ wo2 : World, wo2 = wr := ⟨_, rfl⟩
            have hlo2 := hl.below hl.size br
            go_wp2_with fail
            refine (bead_list1 (wInts zs) (by omega) _).mono ?_
            rintro e w2 ⟨rfl, b2⟩
            have br2 := br.trans (b2.mono br.size)
            clear br b2 hlo2
            go_wp2_with fail
            all_goals first | (exfalso; simp at *; omega) | skip
            rw [app_mk]
            obtain ⟨T, hT⟩ : ∃ T, T = wOnes ts := ⟨_, rfl⟩
            have HTT := Lib.hid hT
            rw [← hT] at hlo ⊢
            clear hT
            have e1 : (108 : UInt8) :: (wInts zs ++ [101]) ++ T = 108 :: (wInts zs ++ 101 :: T) := by simp
            rw [e1]
            clear e1
            have HLN := Lib.hid (show (108 :: (wInts zs ++ 101 :: T)).length ≤ 281474976710656 by simp; omega)
            refine (rd_new _ _).mono ?_
            rintro e w3 ⟨rfl, r3, b3⟩
            have br3 := br2.trans (b3.mono br2.size)
            have hW := br2.size
            have h6 := (hl.below hl.size br2).size
            obtain ⟨b, hb⟩ : ∃ b, w2.heap.size = b := ⟨_, rfl⟩
            rw [hb] at r3 hW h6 ⊢
            clear hb b3 br2
            have r3 : Rd b w3 ⟨108 :: (wInts zs ++ 101 :: T), false⟩ := r3
            go_wp2_with fail
            refine (rd_open b _ _ r3 HLN.out).mono ?_
            rintro e w4 ⟨rfl, r4, b4⟩
            rw [byte_of] at r4
            have br4 := br3.trans (b4.below hW r3.lt)
            clear r3 b4 br3
            have hll3 : ∀ j, (wInts (zs.drop j) ++ 101 :: T).length ≤ 281474976710656 := by
              intro j
              have h1 := wInts_len (zs.drop j) (fun x hx => HZ.out x (List.mem_of_mem_drop hx))
              rw [List.length_drop] at h1
              simp
              omega
            have HL3 := Lib.hid hll3
            clear hll3
            go_wp2_with fail
            go_loopw [10] (fun i wx => ∃ j : Nat, j ≤ zs.length ∧ i = .int .i64 j ∧ Rd b wx ⟨wInts (zs.drop j) ++ 101 :: T, false⟩ ∧ Below w.heap.size w wx) (fun i _ => zs.length - (intOf i).toNat)
            case atStart => exact ⟨0, Nat.zero_le _, rfl, r4, br4⟩
            case round =>
              clear br4 r4
              obtain ⟨j, hj, rfl, rx, bx⟩ := hrel
              by_cases hlt2 : j < zs.length
              · have hlx := hl.below hl.size bx
                obtain ⟨nb, off, rfl, hc⟩ := HA.out.cell bx hlt2
                have hnb : nb < b := by
                  rcases HA.out with h | ⟨nb2, off2, h1, h2, -⟩
                  · rw [h] at hlt2; simp at hlt2
                  · have : nb = nb2 := by injection h1 with h1; injection h1
                    omega
                obtain ⟨wx, rfl⟩ : ∃ wx : World, wx = wr := ⟨_, rfl⟩
                have rxd : Rd b wx.drew ⟨wInts (zs.drop j) ++ 101 :: T, false⟩ := rx
                have hlxd : Lb wx.drew := hlx.below hlx.size ((Below.refl wx.heap.size wx).drew)
                have CM := rd_more b _ wx.drew rxd
                rw [back_more zs T j hlt2] at CM
                have CI := rd_int b _ wx.drew hlxd rxd (HL3.out j)
                rw [back_int zs HZ.out T j hlt2] at CI
                obtain ⟨z, hzk⟩ : ∃ z, zs.getD j 0 = z := ⟨_, rfl⟩
                rw [hzk] at hc CI
                have hkc : ∀ wI : World, Kb b wx.drew wI → wI.cell? ⟨nb, off + j, none⟩ = some (.int .i64 z) := by
                  intro wI hk
                  rw [World.cell?_of_block (w := wx) (hk.block nb (Nat.lt_trans hnb rx.lt) (by omega))]
                  exact hc
                clear hzk
                have HKC := Lib.hid hkc
                have HCM := Lib.hid CM
                have HCI := Lib.hid CI
                clear CM CI hkc hlxd
                go_wp2_with fail
                go_region_with (first
                  | (go_at_call 24; refine HCM.out.mono ?_; rintro e w' ⟨rfl, rfl⟩)
                  | (go_at_call 18; refine HCI.out.mono ?_; rintro e wI ⟨rfl, r5, b5⟩; have hcI := HKC.out _ b5))
                all_goals
                  go_wp2_with fail
                  go_roundw
                  case rel => exact ⟨j + 1, by omega, by go_num, r5, bx.trans ((Kb.undrew b5).below hW rx.lt)⟩
                  case measure => simp [intOf]; omega
              · obtain rfl : j = zs.length := by omega
                clear hj hlt2 HA HL3 HLN
                obtain ⟨wy, rfl⟩ : ∃ wy : World, wy = wr := ⟨_, rfl⟩
                have rx : Rd b wy ⟨101 :: T, false⟩ := by
                  have := rx
                  rw [List.drop_length] at this
                  exact this
                have HTLEN := Lib.hid (show (101 :: T).length ≤ 281474976710656 by simp; omega)
                go_wp2_with fail
                refine (rd_more b _ _ rx).mono ?_
                rintro e w' ⟨rfl, rfl⟩
                rw [back_end T]
                go_wp2_with fail
                refine (rd_close b _ _ rx HTLEN.out).mono ?_
                rintro e w5 ⟨rfl, r5, b5⟩
                rw [back_close, HTT.out] at r5
                have br5 := bx.trans (b5.below hW rx.lt)
                clear rx b5 bx
                have hl4 : ∀ j, (wOnes (ts.drop j)).length ≤ 4200 * ss.length := by
                  intro j
                  have h1 := wOnes_len (ts.drop j) (fun x hx => HSM.out x (List.mem_of_mem_drop hx))
                  rw [List.length_drop, HTL.out] at h1
                  omega
                have HL4 := Lib.hid hl4
                clear hl4
                go_wp2_with fail
                go_loopw [11] (fun i wx => ∃ j : Nat, j ≤ ss.length ∧ i = .int .i64 j ∧ Rd b wx ⟨wOnes (ts.drop j), false⟩ ∧ Below w.heap.size w wx) (fun i _ => ss.length - (intOf i).toNat)
                case atStart => exact ⟨0, Nat.zero_le _, rfl, r5, br5⟩
                case round =>
                  clear br5 r5
                  obtain ⟨j, hj, rfl, rx, bx⟩ := hrel
                  obtain ⟨wx, rfl⟩ : ∃ wx : World, wx = wr := ⟨_, rfl⟩
                  by_cases hlt2 : j < ss.length
                  · obtain ⟨nb, off, rfl, hc⟩ := HT.out.cell bx hlt2
                    have hnb : nb < b := by
                      rcases HT.out with h | ⟨nb2, off2, h1, h2, -⟩
                      · rw [h] at hlt2; simp at hlt2
                      · have : nb = nb2 := by injection h1 with h1; injection h1
                        omega
                    have hjt : j < ts.length := by rw [HTL.out]; exact hlt2
                    have hop := back_open ts j hjt
                    have hgd := HG.out j hlt2
                    have hsm : (ts.getD j []).length ≤ 4096 := by
                      rw [show ts.getD j [] = ts[j] by simp [hjt]]
                      exact HSM.out _ (List.getElem_mem hjt)
                    rw [hgd] at hop hsm
                    obtain ⟨s, hsk⟩ : ∃ s, ss.getD j ByteArray.empty = s := ⟨_, rfl⟩
                    rw [hsk] at hc hop hsm
                    obtain ⟨R, hR⟩ : ∃ R, wOnes (ts.drop (j + 1)) = R := ⟨_, rfl⟩
                    have hRl := HL4.out (j + 1)
                    rw [hR] at hop hRl
                    have HLO := Lib.hid (show (wOnes (ts.drop j)).length ≤ 281474976710656 by have := HL4.out j; omega)
                    have HOP := Lib.hid hop
                    have HR := Lib.hid hR
                    have hwl := wText_len2 s.data.toList (by omega)
                    have HL5 := Lib.hid (show (Pl.wText s.data.toList ++ 101 :: R).length ≤ 281474976710656 by simp; omega)
                    have HL6 := Lib.hid (show (101 :: R).length ≤ 281474976710656 by simp; omega)
                    have HSMJ := Lib.hid hsm
                    clear hop hR hgd hsk hsm hwl hRl
                    go_wp2_with fail
                    refine (rd_open b _ _ rx HLO.out).mono ?_
                    rintro e w6 ⟨rfl, r6, b6⟩
                    rw [HOP.out] at r6
                    have br6 := bx.trans (b6.below hW rx.lt)
                    have hc6 : w6.cell? ⟨nb, off + j, none⟩ = some (.string s) := by
                      rw [World.cell?_of_block (w := wx) (b6.block nb (Nat.lt_trans hnb rx.lt) (by omega))]
                      exact hc
                    clear rx b6 bx hc
                    have hl6 := hl.below hl.size br6
                    have rd6 : Rd b w6.drew ⟨Pl.wText s.data.toList ++ 101 :: R, false⟩ := r6
                    have CT := rd_text b _ 4096 w6.drew (hl6.below hl6.size ((Below.refl w6.heap.size w6).drew)) rd6 HL5.out
                    rw [back_text s.data.toList (101 :: R) HSMJ.out] at CT
                    have CT2 : Calls Tryd.prog 20 #[.pointer (some ⟨b, 0, none⟩), .int .i64 4096] w6.drew fun e w' => e = .returned (.string s) ∧ Rd b w' ⟨101 :: R, false⟩ ∧ Kb b w6.drew w' :=
                      CT.mono fun e w' ⟨he, h1, h2⟩ => ⟨by rw [he, ← ofList_eq s _ rfl], h1, h2⟩
                    have hkc : ∀ wI : World, Kb b w6.drew wI → wI.cell? ⟨nb, off + j, none⟩ = some (.string s) := by
                      intro wI hk
                      rw [World.cell?_of_block (w := w6) (hk.block nb (Nat.lt_trans hnb r6.lt) (by omega))]
                      exact hc6
                    have HKC := Lib.hid hkc
                    have HCT := Lib.hid CT2
                    clear CT CT2 hkc
                    go_wp2_with fail
                    go_region_with (first
                      | (go_at_call 20; refine HCT.out.mono ?_; rintro e wI ⟨rfl, r7, b7⟩; have hcI := HKC.out _ b7)
                      | (go_at_call 24; refine (rd_more b _ _ (by assumption)).mono ?_; rintro e w' ⟨rfl, rfl⟩))
                    all_goals
                      have br7 := br6.trans ((Kb.undrew b7).below hW r6.lt)
                      go_wp2_with fail
                      refine (rd_close b _ _ r7 HL6.out).mono ?_
                      rintro e w8 ⟨rfl, r8, b8⟩
                      rw [back_close, ← HR.out] at r8
                      have br8 := br7.trans (b8.below hW r7.lt)
                      go_wp2_with fail
                      go_roundw
                      case rel => exact ⟨j + 1, by omega, by go_num, r8, br8⟩
                      case measure => simp [intOf]; omega
                  · obtain rfl : j = ss.length := by omega
                    have rx : Rd b wx ⟨[], false⟩ := by
                      have := rx
                      rw [show ts.drop ss.length = [] by rw [← HTL.out, List.drop_length]] at this
                      exact this
                    go_wp2_with fail
                    refine (rd_done b _ _ rx).mono ?_
                    rintro e w' ⟨rfl, rfl⟩
                    go_wp2_with fail
                    go_ret
                    exact ⟨rfl, bx⟩
end Go.Proofs.YtjjlkijconlbaaaDoor
