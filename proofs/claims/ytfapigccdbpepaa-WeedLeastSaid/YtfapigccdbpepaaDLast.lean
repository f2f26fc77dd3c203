/- THE CONTRACT OF the program's latest: a map of the last record of each key. -/
import Derived.Test.YtfapigccdbpepaaDFew
import Derived.Test.YtfapigccdbpepaaWMap
import Derived.Deep.Cut
import Derived.Deep.DeepCutAuto
import Derived.Deep.CutBlock
import Derived.Deep.CutRange
import Derived.Deep.RegionHeld3
namespace Go.Proofs.Ytfapigccdbpepaa
open Go.RowKit

/-- A record as it lies. -/
abbrev oRc (x : Pl.Rc) : Obj := .cells #[.int .i64 x.off, .string ⟨x.key.toArray⟩, .string ⟨x.val.toArray⟩, .bool x.gone] 44
theorem Wd.upTo_end {L : List Pl.Bt} {upto : Int} {i : Nat} (hi : L.length ≤ i) : Wd.upTo L upto i 0 = Wd.lasts ((Wd.rcs L).filter (Wd.under upto)) := by
  unfold Wd.upTo Wd.ahead
  rw [List.take_of_length_le hi]
  cases h : L[i]? with
  | none => simp
  | some b => simp
set_option maxHeartbeats 4000000 in
set_option maxRecDepth 100000 in
theorem latest_any {A : Nat → Prop} (v : Value) (L : List (Pl.Bt × Value)) (upto : Int) (w : World) (hv : BtIn A w v L) (hf : Few (L.map (·.1))) :
    Calls Try.prog 25 #[v, .int .i64 upto] w fun e w' => ∃ b, e = .returned (.map (some b)) ∧ w.heap.size ≤ b ∧ VMap w' b (Wd.lasts ((Wd.rcs (L.map (·.1))).filter (Wd.under upto))) ∧ Below w.heap.size w w' := by
  obtain ⟨a1, cap1, rfl⟩ := hv.1.form
  obtain ⟨m, hm⟩ : ∃ m, L.length = m := ⟨_, rfl⟩
  have hmm : m ≤ 64 := by rw [← hm]; simpa using hf.1
  have HV := Lib.hid hv
  have HF := Lib.hid hf
  rw [hm] at HV ⊢
  have HM := Lib.hid hm
  obtain ⟨N, hN⟩ : ∃ N, w.heap.size = N := ⟨_, rfl⟩
  have H0 : Hid (VMap (w.alloc (.map #[] 0)) N (Wd.upTo (L.map (·.1)) upto 0 0) ∧ Below N w (w.alloc (.map #[] 0))) := Lib.hid ⟨by rw [← hN]; exact VMap.made w, by rw [← hN]; exact (Below.refl _ _).alloc (Nat.le_refl _) _⟩
  have HN := Lib.hid hN
  have HNS : Hid (∀ wx, Below N w wx → N ≤ wx.heap.size) := Lib.hid fun wx h => by rw [← hN]; exact h.size
  clear hv hf hm hN
  have hmk := @run_makeMap Try.prog
  go_enter Try.func25, Try.ntmps25
  go_wp2_with fail
  rw [HN.out]
  clear hmk
  go_loopw [11, 15] (fun _ iv wr => ∃ i : Nat, i ≤ m ∧ iv = .int .i64 i ∧ VMap wr N (Wd.upTo (L.map (·.1)) upto i 0) ∧ Below N w wr) (fun _ iv _ => m - (intOf iv).toNat)
  case atStart => exact ⟨0, Nat.zero_le _, rfl, H0.out.1, H0.out.2⟩
  case round =>
    obtain ⟨i, hi, rfl, hvm, hbw⟩ := hrel
    have HVM := Lib.hid hvm
    have HBW := Lib.hid hbw
    clear hvm H0
    by_cases hlt : i < m
    · obtain ⟨⟨⟨tb, tc, tp, ts, tt, ls⟩, sv⟩, hg⟩ : ∃ q, L[i]? = some q := ⟨_, List.getElem?_eq_getElem (by rw [HM.out]; exact hlt)⟩
      have hgm : (L.map (·.1))[i]? = some ⟨tb, tc, tp, ts, tt, ls⟩ := by rw [List.getElem?_map, hg]; rfl
      have hln := (HF.out.2 _ (List.mem_of_getElem? hgm)).1
      obtain ⟨b1, o1, cp1, e1, -, -, c0, c1, c2, c3, c4, c5, hr1⟩ := (HV.out.below (by rw [HN.out]; exact hbw)).get hg
      obtain rfl : a1 = some ⟨b1, o1, none⟩ := by injection e1
      obtain ⟨a2, cap2, rfl⟩ := hr1.slice
      obtain ⟨n, hn⟩ : ∃ n, ls.length = n := ⟨_, rfl⟩
      have hnn : n ≤ 64 := by rw [← hn]; exact hln
      rw [hn] at hr1 c5
      have HR1 := Lib.hid hr1
      have HNN := Lib.hid hn
      have HGM := Lib.hid hgm
      have HG := Lib.hid hg
      obtain ⟨W1, hW1⟩ : ∃ W1, wr.alloc (.cells #[.int .i64 tb, .int .i64 tc, .int .i64 tp, .int .i64 ts, .int .i64 tt, .slice a2 n cap2] 42) = W1 := ⟨_, rfl⟩
      have HW1 := Lib.hid hW1
      have bW1 : Blk W1 wr.heap.size #[.int .i64 tb, .int .i64 tc, .int .i64 tp, .int .i64 ts, .int .i64 tt, .slice a2 n cap2] 42 := by rw [← hW1]; exact Blk.new _ _ _
      have hb1 : Below wr.heap.size wr W1 := by rw [← hW1]; exact (Below.refl _ _).alloc (Nat.le_refl _) _
      have HB1 := Lib.hid hb1
      have HBK := Lib.hid bW1
      clear hln hn hg hgm hr1 e1 hbw hW1 bW1 hb1
      go_wp2_with fail
      rw [HW1.out]
      have x5 : W1.cell? ⟨wr.heap.size, 5, none⟩ = some (.slice a2 n cap2) := HBK.out.cell rfl
      clear c0 c1 c2 c3 c4 c5
      go_wp2_with fail
      have H1 : Hid (VMap W1 N (Wd.upTo (L.map (·.1)) upto i 0) ∧ Below N w W1) := Lib.hid ⟨HVM.out.below HB1.out, HBW.out.trans (HB1.out.mono (HNS.out _ HBW.out))⟩
      go_loopw [11, 22] (fun _ kv wz => ∃ k : Nat, k ≤ n ∧ kv = .int .i64 k ∧ VMap wz N (Wd.upTo (L.map (·.1)) upto i k) ∧ Below N w wz) (fun _ kv _ => n - (intOf kv).toNat)
      case atStart => exact ⟨0, Nat.zero_le _, rfl, H1.out.1, H1.out.2⟩
      case round =>
        obtain ⟨k, hk, rfl, hvm, hbz⟩ := hrel
        have HVM := Lib.hid hvm
        have HBZ := Lib.hid hbz
        clear hvm H1 x5
        by_cases hkn : k < n
        · obtain ⟨x, hy⟩ : ∃ y, ls[k]? = some y := ⟨_, List.getElem?_eq_getElem (by rw [HNN.out]; exact hkn)⟩
          obtain ⟨_, _, _, -, -, -, -, -, -, -, -, -, hr1⟩ := (HV.out.below (by rw [HN.out]; exact hbz)).get HG.out
          obtain ⟨a3, cap3, e3, hrc⟩ := hr1.recs
          rw [HNN.out] at e3
          have hrc2 : a2 = a3 := by injection e3
          subst hrc2
          obtain ⟨b3, o3, rfl, hbl3, d0, d1, d2, d3⟩ := hrc k _ hy
          have hfr : FewR x := (HF.out.2 _ (List.mem_of_getElem? HGM.out)).2 x (List.mem_of_getElem? hy)
          have HK : Hid (x.key.length ≤ maxLen) := Lib.hid (Nat.le_trans hfr (by decide))
          have HSL : Hid ((Wd.upTo (L.map (·.1)) upto i k).length ≤ 4096) := Lib.hid (Nat.le_trans (Wd.upTo_len _ _ _ _) HF.out.rcs)
          have HOUT := Lib.hid fun hu : Wd.under upto x = false => Wd.upTo_out (upto := upto) HGM.out hy hu
          have HIN := Lib.hid fun hu : Wd.under upto x = true => Wd.upTo_in (upto := upto) HGM.out hy hu
          obtain ⟨W2, hW2⟩ : ∃ W2, wr.alloc (oRc x) = W2 := ⟨_, rfl⟩
          have hb2 : Below wr.heap.size wr W2 := by rw [← hW2]; exact (Below.refl _ _).alloc (Nat.le_refl _) _
          have HBK2 : Hid (Blk W2 wr.heap.size #[.int .i64 x.off, .string ⟨x.key.toArray⟩, .string ⟨x.val.toArray⟩, .bool x.gone] 44) := Lib.hid (by rw [← hW2]; exact Blk.new _ _ _)
          have HW2 := Lib.hid hW2
          have HVM2 := Lib.hid (HVM.out.below hb2)
          have HBZ2 := Lib.hid (HBZ.out.trans (hb2.mono (HNS.out _ HBZ.out)))
          obtain ⟨off, key, val, gone⟩ := x
          clear hrc hr1 e3 hbl3 hy hbz hfr hW2 hb2
          go_upto_region 8 with fail
          rw [HW2.out]
          have q0 := HBK2.out.cell (i := 0) rfl
          have q1 := HBK2.out.cell (i := 1) rfl
          have q2 := HBK2.out.cell (i := 2) rfl
          have q3 := HBK2.out.cell (i := 3) rfl
          clear d0 d1 d2 d3
          by_cases h1 : key = []
          · have hu : Wd.under upto ⟨off, key, val, gone⟩ = false := by simp [Wd.under, h1]
            have HE := Lib.hid (HOUT.out hu)
            subst h1
            clear hu
            go_wp2_with fail
            go_roundw
            case rel => exact ⟨k + 1, by omega, by go_num, by rw [HE.out]; exact HVM2.out, HBZ2.out⟩
            case measure => simp [intOf]; omega
          have hne : key.isEmpty = false := by cases key with
            | nil => exact absurd rfl h1
            | cons => rfl
          by_cases h2 : upto ≤ off
          · have hu : Wd.under upto ⟨off, key, val, gone⟩ = false := by simp [Wd.under, h2]
            have HE := Lib.hid (HOUT.out hu)
            have hd : decide (upto ≤ off) = true := by simpa using h2
            clear hu
            go_wp2_with fail
            go_roundw
            case rel => exact ⟨k + 1, by omega, by go_num, by rw [HE.out]; exact HVM2.out, HBZ2.out⟩
            case measure => simp [intOf]; omega
          have hd : decide (upto ≤ off) = false := by simpa using h2
          have HINS := Lib.hid (HIN.out (by simp [Wd.under, h1]; omega))
          clear h1 h2 HIN HOUT
          obtain ⟨S, hS⟩ : ∃ S, Wd.upTo (L.map (·.1)) upto i k = S := ⟨_, rfl⟩
          have hsrt : Wd.Srt S := by rw [← hS]; exact Wd.upTo_srt _ _ _ _
          rw [hS] at HVM2 HINS HSL
          have HSRT := Lib.hid hsrt
          clear hS hsrt
          cases hlk : Wd.lk S key with
          | none =>
            have hlook := HVM2.out.look2_none HK.out hlk
            have HLK := Lib.hid hlk
            obtain ⟨W3, hW3⟩ : ∃ W3, W2.alloc (.cells #[.int .i64 0, .string ⟨#[]⟩, .string ⟨#[]⟩, .bool false] 44) = W3 := ⟨_, rfl⟩
            have hal : Below W2.heap.size W2 W3 := by rw [← hW3]; exact (Below.refl _ _).alloc (Nat.le_refl _) _
            have HBK3 := Lib.hid (HBK2.out.below hal)
            have HBY := Lib.hid (show Blk W3 W2.heap.size _ _ by rw [← hW3]; exact Blk.new _ _ _)
            have HW3 := Lib.hid hW3
            have HAL := Lib.hid hal
            have HVM3 := Lib.hid (HVM2.out.below hal)
            clear hlk hal hW3
            go_upto_region 10 with fail
            rw [HW3.out]
            have z0 := HBK3.out.cell (i := 0) rfl
            have z1 := HBK3.out.cell (i := 1) rfl
            have z2 := HBK3.out.cell (i := 2) rfl
            have z3 := HBK3.out.cell (i := 3) rfl
            clear q0 q1 q2 q3 hlook
            go_wp2_with (at_mapUpdate; refine wpList_put rfl _ _ _ rfl N S ⟨off, key, val, gone⟩ rfl HVM3.out HSRT.out (Nat.lt_of_le_of_lt HSL.out (by decide)) rfl rfl HK.out (fun z hz => by rw [HLK.out] at hz; cases hz) ?_)
            intro w9 hw9 hg9
            have HW9 := Lib.hid hw9
            have HB9 := Lib.hid ((HBZ2.out.trans (HAL.out.mono (HNS.out _ HBZ2.out))).grown hg9 (Nat.le_trans (HNS.out _ HBZ2.out) HAL.out.size) (fun k e => by cases e; exact Nat.le_refl _))
            clear hw9 hg9
            go_wp2_with fail
            go_roundw
            case rel => exact ⟨k + 1, by omega, by go_num, by rw [HINS.out]; exact HW9.out, HB9.out⟩
            case measure => simp [intOf]; omega
          | some y =>
            have hlook := HVM2.out.look2 HSRT.out HK.out hlk
            have HLK := Lib.hid hlk
            obtain ⟨W3, hW3⟩ : ∃ W3, W2.alloc (oRc y) = W3 := ⟨_, rfl⟩
            have hal : Below W2.heap.size W2 W3 := by rw [← hW3]; exact (Below.refl _ _).alloc (Nat.le_refl _) _
            have HBK3 := Lib.hid (HBK2.out.below hal)
            have HBY := Lib.hid (show Blk W3 W2.heap.size _ _ by rw [← hW3]; exact Blk.new _ _ _)
            have HW3 := Lib.hid hW3
            have HAL := Lib.hid hal
            have HVM3 := Lib.hid (HVM2.out.below hal)
            obtain ⟨yoff, ykey, yval, ygone⟩ := y
            clear hlk hal hW3
            go_upto_region 10 with fail
            rw [HW3.out]
            have z0 := HBK3.out.cell (i := 0) rfl
            have z1 := HBK3.out.cell (i := 1) rfl
            have z2 := HBK3.out.cell (i := 2) rfl
            have z3 := HBK3.out.cell (i := 3) rfl
            have y0 := HBY.out.cell (i := 0) rfl
            clear q0 q1 q2 q3 hlook
            by_cases hle : yoff ≤ off
            · have hd2 : decide (yoff ≤ off) = true := by simpa using hle
              go_wp2_with (at_mapUpdate; refine wpList_put rfl _ _ _ rfl N S ⟨off, key, val, gone⟩ rfl HVM3.out HSRT.out (Nat.lt_of_le_of_lt HSL.out (by decide)) rfl rfl HK.out (fun z hz => by rw [HLK.out] at hz; cases hz; exact hle) ?_)
              intro w9 hw9 hg9
              have HW9 := Lib.hid hw9
              have HB9 := Lib.hid ((HBZ2.out.trans (HAL.out.mono (HNS.out _ HBZ2.out))).grown hg9 (Nat.le_trans (HNS.out _ HBZ2.out) HAL.out.size) (fun k e => by cases e; exact Nat.le_refl _))
              clear hw9 hg9
              go_wp2_with fail
              go_roundw
              case rel => exact ⟨k + 1, by omega, by go_num, by rw [HINS.out]; exact HW9.out, HB9.out⟩
              case measure => simp [intOf]; omega
            · have hd2 : decide (yoff ≤ off) = false := by simpa using hle
              have HKP : Hid (Wd.ins ⟨off, key, val, gone⟩ S = S) := Lib.hid (ins_keep HSRT.out HLK.out hle)
              have HB9 := Lib.hid (HBZ2.out.trans (HAL.out.mono (HNS.out _ HBZ2.out)))
              go_wp2_with fail
              go_roundw
              case rel => exact ⟨k + 1, by omega, by go_num, by rw [HINS.out, HKP.out]; exact HVM3.out, HB9.out⟩
              case measure => simp [intOf]; omega
        · have hnx := Wd.upTo_next (upto := upto) HGM.out (k := k) (by show ls.length ≤ k; rw [HNN.out]; omega)
          have HNX := Lib.hid hnx
          clear hnx hbz
          go_wp2_with fail
          go_roundw
          case rel => exact ⟨i + 1, by omega, by go_num, by rw [HNX.out]; exact HVM.out, HBZ.out⟩
          case measure => simp [intOf]; omega
    · have HE : Hid (Wd.upTo (L.map (·.1)) upto i 0 = Wd.lasts ((Wd.rcs (L.map (·.1))).filter (Wd.under upto))) := Lib.hid (Wd.upTo_end (by rw [List.length_map, HM.out]; omega))
      clear hbw
      go_wp2_with fail
      go_ret
      exact ⟨N, rfl, Nat.le_of_eq HN.out, by rw [← HE.out]; exact HVM.out, by rw [HN.out]; exact HBW.out⟩
end Go.Proofs.Ytfapigccdbpepaa
