/- The walk of the law BeadCuts. -/
import Derived.Test.YtjjlkijconlbaaaDoorNums
namespace Go.Proofs.YtjjlkijconlbaaaDoor
open Go.RowKit

/-- 'int(uint(cut) % uint(n))'. -/
theorem cut_mod (cut n : Int) (hn : 0 < n) (hb : n ≤ 1099511627776) : ∃ K : Nat, wrap64 ((IntKind.u64.wrap cut).tmod n) = K ∧ (K : Int) < n := by
  have h0 : 0 ≤ IntKind.u64.wrap cut := by rw [IntKind.wrap_u64]; omega
  have h1 : (IntKind.u64.wrap cut).tmod n = (IntKind.u64.wrap cut) % n := Int.tmod_eq_emod_of_nonneg h0
  have h2 : 0 ≤ (IntKind.u64.wrap cut) % n := Int.emod_nonneg _ (by omega)
  have h3 : (IntKind.u64.wrap cut) % n < n := Int.emod_lt_of_pos _ hn
  rw [h1]
  refine ⟨((IntKind.u64.wrap cut) % n).toNat, ?_, by omega⟩
  generalize (IntKind.u64.wrap cut) % n = r at h2 h3
  unfold wrap64
  omega

set_option maxHeartbeats 1000000 in
set_option maxRecDepth 100000 in
theorem cuts_any (aa : Option Addr) (cap : Nat) (zs : List Int) (cut : Int) (w : World) (hl : Lb w) (hz : ∀ z ∈ zs, Pl.I64 z) (hA : Nums aa zs w) (hlen : zs.length ≤ maxLen) :
    Calls Tryd.prog 9 #[.slice aa zs.length cap, .int .i64 cut] w fun e w' => e = .returned (.bool true) ∧ Below w.heap.size w w' := by
  unfold maxLen at hlen
  by_cases h50 : 50 < zs.length
  · go_enter Tryd.func9, Tryd.ntmps9
    go_wp2_with fail
    refine (awake_any _ hl).mono ?_
    rintro e w1 ⟨rfl, b1⟩
    go_wp2_with fail
    go_ret
    exact ⟨rfl, b1⟩
  · have HA := Lib.hid hA
    have HZ := Lib.hid hz
    clear hA hz
    go_enter Tryd.func9, Tryd.ntmps9
    go_wp2_with fail
    refine (awake_any _ hl).mono ?_
    rintro e w1 ⟨rfl, b1⟩
    go_wp2_with fail
    go_loopw [5, 6] (fun s i wr => ∃ k : Nat, k ≤ zs.length ∧ i = .int .i64 k ∧ s = .string ⟨(108 :: wInts (zs.take k)).toArray⟩ ∧ Below w.heap.size w wr) (fun _ i _ => zs.length - (intOf i).toNat)
    case atStart => exact ⟨0, Nat.zero_le _, rfl, rfl, b1⟩
    case round =>
      clear b1
      obtain ⟨k, hk, rfl, rfl, br⟩ := hrel
      by_cases hlt : k < zs.length
      · obtain ⟨nb, off, rfl, hc⟩ := HA.out.cell br hlt
        have hlr := hl.below hl.size br
        obtain ⟨z, hzk⟩ : ∃ z, zs.getD k 0 = z := ⟨_, rfl⟩
        have hzi : Pl.I64 z := by rw [← hzk, show zs.getD k 0 = zs[k] by simp [hlt]]; exact HZ.out _ (List.getElem_mem hlt)
        have hst := wInts_take zs k hlt
        have hlk : (wInts (zs.take k)).length ≤ 23 * k := by
          have := wInts_len (zs.take k) (fun x hx => HZ.out x (List.mem_of_mem_take hx))
          rw [List.length_take] at this
          omega
        have hlz := wInt_len z hzi
        rw [hzk] at hc hst
        have HST := Lib.hid hst
        clear hst hzk
        obtain ⟨l, hll⟩ : ∃ l, l = wInts (zs.take k) := ⟨_, rfl⟩
        have HLL := Lib.hid hll
        rw [← hll] at hlk ⊢
        clear hll
        go_wp2_with fail
        refine (bead_int z hzi _ hlr).mono ?_
        rintro e w2 ⟨rfl, b2⟩
        go_wp2_with fail
        all_goals first | (exfalso; omega) | skip
        go_roundw
        case rel => exact ⟨k + 1, by omega, by go_num, by rw [HST.out, ← HLL.out]; exact congrArg Value.string (app_mk (108 :: l) _), br.trans (b2.mono br.size)⟩
        case measure => simp [intOf]; omega
      · obtain rfl : k = zs.length := by omega
        rw [List.take_length]
        have hlk := wInts_len zs HZ.out
        have P := Lib.hid (fun K hK => cuts_plain zs HZ.out K hK)
        have R := Lib.hid (fun K => ints_len (St.byte 108 ⟨(108 :: (wInts zs ++ [101])).take K, false⟩) zs.length)
        obtain ⟨l, hll⟩ : ∃ l, l = wInts zs := ⟨_, rfl⟩
        rw [← hll] at hlk P R ⊢
        clear hll hk HZ
        obtain ⟨K, hKe, hKl⟩ := cut_mod cut ((l.length : Int) + 1 + 1 + 1) (by omega) (by omega)
        have HX := Lib.hid (show (((⟨(108 :: l).toArray⟩ : ByteArray) ++ ⟨#[101]⟩).extract 0 K).data.toList = (108 :: (l ++ [101])).take K by
          rw [show ((⟨(108 :: l).toArray⟩ : ByteArray) ++ ⟨#[101]⟩) = ⟨(108 :: (l ++ [101])).toArray⟩ from app_mk (108 :: l) [101], ext_take])
        have hlen2 : (108 :: (l ++ [101])).length = l.length + 2 := by simp
        have PK := P.out K (by omega)
        have RK := R.out K
        have B1 := byte_len 108 ⟨(108 :: (l ++ [101])).take K, false⟩
        have T1 : ((108 :: (l ++ [101])).take K).length ≤ l.length + 2 := by rw [List.length_take, hlen2]; omega
        rw [hlen2] at PK
        obtain ⟨L, hL⟩ : ∃ L, (108 :: (l ++ [101])).take K = L := ⟨_, rfl⟩
        rw [hL] at HX PK RK B1 T1
        have hq : ∀ j u, u = ints j (St.byte 108 ⟨L, false⟩) → u.s.length ≤ 281474976710656 := by
          intro j u hu
          have := ints_len (St.byte 108 ⟨L, false⟩) j
          rw [hu]
          have B2 : (St.byte 108 ⟨L, false⟩).s.length ≤ L.length := B1
          omega
        have HQ := Lib.hid hq
        have HP := Lib.hid PK
        have HT := Lib.hid (show L.length ≤ 281474976710656 by omega)
        clear P R RK B1 T1 hL PK hq hlen2
        go_wp2_with fail
        all_goals first | (exfalso; omega) | skip
        refine (rd_new _ _).mono ?_
        rintro e w2 ⟨rfl, r2, b2⟩
        rw [HX.out] at r2
        have br2 := br.trans (b2.mono br.size)
        have hW := br.size
        have h6 := (hl.below hl.size br).size
        obtain ⟨b, hb⟩ : ∃ b, wr.heap.size = b := ⟨_, rfl⟩
        rw [hb] at r2 hW h6 ⊢
        clear hb b2 br
        go_wp2_with fail
        refine (rd_open b _ _ r2 HT.out).mono ?_
        rintro e w3 ⟨rfl, r3, b3⟩
        have br3 := br2.trans (b3.below hW r2.lt)
        clear r2 b3 br2
        go_wp2_with fail
        go_loopw [9] (fun i wx => ∃ j : Nat, j ≤ zs.length ∧ i = .int .i64 j ∧ Rd b wx (ints j (St.byte 108 ⟨L, false⟩)) ∧ Below w.heap.size w wx) (fun i _ => zs.length - (intOf i).toNat)
        case atStart => exact ⟨0, Nat.zero_le _, rfl, r3, br3⟩
        case round =>
          clear br3 r3
          obtain ⟨j, hj, rfl, rx, bx⟩ := hrel
          by_cases hlt2 : j < zs.length
          · have hlx := hl.below hl.size bx
            go_wp2_with fail
            refine (rd_int b _ _ hlx rx (HQ.out j _ rfl)).mono ?_
            rintro e w4 ⟨rfl, r4, b4⟩
            go_wp2_with fail
            go_roundw
            case rel => exact ⟨j + 1, by omega, by go_num, r4, bx.trans (b4.below hW rx.lt)⟩
            case measure => simp [intOf]; omega
          · obtain rfl : j = zs.length := by omega
            go_wp2_with fail
            refine (rd_close b _ _ rx (HQ.out _ _ rfl)).mono ?_
            rintro e w5 ⟨rfl, r5, b5⟩
            have br5 := bx.trans (b5.below hW rx.lt)
            clear rx b5 bx
            obtain ⟨u, hu⟩ : ∃ u, St.byte 101 (ints zs.length (St.byte 108 ⟨L, false⟩)) = u := ⟨_, rfl⟩
            rw [hu] at r5 HP
            clear hu
            go_wp2_with fail
            refine (rd_done b _ _ r5).mono ?_
            rintro e w' ⟨rfl, rfl⟩
            rcases done_cases u with ⟨h1, -, -⟩ | h1
            · have hKK := HP.out.1 h1
              rw [h1]
              go_wp2_with fail
              go_ret
              exact ⟨congrArg (fun x => Ending.returned (.bool x)) (beq_iff_eq.2 (by omega)), br5⟩
            · have hKK : K ≠ l.length + 2 := fun e => by have := HP.out.2 e; omega
              rw [h1]
              go_wp2_with fail
              go_ret
              have hne : ((K : Int) == (l.length : Int) + 1 + 1) = false := beq_eq_false_iff_ne.2 (by omega)
              exact ⟨congrArg (fun x => Ending.returned (.bool x)) (congrArg (fun x => !x) hne), br5⟩
end Go.Proofs.YtjjlkijconlbaaaDoor
