/- The walk of the law FrameFinds: the frames laid one behind the other. -/
import Derived.Test.YtddlkagcdlgllaaReadsWalk
import Derived.Test.YtddlkagcdlgllaaFindsPlain
namespace Go.Proofs.Ytddlkagcdlgllaa
open Go.RowKit

theorem infoInt' : (Try.prog.info? 3).map (fun i => (i.zero, i.size, i.bytes)) = some (some (.int .i64 0), 1, 8) := by kernel_rfl
theorem infoInt : ∃ i, Try.prog.info? 3 = some i ∧ i.zero = some (.int .i64 0) ∧ i.size = 1 ∧ i.bytes = 8 := by
  have h := infoInt'
  cases hi : Try.prog.info? 3 with
  | none => rw [hi] at h; cases h
  | some i =>
    rw [hi] at h
    simp only [Option.map_some, Option.some.injEq, Prod.mk.injEq] at h
    exact ⟨i, rfl, h.1, h.2.1, h.2.2⟩
def endsOf (ls : List (List UInt8)) (k : Nat) : List Value := (List.range (k + 1)).map fun j => Value.int .i64 (Pl.fin ls j : Nat)
theorem endsOf_more (ls : List (List UInt8)) (k : Nat) : endsOf ls (k + 1) = endsOf ls k ++ [Value.int .i64 (Pl.fin ls (k + 1) : Nat)] := by
  unfold endsOf
  rw [List.range_succ, List.map_append]
  rfl
theorem endsOf_at (ls : List (List UInt8)) (k j : Nat) (h : j ≤ k) : (endsOf ls k)[j]? = some (Value.int .i64 (Pl.fin ls j : Nat)) := by
  unfold endsOf
  rw [List.getElem?_map, List.getElem?_range (by omega)]
  rfl
/-- What holds ahead of each round of the first loop. -/
def Laying (ls : List (List UInt8)) (w : World) (sv ev iv : Value) (wr : World) : Prop :=
  ∃ k : Nat, k ≤ ls.length ∧ (∀ i l, i < k → ls[i]? = some l → l.length ≤ 4096) ∧ iv = .int .i64 k ∧ sv = .string ⟨(Pl.flat (ls.take k)).toArray⟩ ∧ wr.ownsRow w.heap.size 3 1 ev (k + 1) (endsOf ls k) ∧ Below w.heap.size w wr
theorem laying_start (ls : List (List UInt8)) (w w1 : World) (hb : Below w.heap.size w w1) : Laying ls w (.string ⟨#[]⟩) (.slice (some ⟨w1.heap.size, 0, none⟩) 1 1) (.int .i64 0) (w1.alloc (.cells #[.int .i64 0] 3)) :=
  ⟨0, Nat.zero_le _, fun _ _ h => absurd h (Nat.not_lt_zero _), rfl, rfl, ⟨by simp [endsOf], .inr ⟨w1.heap.size, 1, #[.int .i64 0], rfl, hb.size, heap_alloc_new w1 _, Nat.le_refl _, by decide, by simp, by simp [endsOf, Pl.fin, Pl.flat]⟩⟩, hb.alloc hb.size _⟩
theorem bytes_append (a b : List UInt8) : (⟨a.toArray⟩ ++ ⟨b.toArray⟩ : ByteArray) = ⟨(a ++ b).toArray⟩ := by
  rw [ofList_eq (⟨a.toArray⟩ ++ ⟨b.toArray⟩ : ByteArray) (a ++ b) (by rw [Joins.data_append])]
theorem size_list (a : List UInt8) : (⟨a.toArray⟩ : ByteArray).size = a.length := by show a.toArray.size = _; simp

theorem readable_take {a : Option Addr} {n cap : Nat} {ls : List (List UInt8)} {w : World} (h : Readable (.slice a n cap) ls w) (j : Nat) (hj : j ≤ ls.length) : Readable (.slice a j cap) (ls.take j) w := by
  obtain ⟨a', cap', hv, hc⟩ := h
  injection hv with h1 h2 h3
  refine ⟨a, cap, by rw [List.length_take, Nat.min_eq_left hj], fun i l hi => ?_⟩
  have hij : i < j := by
    have := (List.getElem?_eq_some_iff.1 hi).1
    rw [List.length_take] at this
    omega
  rw [List.getElem?_take_of_lt hij] at hi
  obtain ⟨b, off, hab, hb, hcell⟩ := hc i l hi
  exact ⟨b, off, h1.trans hab, hb, hcell⟩
/-- 'int(uint(cut) % uint(n))'. -/
theorem cut_mod (cut n : Int) (hn : 0 < n) (hb : n ≤ 1099511627776) : ∃ K : Nat, wrap64 ((IntKind.u64.wrap cut).tmod n) = K ∧ (K : Int) < n := by
  have h0 : 0 ≤ IntKind.u64.wrap cut := by rw [IntKind.wrap_u64]; omega
  have h1 : (IntKind.u64.wrap cut).tmod n = (IntKind.u64.wrap cut) % n := Int.tmod_eq_emod_of_nonneg h0
  have h2 : 0 ≤ (IntKind.u64.wrap cut) % n := Int.emod_nonneg _ (by omega)
  have h3 : (IntKind.u64.wrap cut) % n < n := Int.emod_lt_of_pos _ hn
  rw [h1]
  refine ⟨((IntKind.u64.wrap cut) % n).toNat, ?_, by omega⟩
  generalize (IntKind.u64.wrap cut) % n = r at h2 h3
  unfold wrap64
  omega

set_option maxHeartbeats 2000000 in
theorem finds_any (a : Option Addr) (cap : Nat) (ls : List (List UInt8)) (c : Int) (w : World) (hr : Readable (.slice a ls.length cap) ls w) (hcap : ls.length ≤ cap) :
    Calls Try.prog 5 #[.slice a ls.length cap, .int .i64 c] w fun e w' => e = .returned (.bool true) ∧ Below w.heap.size w w' := by
  have HR := Lib.hid hr
  clear hr
  obtain ⟨m, hm⟩ : ∃ m, ls.length = m := ⟨_, rfl⟩
  have HM := Lib.hid hm
  rw [hm] at HR hcap ⊢
  clear hm
  by_cases hs : 40 < m
  · go_enter Try.func5, Try.ntmps5
    go_wp2_with fail
    refine (awake_any _).mono ?_
    rintro e w1 ⟨rfl, b1⟩
    go_wp2_with fail
    go_ret
    exact ⟨rfl, b1⟩
  · go_enter Try.func5, Try.ntmps5
    go_wp2_with fail
    refine (awake_any _).mono ?_
    rintro e w1 ⟨rfl, b1⟩
    have HST := Lib.hid (laying_start ls w w1 b1)
    clear b1
    go_wp2_with fail
    go_loopw [5, 6, 7] (fun sv ev iv wr => Laying ls w sv ev iv wr) (fun _ _ iv _ => m - (intOf iv).toNat)
    case atStart => exact HST.out
    case round =>
      obtain ⟨k, hk, hsm, rfl, rfl, hown, hb⟩ := hrel
      rw [HM.out] at hk
      have HSM := Lib.hid hsm
      have HO := Lib.hid hown
      have HB := Lib.hid hb
      clear hsm hown hb HST
      by_cases hlt : k < m
      · obtain ⟨l, hg⟩ : ∃ l, ls[k]? = some l := ⟨_, List.getElem?_eq_getElem (by rw [HM.out]; exact hlt)⟩
        have HG := Lib.hid hg
        obtain ⟨a', cap', hva, hcell⟩ := HR.out
        obtain ⟨b, off, hab, hbl, hc1⟩ := hcell k l hg
        obtain rfl : a = some ⟨b, off, none⟩ := by injection hva with h1 h2 h3; rw [h1, hab]
        have HBL := Lib.hid hbl
        have HC1 := Lib.hid hc1
        have hcw : wr.cell? ⟨b, off + k, none⟩ = some (.string ⟨l.toArray⟩) := (HB.out.cell (p := ⟨b, off + k, none⟩) hbl).trans hc1
        obtain ⟨X, hX⟩ : ∃ X : ByteArray, (⟨l.toArray⟩ : ByteArray) = X := ⟨_, rfl⟩
        obtain ⟨r, hlr⟩ : ∃ r, l.length = r := ⟨_, rfl⟩
        have hXs : X.size = r := by rw [← hX, size_list, hlr]
        have hXl : X.data.toList = l := by rw [← hX]
        rw [hX] at hcw hc1
        have HX := Lib.hid hX
        have HLR := Lib.hid hlr
        clear hva hcell hbl hg hX hlr
        by_cases h4 : 4096 < r
        · clear hc1 hXl
          go_wp2_with fail
          go_ret
          exact ⟨rfl, HB.out⟩
        · have P := fun wx => put_fits X wx (by omega)
          rw [hXl] at P
          obtain ⟨F, hF⟩ : ∃ F : ByteArray, (⟨(Pl.frame l).toArray⟩ : ByteArray) = F := ⟨_, rfl⟩
          obtain ⟨S, hS⟩ : ∃ S : ByteArray, (⟨(Pl.flat (ls.take k)).toArray⟩ : ByteArray) = S := ⟨_, rfl⟩
          obtain ⟨S2, hS2⟩ : ∃ S2 : ByteArray, S ++ F = S2 := ⟨_, rfl⟩
          have hFs : F.size = 8 + r := by rw [← hF, size_list, Pl.frame_length, HLR.out]
          have hS3 : S2 = ⟨(Pl.flat (ls.take (k + 1))).toArray⟩ := by rw [← hS2, ← hS, ← hF, bytes_append, ← Pl.flat_more HG.out]
          have hS4 : S2.size = Pl.fin ls (k + 1) := by rw [hS3, size_list]; rfl
          have hfl := Pl.fin_le ls (k + 1) (fun i l' hi hl' => by
            rcases Nat.lt_or_ge i k with h | h
            · exact HSM.out i l' h hl'
            · obtain rfl : i = k := by omega
              have e : l' = l := Option.some.inj (hl'.symm.trans HG.out)
              rw [e, HLR.out]
              omega) (by rw [HM.out]; omega)
          rw [hF] at P
          rw [hS]
          obtain ⟨q, hq⟩ : ∃ q, Pl.fin ls (k + 1) = q := ⟨_, rfl⟩
          rw [hq] at hS4 hfl
          have hq9 : q ≤ 164160 := by omega
          have HP := Lib.hid P
          have HS3 := Lib.hid hS3
          have HQ := Lib.hid hq
          have hc2 : ∀ w3, Below wr.heap.size wr w3 → w3.cell? ⟨b, off + k, none⟩ = some (.string X) := fun w3 h3 => (h3.cell (p := ⟨b, off + k, none⟩) (Nat.lt_of_lt_of_le HBL.out HB.out.size)).trans hcw
          have HC2 := Lib.hid hc2
          have hSs : S.size ≤ 164160 := by
            have h1 := congrArg ByteArray.size hS2
            rw [ByteArray.size_append] at h1
            omega
          have hF2 : ((F.size : Int) != 8 + (r : Int)) = false := by rw [hFs]; simp
          clear hc1 hXl hF hS hS3 hfl hq P hc2
          obtain ⟨i0, hi, hz0, hz1, hz2⟩ := infoInt
          have HI := Lib.hid hi
          have HZ0 := Lib.hid hz0
          have HZ1 := Lib.hid hz1
          have HZ2 := Lib.hid hz2
          have hB := HB.out.size
          clear hi hz0 hz1 hz2
          go_wp2_with fail
          refine (HP.out _).mono ?_
          rintro e w2 ⟨rfl, b2⟩
          have hc3 := HC2.out w2 b2
          have HO2 := Lib.hid (own_below HO.out b2)
          have HB2 := Lib.hid (HB.out.trans (b2.mono hB))
          have hB2 := HB2.out.size
          clear b2
          go_wp2_with (at_builtin; refine wpList_append_own _ rfl _ _ 36 rfl w.heap.size 3 i0 (.int .i64 0) 1 8 Try.underlying36 HI.out HZ0.out HZ1.out HZ2.out rfl (by decide) _ _ _ rfl (HO2.out.alloc _) ⟨w2.heap.size, 0, none⟩ 1 1 [.int .i64 (q : Nat)] rfl rfl ?c1 ?c2 ?c3 ?c4 ?c5 ?_)
          case c1 =>
            intro j u hj
            match j, hj with
            | 0, hj => simp at hj; subst hj; simp [Addr.add]
          case c2 => intro u hu; simp at hu; subst hu; rfl
          case c3 => unfold maxLen; omega
          case c4 => omega
          case c5 => simp; omega
          intro v' w3 hown3 hgrow _
          have HB3 := Lib.hid ((HB2.out.alloc hB2 (.cells #[.int .i64 (q : Nat)] 3)).grown hgrow (by simp; omega) (fun k hk => (HO2.out.lt k hk).1))
          have HO3 := Lib.hid hown3
          clear hown3 hgrow hc3
          go_wp2_with fail
          go_roundw
          case rel =>
            refine ⟨k + 1, by rw [HM.out]; omega, ?_, by go_num, congrArg Value.string HS3.out, ?_, HB3.out⟩
            · intro i l' hi hl'
              rcases Nat.lt_or_ge i k with h | h
              · exact HSM.out i l' h hl'
              · obtain rfl : i = k := by omega
                have e : l' = l := Option.some.inj (hl'.symm.trans HG.out)
                rw [e, HLR.out]
                omega
            · rw [endsOf_more, HQ.out]
              exact HO3.out
          case measure => simp [intOf]; omega
      · obtain rfl : k = m := by omega
        obtain ⟨N, hN⟩ : ∃ N, (Pl.flat ls).length = N := ⟨_, rfl⟩
        have hNb : N ≤ 164160 := by
          have h1 := Pl.fin_le ls k HSM.out (by rw [HM.out]; exact Nat.le_refl _)
          rw [← HM.out, Pl.fin_all, hN, HM.out] at h1
          omega
        have ek : ls.take k = ls := by rw [← HM.out, List.take_length]
        rw [ek]
        obtain ⟨S, hS⟩ : ∃ S : ByteArray, (⟨(Pl.flat ls).toArray⟩ : ByteArray) = S := ⟨_, rfl⟩
        have hSz : S.size = N := by rw [← hS, size_list, hN]
        have hSl : S.data.toList = Pl.flat ls := by rw [← hS]
        rw [hS]
        obtain ⟨n, hKe, hKl⟩ := cut_mod c ((N : Int) + 1) (by omega) (by omega)
        have hn : n ≤ N := by omega
        obtain ⟨g, capE, cur, rfl, hgb, hgw, hcap, hcm, hcs, hct⟩ : ∃ g capE cur, u6 = .slice (some ⟨g, 0, none⟩) (k + 1) capE ∧ w.heap.size ≤ g ∧ wr.heap[g]? = some (.cells cur 3 (0, 0)) ∧ k + 1 ≤ capE ∧ capE ≤ maxLen ∧ cur.size = capE * 1 ∧ cur.toList.take ((k + 1) * 1) = endsOf ls k := by
          rcases HO.out.2 with ⟨-, h⟩ | h
          · exact absurd h (by omega)
          · exact h
        have hce : ∀ j, j ≤ k → wr.cell? ⟨g, j, none⟩ = some (.int .i64 (Pl.fin ls j : Nat)) := fun j hj => by
          have e : (cur.toList.take ((k + 1) * 1))[j]? = some (.int .i64 (Pl.fin ls j : Nat)) := by rw [hct]; exact endsOf_at ls k j hj
          rw [List.getElem?_take_of_lt (by omega), Array.getElem?_toList] at e
          unfold World.cell?
          rw [hgw]
          exact e
        have HCE := Lib.hid hce
        have HGW := Lib.hid (lt_of_block hgw)
        have HSL := Lib.hid hSl
        have HNN := Lib.hid hN
        have HWF : Hid (∀ t ∈ ls, t.length ≤ 4096) := fun t ht => by
          obtain ⟨i, hi, rfl⟩ := List.getElem_of_mem ht
          exact HSM.out i _ (by rw [← HM.out]; exact hi) (List.getElem?_eq_getElem hi)
        clear hN ek hS hSl hgb hgw hcs hct hce HO hlt
        go_wp2_with fail
        go_loop [11] (fun jv => ∃ j : Nat, j ≤ k ∧ jv = .int .i64 j ∧ Pl.fin ls j ≤ n) (fun jv => k - (intOf jv).toNat)
        case atStart => exact ⟨0, Nat.zero_le _, rfl, Nat.zero_le _⟩
        case round =>
          obtain ⟨j, hj, rfl, hfj⟩ := hrel
          by_cases hjk : j < k
          · have hc1 := HCE.out (j + 1) (by omega)
            obtain ⟨f1, hf1⟩ : ∃ f, Pl.fin ls (j + 1) = f := ⟨_, rfl⟩
            rw [hf1] at hc1
            have HF1 := Lib.hid hf1
            have HFJ := Lib.hid hfj
            clear hf1 hfj
            by_cases hfn : f1 ≤ n
            · go_wp2_with fail
              go_round
              case rel => exact ⟨j + 1, by omega, by go_num, by rw [HF1.out]; exact hfn⟩
              case measure => simp [intOf]; omega
            · skip
              obtain ⟨Y, hY⟩ : ∃ Y : ByteArray, S.extract 0 n = Y := ⟨_, rfl⟩
              have hYl : Y.data.toList = (Pl.flat ls).take n := by rw [← hY, Lib.extract_data, List.drop_zero, Nat.sub_zero, HSL.out]
              have hYs : Y.size ≤ 1048576 := by rw [← hY, ByteArray.size_extract]; omega
              have SC := fun wx => scan_any Y wx hYs
              unfold Scanned at SC
              rw [hYl, Pl.finds (j := j) (by rw [HM.out]; omega) (fun t ht => Nat.le_trans (HWF.out t ht) (by omega)) HFJ.out (fun _ => by rw [HF1.out]; omega)] at SC
              have HSC := Lib.hid SC
              have hcj := HCE.out j (by omega)
              obtain ⟨q, hq⟩ : ∃ q, Pl.fin ls j = q := ⟨_, rfl⟩
              rw [hq] at HSC hcj
              have hq9 : q ≤ n := by rw [← hq]; exact HFJ.out
              have HCJ := Lib.hid hcj
              have HTL : Hid ((ls.take j).length = j) := by show (ls.take j).length = j; rw [List.length_take, HM.out]; omega
              clear hYl SC hcj hq
              go_wp2_with fail
              refine (HSC.out _).mono ?_
              rintro e w5 ⟨v3, rfl, o5, b5⟩
              have R5 := Lib.hid (readable_own o5)
              have R6 := Lib.hid ((readable_take HR.out j (by rw [HM.out]; omega)).below HB.out |>.below b5)
              have hB := HB.out.size
              have HB5 := Lib.hid (HB.out.trans (b5.mono hB))
              have HK5 := Lib.hid b5
              clear b5 o5
              go_wp2_with fail
              refine (same_true _ _ (ls.take j) _ R5.out R6.out (by rw [HTL.out]; omega)).mono ?_
              rintro e w6 ⟨rfl, b6⟩
              have hcj := ((HK5.out.trans (b6.mono HK5.out.size)).cell (p := ⟨g, j, none⟩) HGW.out).trans HCJ.out
              have HB6 := Lib.hid (HB5.out.trans (b6.mono HB5.out.size))
              clear b6
              go_wp2_with fail
              go_ret
              exact ⟨rfl, HB6.out⟩
          · obtain rfl : j = k := by omega
            have HFJ := Lib.hid hfj
            clear hfj
            obtain ⟨Y, hY⟩ : ∃ Y : ByteArray, S.extract 0 n = Y := ⟨_, rfl⟩
            have hYl : Y.data.toList = (Pl.flat ls).take n := by rw [← hY, Lib.extract_data, List.drop_zero, Nat.sub_zero, HSL.out]
            have hYs : Y.size ≤ 1048576 := by rw [← hY, ByteArray.size_extract]; omega
            have SC := fun wx => scan_any Y wx hYs
            unfold Scanned at SC
            rw [hYl, Pl.finds (j := j) (by rw [HM.out]; omega) (fun t ht => Nat.le_trans (HWF.out t ht) (by omega)) HFJ.out (fun h => absurd h (by rw [HM.out]; omega))] at SC
            have HSC := Lib.hid SC
            have hcj := HCE.out j (by omega)
            obtain ⟨q, hq⟩ : ∃ q, Pl.fin ls j = q := ⟨_, rfl⟩
            rw [hq] at HSC hcj
            have hq9 : q ≤ n := by rw [← hq]; exact HFJ.out
            have HCJ := Lib.hid hcj
            have HTL : Hid ((ls.take j).length = j) := by show (ls.take j).length = j; rw [List.length_take, HM.out]; omega
            clear hYl SC hcj hq
            go_wp2_with fail
            refine (HSC.out _).mono ?_
            rintro e w5 ⟨v3, rfl, o5, b5⟩
            have R5 := Lib.hid (readable_own o5)
            have R6 := Lib.hid ((readable_take HR.out j (by rw [HM.out]; omega)).below HB.out |>.below b5)
            have hB := HB.out.size
            have HB5 := Lib.hid (HB.out.trans (b5.mono hB))
            have HK5 := Lib.hid b5
            clear b5 o5
            go_wp2_with fail
            refine (same_true _ _ (ls.take j) _ R5.out R6.out (by rw [HTL.out]; omega)).mono ?_
            rintro e w6 ⟨rfl, b6⟩
            have hcj := ((HK5.out.trans (b6.mono HK5.out.size)).cell (p := ⟨g, j, none⟩) HGW.out).trans HCJ.out
            have HB6 := Lib.hid (HB5.out.trans (b6.mono HB5.out.size))
            clear b6
            go_wp2_with fail
            go_ret
            exact ⟨rfl, HB6.out⟩
end Go.Proofs.Ytddlkagcdlgllaa
