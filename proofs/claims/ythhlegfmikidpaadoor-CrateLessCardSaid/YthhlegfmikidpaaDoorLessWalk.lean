/- The walk of the law CrateLess. -/
import Derived.Test.YthhlegfmikidpaaDoorSameWalk
import Derived.Deep.RegionLaw
import Derived.Deep.AppendLies
namespace Go.Proofs.YthhlegfmikidpaaDoor
open Go.RowKit

def Nums (a0 : Option Addr) (zs : List Int) (w : World) : Prop := zs = [] ∨ ∃ nb off, a0 = some ⟨nb, off, none⟩ ∧ nb < w.heap.size ∧ ∀ i, i < zs.length → w.cell? ⟨nb, off + i, none⟩ = some (.int .i64 (zs.getD i 0))
theorem Nums.cell {a0 : Option Addr} {zs : List Int} {w w' : World} (h : Nums a0 zs w) (hb : Below w.heap.size w w') {k : Nat} (hk : k < zs.length) : ∃ nb off, a0 = some ⟨nb, off, none⟩ ∧ w'.cell? ⟨nb, off + k, none⟩ = some (.int .i64 (zs.getD k 0)) := by
  rcases h with h | ⟨nb, off, h1, h2, h3⟩
  · rw [h] at hk; simp at hk
  · exact ⟨nb, off, h1, (hb.cell (p := ⟨nb, off + k, none⟩) h2).trans (h3 k hk)⟩
theorem sub_keep {ls acc : List Pl.Rc} {k : Nat} {x : Pl.Rc} (h : acc.Sublist (ls.take k)) (hx : ls[k]? = some x) : (acc ++ [x]).Sublist (ls.take (k + 1)) := by
  rw [List.take_add_one, hx]
  exact List.Sublist.append h (List.Sublist.refl _)
theorem sub_skip {ls acc : List Pl.Rc} {k : Nat} (h : acc.Sublist (ls.take k)) : acc.Sublist (ls.take (k + 1)) := by
  rw [List.take_add_one]
  exact h.trans (List.sublist_append_left _ _)
/-- The blocks of b and c behind a store into c's slice. -/
theorem PA.put {w W : World} {b c : Nat} {B C : Array Value} (h : PA w [(b, B), (c, C)] W) (hn : b ≠ c) (i : Nat) (v : Value) : PA w [(b, B), (c, C.setIfInBounds i v)] (W.setCell ⟨c, i, none⟩ v) := by
  obtain ⟨h1, h2⟩ := h.blk 0 _ _ rfl
  obtain ⟨h3, h4⟩ := h.blk 1 _ _ rfl
  refine ⟨h.low.setCell (p := ⟨c, i, none⟩) h3 v, fun k d cs hk => ?_⟩
  match k, hk with
  | 0, hk =>
    obtain ⟨rfl, rfl⟩ := Prod.mk.inj (Option.some.inj hk)
    exact ⟨h1, h2.setOther v hn⟩
  | 1, hk =>
    obtain ⟨rfl, rfl⟩ := Prod.mk.inj (Option.some.inj hk)
    exact ⟨h3, h4.set v⟩
  | k + 2, hk => simp at hk

theorem two_lt {x y base : Nat} {B C : Array Value} (h1 : x < base) (h2 : y < base) : ∀ (k b : Nat) (cs : Array Value), [(x, B), (y, C)][k]? = some (b, cs) → b < base
  | 0, b, cs, hk => by obtain ⟨rfl, rfl⟩ := Prod.mk.inj (Option.some.inj hk); exact h1
  | 1, b, cs, hk => by obtain ⟨rfl, rfl⟩ := Prod.mk.inj (Option.some.inj hk); exact h2
  | k + 2, b, cs, hk => by simp at hk
theorem Recs.one {x : Option Addr} {m cap k : Nat} {ls : List Pl.Rc} {w : World} {r : Pl.Rc} (h : Recs (.slice x m cap) ls w) (hk : ls[k]? = some r) :
    ∃ b off, x = some ⟨b, off, none⟩ ∧ b < w.heap.size ∧ w.cell? ⟨b, off + k * 4, none⟩ = some (.int .i64 r.off) ∧ w.cell? ⟨b, off + k * 4 + 1, none⟩ = some (.string ⟨r.key.toArray⟩) ∧ w.cell? ⟨b, off + k * 4 + 2, none⟩ = some (.string ⟨r.val.toArray⟩) ∧ w.cell? ⟨b, off + k * 4 + 3, none⟩ = some (.bool r.gone) := by
  obtain ⟨a, cp, he, hc⟩ := h
  injection he with e1 e2 e3
  subst e1
  exact hc k r hk
theorem own_form {w : World} {base : Nat} {e : TypeId} {sv : Value} {n : Nat} {xs : List Value} (h : w.ownsRow base e 4 sv n xs) : ∃ a cap, sv = .slice a n cap := by
  rcases h.2 with ⟨rfl, h0⟩ | ⟨g, cap, cur, rfl, -⟩
  · exact ⟨none, 0, by rw [h0]⟩
  · exact ⟨_, cap, rfl⟩
set_option maxHeartbeats 4000000 in
set_option maxRecDepth 100000 in
theorem less_any (b : Pl.Bt) (vb : Value) (an : Option Addr) (cn : Nat) (zs : List Int) (w : World) (lb : Lb w) (hb : Come b vb w) (hn : Nums an zs w) (hzl : zs.length ≤ maxLen) :
    Calls Tryd.prog 8 #[.agg #[.int .i64 b.base, .int .i64 b.count, .int .i64 b.prod, .int .i64 b.seq, .int .i64 b.time, vb], .slice an zs.length cn] w fun e w' => e = .returned (.bool true) ∧ Below w.heap.size w w' := by
  obtain ⟨xb, pb, rfl⟩ := hb.slice
  have GB := Lib.hid (Got.mk hb)
  have HLB := Lib.hid lb
  have HNZ := Lib.hid hn
  obtain ⟨m, hm⟩ : ∃ m, b.recs.length = m := ⟨_, rfl⟩
  have HM := Lib.hid hm
  obtain ⟨n, hn'⟩ : ∃ n, zs.length = n := ⟨_, rfl⟩
  have HN := Lib.hid hn'
  have hml : m ≤ maxLen := hm ▸ hb.len
  have HRW : Hid (Recs (.slice xb m pb) b.recs w) := hm ▸ hb.recs
  have h0 := pa1 w (cellsB b (.slice xb b.recs.length pb))
  obtain ⟨W0, hW0⟩ : ∃ W0, (w.alloc (.cells (cellsB b (.slice xb b.recs.length pb)) 24)) = W0 := ⟨_, rfl⟩
  rw [hW0] at h0
  unfold cellsB at hW0 h0
  rw [hm] at hW0 h0 ⊢
  rw [hn'] at hzl ⊢
  unfold maxLen at hml hzl
  have H0 := Lib.hid h0
  have HE := Lib.hid hW0
  clear h0 hW0 hb lb hn hm hn'
  go_enter Tryd.func8, Tryd.ntmps8
  go_wp2_with fail
  rw [HE.out]
  refine (awake_any W0 (H0.out.lb HLB.out)).mono ?_
  rintro e w1 ⟨rfl, b1⟩
  have H1 := Lib.hid (H0.out.below b1)
  clear b1 H0 HE
  have b5 := H1.out.cell (k := 0) (i := 5) rfl rfl
  have C := GB.out.great H1.out.low
  rw [HM.out] at C
  go_wp2_with fail
  cases hgb : greatB b.recs with
  | true =>
    rw [hgb] at C
    refine C.mono ?_
    rintro e w2 ⟨rfl, b2⟩
    have H2 := Lib.hid (H1.out.below b2)
    clear b2 C
    go_wp2_with fail
    go_ret
    exact ⟨rfl, H2.out.low⟩
  | false =>
    rw [hgb] at C
    have lb := great_few hgb
    rw [HM.out] at lb
    refine C.mono ?_
    clear C hgb
    rintro e w2 ⟨rfl, b2⟩
    have H2 := Lib.hid (H1.out.below b2)
    clear b2 b5 H1
    have b0 := H2.out.cell (k := 0) (i := 0) rfl rfl
    have b1 := H2.out.cell (k := 0) (i := 1) rfl rfl
    have b2 := H2.out.cell (k := 0) (i := 2) rfl rfl
    have b3 := H2.out.cell (k := 0) (i := 3) rfl rfl
    have b4 := H2.out.cell (k := 0) (i := 4) rfl rfl
    have b5 := H2.out.cell (k := 0) (i := 5) rfl rfl
    have CG := dgood b.base b.count b.prod b.seq b.time b.recs (.slice xb m pb) w2 (H2.out.lb HLB.out) (HRW.out.below H2.out.low) (by rw [HM.out]; omega)
    cases hgd : Pl.goodB b with
    | false =>
      rw [show Pl.goodB ⟨b.base, b.count, b.prod, b.seq, b.time, b.recs⟩ = false from hgd] at CG
      have HCG := Lib.hid CG
      clear CG
      go_wp2_with fail
      refine HCG.out.mono ?_
      rintro e w3 ⟨rfl, b3⟩
      have H3 := Lib.hid (H2.out.below b3)
      clear b3
      go_wp2_with fail
      go_ret
      exact ⟨rfl, H3.out.low⟩
    | true =>
      rw [show Pl.goodB ⟨b.base, b.count, b.prod, b.seq, b.time, b.recs⟩ = true from hgd] at CG
      have HCG := Lib.hid CG
      have HGD := Lib.hid hgd
      clear CG hgd
      by_cases h100 : 100 < n
      · go_wp2_with fail
        refine HCG.out.mono ?_
        rintro e w3 ⟨rfl, b3⟩
        have H3 := Lib.hid (H2.out.below b3)
        clear b3
        go_wp2_with fail
        go_ret
        exact ⟨rfl, H3.out.low⟩
      · go_wp2_with fail
        refine HCG.out.mono ?_
        rintro e w3 ⟨rfl, k3⟩
        have H3 := Lib.hid (H2.out.below k3)
        clear k3 H2 HCG b0 b1 b2 b3 b4 b5
        have b0 := H3.out.cell (k := 0) (i := 0) rfl rfl
        have b1 := H3.out.cell (k := 0) (i := 1) rfl rfl
        have b2 := H3.out.cell (k := 0) (i := 2) rfl rfl
        have b3 := H3.out.cell (k := 0) (i := 3) rfl rfl
        have b4 := H3.out.cell (k := 0) (i := 4) rfl rfl
        have b5 := H3.out.cell (k := 0) (i := 5) rfl rfl
        have h4 := H3.out.more #[.int .i64 b.base, .int .i64 b.count, .int .i64 b.prod, .int .i64 b.seq, .int .i64 b.time, .slice none 0 0]
        have H4 := Lib.hid h4
        clear h4
        go_wp2_with fail
        go_loopw [6] (fun iv wr => ∃ (k : Nat) (acc : List Pl.Rc) (sv : Value), k ≤ m ∧ iv = .int .i64 k ∧ acc.Sublist (b.recs.take k) ∧ PA w [(w.heap.size, #[.int .i64 b.base, .int .i64 b.count, .int .i64 b.prod, .int .i64 b.seq, .int .i64 b.time, .slice xb m pb]), (w3.heap.size, #[.int .i64 b.base, .int .i64 b.count, .int .i64 b.prod, .int .i64 b.seq, .int .i64 b.time, sv])] wr ∧ wr.ownsRow (w3.heap.size + 1) 41 4 sv acc.length (acc.flatMap cells4)) (fun iv _ => m - (intOf iv).toNat)
        case atStart => exact ⟨0, [], .slice none 0 0, Nat.zero_le _, rfl, List.Sublist.refl _, H4.out, World.ownsRow_nil _ _ _ _⟩
        case round =>
          clear H4
          obtain ⟨k, acc, sv, hk, rfl, hsub, hpa, hown⟩ := hrel
          obtain ⟨q, hq⟩ : ∃ q, acc.length = q := ⟨_, rfl⟩
          rw [hq] at hown
          obtain ⟨sa, sc, rfl⟩ := own_form hown
          have hqk : q ≤ k := by
            have := hsub.length_le
            rw [List.length_take] at this
            omega
          have HSUB := Lib.hid hsub
          have HQ := Lib.hid hq
          have HP := Lib.hid hpa
          have HO := Lib.hid hown
          clear hsub hq hpa hown
          by_cases hlt : k < m
          · obtain ⟨x, hx⟩ : ∃ x, b.recs[k]? = some x := ⟨_, List.getElem?_eq_getElem (by rw [HM.out]; exact hlt)⟩
            obtain ⟨rb, off, rfl, hbl, c0, c1, c2, c3⟩ := HRW.out.one hx
            have HX := Lib.hid hx
            have HC0 := Lib.hid c0
            have HC1 := Lib.hid c1
            have HC2 := Lib.hid c2
            have HC3 := Lib.hid c3
            have HBL := Lib.hid hbl
            clear hx c0 c1 c2 c3 hbl
            have b5 := HP.out.cell (k := 0) (i := 5) rfl rfl
            go_wp2_with fail
            obtain ⟨wo, rfl⟩ : ∃ wo : World, wo = wr := ⟨_, rfl⟩
            clear b5
            go_loopw [7, 8] (fun fv kv wx => ∃ (j : Nat) (f : Bool), j ≤ n ∧ kv = .int .i64 j ∧ fv = .bool f ∧ wo = wx) (fun _ kv _ => n - (intOf kv).toNat)
            case atStart => exact ⟨0, false, Nat.zero_le _, rfl, rfl, rfl⟩
            case round =>
              obtain ⟨j, f, hj, rfl, rfl, rfl⟩ := hrel
              by_cases hjn : j < n
              · cases f with
                | true =>
                  go_wp2_with fail
                  go_roundw
                  case rel => exact ⟨j + 1, true, by omega, by go_num, rfl, trivial⟩
                  case measure => simp [intOf]; omega
                | false =>
                  obtain ⟨nb, noff, rfl, hnc⟩ := HNZ.out.cell HP.out.low (show j < zs.length by rw [HN.out]; exact hjn)
                  obtain ⟨z, hz⟩ : ∃ z, zs.getD j 0 = z := ⟨_, rfl⟩
                  rw [hz] at hnc
                  clear hz
                  go_wp2_with fail
                  go_roundw
                  case rel => exact ⟨j + 1, _, by omega, by go_num, rfl, trivial⟩
                  case measure => simp [intOf]; omega
              · cases f with
                | true =>
                  go_wp2_with fail
                  go_roundw
                  case rel => exact ⟨k + 1, acc, _, by omega, by go_num, sub_skip HSUB.out, HP.out, by rw [HQ.out]; exact HO.out⟩
                  case measure => simp [intOf]; omega
                | false =>
                  have hal : Below wo.heap.size wo (World.alloc (World.drew wo) (.cells #[.int .i64 x.off, .string ⟨x.key.toArray⟩, .string ⟨x.val.toArray⟩, .bool x.gone] 41)) := (Below.refl wo.heap.size wo).drew.alloc (Nat.le_refl _) (.cells #[.int .i64 x.off, .string ⟨x.key.toArray⟩, .string ⟨x.val.toArray⟩, .bool x.gone] 41)
                  have HP4 := Lib.hid (HP.out.below hal)
                  have HO4 := Lib.hid (own_below HO.out hal)
                  have HNEWS : Hid (∀ j u, (cells4 x)[j]? = some u → World.cell? (World.alloc (World.drew wo) (.cells #[.int .i64 x.off, .string ⟨x.key.toArray⟩, .string ⟨x.val.toArray⟩, .bool x.gone] 41)) (Addr.add ⟨wo.heap.size, 0, none⟩ j) = some u) := World.news_of_block (cs := #[.int .i64 x.off, .string ⟨x.key.toArray⟩, .string ⟨x.val.toArray⟩, .bool x.gone]) (t := 41) (fr := (0, 0)) (heap_alloc_new (World.drew wo) _)
                  have HONE : Hid (∀ u ∈ cells4 x, u.oneCell' = true) := by
                    intro u hu
                    simp only [cells4, List.mem_cons, List.not_mem_nil, or_false] at hu
                    rcases hu with rfl | rfl | rfl | rfl <;> rfl
                  have H63 : Hid (q + 1 ≤ maxLen) := by show _ ≤ _; unfold maxLen; omega
                  have HBY : Hid ((q + 1) * 48 ≤ 140737488355328) := by show _ ≤ _; omega
                  have HZ4 : Hid (w3.heap.size + 1 ≤ (World.heap (World.alloc (World.drew wo) (.cells #[.int .i64 x.off, .string ⟨x.key.toArray⟩, .string ⟨x.val.toArray⟩, .bool x.gone] 41))).size) := HP4.out.lt 1 _ _ rfl
                  have HLW : Hid (w.heap.size < w3.heap.size) := H3.out.lt 0 _ _ rfl
                  have e : ∀ o, wo.cell? ⟨rb, o, none⟩ = w.cell? ⟨rb, o, none⟩ := fun o => HP.out.low.cell (p := ⟨rb, o, none⟩) HBL.out
                  have x0 := (e _).trans HC0.out
                  have x1 := (e _).trans HC1.out
                  have x2 := (e _).trans HC2.out
                  have x3 := (e _).trans HC3.out
                  have b5 := HP.out.cell (k := 0) (i := 5) rfl rfl
                  have t5 := HP.out.cell (k := 1) (i := 5) rfl rfl
                  have t5' := (HP.out.below ((Below.refl wo.heap.size wo).alloc (Nat.le_refl _) (.cells #[.int .i64 x.off, .string ⟨x.key.toArray⟩, .string ⟨x.val.toArray⟩, .bool x.gone] 41))).cell (k := 1) (i := 5) rfl rfl
                  obtain ⟨i0, hi, hz0, hz1, hz2⟩ := infoRec
                  have hkm0 : (0 : Int) ≤ (k : Int) := Int.natCast_nonneg _
                  have hkm : (k : Int) < (m : Int) := by omega
                  clear e hal
                  go_wp2_with fail
                  go_region_law ((refine step_append_lies _ (by rfl) _ _ _ (by rfl) (w3.heap.size + 1) 41 i0 (.agg zeroR) 4 48 Tryd.underlying22 hi hz0 hz1 hz2 rfl (by decide) (.slice sa q sc) q (acc.flatMap cells4) (by rfl) HO4.out ⟨wo.heap.size, 0, none⟩ 1 1 (cells4 x) (by rfl) (by rfl) HNEWS.out HONE.out (by decide) H63.out HBY.out HZ4.out _ rfl ?_; intro g cap w9 hown9 hgrow9 hat9 hlt9; have HP9 := Lib.hid (HP4.out.grown hgrow9 (fun k hk => (HO4.out.lt k hk).1) (two_lt (by have := HLW.out; omega) (Nat.lt_succ_self _)) (by have := HLW.out; omega)); have HO9 := Lib.hid hown9; have q5 := HP9.out.cell (k := 1) (i := 5) rfl rfl; have q6 := HP9.out.free (k := 1) (i := 5) rfl; clear hown9 hgrow9 hat9 hlt9))
                  all_goals (
                    go_wp2_with fail
                    go_roundw
                    case rel => exact ⟨k + 1, acc ++ [x], .slice (some ⟨g, 0, none⟩) (q + 1) cap, by omega, by go_num, sub_keep HSUB.out HX.out, HP9.out.put (Nat.ne_of_lt HLW.out) 5 _, own_kb (by rw [List.length_append, HQ.out, List.flatMap_append]; simpa using HO9.out) (Kb.setCell _ _) (Nat.lt_succ_self _)⟩
                    case measure => simp [intOf]; omega)
          · obtain rfl : k = m := by omega
            have hq := HQ.out
            subst hq
            have hsub := HSUB.out
            rw [List.take_of_length_le (by rw [HM.out]; exact Nat.le_refl _)] at hsub
            have hgc := Pl.good_sub hsub HGD.out
            have hrec := own_recs HO.out
            have CE := dencode ⟨b.base, b.count, b.prod, b.seq, b.time, acc⟩ (.slice sa acc.length sc) wr (HP.out.lb HLB.out) hrec (by show acc.length ≤ _; omega)
            rw [show Pl.goodB ⟨b.base, b.count, b.prod, b.seq, b.time, acc⟩ = true from hgc, if_pos rfl] at CE
            obtain ⟨S, hS⟩ : ∃ S : ByteArray, (⟨(Pl.enc ⟨b.base, b.count, b.prod, b.seq, b.time, acc⟩).toArray⟩ : ByteArray) = S := ⟨_, rfl⟩
            rw [hS] at CE
            have hss := (Pl.enc_short hgc).1
            have hs8 := (Pl.enc_short hgc).2.2
            simp only at hss hs8
            have hsz : S.size = (Pl.enc ⟨b.base, b.count, b.prod, b.seq, b.time, acc⟩).length := by rw [← hS, size_list]
            have hsl : S.size < 16384 := by rw [hsz]; omega
            have HDE : Hid (decB S.data.toList = some ⟨b.base, b.count, b.prod, b.seq, b.time, acc⟩) := by
              show _ = _
              rw [← hS]
              exact dec_enc hgc
            have HCE := Lib.hid CE
            have HREC := Lib.hid hrec
            have HGC := Lib.hid hgc
            clear hsub hgc hrec CE hS hss hsz hs8
            have b5 := HP.out.cell (k := 0) (i := 5) rfl rfl
            have c0 := HP.out.cell (k := 1) (i := 0) rfl rfl
            have c1 := HP.out.cell (k := 1) (i := 1) rfl rfl
            have c2 := HP.out.cell (k := 1) (i := 2) rfl rfl
            have c3 := HP.out.cell (k := 1) (i := 3) rfl rfl
            have c4 := HP.out.cell (k := 1) (i := 4) rfl rfl
            have c5 := HP.out.cell (k := 1) (i := 5) rfl rfl
            go_wp2_with fail
            refine HCE.out.mono ?_
            rintro e w4 ⟨rfl, b4⟩
            have H4 := Lib.hid (HP.out.below b4)
            have HR4 := Lib.hid (HREC.out.below b4)
            clear b4 HCE HREC b5 c0 c1 c2 c3 c4 c5
            have CD := ddecode S w4 (H4.out.lb HLB.out) (by omega)
            rw [HDE.out] at CD
            have HCD : Hid (Calls Tryd.prog 21 #[.string S] w4 fun e w' => Below w4.heap.size w4 w' ∧ ∃ x1 p1, Recs (.slice x1 acc.length p1) acc w' ∧ e = .returned (.tuple #[.agg #[.int .i64 b.base, .int .i64 b.count, .int .i64 b.prod, .int .i64 b.seq, .int .i64 b.time, .slice x1 acc.length p1], .int .i64 0])) := CD.mono fun e w' h => ⟨h.1, by
              obtain ⟨-, v, hv, he⟩ := h
              have hv' := hv
              obtain ⟨x1, p1, rfl, -⟩ := hv'
              exact ⟨x1, p1, hv, he⟩⟩
            clear CD HDE
            go_wp2_with fail
            refine HCD.out.mono ?_
            rintro e w5 ⟨b5', x1, p1, hr1, rfl⟩
            have hal := (Below.refl w5.heap.size w5).alloc (Nat.le_refl _) (.cells #[.int .i64 b.base, .int .i64 b.count, .int .i64 b.prod, .int .i64 b.seq, .int .i64 b.time, .slice x1 acc.length p1] 24)
            have h5 := (H4.out.below b5').more #[.int .i64 b.base, .int .i64 b.count, .int .i64 b.prod, .int .i64 b.seq, .int .i64 b.time, .slice x1 acc.length p1]
            have H5 := Lib.hid h5
            have HR5 := Lib.hid ((HR4.out.below b5').below hal)
            have HRD := Lib.hid (hr1.below hal)
            clear b5' HCD H4 HR4 hal h5 hr1
            have c0 := H5.out.cell (k := 1) (i := 0) rfl rfl
            have c1 := H5.out.cell (k := 1) (i := 1) rfl rfl
            have c2 := H5.out.cell (k := 1) (i := 2) rfl rfl
            have c3 := H5.out.cell (k := 1) (i := 3) rfl rfl
            have c4 := H5.out.cell (k := 1) (i := 4) rfl rfl
            have c5 := H5.out.cell (k := 1) (i := 5) rfl rfl
            have CG := dgood b.base b.count b.prod b.seq b.time acc (.slice sa acc.length sc) _ (H5.out.lb HLB.out) HR5.out (by omega)
            rw [show Pl.goodB ⟨b.base, b.count, b.prod, b.seq, b.time, acc⟩ = true from HGC.out] at CG
            have HCG := Lib.hid CG
            clear CG
            go_wp2_with fail
            refine HCG.out.mono ?_
            rintro e w6 ⟨rfl, b6⟩
            have H6 := Lib.hid (H5.out.below b6)
            have HR6 := Lib.hid (HR5.out.below b6)
            have HRE := Lib.hid (HRD.out.below b6)
            clear b6 HCG H5 HR5 HRD c0 c1 c2 c3 c4 c5
            have c0 := H6.out.cell (k := 1) (i := 0) rfl rfl
            have c1 := H6.out.cell (k := 1) (i := 1) rfl rfl
            have c2 := H6.out.cell (k := 1) (i := 2) rfl rfl
            have c3 := H6.out.cell (k := 1) (i := 3) rfl rfl
            have c4 := H6.out.cell (k := 1) (i := 4) rfl rfl
            have c5 := H6.out.cell (k := 1) (i := 5) rfl rfl
            have d0 := H6.out.cell (k := 2) (i := 0) rfl rfl
            have d1 := H6.out.cell (k := 2) (i := 1) rfl rfl
            have d2 := H6.out.cell (k := 2) (i := 2) rfl rfl
            have d3 := H6.out.cell (k := 2) (i := 3) rfl rfl
            have d4 := H6.out.cell (k := 2) (i := 4) rfl rfl
            have d5 := H6.out.cell (k := 2) (i := 5) rfl rfl
            have CS := dsame ⟨b.base, b.count, b.prod, b.seq, b.time, acc⟩ ⟨b.base, b.count, b.prod, b.seq, b.time, acc⟩ (.slice sa acc.length sc) (.slice x1 acc.length p1) w6 HR6.out HRE.out (by show acc.length ≤ _; omega) (by show acc.length ≤ _; omega)
            rw [Pl.sameB_iff.2 rfl] at CS
            have HCS := Lib.hid CS
            clear CS
            go_wp2_with fail
            refine HCS.out.mono ?_
            rintro e w7 ⟨rfl, b7⟩
            have H7 := Lib.hid (H6.out.below b7)
            clear b7 HCS H6 c0 c1 c2 c3 c4 c5 d0 d1 d2 d3 d4 d5
            have b1 := H7.out.cell (k := 0) (i := 1) rfl rfl
            have d1 := H7.out.cell (k := 2) (i := 1) rfl rfl
            have n1 : (b.count == b.count) = true := by simp
            go_wp2_with fail
            go_ret
            exact ⟨rfl, H7.out.low⟩
end Go.Proofs.YthhlegfmikidpaaDoor
