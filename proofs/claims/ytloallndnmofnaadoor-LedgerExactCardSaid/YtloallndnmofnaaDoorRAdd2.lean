/- .. the ways on which the batch is taken. -/
import Derived.Test.YtloallndnmofnaaDoorRAdd
import Derived.Test.YtloallndnmofnaaDoorOuts
namespace Go.Proofs.YtloallndnmofnaaDoor
open Go.RowKit

set_option maxHeartbeats 4000000 in
set_option maxRecDepth 100000 in
theorem radd_known (P : Nat → Prop) (tv : Value) (T : Ld.Tb) (base count prod seq time : Int) (ls : List Pl.Rc) (v : Value) (w : World) (h : TabAt P tv T w) (hG : Ld.goodB T = true) (hr : Recs v ls w) (hl : ls.length ≤ 1099511627776) (hc6 : Pl.I64 count) (hb6 : Pl.I64 base) (hgd : Pl.goodB ⟨base, count, prod, seq, time, ls⟩ = true) (s0 s1 s2 : Int) (hck : Ld.check T prod seq = (⟨s0, s1, s2⟩, 0)) (i : Nat) (L : List Ld.Sl) (ha : Ld.at_ T prod = some i) (hL : T[i]? = some (prod, L)) (hlow : ∀ l, L.getLast? = some l → ¬ base < l.fin) :
    Calls Tryd.prog 13 #[tv, .agg #[.int .i64 base, .int .i64 count, .int .i64 prod, .int .i64 seq, .int .i64 time, v]] w (RAdded w T true prod seq base count) := by
  have hw0 : RowKit.Below w.heap.size w (w.alloc (.cells #[.int .i64 base, .int .i64 count, .int .i64 prod, .int .i64 seq, .int .i64 time, v] 34)) := (Below.refl _ _).alloc (Nat.le_refl _) _
  have hb0 := Blk.new w #[.int .i64 base, .int .i64 count, .int .i64 prod, .int .i64 seq, .int .i64 time, v] 34
  have hg := rgood base count prod seq time ls v _ (hr.below hw0) hl hc6 hb6
  rw [hgd] at hg
  obtain ⟨⟨gb0, gb1⟩, ⟨gc0, gc1, gc2⟩, -, -⟩ := good_nums hgd
  have HG := Lib.hid hg
  have HW0 := Lib.hid hw0
  obtain ⟨W0, hW0⟩ : ∃ W, w.alloc (.cells #[.int .i64 base, .int .i64 count, .int .i64 prod, .int .i64 seq, .int .i64 time, v] 34) = W := ⟨_, rfl⟩
  rw [hW0] at HG HW0 hb0
  have HBX : Hid (∀ w1, RowKit.Below W0.heap.size W0 w1 → Blk w1 w.heap.size #[.int .i64 base, .int .i64 count, .int .i64 prod, .int .i64 seq, .int .i64 time, v] 34) := fun w1 hb => hb0.below hb
  have HLO : Hid (∀ w1, RowKit.Below W0.heap.size W0 w1 → RowKit.Below w.heap.size w w1) := fun w1 hb => HW0.out.trans (hb.mono HW0.out.size)
  have HTA : Hid (∀ w1, RowKit.Below w.heap.size w w1 → TabAt P tv T w1) := fun w1 hb => h.below hb
  have y0 := hb0.cell (i := 0) rfl
  have y1 := hb0.cell (i := 1) rfl
  have y2 := hb0.cell (i := 2) rfl
  have y3 := hb0.cell (i := 3) rfl
  have y4 := hb0.cell (i := 4) rfl
  have y5 := hb0.cell (i := 5) rfl
  have HCHK : Hid (∀ w1, RowKit.Below W0.heap.size W0 w1 → Calls Tryd.prog 16 #[tv, .int .i64 prod, .int .i64 seq] w1 fun e w' => e = .returned (.tuple #[.agg #[.int .i64 s0, .int .i64 s1, .int .i64 s2], .int .i64 0]) ∧ RowKit.Below w1.heap.size w1 w') := by
    intro w1 hb
    have := check_any P tv T prod seq w1 (HTA.out w1 (HLO.out w1 hb)) hG
    rw [hck] at this
    exact this
  have HCOPY : Hid (∀ w1, RowKit.Below W0.heap.size W0 w1 → Calls Tryd.prog 12 #[tv] w1 (Clond w1 T)) := fun w1 hb => rcopy tv T w1 ((HTA.out w1 (HLO.out w1 hb)).mono fun _ _ _ => trivial) hG
  have HLEN : Hid (T.length ≤ 1099511627776) := by have := (Ld.good_iff.1 hG).1; show _ ≤ _; omega
  have h5 := Ld.rowOk_iff.1 ((Ld.good_iff.1 hG).2.1 _ (List.mem_of_getElem? hL))
  obtain ⟨k, hk⟩ : ∃ k, L.length = k + 1 := ⟨L.length - 1, by have := h5.2.1; simp at this; omega⟩
  have hk4 : k ≤ 4 := by have := h5.2.2.1; simp only at this; omega
  obtain ⟨l, hl1⟩ : ∃ l, L[k]? = some l := ⟨_, List.getElem?_eq_getElem (by omega)⟩
  have hlast : L.getLast? = some l := by rw [List.getLast?_eq_getElem?, hk]; exact hl1
  have hlo := hlow _ hlast
  obtain ⟨l0, l1, l2⟩ := l
  simp only at hlo
  have hil := (List.getElem?_eq_some_iff.1 hL).1
  have h64 := (Ld.good_iff.1 hG).1
  have hset : Ld.addT T prod seq base count = T.set i (prod, Ld.last5 (L ++ [⟨seq, base, base + count⟩])) := by
    unfold Ld.addT Ld.put
    rw [ha, Ld.slots_some ha hL]
  have HFIN : Hid (∀ w' v', RowKit.Below W0.heap.size W0 w' → TabAt (fun q => w.heap.size ≤ q) v' (T.set i (prod, Ld.last5 (L ++ [⟨seq, base, base + count⟩]))) w' → RAdded w T true prod seq base count (.returned (.tuple #[v', .int .i64 0])) w') := by
    intro w' v' hb ht
    have h0 : Ld.addR true T prod seq base = 0 := by
      unfold Ld.addR
      rw [if_pos rfl, addE_known hck ha hL hlast, if_neg hlo]
    exact ⟨v', by rw [h0], fun _ => by rw [hset]; exact ht, HLO.out w' hb⟩
  obtain ⟨i0, hi0, hz0, hz1, hz2⟩ := infoSlot
  have HA := Lib.hid ha
  have HL1 := Lib.hid hL
  have HL2 := Lib.hid hl1
  have HK := Lib.hid hk
  obtain ⟨M, hM⟩ : ∃ M, T.length = M := ⟨_, rfl⟩
  have HMM := Lib.hid hM
  rw [hM] at hil h64
  clear hg hw0 hb0 h hr hck hgd hG hc6 hb6 ha hL hl1 hlast hlow h5 hk hM hset
  go_enter Tryd.func13, Tryd.ntmps13
  go_wp2_with fail
  refine HG.out.mono ?_
  rintro e w1 ⟨rfl, hb1⟩
  clear y0 y1 y2 y3 y4 y5
  have q2 := (HBX.out w1 hb1).cell (i := 2) rfl
  have q3 := (HBX.out w1 hb1).cell (i := 3) rfl
  have HC1 := Lib.hid (HCHK.out w1 hb1)
  have HB1 := Lib.hid hb1
  clear hb1
  go_wp2_with fail
  refine HC1.out.mono ?_
  rintro e w2 ⟨rfl, hb2⟩
  have hb3 : RowKit.Below w2.heap.size w2 (w2.alloc (.cells #[.int .i64 s0, .int .i64 s1, .int .i64 s2] 41)) := (Below.refl _ _).alloc (Nat.le_refl _) _
  obtain ⟨w3, hw3⟩ : ∃ W, w2.alloc (.cells #[.int .i64 s0, .int .i64 s1, .int .i64 s2] 41) = W := ⟨_, rfl⟩
  rw [hw3] at hb3
  have hb13 := HB1.out.trans ((hb2.trans (hb3.mono hb2.size)).mono HB1.out.size)
  have HB3 := Lib.hid hb13
  have q0 := (HBX.out w3 hb13).cell (i := 0) rfl
  have q1 := (HBX.out w3 hb13).cell (i := 1) rfl
  have q2 := (HBX.out w3 hb13).cell (i := 2) rfl
  have q3 := (HBX.out w3 hb13).cell (i := 3) rfl
  clear hb2 hb3 hb13 HC1 HB1
  have HCP := Lib.hid (HCOPY.out w3 HB3.out)
  clear q0 q1 q2 q3
  go_wp2_with fail
  refine HCP.out.mono ?_
  rintro e w4 ⟨tv', tb, E, rfl, hown, hE, hft, hb4⟩
  have hb5 : RowKit.Below w4.heap.size w4 (w4.alloc (.cells #[.int .i64 seq, .int .i64 base, .int .i64 (base + count)] 41)) := (Below.refl _ _).alloc (Nat.le_refl _) _
  have hx5 := Blk.new w4 #[.int .i64 seq, .int .i64 base, .int .i64 (base + count)] 41
  have q0 := (HBX.out _ (HB3.out.trans (hb4.mono HB3.out.size))).cell (i := 0) rfl
  have q1 := (HBX.out _ (HB3.out.trans (hb4.mono HB3.out.size))).cell (i := 1) rfl
  have q2 := (HBX.out _ (HB3.out.trans (hb4.mono HB3.out.size))).cell (i := 2) rfl
  have q3 := (HBX.out _ (HB3.out.trans (hb4.mono HB3.out.size))).cell (i := 3) rfl
  have HB5 := Lib.hid (HB3.out.trans ((hb4.trans (hb5.mono hb4.size)).mono HB3.out.size))
  have hown5 := hown.below hb5
  have htab := hown5.tab (fun _ => True) (fun _ _ => trivial)
  rw [hE] at htab
  have HAT := Lib.hid (at_any _ tv' T prod _ htab HLEN.out)
  have HOW := Lib.hid hown5
  have HE := Lib.hid hE
  have hft5 : ∀ k, foot tb E k → w3.heap.size ≤ k ∧ k < w4.heap.size := fun k hk => ⟨hft k hk, hown.lt hk⟩
  have HFT := Lib.hid hft5
  have HX5 := Lib.hid hx5
  have HSZ := Lib.hid (show w3.heap.size ≤ w4.heap.size from hb4.size)
  obtain ⟨ao, cap, hv, -, hpos, -⟩ := hown5.row.make
  have hEl : E.length = T.length := by rw [← hE, tab_len]
  rw [hEl] at hv hpos
  have HV := Lib.hid hpos
  subst hv
  clear hown hown5 hE hft hft5 hb4 hb5 hx5 htab hpos HCP
  obtain ⟨w5, hw5⟩ : ∃ W, w4.alloc (.cells #[.int .i64 seq, .int .i64 base, .int .i64 (base + count)] 41) = W := ⟨_, rfl⟩
  rw [hw5] at HB5 HAT HOW HX5
  have r2 := (HBX.out _ HB5.out).cell (i := 2) rfl
  go_wp2_with fail
  refine HAT.out.mono ?_
  rintro e w' ⟨rfl, rfl⟩
  rw [HMM.out] at *
  rw [HA.out]
  simp only [atV]
  have hown := HOW.out
  obtain ⟨e, hEi, hee⟩ := tab_at (E := E) (j := i) (x := (prod, L)) (by rw [HE.out]; exact HL1.out)
  have hLe : e.L = L := by cases hee; rfl
  have hpe : e.prod = prod := by cases hee; rfl
  have hsl := hown.ok e (List.mem_of_getElem? hEi)
  unfold En.ok at hsl
  rw [hLe, HK.out] at hsl
  obtain ⟨g, p, hao, htb⟩ := HV.out (by omega)
  subst hao
  subst htb
  obtain ⟨ao2, cap2, hv2, hcap2, hpos2, -⟩ := Sl.make hsl
  obtain ⟨b2, off2, rfl, hgb2⟩ := hpos2 (by omega)
  have key : ∀ q u, q < 3 → (three ⟨l0, l1, l2⟩)[q]? = some u → w5.cell? ⟨b2, off2 + (k * 3 + q), none⟩ = some u := fun q u hq hu => Sl.cell hsl (j := k * 3 + q) (u := u) hv2 (by rw [flat_at three_len HL2.out q hq]; exact hu)
  have d2 := key 2 _ (by decide) rfl
  rw [← Nat.add_assoc] at d2
  have c1 := hown.row.cell (g := g) (p := p) rfl (i * 2 + 1) e.v (by rw [flat_at encells_len hEi 1 (by decide)]; rfl)
  rw [hv2, ← Nat.add_assoc] at c1
  have f1 := hown.row.frozen (g := g) (p := p) rfl (p + (i * 2 + 1))
  rw [← Nat.add_assoc] at f1
  have r0 := (HBX.out _ HB5.out).cell (i := 0) rfl
  clear q0
  have hdlo : decide (base < l2) = false := decide_eq_false (by omega)
  have HSTEP : Hid (∀ w6 w9 g1 p1 cap1 gb', RowKit.Below w5.heap.size w5 w6 → (w6.alloc (.cells #[.int .i64 seq, .int .i64 base, .int .i64 (base + count)] 41)).grownBy w9 e.gb → Sl w9 (.slice (some ⟨g1, p1, none⟩) (k + 1 + 1) cap1) gb' 41 3 (k + 1 + 1) (L.flatMap three ++ three ⟨seq, base, base + count⟩) → gb' = some g1 → (gb' = e.gb ∨ w6.heap.size + 1 ≤ g1) →
      w9.cell? ⟨g, p + i * 2 + 1, none⟩ = some (.slice (some ⟨b2, off2, none⟩) (k + 1) cap2) ∧ w9.frozen? ⟨g, p + i * 2 + 1, none⟩ = false ∧
      RAdded w T true prod seq base count (.returned (.tuple #[.slice (some ⟨g, p, none⟩) M cap, .int .i64 0])) (w9.setCell ⟨g, p + i * 2 + 1, none⟩ (endV g1 p1 (k + 1) cap1))) := by
    intro w6 w9 g1 p1 cap1 gb' hb6 hgr hs hgb hnew
    have hq := Own.snoc (k := k + 1) (x := ⟨seq, base, base + count⟩) hown hEi (by rw [hLe]; exact HK.out) (Nat.succ_le_succ hk4) hb6 hgr (by rw [hLe]; exact hs) hgb hnew c1 f1 W0.heap.size (fun q hq => Nat.le_trans HB3.out.size (HFT.out q hq).1) HB5.out.size
    rw [HE.out, hpe, hLe] at hq
    exact ⟨hq.1, hq.2.1, HFIN.out _ _ (HB5.out.trans hq.2.2.2) (hq.2.2.1.mono fun _ h _ => Nat.le_trans HW0.out.size h)⟩
  rw [hv2] at hsl
  have HSL5 := Lib.hid hsl
  have HGB : Hid (e.gb = some b2) := hgb2
  clear hown hEi hee hLe hpe hsl hv2 hpos2 hgb2 key q1 q2 q3 r2 hw5
  have HC1 := Lib.hid c1
  have HF1 := Lib.hid f1
  go_wp2_with fail
  go_quiet (fail)
  generalize hw6 : World.drewN w5 _ = w6
  have hb6 : RowKit.Below w5.heap.size w5 w6 := by rw [← hw6]; exact below_drewN _ _
  have HX6 := HX5.out.below hb6
  have x0 := HX6.cell (i := 0) rfl
  have x1 := HX6.cell (i := 1) rfl
  have x2 := HX6.cell (i := 2) rfl
  have hal : RowKit.Below w6.heap.size w6 (w6.alloc (.cells #[.int .i64 seq, .int .i64 base, .int .i64 (base + count)] 41)) := (Below.refl _ _).alloc (Nat.le_refl _) _
  have HSL7 := Lib.hid (HSL5.out.below (hb6.trans (hal.mono hb6.size)))
  have HNEWS : Hid (∀ j u, (three ⟨seq, base, base + count⟩)[j]? = some u → World.cell? (w6.alloc (.cells #[.int .i64 seq, .int .i64 base, .int .i64 (base + count)] 41)) (Addr.add ⟨w6.heap.size, 0, none⟩ j) = some u) := World.news_of_block (cs := #[.int .i64 seq, .int .i64 base, .int .i64 (base + count)]) (t := 41) (fr := (0, 0)) (heap_alloc_new w6 _)
  have HONE : Hid (∀ u ∈ three ⟨seq, base, base + count⟩, u.oneCell' = true) := one_three1 _
  have HBY : Hid ((k + 1 + 1) * 24 ≤ 140737488355328) := by show _ ≤ _; omega
  have H63 : Hid (k + 1 + 1 ≤ 9223372036854775807) := by show _ ≤ _; omega
  have HB6 := Lib.hid hb6
  clear hb6 hal hw6 c1 f1 d2 r0
  go_wp2_with (at_builtin; refine wpList_append_sl _ (by rfl) _ _ _ (by rfl) 41 i0 (.agg #[.int .i64 0, .int .i64 0, .int .i64 0]) 3 24 Tryd.underlying61 hi0 hz0 hz1 hz2 rfl (.slice (some ⟨b2, off2, none⟩) (k + 1) cap2) e.gb (k + 1) (L.flatMap three) (by rfl) HSL7.out ⟨w6.heap.size, 0, none⟩ 1 1 (three ⟨seq, base, base + count⟩) (by rfl) (by rfl) HNEWS.out HONE.out (by decide) HBY.out H63.out ?_)
  intro g1 p1 cap1 w9 gb' hown9 hgrow hgb hnew
  have hcap1 := sl_cap hown9
  obtain ⟨c9, f9, hfin⟩ := HSTEP.out w6 w9 g1 p1 cap1 gb' HB6.out hgrow hown9 hgb hnew
  have HFI := Lib.hid hfin
  clear hfin hgrow hgb hnew hown9
  by_cases hk5 : k = 4
  · subst hk5
    go_wp2_with fail
    go_ret2
    exact HFI.out
  · have hk6 : ¬ (5 < (k : Int) + 1 + 1) := by omega
    have hE : endV g1 p1 (k + 1) cap1 = .slice (some ⟨g1, p1, none⟩) (k + 1 + 1) cap1 := by
      unfold endV endD
      rw [if_neg (by omega)]
      simp
    rw [hE] at HFI
    clear hE
    go_wp2_with fail
    go_ret2
    exact HFI.out
end Go.Proofs.YtloallndnmofnaaDoor
