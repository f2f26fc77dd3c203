/- .. a new producer's first batch; Add, whatever comes. -/
import Derived.Test.YtloallndnmofnaaDoorRAdd2
namespace Go.Proofs.YtloallndnmofnaaDoor
open Go.RowKit

theorem slots_one {w : World} {g : Nat} {s0 s1 s2 : Int} {P : Nat → Prop} (hb : Blk w g #[.int .i64 s0, .int .i64 s1, .int .i64 s2] 41) (h : P g := by first | exact Or.inr (Nat.le_refl _)) : SlotsAt P (.slice (some ⟨g, 0, none⟩) 1 1) [⟨s0, s1, s2⟩] w :=
  ⟨_, _, rfl, fun k s hk => by
    match k, hk with
    | 0, hk =>
      obtain rfl := Option.some.inj hk
      exact ⟨_, _, rfl, h, hb.cell (i := 0) rfl, hb.cell (i := 1) rfl, hb.cell (i := 2) rfl⟩
    | k + 1, hk => simp at hk⟩
set_option maxHeartbeats 4000000 in
set_option maxRecDepth 100000 in
theorem radd_new (P : Nat → Prop) (tv : Value) (T : Ld.Tb) (base count prod seq time : Int) (ls : List Pl.Rc) (v : Value) (w : World) (h : TabAt P tv T w) (hG : Ld.goodB T = true) (hr : Recs v ls w) (hl : ls.length ≤ 1099511627776) (hc6 : Pl.I64 count) (hb6 : Pl.I64 base) (hgd : Pl.goodB ⟨base, count, prod, seq, time, ls⟩ = true) (s0 s1 s2 : Int) (hck : Ld.check T prod seq = (⟨s0, s1, s2⟩, 0)) (ha : Ld.at_ T prod = none) (hfull : T.length < 64) :
    Calls Tryd.prog 13 #[tv, .agg #[.int .i64 base, .int .i64 count, .int .i64 prod, .int .i64 seq, .int .i64 time, v]] w (RAdded w T true prod seq base count) := by
  have hw0 : RowKit.Below w.heap.size w (w.alloc (.cells #[.int .i64 base, .int .i64 count, .int .i64 prod, .int .i64 seq, .int .i64 time, v] 34)) := (Below.refl _ _).alloc (Nat.le_refl _) _
  have hb0 := Blk.new w #[.int .i64 base, .int .i64 count, .int .i64 prod, .int .i64 seq, .int .i64 time, v] 34
  have hg := rgood base count prod seq time ls v _ (hr.below hw0) hl hc6 hb6
  rw [hgd] at hg
  obtain ⟨⟨gb0, gb1⟩, ⟨gc0, gc1, gc2⟩, -, -⟩ := good_nums hgd
  have HG := Lib.hid hg
  have HW0 := Lib.hid hw0
  obtain ⟨W0, hW0⟩ : ∃ W, w.alloc (.cells #[.int .i64 base, .int .i64 count, .int .i64 prod, .int .i64 seq, .int .i64 time, v] 34) = W := ⟨_, rfl⟩
  rw [hW0] at HG HW0 hb0
  have HBX : Hid (∀ w1, RowKit.Below W0.heap.size W0 w1 → Blk w1 w.heap.size #[.int .i64 base, .int .i64 count, .int .i64 prod, .int .i64 seq, .int .i64 time, v] 34) := fun w1 hb => hb0.below hb
  have HLO : Hid (∀ w1, RowKit.Below W0.heap.size W0 w1 → RowKit.Below w.heap.size w w1) := fun w1 hb => HW0.out.trans (hb.mono HW0.out.size)
  have HTA : Hid (∀ w1, RowKit.Below w.heap.size w w1 → TabAt P tv T w1) := fun w1 hb => h.below hb
  have y0 := hb0.cell (i := 0) rfl
  have y1 := hb0.cell (i := 1) rfl
  have y2 := hb0.cell (i := 2) rfl
  have y3 := hb0.cell (i := 3) rfl
  have y4 := hb0.cell (i := 4) rfl
  have y5 := hb0.cell (i := 5) rfl
  have HCHK : Hid (∀ w1, RowKit.Below W0.heap.size W0 w1 → Calls Tryd.prog 16 #[tv, .int .i64 prod, .int .i64 seq] w1 fun e w' => e = .returned (.tuple #[.agg #[.int .i64 s0, .int .i64 s1, .int .i64 s2], .int .i64 0]) ∧ RowKit.Below w1.heap.size w1 w') := by
    intro w1 hb
    have := check_any P tv T prod seq w1 (HTA.out w1 (HLO.out w1 hb)) hG
    rw [hck] at this
    exact this
  have HCOPY : Hid (∀ w1, RowKit.Below W0.heap.size W0 w1 → Calls Tryd.prog 12 #[tv] w1 (Clond w1 T)) := fun w1 hb => rcopy tv T w1 ((HTA.out w1 (HLO.out w1 hb)).mono fun _ _ _ => trivial) hG
  have HLEN : Hid (T.length ≤ 1099511627776) := by have := (Ld.good_iff.1 hG).1; show _ ≤ _; omega
  obtain ⟨pos, hpos0⟩ : ∃ pos, Ld.pos T prod = pos := ⟨_, rfl⟩
  obtain ⟨T', hT'⟩ : ∃ T', insT T prod [⟨seq, base, base + count⟩] = T' := ⟨_, rfl⟩
  have hset : Ld.addT T prod seq base count = T' := by
    unfold Ld.addT Ld.put
    rw [ha, Ld.slots_none ha, ← hT']
    rfl
  have HFIN : Hid (∀ w' v', RowKit.Below W0.heap.size W0 w' → TabAt (fun q => w.heap.size ≤ q) v' T' w' → RAdded w T true prod seq base count (.returned (.tuple #[v', .int .i64 0])) w') := by
    intro w' v' hb ht
    have h0 : Ld.addR true T prod seq base = 0 := by
      unfold Ld.addR
      rw [if_pos rfl, addE_full hck ha, if_neg (by omega)]
    exact ⟨v', by rw [h0], fun _ => by rw [hset]; exact ht, HLO.out w' hb⟩
  obtain ⟨i1, hi1, hy0, hy1, hy2⟩ := infoSeen
  have HA := Lib.hid ha
  obtain ⟨M, hM⟩ : ∃ M, T.length = M := ⟨_, rfl⟩
  have HMM := Lib.hid hM
  rw [hM] at hfull
  have HPM : Hid (pos ≤ M) := by show _ ≤ _; rw [← hM, ← hpos0]; exact Ld.pos_le
  have HLE' : Hid (T'.length = M + 1) := by show _ = _; rw [← hT', insT_len, hM]
  have HAT' : Hid (T'[pos]? = some (prod, [⟨seq, base, base + count⟩])) := by show _ = _; rw [← hT', ← hpos0]; exact insT_at _ _ _
  have HLO' : Hid (∀ k, k < pos → T'[k]? = T[k]?) := fun k hk => by rw [← hT']; rw [← hpos0] at hk; exact insT_lo hk
  have HHI' : Hid (∀ k, pos ≤ k → T'[k + 1]? = T[k]?) := fun k hk => by rw [← hT']; rw [← hpos0] at hk; exact insT_hi hk
  have HBE : Hid (∀ k x, k < pos → T[k]? = some x → x.1 < prod) := fun k x hk hx => by rw [← hpos0] at hk; exact Ld.pos_before hk hx
  have HAE : Hid (∀ x, T[pos]? = some x → prod < x.1) := fun x hx => by
    rw [← hpos0] at hx
    have h1 := Ld.pos_at hx
    have h2 := Ld.at_none.1 ha x (List.mem_of_getElem? hx)
    omega
  clear hg hw0 hb0 h hr hck hgd hG hc6 hb6 ha hM hset hT' hpos0
  go_enter Tryd.func13, Tryd.ntmps13
  go_wp2_with fail
  refine HG.out.mono ?_
  rintro e w1 ⟨rfl, hb1⟩
  clear y0 y1 y2 y3 y4 y5
  have q2 := (HBX.out w1 hb1).cell (i := 2) rfl
  have q3 := (HBX.out w1 hb1).cell (i := 3) rfl
  have HC1 := Lib.hid (HCHK.out w1 hb1)
  have HB1 := Lib.hid hb1
  clear hb1
  go_wp2_with fail
  refine HC1.out.mono ?_
  rintro e w2 ⟨rfl, hb2⟩
  have hb3 : RowKit.Below w2.heap.size w2 (w2.alloc (.cells #[.int .i64 s0, .int .i64 s1, .int .i64 s2] 41)) := (Below.refl _ _).alloc (Nat.le_refl _) _
  obtain ⟨w3, hw3⟩ : ∃ W, w2.alloc (.cells #[.int .i64 s0, .int .i64 s1, .int .i64 s2] 41) = W := ⟨_, rfl⟩
  rw [hw3] at hb3
  have hb13 := HB1.out.trans ((hb2.trans (hb3.mono hb2.size)).mono HB1.out.size)
  have HB3 := Lib.hid hb13
  have q0 := (HBX.out w3 hb13).cell (i := 0) rfl
  have q1 := (HBX.out w3 hb13).cell (i := 1) rfl
  have q2 := (HBX.out w3 hb13).cell (i := 2) rfl
  have q3 := (HBX.out w3 hb13).cell (i := 3) rfl
  clear hb2 hb3 hb13 HC1 HB1
  have HCP := Lib.hid (HCOPY.out w3 HB3.out)
  clear q0 q1 q2 q3
  go_wp2_with fail
  refine HCP.out.mono ?_
  rintro e w4 ⟨tv', tb, E, rfl, hown, hE, hft, hb4⟩
  have hb5 : RowKit.Below w4.heap.size w4 (w4.alloc (.cells #[.int .i64 seq, .int .i64 base, .int .i64 (base + count)] 41)) := (Below.refl _ _).alloc (Nat.le_refl _) _
  have hx5 := Blk.new w4 #[.int .i64 seq, .int .i64 base, .int .i64 (base + count)] 41
  have q0 := (HBX.out _ (HB3.out.trans (hb4.mono HB3.out.size))).cell (i := 0) rfl
  have q1 := (HBX.out _ (HB3.out.trans (hb4.mono HB3.out.size))).cell (i := 1) rfl
  have q2 := (HBX.out _ (HB3.out.trans (hb4.mono HB3.out.size))).cell (i := 2) rfl
  have q3 := (HBX.out _ (HB3.out.trans (hb4.mono HB3.out.size))).cell (i := 3) rfl
  have HB5 := Lib.hid (HB3.out.trans ((hb4.trans (hb5.mono hb4.size)).mono HB3.out.size))
  have hown5 := hown.below hb5
  have htab := hown5.tab (fun _ => True) (fun _ _ => trivial)
  rw [hE] at htab
  have HAT := Lib.hid (at_any _ tv' T prod _ htab HLEN.out)
  have HOW := Lib.hid hown5
  have HE := Lib.hid hE
  have hft5 : ∀ k, foot tb E k → w3.heap.size ≤ k ∧ k < w4.heap.size := fun k hk => ⟨hft k hk, hown.lt hk⟩
  have HFT := Lib.hid hft5
  have HX5 := Lib.hid hx5
  have HSZ := Lib.hid (show w3.heap.size ≤ w4.heap.size from hb4.size)
  obtain ⟨ao, cap, hv, -, hpos, -⟩ := hown5.row.make
  have hEl : E.length = T.length := by rw [← hE, tab_len]
  rw [hEl] at hv hpos
  have HV := Lib.hid hpos
  subst hv
  clear hown hown5 hE hft hft5 hb4 hb5 hx5 htab hpos HCP
  obtain ⟨w5, hw5⟩ : ∃ W, w4.alloc (.cells #[.int .i64 seq, .int .i64 base, .int .i64 (base + count)] 41) = W := ⟨_, rfl⟩
  rw [hw5] at HB5 HAT HOW HX5
  have r2 := (HBX.out _ HB5.out).cell (i := 2) rfl
  go_wp2_with fail
  refine HAT.out.mono ?_
  rintro e w' ⟨rfl, rfl⟩
  rw [HMM.out]
  rw [HA.out]
  simp only [atV]
  have HZ5 : Hid (w.heap.size ≤ w5.heap.size) := Nat.le_trans HW0.out.size HB5.out.size
  have HOZ := Lib.hid (Outs.zero w.heap.size w5 T' HZ5.out)
  have HXC : Hid (∀ w', RowKit.Below w5.heap.size w5 w' → w'.cell? ⟨w4.heap.size, 0, none⟩ = some (.int .i64 seq) ∧ w'.cell? ⟨w4.heap.size, 1, none⟩ = some (.int .i64 base) ∧ w'.cell? ⟨w4.heap.size, 2, none⟩ = some (.int .i64 (base + count))) := fun w' hb => ⟨(HX5.out.below hb).cell (i := 0) rfl, (HX5.out.below hb).cell (i := 1) rfl, (HX5.out.below hb).cell (i := 2) rfl⟩
  have HPC : Hid (∀ w', RowKit.Below w5.heap.size w5 w' → w'.cell? ⟨w.heap.size, 2, none⟩ = some (.int .i64 prod)) := fun w' hb => (HBX.out _ (HB5.out.trans (hb.mono HB5.out.size))).cell (i := 2) rfl
  have HTK : Hid (∀ k x, T[k]? = some x → ∃ g p sv, ao = some ⟨g, p, none⟩ ∧ (∀ w', RowKit.Below w5.heap.size w5 w' → w'.cell? ⟨g, p + k * 2, none⟩ = some (.int .i64 x.1) ∧ w'.cell? ⟨g, p + k * 2 + 1, none⟩ = some sv ∧ SlotsAt (fun q => w.heap.size ≤ q ∧ q < w5.heap.size) sv x.2 w')) := by
    intro k x hx
    obtain ⟨e, hEk, hee⟩ := tab_at (E := E) (j := k) (x := x) (by rw [HE.out]; exact hx)
    obtain ⟨a, cp, hv, hc⟩ := HOW.out.tab (fun q => w.heap.size ≤ q ∧ q < w5.heap.size) (fun q hq => ⟨Nat.le_trans HW0.out.size (Nat.le_trans HB3.out.size (HFT.out q hq).1), HOW.out.lt hq⟩)
    rw [HE.out] at hc
    obtain ⟨b, off, sv, ha, -, c0, c1, hsl⟩ := hc k x hx
    refine ⟨b, off, sv, ?_, fun w' hb => ⟨bcell6 hb c0, bcell6 hb c1, hsl.below hb⟩⟩
    rw [← ha]
    injection hv
  have HFN : Hid (∀ ov wr, Outs w.heap.size w5 T' (M + 1) ov wr → RAdded w T true prod seq base count (.returned (.tuple #[ov, .int .i64 0])) wr) := by
    intro ov wr ho
    rw [← HLE'.out] at ho
    obtain ⟨h1, h2⟩ := ho.fin
    exact HFIN.out _ _ (HB5.out.trans (h2.mono HB5.out.size)) h1
  clear q0 q1 q2 q3 r2 hw5
  have hfl : ¬ (64 ≤ M) := by omega
  go_wp2_with fail
  go_loopw [11, 12, 13] (fun ov dv kv wr => ∃ (k : Nat) (dn : Bool), k ≤ M ∧ kv = .int .i64 k ∧ dv = .bool dn ∧ Outs w.heap.size w5 T' (if dn then k + 1 else k) ov wr ∧ (if dn then pos < k else k ≤ pos)) (fun _ _ kv _ => M - (intOf kv).toNat)
  case atStart => exact ⟨0, false, Nat.zero_le _, rfl, rfl, HOZ.out, Nat.zero_le _⟩
  case round =>
    obtain ⟨k, dn, hk, rfl, rfl, hout, hdp⟩ := hrel
    have HOUT := Lib.hid hout
    have HDP := Lib.hid hdp
    clear hout hdp
    by_cases hlt : k < M
    · obtain ⟨⟨p, L⟩, hx⟩ : ∃ x, T[k]? = some x := ⟨_, List.getElem?_eq_getElem (by rw [HMM.out]; exact hlt)⟩
      obtain ⟨g, p0, sv, rfl, hfk⟩ := HTK.out k _ hx
      have HFK := Lib.hid hfk
      obtain ⟨sa, sc, hsv, -⟩ := (hfk w5 (Below.refl _ _)).2.2
      subst hsv
      obtain ⟨n, hn⟩ : ∃ n, L.length = n := ⟨_, rfl⟩
      have HX := Lib.hid hx
      rw [hn] at HFK
      clear hfk hx hn
      have hkk0 : (0 : Int) ≤ (k : Int) := by omega
      have hkk1 : (k : Int) < (M : Int) := by omega
      cases dn with
      | true =>
        have HO1 : Hid (Outs w.heap.size w5 T' (k + 1) u11 wr) := HOUT.out
        have HP1 : Hid (pos < k) := HDP.out
        have HXJ : Hid (T'[k + 1]? = some (p, L)) := (HHI'.out k (Nat.le_of_lt HP1.out)).trans HX.out
        clear HOUT HDP
        go_wp2_with fail
        go_quiet (fail)
        generalize hwq : World.drewN wr _ = wq
        have hbq : RowKit.Below wr.heap.size wr wq := by rw [← hwq]; exact below_drewN _ _
        have HOQ := Lib.hid (HO1.out.below hbq)
        clear hbq
        clear hwq
        obtain ⟨c0, c1, hsl⟩ := HFK.out wq HOQ.out.low
        obtain ⟨gb, xs, hs1, hn1, hf1⟩ := Outs.step HOQ.out HXJ.out (Below.refl _ _) HZ5.out (hsl.mono fun q h _ => .inl h)
        have HS1 := Lib.hid hs1
        have HN1 := Lib.hid hn1
        have HF1 := Lib.hid hf1
        have HBY1 : Hid ((k + 1 + 1) * 32 ≤ 140737488355328) := by show _ ≤ _; omega
        have H631 : Hid (k + 1 + 1 ≤ 9223372036854775807) := by show _ ≤ _; omega
        clear hsl hs1 hn1 hf1
        go_wp2_with (at_builtin; refine wpList_append_sl _ (by rfl) _ _ _ (by rfl) 63 i1 (.agg #[.int .i64 0, .slice none 0 0]) 2 32 Tryd.underlying22 hi1 hy0 hy1 hy2 rfl u11 gb (k + 1) xs (by rfl) HS1.out ⟨wq.heap.size, 0, none⟩ 1 1 [.int .i64 p, .slice sa n sc] (by rfl) (by rfl) HN1.out (by simp [Value.oneCell']) (by decide) HBY1.out H631.out ?_)
        intro g2 p2 cap2 w11 tb' hown hgrow htb hnew
        have HO2 := Lib.hid (HF1.out w11 g2 p2 cap2 tb' hown hgrow htb (hnew.imp id (fun h => by simpa using h)))
        clear hown hgrow htb hnew c0 c1 HS1 HN1 HF1 HBY1 H631
        go_wp2_with fail
        go_roundw
        case rel => exact ⟨k + 1, true, by omega, by go_num, rfl, HO2.out, Nat.lt_succ_of_lt HP1.out⟩
        case measure => simp [intOf]; omega
      | false =>
        have HO1 : Hid (Outs w.heap.size w5 T' k u11 wr) := HOUT.out
        have HP1 : Hid (k ≤ pos) := HDP.out
        clear HOUT HDP
        have hp0 := HPC.out wr HO1.out.low
        have hc0 := (HFK.out wr HO1.out.low).1
        rcases Nat.eq_or_lt_of_le HP1.out with he | hl
        · subst he
          have hpp : prod < p := HAE.out _ HX.out
          have hd1 : decide (prod < p) = true := decide_eq_true hpp
          have HXJ : Hid (T'[k + 1]? = some (p, L)) := (HHI'.out k (Nat.le_refl _)).trans HX.out
          go_wp2_with fail
          go_quiet (fail)
          clear hd1 hpp hp0 hc0
          generalize hwq : World.drewN wr _ = wq
          have hbq : RowKit.Below wr.heap.size wr wq := by rw [← hwq]; exact below_drewN _ _
          have HOQ := Lib.hid (HO1.out.below hbq)
          clear hbq
          clear hwq
          have hx0 := HXC.out wq HOQ.out.low
          have hp2 := HPC.out wq HOQ.out.low
          obtain ⟨W9, hW9⟩ : ∃ W, World.alloc wq (.cells #[.int .i64 seq, .int .i64 base, .int .i64 (base + count)] 41) = W := ⟨_, rfl⟩
          have hb9 : RowKit.Below wq.heap.size wq W9 := by rw [← hW9]; exact (Below.refl _ _).alloc (Nat.le_refl _) _
          have hk9 : Blk W9 wq.heap.size #[.int .i64 seq, .int .i64 base, .int .i64 (base + count)] 41 := by rw [← hW9]; exact Blk.new _ _ _
          obtain ⟨gb, xs, hs1, hn1, hf1⟩ := Outs.step HOQ.out HAT'.out hb9 HZ5.out (slots_one hk9)
          have HS1 := Lib.hid hs1
          have HN1 := Lib.hid hn1
          have HF1 := Lib.hid hf1
          have HBY1 : Hid ((k + 1) * 32 ≤ 140737488355328) := by show _ ≤ _; omega
          have H631 : Hid (k + 1 ≤ 9223372036854775807) := by show _ ≤ _; omega
          obtain ⟨x0, x1, x2⟩ := hx0
          clear hs1 hn1 hf1 hb9 hk9
          go_wp2_with (at_builtin; refine wpList_append_sl _ (by rfl) _ _ _ (by rfl) 63 i1 (.agg #[.int .i64 0, .slice none 0 0]) 2 32 Tryd.underlying22 hi1 hy0 hy1 hy2 rfl u11 gb (k) xs (by rfl) HS1.out ⟨W9.heap.size, 0, none⟩ 1 1 [.int .i64 prod, .slice (some ⟨wq.heap.size, 0, none⟩) 1 1] (by rfl) (by rfl) HN1.out (by simp [Value.oneCell']) (by decide) HBY1.out H631.out ?_)
          intro g2 p2 cap2 w10 tb' hown hgrow htb hnew
          have HO2 := Lib.hid (HF1.out w10 g2 p2 cap2 tb' hown hgrow htb (hnew.imp id (fun h => by simpa using h)))
          clear hown hgrow htb hnew x0 x1 x2 hp2 hW9 HS1 HN1 HF1 HBY1 H631
          clear HOQ HO1
          have HOQ := HO2
          clear HO2
          obtain ⟨c0, c1, hsl⟩ := HFK.out w10 HOQ.out.low
          obtain ⟨gb, xs, hs1, hn1, hf1⟩ := Outs.step HOQ.out HXJ.out (Below.refl _ _) HZ5.out (hsl.mono fun q h _ => .inl h)
          have HS1 := Lib.hid hs1
          have HN1 := Lib.hid hn1
          have HF1 := Lib.hid hf1
          have HBY1 : Hid ((k + 1 + 1) * 32 ≤ 140737488355328) := by show _ ≤ _; omega
          have H631 : Hid (k + 1 + 1 ≤ 9223372036854775807) := by show _ ≤ _; omega
          clear hsl hs1 hn1 hf1
          go_wp2_with (at_builtin; refine wpList_append_sl _ (by rfl) _ _ _ (by rfl) 63 i1 (.agg #[.int .i64 0, .slice none 0 0]) 2 32 Tryd.underlying22 hi1 hy0 hy1 hy2 rfl (.slice (some ⟨g2, p2, none⟩) (k + 1) cap2) gb (k + 1) xs (by rfl) HS1.out ⟨w10.heap.size, 0, none⟩ 1 1 [.int .i64 p, .slice sa n sc] (by rfl) (by rfl) HN1.out (by simp [Value.oneCell']) (by decide) HBY1.out H631.out ?_)
          intro g2 p2 cap2 w11 tb' hown hgrow htb hnew
          have HO2 := Lib.hid (HF1.out w11 g2 p2 cap2 tb' hown hgrow htb (hnew.imp id (fun h => by simpa using h)))
          clear hown hgrow htb hnew c0 c1 HS1 HN1 HF1 HBY1 H631
          go_wp2_with fail
          go_roundw
          case rel => exact ⟨k + 1, true, by omega, by go_num, rfl, HO2.out, Nat.lt_succ_self _⟩
          case measure => simp [intOf]; omega
        · have hpp := HBE.out k _ hl HX.out
          have hd1 : decide (prod < p) = false := decide_eq_false (by omega)
          have hd2 : ¬ (prod < p) := by omega
          have HXJ : Hid (T'[k]? = some (p, L)) := (HLO'.out k hl).trans HX.out
          have HL1 := Lib.hid hl
          clear hl
          go_wp2_with fail
          go_quiet (fail)
          clear hd1 hd2 hpp hp0 hc0
          generalize hwq : World.drewN wr _ = wq
          have hbq : RowKit.Below wr.heap.size wr wq := by rw [← hwq]; exact below_drewN _ _
          have HOQ := Lib.hid (HO1.out.below hbq)
          clear hbq
          clear hwq
          obtain ⟨c0, c1, hsl⟩ := HFK.out wq HOQ.out.low
          obtain ⟨gb, xs, hs1, hn1, hf1⟩ := Outs.step HOQ.out HXJ.out (Below.refl _ _) HZ5.out (hsl.mono fun q h _ => .inl h)
          have HS1 := Lib.hid hs1
          have HN1 := Lib.hid hn1
          have HF1 := Lib.hid hf1
          have HBY1 : Hid ((k + 1) * 32 ≤ 140737488355328) := by show _ ≤ _; omega
          have H631 : Hid (k + 1 ≤ 9223372036854775807) := by show _ ≤ _; omega
          clear hsl hs1 hn1 hf1
          go_wp2_with (at_builtin; refine wpList_append_sl _ (by rfl) _ _ _ (by rfl) 63 i1 (.agg #[.int .i64 0, .slice none 0 0]) 2 32 Tryd.underlying22 hi1 hy0 hy1 hy2 rfl u11 gb (k) xs (by rfl) HS1.out ⟨wq.heap.size, 0, none⟩ 1 1 [.int .i64 p, .slice sa n sc] (by rfl) (by rfl) HN1.out (by simp [Value.oneCell']) (by decide) HBY1.out H631.out ?_)
          intro g2 p2 cap2 w11 tb' hown hgrow htb hnew
          have HO2 := Lib.hid (HF1.out w11 g2 p2 cap2 tb' hown hgrow htb (hnew.imp id (fun h => by simpa using h)))
          clear hown hgrow htb hnew c0 c1 HS1 HN1 HF1 HBY1 H631
          go_wp2_with fail
          go_roundw
          case rel => exact ⟨k + 1, false, by omega, by go_num, rfl, HO2.out, HL1.out⟩
          case measure => simp [intOf]; omega
    · obtain rfl : k = M := by omega
      cases dn with
      | true =>
        have HO1 : Hid (Outs w.heap.size w5 T' (k + 1) u11 wr) := HOUT.out
        have HF := Lib.hid (HFN.out _ _ HO1.out)
        clear HOUT HDP HO1
        go_wp2_with fail
        go_ret2
        exact HF.out
      | false =>
        have HOQ : Hid (Outs w.heap.size w5 T' k u11 wr) := HOUT.out
        have HP1 : Hid (k ≤ pos) := HDP.out
        have hpk : pos = k := Nat.le_antisymm HPM.out HP1.out
        subst hpk
        clear HOUT HDP
        have hx0 := HXC.out wr HOQ.out.low
        have hp2 := HPC.out wr HOQ.out.low
        obtain ⟨W9, hW9⟩ : ∃ W, World.alloc wr (.cells #[.int .i64 seq, .int .i64 base, .int .i64 (base + count)] 41) = W := ⟨_, rfl⟩
        have hb9 : RowKit.Below wr.heap.size wr W9 := by rw [← hW9]; exact (Below.refl _ _).alloc (Nat.le_refl _) _
        have hk9 : Blk W9 wr.heap.size #[.int .i64 seq, .int .i64 base, .int .i64 (base + count)] 41 := by rw [← hW9]; exact Blk.new _ _ _
        obtain ⟨gb, xs, hs1, hn1, hf1⟩ := Outs.step HOQ.out HAT'.out hb9 HZ5.out (slots_one hk9)
        have HS1 := Lib.hid hs1
        have HN1 := Lib.hid hn1
        have HF1 := Lib.hid hf1
        have HBY1 : Hid ((pos + 1) * 32 ≤ 140737488355328) := by show _ ≤ _; omega
        have H631 : Hid (pos + 1 ≤ 9223372036854775807) := by show _ ≤ _; omega
        obtain ⟨x0, x1, x2⟩ := hx0
        clear hs1 hn1 hf1 hb9 hk9
        go_wp2_with (at_builtin; refine wpList_append_sl _ (by rfl) _ _ _ (by rfl) 63 i1 (.agg #[.int .i64 0, .slice none 0 0]) 2 32 Tryd.underlying22 hi1 hy0 hy1 hy2 rfl u11 gb (pos) xs (by rfl) HS1.out ⟨W9.heap.size, 0, none⟩ 1 1 [.int .i64 prod, .slice (some ⟨wr.heap.size, 0, none⟩) 1 1] (by rfl) (by rfl) HN1.out (by simp [Value.oneCell']) (by decide) HBY1.out H631.out ?_)
        intro g2 p2 cap2 w10 tb' hown hgrow htb hnew
        have HO2 := Lib.hid (HF1.out w10 g2 p2 cap2 tb' hown hgrow htb (hnew.imp id (fun h => by simpa using h)))
        clear hown hgrow htb hnew x0 x1 x2 hp2 hW9 HS1 HN1 HF1 HBY1 H631
        have HF := Lib.hid (HFN.out _ _ HO2.out)
        clear HO2
        go_wp2_with fail
        go_ret2
        exact HF.out
/-- Add, whatever comes. -/
theorem radd (P : Nat → Prop) (tv : Value) (T : Ld.Tb) (base count prod seq time : Int) (ls : List Pl.Rc) (v : Value) (w : World) (h : TabAt P tv T w) (hG : Ld.goodB T = true) (hr : Recs v ls w) (hl : ls.length ≤ 1099511627776) (hc6 : Pl.I64 count) (hb6 : Pl.I64 base) :
    Calls Tryd.prog 13 #[tv, .agg #[.int .i64 base, .int .i64 count, .int .i64 prod, .int .i64 seq, .int .i64 time, v]] w (RAdded w T (Pl.goodB ⟨base, count, prod, seq, time, ls⟩) prod seq base count) := by
  cases hgd : Pl.goodB ⟨base, count, prod, seq, time, ls⟩ with
  | false => exact radd_bad P tv T base count prod seq time ls v w h hG hr hl hc6 hb6 hgd
  | true =>
    obtain ⟨⟨⟨s0, s1, s2⟩, c⟩, hck⟩ : ∃ x, Ld.check T prod seq = x := ⟨_, rfl⟩
    by_cases hc : c = 0
    · subst hc
      cases ha : Ld.at_ T prod with
      | none =>
        have h64 := (Ld.good_iff.1 hG).1
        rcases Nat.eq_or_lt_of_le h64 with hf | hf
        · exact radd_full P tv T base count prod seq time ls v w h hG hr hl hc6 hb6 hgd s0 s1 s2 hck ha hf
        · exact radd_new P tv T base count prod seq time ls v w h hG hr hl hc6 hb6 hgd s0 s1 s2 hck ha hf
      | some i =>
        obtain ⟨L, hL⟩ := Ld.at_some ha
        cases hll : L.getLast? with
        | none =>
          have := (Ld.rowOk_iff.1 ((Ld.good_iff.1 hG).2.1 _ (List.mem_of_getElem? hL))).2.1
          rw [List.getLast?_eq_none_iff] at hll
          simp [hll] at this
        | some l =>
          by_cases hlo : base < l.fin
          · exact radd_low P tv T base count prod seq time ls v w h hG hr hl hc6 hb6 hgd s0 s1 s2 hck i L ha hL (fun l' h' => by rw [hll] at h'; cases h'; exact hlo)
          · exact radd_known P tv T base count prod seq time ls v w h hG hr hl hc6 hb6 hgd s0 s1 s2 hck i L ha hL (fun l' h' => by rw [hll] at h'; cases h'; exact hlo)
    · exact radd_check P tv T base count prod seq time ls v w h hG hr hl hc6 hb6 hgd s0 s1 s2 c hck hc
end Go.Proofs.YtloallndnmofnaaDoor
