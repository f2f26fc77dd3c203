/- THE CONTRACT OF ledger.Decode. -/
import Derived.Test.YtloallndnmofnaaGreatDoorTTk
namespace Go.Proofs.YtloallndnmofnaaGreatDoor
open Go.RowKit

theorem tkSlots_len : ∀ (f : Nat) (u : St) (acc : List Ld.Sl), (Ld.tkSlots f u acc).1.length ≤ acc.length + f
  | 0, u, acc => by simp [Ld.tkSlots]
  | f + 1, u, acc => by
    unfold Ld.tkSlots
    split
    · have := tkSlots_len f (Ld.tkSlot u).2 (acc ++ [(Ld.tkSlot u).1])
      simp only [List.length_append, List.length_cons, List.length_nil] at this
      omega
    · simp
theorem tkRow_len (u : St) : (Ld.tkRow 5 u).1.2.length ≤ 5 := by
  have := tkSlots_len 5 (u.byte 108).int.2 []
  simpa [Ld.tkRow] using this
theorem tkSlots_s : ∀ (f : Nat) (u : St) (acc : List Ld.Sl), (Ld.tkSlots f u acc).2.s.length ≤ u.s.length
  | 0, u, acc => by simp [Ld.tkSlots]
  | f + 1, u, acc => by
    unfold Ld.tkSlots
    split
    · have h1 := tkSlots_s f (Ld.tkSlot u).2 (acc ++ [(Ld.tkSlot u).1])
      have h2 : (Ld.tkSlot u).2.s.length ≤ u.s.length := by
        unfold Ld.tkSlot
        exact Nat.le_trans (byte_len _ _) (Nat.le_trans (int_len _) (Nat.le_trans (int_len _) (Nat.le_trans (int_len _) (byte_len _ _))))
      omega
    · simp
theorem tkRow_s (u : St) : (Ld.tkRow 5 u).2.s.length ≤ u.s.length := by
  unfold Ld.tkRow
  exact Nat.le_trans (byte_len _ _) (Nat.le_trans (tkSlots_s _ _ _) (Nat.le_trans (int_len _) (byte_len _ _)))
theorem tkR_more {n : Nat} {u : St} {T : Ld.Tb} (hn : T.length < n) (hm : u.more = true) : Ld.tkRows 5 (n - T.length) u T = Ld.tkRows 5 (n - (T ++ [(Ld.tkRow 5 u).1]).length) (Ld.tkRow 5 u).2 (T ++ [(Ld.tkRow 5 u).1]) := by
  obtain ⟨k, hk⟩ : ∃ k, n - T.length = k + 1 := ⟨n - T.length - 1, by omega⟩
  rw [hk, show n - (T ++ [(Ld.tkRow 5 u).1]).length = k by rw [List.length_append, List.length_cons, List.length_nil]; omega]
  conv => lhs; unfold Ld.tkRows
  rw [if_pos hm]
theorem tkR_over {n : Nat} {u : St} {T : Ld.Tb} (h : ¬ T.length < n ∨ u.more = false) : Ld.tkRows 5 (n - T.length) u T = (T, u) := by
  cases hk : n - T.length with
  | zero => rfl
  | succ k =>
    rcases h with h | h
    · omega
    · unfold Ld.tkRows
      rw [if_neg (by rw [h]; decide)]
/-- One producer more, his slots anywhere but in the table's own blocks. -/
theorem Own.push2 {W3 W4 : World} {ov v2 ov' : Value} {tb gb2 tb' : Option Nat} {E : List En} {p : Int} {L : List Ld.Sl} (h3 : Own W3 ov tb E) (hs : Sl W3 v2 gb2 40 3 L.length (L.flatMap three)) (hd : ∀ q, gb2 = some q → ¬ foot tb E q)
    (hgr : W3.grownBy W4 tb) (hs4 : Sl W4 ov' tb' 46 2 (E.length + 1) (E.flatMap En.cells ++ [.int .i64 p, v2])) (hn4 : tb' = tb ∨ ∀ q, tb' = some q → W3.heap.size ≤ q) :
    Own W4 ov' tb' (E ++ [⟨p, L, v2, gb2⟩]) ∧ (∀ q, foot tb' (E ++ [⟨p, L, v2, gb2⟩]) q → foot tb E q ∨ gb2 = some q ∨ W3.heap.size ≤ q) := by
  have hgl : ∀ e ∈ E, ∀ q, e.gb = some q → q < W3.heap.size := fun e he q hq => Sl.lt (h3.ok e he) q hq
  have hnt : ∀ q, gb2 = some q → tb ≠ some q := fun q hq ht => hd q hq (.inl ht)
  refine ⟨⟨?_, ?_, ?_, ?_⟩, ?_⟩
  · rw [List.length_append, List.flatMap_append]
    exact hs4
  · intro e he
    rcases List.mem_append.1 he with he | he
    · exact Sl.grown (h3.ok e he) hgr (fun k hk ht => h3.far e he k hk ht)
    · rw [List.mem_singleton.1 he]
      exact hs.grown hgr hnt
  · rw [List.pairwise_append]
    refine ⟨h3.apart, List.pairwise_singleton _ _, fun a ha b hb k hk hk2 => ?_⟩
    rw [List.mem_singleton.1 hb] at hk2
    exact hd k hk2 (.inr ⟨a, ha, hk⟩)
  · intro e he k hk ht
    rcases hn4 with h4 | h4
    · rw [h4] at ht
      rcases List.mem_append.1 he with he | he
      · exact h3.far e he k hk ht
      · rw [List.mem_singleton.1 he] at hk
        exact hnt k hk ht
    · have h5 := h4 k ht
      rcases List.mem_append.1 he with he | he
      · have := hgl e he k hk; omega
      · rw [List.mem_singleton.1 he] at hk
        have := hs.lt k hk; omega
  · rintro q (hq | ⟨e, he, hq⟩)
    · rcases hn4 with h4 | h4
      · exact .inl (.inl (h4.symm.trans hq))
      · exact .inr (.inr (h4 q hq))
    · rcases List.mem_append.1 he with he | he
      · exact .inl (.inr ⟨e, he, hq⟩)
      · rw [List.mem_singleton.1 he] at hq
        exact .inr (.inl hq)
/-- What is known while Decode runs. -/
def Dk (w : World) (c : Nat) (u : St) (tv : Value) (T : Ld.Tb) (wr : World) : Prop :=
  ∃ tb E, Rd c wr u ∧ Own wr tv tb E ∧ tabOf E = T ∧ (∀ q, foot tb E q → w.heap.size ≤ q ∧ q ≠ c) ∧ RowKit.Below w.heap.size w wr ∧ w.heap.size ≤ c
theorem Dk.rd {w wr : World} {c : Nat} {u : St} {tv : Value} {T : Ld.Tb} (h : Dk w c u tv T wr) : Rd c wr u := by obtain ⟨_, _, h, _⟩ := h; exact h
theorem Dk.low {w wr : World} {c : Nat} {u : St} {tv : Value} {T : Ld.Tb} (h : Dk w c u tv T wr) : RowKit.Below w.heap.size w wr := by obtain ⟨_, _, _, _, _, _, h, _⟩ := h; exact h
theorem Dk.tab {w wr : World} {c : Nat} {u : St} {tv : Value} {T : Ld.Tb} (h : Dk w c u tv T wr) : TabAt (fun q => w.heap.size ≤ q) tv T wr := by
  obtain ⟨tb, E, -, h2, h3, h4, -⟩ := h
  rw [← h3]
  exact h2.tab _ fun q hq => (h4 q hq).1
theorem Dk.call {w wr w' : World} {c : Nat} {u u' : St} {tv : Value} {T : Ld.Tb} (h : Dk w c u tv T wr) (hr : Rd c w' u') (hk : Kb c wr w') : Dk w c u' tv T w' := by
  obtain ⟨tb, E, h1, h2, h3, h4, h5, h6⟩ := h
  refine ⟨tb, E, hr, h2.same fun k hk' => hk.block k (h2.lt hk') (h4 k hk').2, h3, h4, h5.trans ?_, h6⟩
  exact hk.below h6 h1.lt
/-- A producer more. -/
theorem Dk.push {w wr w1 : World} {c : Nat} {u u' : St} {tv v2 : Value} {gb2 : Option Nat} {T : Ld.Tb} {x : Int × List Ld.Sl} (h : Dk w c u tv T wr) (hs : Sl w1 v2 gb2 40 3 x.2.length (x.2.flatMap three)) (hg : ∀ k, gb2 = some k → wr.heap.size ≤ k) (hr : Rd c w1 u') (hk : Kb c wr w1) :
    ∃ gb xs, Sl (w1.alloc (.cells #[.int .i64 x.1, v2] 46)) tv gb 46 2 T.length xs ∧
      ∀ w9 g p cap gb', Sl w9 (.slice (some ⟨g, p, none⟩) (T.length + 1) cap) gb' 46 2 (T.length + 1) (xs ++ [.int .i64 x.1, v2]) → (w1.alloc (.cells #[.int .i64 x.1, v2] 46)).grownBy w9 gb → gb' = some g → (gb' = gb ∨ w1.heap.size + 1 ≤ g) → Dk w c u' (.slice (some ⟨g, p, none⟩) (T.length + 1) cap) (T ++ [x]) w9 := by
  have h0 := h
  obtain ⟨tb, E, h1, h2, h3, h4, h5, h6⟩ := h
  obtain ⟨tb', E', -, h2', h3', h4', h5', -⟩ := h0.call hr hk
  have hEl : E.length = T.length := by rw [← h3, tab_len]
  have o1 : Own w1 tv tb E := h2.same fun k hk' => hk.block k (h2.lt hk') (h4 k hk').2
  have hal : RowKit.Below w1.heap.size w1 (w1.alloc (.cells #[.int .i64 x.1, v2] 46)) := (Below.refl _ _).alloc (Nat.le_refl _) _
  have hsz : (w1.alloc (.cells #[.int .i64 x.1, v2] 46)).heap.size = w1.heap.size + 1 := by simp
  have o2 := o1.below hal
  refine ⟨tb, E.flatMap En.cells, ?_, ?_⟩
  · rw [← hEl]; exact o2.row
  · intro w9 g p cap gb' hs9 hgr hgb hn
    rw [← hEl] at hs9 ⊢
    have hn4 : gb' = tb ∨ ∀ q, gb' = some q → (w1.alloc (.cells #[.int .i64 x.1, v2] 46)).heap.size ≤ q := by
      rcases hn with hn | hn
      · exact .inl hn
      · refine .inr fun q hq => ?_
        rw [hgb] at hq
        injection hq with hq
        omega
    obtain ⟨p1, p2⟩ := o2.push2 (hs.below hal) (fun q hq hf => by have := hg q hq; have := h2.lt hf; omega) hgr hs9 hn4
    have hcl := h1.lt
    have hsk := hk.size
    refine ⟨gb', _, ?_, p1, ?_, fun q hq => ?_, ?_, h6⟩
    · have hr2 : Rd c (w1.alloc (.cells #[.int .i64 x.1, v2] 46)) u' := hr.same hal
      exact (hgr.block c (by omega) (fun e => (h4 c (.inl e.symm)).2 rfl)).trans hr2
    · rw [← h3]; simp [tabOf]
    · have h7 := h5.size
      rcases p2 q hq with hq | hq | hq
      · exact h4 q hq
      · have := hg q hq; exact ⟨by omega, by omega⟩
      · exact ⟨by omega, by omega⟩
    · have h7 := h5'.trans (hal.mono h5'.size)
      exact h7.trans ⟨hgr.os, hgr.tape, hgr.output, hgr.size, fun q hq => hgr.block q (by have := h7.size; omega) (fun e => by have := (h4 q (.inl e.symm)).1; omega)⟩
/-- What Decode answers. -/
def DecdT (w : World) (r : Option Ld.Tb) (e : Ending) (w' : World) : Prop :=
  (match r with
    | some T => ∃ v, e = .returned (.tuple #[v, .int .i64 0]) ∧ TabAt (fun q => w.heap.size ≤ q) v T w'
    | none => e = .returned (.tuple #[.slice none 0 0, .int .i64 3])) ∧ RowKit.Below w.heap.size w w'

set_option maxHeartbeats 4000000 in
set_option maxRecDepth 100000 in
theorem ddect (s : ByteArray) (w : World) (lb : Lb w) (hs : s.size ≤ 281474976710656) :
    Calls Tryz.prog 8 #[.string s] w (DecdT w (Ld.decT 5 64 s.data.toList)) := by
  have hl0 : s.data.toList.length ≤ 281474976710656 := by
    have e1 : s.size = s.data.size := rfl
    have e2 : s.data.toList.length = s.data.size := Array.length_toList
    omega
  obtain ⟨q0, e0⟩ : ∃ q, St.byte 108 ⟨s.data.toList, false⟩ = q := ⟨_, rfl⟩
  obtain ⟨Tf, qf, e2⟩ : ∃ x q, Ld.tkRows 5 64 q0 [] = (x, q) := ⟨_, _, rfl⟩
  obtain ⟨u9, e3⟩ : ∃ q, St.byte 101 qf = q := ⟨_, rfl⟩
  have hR : Ld.decT 5 64 s.data.toList = if u9.done = 0 ∧ Ld.goodB Tf = true then some Tf else none := by
    unfold Ld.decT Ld.tkTab
    rw [e0, e2, e3]
  obtain ⟨R, hRR⟩ : ∃ R, Ld.decT 5 64 s.data.toList = R := ⟨_, rfl⟩
  rw [hRR]
  rw [hRR] at hR
  have HR := Lib.hid hR
  clear hRR
  have l0 : q0.s.length ≤ 281474976710656 := Nat.le_trans (e0 ▸ byte_len 108 _) hl0
  have HLB := Lib.hid lb
  have HE2 := Lib.hid e2
  obtain ⟨i1, hi1, hy0, hy1, hy2⟩ := infoSeen
  have HN := Lib.hid (rd_new s w)
  have h8 := lb.size
  clear e2 hR lb
  go_enter Tryz.func8, Tryz.ntmps8
  go_wp2_with fail
  refine HN.out.mono ?_
  rintro e w1 ⟨rfl, r1, b1⟩
  obtain ⟨c, hc⟩ : ∃ c, w.heap.size = c := ⟨_, rfl⟩
  have hD1 : Dk w c ⟨s.data.toList, false⟩ (.slice none 0 0) [] w1 := ⟨none, [], by rw [← hc]; exact r1, Own.nil _, rfl, (fun q hq => by rcases hq with h | ⟨_, h, -⟩; cases h; cases h), b1, by omega⟩
  have HD1 := Lib.hid hD1
  have HC := Lib.hid hc
  rw [hc] at h8
  rw [HC.out]
  clear hD1 r1 b1 hc HN
  go_wp2_with fail
  refine (rd_open c _ w1 HD1.out.rd hl0).mono ?_
  rw [e0]
  rintro e w2 ⟨rfl, r2, k2⟩
  have HD2 := Lib.hid (HD1.out.call r2 k2)
  clear r2 k2 e0 HD1
  go_wp2_with fail
  go_loopw [4] (fun tv wr => ∃ (v : St) (T : Ld.Tb), T.length ≤ 64 ∧ v.s.length ≤ 281474976710656 ∧ Dk w c v tv T wr ∧ (∀ x ∈ T, x.2.length ≤ 5) ∧ Ld.tkRows 5 (64 - T.length) v T = (Tf, qf)) (fun tv _ => 64 - sliceLen (some tv))
  case atStart => exact ⟨q0, [], by simp, l0, HD2.out, (fun x hx => by cases hx), HE2.out⟩
  case round =>
    obtain ⟨v, T, hT64, hvl, hdk, hT5, hts⟩ := hrel
    have HD := Lib.hid hdk
    have HT5 := Lib.hid hT5
    have HTS := Lib.hid hts
    obtain ⟨n, hn⟩ : ∃ n, T.length = n := ⟨_, rfl⟩
    obtain ⟨ao, cp, htv, -⟩ := hdk.tab
    rw [hn] at htv hT64
    subst htv
    have HNN := Lib.hid hn
    have hmr := Lib.hid (rd_more c v wr hdk.rd)
    obtain ⟨mo, hmo⟩ : ∃ b, v.more = b := ⟨_, rfl⟩
    rw [hmo] at hmr
    have HMO := Lib.hid hmo
    clear hdk hT5 hts hn hmo HD2 HE2
    go_upto_region 4 with fail
    go_cut [16] (fun s wx => s = .bool (mo && decide (n < 64)) ∧ wx = wr)
    case first =>
      cases mo with
      | false =>
        go_wp2_with fail
        refine hmr.out.mono ?_
        rintro e w' ⟨rfl, rfl⟩
        go_wp2_with fail
        go_meet
        case rel => exact ⟨rfl, rfl⟩
      | true =>
        go_wp2_with fail
        refine hmr.out.mono ?_
        rintro e w' ⟨rfl, rfl⟩
        go_wp2_with fail
        go_meet
        case rel => exact ⟨boolX (by simp; omega), rfl⟩
    case rest =>
      obtain ⟨rfl, hwc⟩ := hcut
      subst hwc
      by_cases hgo : mo = true ∧ n < 64
      · obtain ⟨rfl, hn64⟩ := hgo
        rw [decide_eq_true hn64]
        obtain ⟨x, v1, g1⟩ : ∃ x q, Ld.tkRow 5 v = (x, q) := ⟨_, _, rfl⟩
        have HTS2 : Hid (Ld.tkRows 5 (64 - (T ++ [x]).length) v1 (T ++ [x]) = (Tf, qf)) := by
          have := tkR_more (n := 64) (u := v) (T := T) (by rw [HNN.out]; exact hn64) HMO.out
          rw [g1, HTS.out] at this
          exact this.symm
        have m1 : v1.s.length ≤ 281474976710656 := by have h := tkRow_s v; rw [g1] at h; exact Nat.le_trans h hvl
        have HX5 : Hid (∀ y ∈ T ++ [x], y.2.length ≤ 5) := fun y hy => by
          rcases List.mem_append.1 hy with hy | hy
          · exact HT5.out y hy
          · rw [List.mem_singleton.1 hy]
            have h := tkRow_len v
            rw [g1] at h
            exact h
        have CT := dtaken c v wc (HLB.out.below HLB.out.size HD.out.low) HD.out.rd h8 hvl
        rw [g1] at CT
        have HCT := Lib.hid CT
        have HM1 := Lib.hid m1
        have HBY : Hid ((n + 1) * 32 ≤ 140737488355328) := by show _ ≤ _; omega
        have H63 : Hid (n + 1 ≤ 9223372036854775807) := by show _ ≤ _; omega
        clear CT m1 g1 hmr HTS
        go_wp2_with fail
        refine HCT.out.mono ?_
        rintro e w5 ⟨sv, gb2, rfl, hs5, hg5, hr5, hk5⟩
        obtain ⟨gb, xs, hs6, hf6⟩ := HD.out.push hs5 hg5 hr5 hk5
        rw [HNN.out] at hs6 hf6
        obtain ⟨ao5, cp5, hsv5, -⟩ := Sl.make hs5
        obtain ⟨p, L⟩ := x
        subst hsv5
        simp only at hs6 hf6
        have HS6 := Lib.hid hs6
        have HF6 := Lib.hid hf6
        have HNW : Hid (∀ j u, [Value.int .i64 p, .slice ao5 L.length cp5][j]? = some u → World.cell? (w5.alloc (.cells #[.int .i64 p, .slice ao5 L.length cp5] 46)) (Addr.add ⟨w5.heap.size, 0, none⟩ j) = some u) := World.news_of_block (cs := #[.int .i64 p, .slice ao5 L.length cp5]) (t := 46) (fr := (0, 0)) (heap_alloc_new w5 _)
        clear hs5 hg5 hr5 hk5 hs6 hf6 HCT
        go_wp2_with (at_builtin; go_must (refine wpList_append_sl _ (by rfl) _ _ _ (by rfl) 46 i1 (.agg #[.int .i64 0, .slice none 0 0]) 2 32 Tryz.underlying22 hi1 hy0 hy1 hy2 rfl (.slice ao n cp) gb n xs (by rfl) HS6.out ⟨w5.heap.size, 0, none⟩ 1 1 [.int .i64 p, .slice ao5 L.length cp5] (by rfl) (by rfl) HNW.out (by simp [Value.oneCell']) (by decide) HBY.out H63.out ?_))
        intro g9 q9 cap9 w9 gb9 hown9 hgrow9 hgb9 hnew9
        have HD9 := Lib.hid (HF6.out w9 g9 q9 cap9 gb9 hown9 hgrow9 hgb9 (hnew9.imp id (fun h => by simpa using h)))
        clear hown9 hgrow9 hgb9 hnew9 HS6 HF6 HNW
        go_wp2_with fail
        go_roundw
        case rel => exact ⟨_, _, by rw [List.length_append, HNN.out]; show n + 1 ≤ 64; omega, HM1.out, HD9.out, HX5.out, HTS2.out⟩
        case measure => simp only [sliceLen]; omega
      · have hgo' : (mo && decide (n < 64)) = false := by
          rcases Bool.eq_false_or_eq_true mo with h | h
          · rw [h, decide_eq_false (fun h5 => hgo ⟨h, h5⟩)]; rfl
          · rw [h]; rfl
        rw [hgo']
        have hfin : (T, v) = (Tf, qf) := by
          rw [← HTS.out]
          refine (tkR_over ?_).symm
          rcases Bool.eq_false_or_eq_true mo with h | h
          · exact .inl (by rw [HNN.out]; exact fun h5 => hgo ⟨h, h5⟩)
          · exact .inr (by rw [HMO.out]; exact h)
        injection hfin with hf1 hf2
        subst hf1 hf2
        have HE3 := Lib.hid e3
        clear hgo hgo' HTS HMO hmr e3
        have CC := rd_close c v wc HD.out.rd hvl
        rw [HE3.out] at CC
        have HCC := Lib.hid CC
        clear CC
        go_wp2_with fail
        refine HCC.out.mono ?_
        rintro e w7 ⟨rfl, r7, k7⟩
        have HD7 := Lib.hid (HD.out.call r7 k7)
        clear r7 k7 HD HCC
        have CD := Lib.hid (rd_done c u9 w7 HD7.out.rd)
        obtain ⟨dn, hdn⟩ : ∃ z, u9.done = z := ⟨_, rfl⟩
        have HDN := Lib.hid hdn
        rw [hdn] at CD HR
        have CG := Lib.hid (fun w' (h : RowKit.Below w7.heap.size w7 w') => dgoodT _ _ T w' (HD7.out.tab.below h) (by rw [HNN.out]; omega) (fun x hx => by have := HT5.out x hx; omega))
        clear hdn
        by_cases hd0 : dn = 0
        · subst hd0
          obtain ⟨g, hg⟩ : ∃ g, Ld.goodB T = g := ⟨_, rfl⟩
          rw [hg] at CG HR
          go_wp2_with fail
          refine CD.out.mono ?_
          rintro e w' ⟨rfl, rfl⟩
          go_wp2_with fail
          refine (CG.out w7 (Below.refl _ _)).mono ?_
          rintro e w8 ⟨rfl, hb8⟩
          have HB8 := Lib.hid hb8
          clear hb8 hg
          cases g with
          | false =>
            obtain rfl : R = none := HR.out
            go_wp2_with fail
            go_ret2
            exact ⟨rfl, HD7.out.low.trans (HB8.out.mono HD7.out.low.size)⟩
          | true =>
            obtain rfl : R = some T := HR.out
            go_wp2_with fail
            go_ret2
            exact ⟨⟨_, rfl, HD7.out.tab.below HB8.out⟩, HD7.out.low.trans (HB8.out.mono HD7.out.low.size)⟩
        · have hdd : (dn != 0) = true := by simpa using hd0
          obtain rfl : R = none := by rw [HR.out, if_neg (fun h => hd0 h.1)]
          go_wp2_with fail
          refine CD.out.mono ?_
          rintro e w' ⟨rfl, rfl⟩
          go_wp2_with fail
          go_ret2
          exact ⟨rfl, HD7.out.low⟩
end Go.Proofs.YtloallndnmofnaaGreatDoor
