/- THE CONTRACT OF the document's Pack. -/
import Derived.Test.YthhlegfmikidpaaDoorCGood
import Derived.Test.YthhlegfmikidpaaDoorDPack
namespace Go.Proofs.YthhlegfmikidpaaDoor
open Go.RowKit

/-- What is known while the document's Pack runs. -/
structure PB (w : World) (n r : Nat) (W : World) : Prop where
  bn : Blk W n zeroB 24
  br : Blk W r zeroB 24
  low : Below w.heap.size w W
  lo : w.heap.size ≤ r ∧ w.heap.size ≤ n ∧ n ≠ r
theorem PB.below {w W W' : World} {n r : Nat} (h : PB w n r W) (hb : Below W.heap.size W W') : PB w n r W' :=
  ⟨h.bn.below hb, h.br.below hb, h.low.trans (hb.mono h.low.size), h.lo⟩
theorem PB.aside {w W W' : World} {n r x : Nat} (h : PB w n r W) (hk : Kb x W W') (h1 : x ≠ n) (h2 : x ≠ r) (h3 : w.heap.size ≤ x) : PB w n r W' :=
  ⟨h.bn.kb hk (Ne.symm h1), h.br.kb hk (Ne.symm h2), h.low.trans ⟨hk.os, hk.tape, hk.output, hk.size, fun k hl => hk.block k (Nat.lt_of_lt_of_le hl h.low.size) (by omega)⟩, h.lo⟩
theorem PB.grown {w W W' : World} {n r base : Nat} {row : Option Nat} (h : PB w n r W) (hg : W.grownBy W' row) (hrow : ∀ k, row = some k → base ≤ k) (h1 : n < base) (h2 : r < base) : PB w n r W' := by
  have e : ∀ k, k < base → k < W.heap.size → W'.heap[k]? = W.heap[k]? := fun k hk hl => hg.block k hl (fun e => by have := hrow k e.symm; omega)
  have h3 := h.lo
  refine ⟨(e n h1 h.bn.lt).trans h.bn, (e r h2 h.br.lt).trans h.br, ⟨hg.os.trans h.low.os, hg.tape.trans h.low.tape, hg.output.trans h.low.output, Nat.le_trans h.low.size hg.size, fun k hk => (e k (by omega) (Nat.lt_of_lt_of_le hk h.low.size)).trans (h.low.block k hk)⟩, h.lo⟩
theorem Blk.grown {W W' : World} {b base : Nat} {cs : Array Value} {T : TypeId} {row : Option Nat} (h : Blk W b cs T) (hg : W.grownBy W' row) (hrow : ∀ k, row = some k → base ≤ k) (hb : b < base) : Blk W' b cs T :=
  (hg.block b h.lt (fun e => by have := hrow b e.symm; omega)).trans h
theorem renum_take (ls : List Pl.Rc) (base : Int) (k : Nat) (x : Pl.Rc) (h : ls[k]? = some x) : (Pl.renum ls base).take (k + 1) = (Pl.renum ls base).take k ++ [{ x with off := base + k }] := by
  rw [List.take_add_one, Pl.renum_at, h]
  rfl

set_option maxHeartbeats 2000000 in
set_option maxRecDepth 100000 in
theorem rpack (v : Value) (ls : List Pl.Rc) (base prod seq time : Int) (w : World) (h : Recs v ls w) (hl : ls.length ≤ 1099511627776) (hbase : Pl.I64 base) :
    Calls Tryd.prog 24 #[v, .int .i64 base, .int .i64 prod, .int .i64 seq, .int .i64 time] w fun e w' => Below w.heap.size w w' ∧ PackOut (Pl.packB ls base prod seq time) e w' := by
  have hr0 := Blk.new w zeroB 24
  have hn0 := Blk.new (w.alloc (.cells zeroB 24)) zeroB 24
  have hal1 : Below w.heap.size w (w.alloc (.cells zeroB 24)) := (Below.refl _ _).alloc (Nat.le_refl _) _
  have hal2 : Below (w.alloc (.cells zeroB 24)).heap.size (w.alloc (.cells zeroB 24)) ((w.alloc (.cells zeroB 24)).alloc (.cells zeroB 24)) := (Below.refl _ _).alloc (Nat.le_refl _) _
  have es1 : (w.alloc (.cells zeroB 24)).heap.size = w.heap.size + 1 := by simp
  have es2 : ((w.alloc (.cells zeroB 24)).alloc (.cells zeroB 24)).heap.size = w.heap.size + 2 := by simp
  have hlow := hal1.trans (hal2.mono hal1.size)
  have hr1 := hr0.below hal2
  rw [es1] at hn0
  obtain ⟨W0, hW0⟩ : ∃ W0, (w.alloc (.cells zeroB 24)).alloc (.cells zeroB 24) = W0 := ⟨_, rfl⟩
  rw [hW0] at hn0 hr1 hlow es2
  unfold zeroB at hW0
  have HWE := Lib.hid hW0
  have H0 : Hid (PB w (w.heap.size + 1) w.heap.size W0) := ⟨hn0, hr1, hlow, by omega, by omega, by omega⟩
  have HES := Lib.hid es2
  have HF := Lib.hid (rfits v ls W0 (h.below hlow) hl)
  obtain ⟨D, hD⟩ : ∃ D, Pl.packB ls base prod seq time = D := ⟨_, rfl⟩
  rw [hD]
  have HD := Lib.hid hD
  have HRW := Lib.hid h
  clear hD hr0 hn0 hal1 hal2 es1 es2 hlow hr1 hW0
  cases hf : Pl.fitsB ls with
  | false =>
    rw [hf] at HF
    have HFB := Lib.hid hf
    clear hf h
    go_enter Tryd.func24, Tryd.ntmps24
    go_wp2_with fail
    rw [HWE.out]
    refine HF.out.mono ?_
    rintro e w1 ⟨rfl, b1⟩
    have H1 := Lib.hid (H0.out.below b1)
    clear b1 H0 HF
    have n0 : World.cell? _ ⟨w.heap.size + 1, 0, none⟩ = some (.int .i64 0) := H1.out.bn.cell (i := 0) rfl
    have n1 : World.cell? _ ⟨w.heap.size + 1, 1, none⟩ = some (.int .i64 0) := H1.out.bn.cell (i := 1) rfl
    have n2 : World.cell? _ ⟨w.heap.size + 1, 2, none⟩ = some (.int .i64 0) := H1.out.bn.cell (i := 2) rfl
    have n3 : World.cell? _ ⟨w.heap.size + 1, 3, none⟩ = some (.int .i64 0) := H1.out.bn.cell (i := 3) rfl
    have n4 : World.cell? _ ⟨w.heap.size + 1, 4, none⟩ = some (.int .i64 0) := H1.out.bn.cell (i := 4) rfl
    have n5 : World.cell? _ ⟨w.heap.size + 1, 5, none⟩ = some (.slice none 0 0) := H1.out.bn.cell (i := 5) rfl
    have r0 : World.cell? _ ⟨w.heap.size, 0, none⟩ = some (.int .i64 0) := H1.out.br.cell (i := 0) rfl
    have f0 := H1.out.br.free (i := 0)
    have r1 : World.cell? _ ⟨w.heap.size, 1, none⟩ = some (.int .i64 0) := H1.out.br.cell (i := 1) rfl
    have f1 := H1.out.br.free (i := 1)
    have r2 : World.cell? _ ⟨w.heap.size, 2, none⟩ = some (.int .i64 0) := H1.out.br.cell (i := 2) rfl
    have f2 := H1.out.br.free (i := 2)
    have r3 : World.cell? _ ⟨w.heap.size, 3, none⟩ = some (.int .i64 0) := H1.out.br.cell (i := 3) rfl
    have f3 := H1.out.br.free (i := 3)
    have r4 : World.cell? _ ⟨w.heap.size, 4, none⟩ = some (.int .i64 0) := H1.out.br.cell (i := 4) rfl
    have f4 := H1.out.br.free (i := 4)
    have r5 : World.cell? _ ⟨w.heap.size, 5, none⟩ = some (.slice none 0 0) := H1.out.br.cell (i := 5) rfl
    have f5 := H1.out.br.free (i := 5)
    go_wp2_with fail
    refine bodyPost_ret (two_ret rfl (Blk.six (a0 := .int .i64 0) (a1 := .int .i64 0) (a2 := .int .i64 0) (a3 := .int .i64 0) (a4 := .int .i64 0) (a5 := .slice none 0 0) H1.out.br (.int .i64 0) (.int .i64 0) (.int .i64 0) (.int .i64 0) (.int .i64 0) (.slice none 0 0)) rfl rfl) rfl ⟨six_below H1.out.low (Nat.le_refl _) _ _ _ _ _ _, ?_⟩
    rw [show D = none from ?_]
    · rfl
    · rw [← HD.out]
      exact if_neg (fun h => by rw [HFB.out] at h; exact absurd h.1 (by decide))

  | true =>
    rw [hf] at HF
    have hlen : 1 ≤ ls.length ∧ ls.length ≤ 8 := by
      unfold Pl.fitsB at hf
      rw [Bool.and_eq_true, decide_eq_true_iff] at hf
      exact hf.1
    obtain ⟨hlen1, hlen8⟩ := hlen
    have HFB := Lib.hid hf
    obtain ⟨a, cap, rfl, hcell⟩ := h
    obtain ⟨m, hm⟩ : ∃ m, ls.length = m := ⟨_, rfl⟩
    rw [hm] at hlen1 hlen8 HF hl ⊢
    have HM := Lib.hid hm
    have HC := Lib.hid hcell
    clear hf hcell hm
    cases hnb : Pl.numB base with
    | false =>
      have HN := Lib.hid hnb
      clear hnb
      have CN := fun wx => rnum base wx
      rw [HN.out] at CN
      go_enter Tryd.func24, Tryd.ntmps24
      go_wp2_with fail
      rw [HWE.out]
      refine HF.out.mono ?_
      rintro e w1 ⟨rfl, b1⟩
      have H1 := Lib.hid (H0.out.below b1)
      clear b1 H0 HF
      go_wp2_with fail
      refine (CN w1).mono ?_
      rintro e w2 ⟨rfl, rfl⟩
      have n0 : World.cell? _ ⟨w.heap.size + 1, 0, none⟩ = some (.int .i64 0) := H1.out.bn.cell (i := 0) rfl
      have n1 : World.cell? _ ⟨w.heap.size + 1, 1, none⟩ = some (.int .i64 0) := H1.out.bn.cell (i := 1) rfl
      have n2 : World.cell? _ ⟨w.heap.size + 1, 2, none⟩ = some (.int .i64 0) := H1.out.bn.cell (i := 2) rfl
      have n3 : World.cell? _ ⟨w.heap.size + 1, 3, none⟩ = some (.int .i64 0) := H1.out.bn.cell (i := 3) rfl
      have n4 : World.cell? _ ⟨w.heap.size + 1, 4, none⟩ = some (.int .i64 0) := H1.out.bn.cell (i := 4) rfl
      have n5 : World.cell? _ ⟨w.heap.size + 1, 5, none⟩ = some (.slice none 0 0) := H1.out.bn.cell (i := 5) rfl
      have r0 : World.cell? _ ⟨w.heap.size, 0, none⟩ = some (.int .i64 0) := H1.out.br.cell (i := 0) rfl
      have f0 := H1.out.br.free (i := 0)
      have r1 : World.cell? _ ⟨w.heap.size, 1, none⟩ = some (.int .i64 0) := H1.out.br.cell (i := 1) rfl
      have f1 := H1.out.br.free (i := 1)
      have r2 : World.cell? _ ⟨w.heap.size, 2, none⟩ = some (.int .i64 0) := H1.out.br.cell (i := 2) rfl
      have f2 := H1.out.br.free (i := 2)
      have r3 : World.cell? _ ⟨w.heap.size, 3, none⟩ = some (.int .i64 0) := H1.out.br.cell (i := 3) rfl
      have f3 := H1.out.br.free (i := 3)
      have r4 : World.cell? _ ⟨w.heap.size, 4, none⟩ = some (.int .i64 0) := H1.out.br.cell (i := 4) rfl
      have f4 := H1.out.br.free (i := 4)
      have r5 : World.cell? _ ⟨w.heap.size, 5, none⟩ = some (.slice none 0 0) := H1.out.br.cell (i := 5) rfl
      have f5 := H1.out.br.free (i := 5)
      go_wp2_with fail
      refine bodyPost_ret (two_ret rfl (Blk.six (a0 := .int .i64 0) (a1 := .int .i64 0) (a2 := .int .i64 0) (a3 := .int .i64 0) (a4 := .int .i64 0) (a5 := .slice none 0 0) H1.out.br (.int .i64 0) (.int .i64 0) (.int .i64 0) (.int .i64 0) (.int .i64 0) (.slice none 0 0)) rfl rfl) rfl ⟨six_below H1.out.low (Nat.le_refl _) _ _ _ _ _ _, ?_⟩
      rw [show D = none from ?_]
      · rfl
      · rw [← HD.out]
        exact if_neg (fun h => by
          have h1 := (Pl.goodB_iff.1 h.2).1
          rw [show Pl.numB base = true from Pl.numB_iff.2 h1] at HN
          exact absurd HN.out (by decide))

    | true =>
      have hb := Pl.numB_iff.1 hnb
      obtain ⟨hb0, hb1⟩ := hb
      have CN := fun wx => rnum base wx
      rw [hnb] at CN
      clear hnb
      obtain ⟨i0, hi, hz0, hz1, hz2⟩ := infoRec
      go_enter Tryd.func24, Tryd.ntmps24
      go_wp2_with fail
      rw [HWE.out]
      refine HF.out.mono ?_
      rintro e w1 ⟨rfl, b1⟩
      have H1 := Lib.hid (H0.out.below b1)
      have HW1 : Hid (w.heap.size + 2 ≤ w1.heap.size) := by have := HES.out; have := b1.size; show _ ≤ _; omega
      clear b1 H0 HF
      go_wp2_with fail
      refine (CN w1).mono ?_
      rintro e w2 ⟨rfl, rfl⟩
      clear CN
      have hbb := Blk.new w1 #[.int .i64 base, .int .i64 m, .int .i64 prod, .int .i64 seq, .int .i64 time, .slice none 0 0] 24
      have hal := (Below.refl w1.heap.size w1).alloc (Nat.le_refl _) (.cells #[.int .i64 base, .int .i64 m, .int .i64 prod, .int .i64 seq, .int .i64 time, .slice none 0 0] 24)
      have HBB := Lib.hid hbb
      have H2 := Lib.hid (H1.out.below hal)
      clear hbb hal H1
      go_wp2_with fail
      go_loopw [14] (fun iv wr => ∃ (k : Nat) (sv : Value), k ≤ m ∧ iv = .int .i64 k ∧ PB w (w.heap.size + 1) w.heap.size wr ∧ Blk wr w1.heap.size #[.int .i64 base, .int .i64 m, .int .i64 prod, .int .i64 seq, .int .i64 time, sv] 24 ∧ wr.ownsRow (w1.heap.size + 1) 41 4 sv k (((Pl.renum ls base).take k).flatMap cells4)) (fun iv _ => m - (intOf iv).toNat)
      case atStart => exact ⟨0, .slice none 0 0, Nat.zero_le _, rfl, H2.out, HBB.out, World.ownsRow_nil _ _ _ _⟩
      case round =>
        clear H2 HBB
        obtain ⟨k, sv, hk, rfl, hpb, hbb, hown⟩ := hrel
        obtain ⟨sa, sc, rfl⟩ : ∃ sa sc, sv = .slice sa k sc := by
          rcases hown.2 with ⟨rfl, h⟩ | ⟨g, cap, cur, rfl, -⟩
          · exact ⟨none, 0, by rw [h]⟩
          · exact ⟨_, cap, rfl⟩
        have HP := Lib.hid hpb
        have HBB := Lib.hid hbb
        have HO := Lib.hid hown
        clear hpb hbb hown
        by_cases hlt : k < m
        · obtain ⟨x, hx⟩ : ∃ x, ls[k]? = some x := ⟨_, List.getElem?_eq_getElem (by rw [HM.out]; exact hlt)⟩
          obtain ⟨b, off, rfl, hbl, c0, c1, c2, c3⟩ := HC.out k x hx
          have e : ∀ o, wr.cell? ⟨b, o, none⟩ = w.cell? ⟨b, o, none⟩ := fun o => HP.out.low.cell (p := ⟨b, o, none⟩) hbl
          rw [← e] at c0 c1 c2 c3
          have HTK := Lib.hid (renum_take ls base k x hx)
          have hal1 : Below wr.heap.size wr (wr.alloc (.cells #[.int .i64 (base + k), .string ⟨x.key.toArray⟩, .string ⟨x.val.toArray⟩, .bool x.gone] 41)) := (Below.refl _ _).alloc (Nat.le_refl _) _
          have es1 : (wr.alloc (.cells #[.int .i64 (base + k), .string ⟨x.key.toArray⟩, .string ⟨x.val.toArray⟩, .bool x.gone] 41)).heap.size = wr.heap.size + 1 := by simp
          have hal2 : Below (wr.alloc (.cells #[.int .i64 (base + k), .string ⟨x.key.toArray⟩, .string ⟨x.val.toArray⟩, .bool x.gone] 41)).heap.size (wr.alloc (.cells #[.int .i64 (base + k), .string ⟨x.key.toArray⟩, .string ⟨x.val.toArray⟩, .bool x.gone] 41)) ((wr.alloc (.cells #[.int .i64 (base + k), .string ⟨x.key.toArray⟩, .string ⟨x.val.toArray⟩, .bool x.gone] 41)).alloc (.cells #[.int .i64 (base + k), .string ⟨x.key.toArray⟩, .string ⟨x.val.toArray⟩, .bool x.gone] 41)) := (Below.refl _ _).alloc (Nat.le_refl _) _
          have hbk := Blk.new (wr.alloc (.cells #[.int .i64 (base + k), .string ⟨x.key.toArray⟩, .string ⟨x.val.toArray⟩, .bool x.gone] 41)) #[.int .i64 (base + k), .string ⟨x.key.toArray⟩, .string ⟨x.val.toArray⟩, .bool x.gone] 41
          rw [es1] at hbk
          have HBK := Lib.hid hbk
          have HP4 := Lib.hid ((HP.out.below hal1).below hal2)
          have HB4 := Lib.hid ((HBB.out.below hal1).below hal2)
          have HO4 := Lib.hid (own_below (own_below HO.out hal1) hal2)
          have HS4 : Hid (w1.heap.size + 1 ≤ ((wr.alloc (.cells #[.int .i64 (base + k), .string ⟨x.key.toArray⟩, .string ⟨x.val.toArray⟩, .bool x.gone] 41)).alloc (.cells #[.int .i64 (base + k), .string ⟨x.key.toArray⟩, .string ⟨x.val.toArray⟩, .bool x.gone] 41)).heap.size) := by
            have := HBB.out.lt
            show _ ≤ _
            simp
            omega
          have t5 : World.cell? _ ⟨w1.heap.size, 5, none⟩ = some (.slice sa k sc) := (HBB.out.below hal1).cell (i := 5) rfl
          clear hal1 es1 hal2 hbk HBB HO HP e hbl hx
          go_wp2_with (at_builtin; refine wpList_append_own _ rfl _ _ 22 rfl (w1.heap.size + 1) 41 i0 (.agg zeroR) 4 48 Tryd.underlying22 hi hz0 hz1 hz2 rfl (by decide) _ _ _ rfl HO4.out ⟨wr.heap.size + 1, 0, none⟩ 1 1 (cells4 { x with off := base + k }) rfl rfl ?c1 ?c2 ?c3 ?c4 ?c5 ?_)
          case c1 =>
            intro j u hj
            match j, hj with
            | 0, hj => obtain rfl := Option.some.inj hj; exact HBK.out.cell (i := 0) rfl
            | 1, hj => obtain rfl := Option.some.inj hj; exact HBK.out.cell (i := 1) rfl
            | 2, hj => obtain rfl := Option.some.inj hj; exact HBK.out.cell (i := 2) rfl
            | 3, hj => obtain rfl := Option.some.inj hj; exact HBK.out.cell (i := 3) rfl
            | j + 4, hj => simp [cells4] at hj
          case c2 =>
            intro u hu
            simp only [cells4, List.mem_cons, List.not_mem_nil, or_false] at hu
            rcases hu with rfl | rfl | rfl | rfl <;> rfl
          case c3 => unfold maxLen; omega
          case c4 => omega
          case c5 => exact HS4.out
          intro v' w9 hown9 hgrow9 _
          have HP9 := Lib.hid (HP4.out.grown hgrow9 (fun k hk => (HO4.out.lt k hk).1) (by have := HW1.out; omega) (by have := HW1.out; omega))
          have HB9 := Lib.hid (HB4.out.grown hgrow9 (fun k hk => (HO4.out.lt k hk).1) (Nat.lt_succ_self _))
          have HO9 : Hid (w9.ownsRow (w1.heap.size + 1) 41 4 v' (k + 1) (((Pl.renum ls base).take (k + 1)).flatMap cells4)) := by
            show World.ownsRow _ _ _ _ _ _ _
            rw [HTK.out, List.flatMap_append]
            simpa using hown9
          obtain ⟨a', cap', rfl⟩ : ∃ a' cap', v' = .slice a' (k + 1) cap' := by
            rcases HO9.out.2 with ⟨rfl, h⟩ | ⟨g', cap', cur, rfl, -⟩
            · exact absurd h (by omega)
            · exact ⟨_, cap', rfl⟩
          have q5 := HB9.out.cell (i := 5) rfl
          have q6 := HB9.out.free (i := 5)
          clear hown9 hgrow9
          go_wp2_with fail
          go_roundw
          case rel => exact ⟨k + 1, .slice a' (k + 1) cap', by omega, by go_num, HP9.out.aside (Kb.setCell _ _) (by have := HW1.out; omega) (by have := HW1.out; omega) (by have := HW1.out; omega), HB9.out.set _, own_kb HO9.out (Kb.setCell _ _) (Nat.lt_succ_self _)⟩
          case measure => simp [intOf]; omega
        · obtain rfl : k = m := by omega
          have htk : (Pl.renum ls base).take k = Pl.renum ls base := List.take_of_length_le (by rw [Pl.renum_length, HM.out]; exact Nat.le_refl _)
          have ho := HO.out
          rw [htk] at ho
          have hlr : (Pl.renum ls base).length = k := by rw [Pl.renum_length, HM.out]
          have hrec : Recs (.slice sa k sc) (Pl.renum ls base) wr := own_recs (by rw [hlr]; exact ho)
          have CGD := rgood base k prod seq time (Pl.renum ls base) _ wr hrec (by rw [hlr]; omega) ⟨by omega, by omega⟩ hbase
          have HHO := Lib.hid ho
          have HLR := Lib.hid hlr
          clear htk hlr HO ho
          have b0 := HBB.out.cell (i := 0) rfl
          have b1 := HBB.out.cell (i := 1) rfl
          have b2 := HBB.out.cell (i := 2) rfl
          have b3 := HBB.out.cell (i := 3) rfl
          have b4 := HBB.out.cell (i := 4) rfl
          have b5 := HBB.out.cell (i := 5) rfl
          have HRC := Lib.hid hrec
          cases hgd : Pl.goodB ⟨base, k, prod, seq, time, Pl.renum ls base⟩ with
          | false =>
            rw [hgd] at CGD
            have HG0 := Lib.hid hgd
            have HGC := Lib.hid CGD
            clear hgd CGD hrec
            go_wp2_with fail
            refine HGC.out.mono ?_
            rintro e w4 ⟨rfl, b4'⟩
            have H4 := Lib.hid (HP.out.below b4')
            clear b4' b0 b1 b2 b3 b4 b5 HGC
            have n0 : World.cell? _ ⟨w.heap.size + 1, 0, none⟩ = some (.int .i64 0) := H4.out.bn.cell (i := 0) rfl
            have n1 : World.cell? _ ⟨w.heap.size + 1, 1, none⟩ = some (.int .i64 0) := H4.out.bn.cell (i := 1) rfl
            have n2 : World.cell? _ ⟨w.heap.size + 1, 2, none⟩ = some (.int .i64 0) := H4.out.bn.cell (i := 2) rfl
            have n3 : World.cell? _ ⟨w.heap.size + 1, 3, none⟩ = some (.int .i64 0) := H4.out.bn.cell (i := 3) rfl
            have n4 : World.cell? _ ⟨w.heap.size + 1, 4, none⟩ = some (.int .i64 0) := H4.out.bn.cell (i := 4) rfl
            have n5 : World.cell? _ ⟨w.heap.size + 1, 5, none⟩ = some (.slice none 0 0) := H4.out.bn.cell (i := 5) rfl
            have r0 : World.cell? _ ⟨w.heap.size, 0, none⟩ = some (.int .i64 0) := H4.out.br.cell (i := 0) rfl
            have f0 := H4.out.br.free (i := 0)
            have r1 : World.cell? _ ⟨w.heap.size, 1, none⟩ = some (.int .i64 0) := H4.out.br.cell (i := 1) rfl
            have f1 := H4.out.br.free (i := 1)
            have r2 : World.cell? _ ⟨w.heap.size, 2, none⟩ = some (.int .i64 0) := H4.out.br.cell (i := 2) rfl
            have f2 := H4.out.br.free (i := 2)
            have r3 : World.cell? _ ⟨w.heap.size, 3, none⟩ = some (.int .i64 0) := H4.out.br.cell (i := 3) rfl
            have f3 := H4.out.br.free (i := 3)
            have r4 : World.cell? _ ⟨w.heap.size, 4, none⟩ = some (.int .i64 0) := H4.out.br.cell (i := 4) rfl
            have f4 := H4.out.br.free (i := 4)
            have r5 : World.cell? _ ⟨w.heap.size, 5, none⟩ = some (.slice none 0 0) := H4.out.br.cell (i := 5) rfl
            have f5 := H4.out.br.free (i := 5)
            go_wp2_with fail
            refine bodyPost_ret (two_ret rfl (Blk.six (a0 := .int .i64 0) (a1 := .int .i64 0) (a2 := .int .i64 0) (a3 := .int .i64 0) (a4 := .int .i64 0) (a5 := .slice none 0 0) H4.out.br (.int .i64 0) (.int .i64 0) (.int .i64 0) (.int .i64 0) (.int .i64 0) (.slice none 0 0)) rfl rfl) rfl ⟨six_below H4.out.low (Nat.le_refl _) _ _ _ _ _ _, ?_⟩
            rw [show D = none from ?_]
            · rfl
            · rw [← HD.out]
              exact if_neg (fun h => by rw [HM.out, HG0.out] at h; exact absurd h.2 (by decide))

          | true =>
            rw [hgd] at CGD
            have HG0 := Lib.hid hgd
            have HGC := Lib.hid CGD
            clear hgd CGD hrec
            go_wp2_with fail
            refine HGC.out.mono ?_
            rintro e w4 ⟨rfl, b4'⟩
            have H4 := Lib.hid (HP.out.below b4')
            have HB4 := Lib.hid (HBB.out.below b4')
            have HO4 := Lib.hid (HRC.out.below b4')
            have HO5 := Lib.hid (own_below HHO.out b4')
            clear b4' b0 b1 b2 b3 b4 b5 HGC
            have b0 := HB4.out.cell (i := 0) rfl
            have b1 := HB4.out.cell (i := 1) rfl
            have b2 := HB4.out.cell (i := 2) rfl
            have b3 := HB4.out.cell (i := 3) rfl
            have b4 := HB4.out.cell (i := 4) rfl
            have b5 := HB4.out.cell (i := 5) rfl
            have r0 : World.cell? _ ⟨w.heap.size, 0, none⟩ = some (.int .i64 0) := H4.out.br.cell (i := 0) rfl
            have f0 := H4.out.br.free (i := 0)
            have r1 : World.cell? _ ⟨w.heap.size, 1, none⟩ = some (.int .i64 0) := H4.out.br.cell (i := 1) rfl
            have f1 := H4.out.br.free (i := 1)
            have r2 : World.cell? _ ⟨w.heap.size, 2, none⟩ = some (.int .i64 0) := H4.out.br.cell (i := 2) rfl
            have f2 := H4.out.br.free (i := 2)
            have r3 : World.cell? _ ⟨w.heap.size, 3, none⟩ = some (.int .i64 0) := H4.out.br.cell (i := 3) rfl
            have f3 := H4.out.br.free (i := 3)
            have r4 : World.cell? _ ⟨w.heap.size, 4, none⟩ = some (.int .i64 0) := H4.out.br.cell (i := 4) rfl
            have f4 := H4.out.br.free (i := 4)
            have r5 : World.cell? _ ⟨w.heap.size, 5, none⟩ = some (.slice none 0 0) := H4.out.br.cell (i := 5) rfl
            have f5 := H4.out.br.free (i := 5)
            go_wp2_with fail
            refine bodyPost_ret (two_ret rfl (Blk.six (a0 := .int .i64 0) (a1 := .int .i64 0) (a2 := .int .i64 0) (a3 := .int .i64 0) (a4 := .int .i64 0) (a5 := .slice none 0 0) H4.out.br (.int .i64 base) (.int .i64 k) (.int .i64 prod) (.int .i64 seq) (.int .i64 time) (.slice sa k sc)) rfl rfl) rfl ⟨six_below H4.out.low (Nat.le_refl _) _ _ _ _ _ _, ?_⟩
            rw [show D = some ⟨base, k, prod, seq, time, Pl.renum ls base⟩ from ?_]
            · exact ⟨_, HO4.out.kb (Kb.six _ _ _ _ _ _ _ _) (fun a n cp e => by
                injection e with e1
                subst e1
                have h := (HO5.out.lt a.block rfl).1
                have := HW1.out
                omega), rfl⟩
            · rw [← HD.out]
              unfold Pl.packB
              rw [HM.out, if_pos ⟨HFB.out, HG0.out⟩]
end Go.Proofs.YthhlegfmikidpaaDoor
