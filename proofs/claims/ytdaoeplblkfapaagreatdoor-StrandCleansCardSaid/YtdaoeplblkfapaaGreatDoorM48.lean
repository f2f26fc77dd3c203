import Derived.Test.YtdaoeplblkfapaaGreatDoorM45
import Derived.Test.YtdaoeplblkfapaaGreatDoorM29
import Derived.Test.YtdaoeplblkfapaaGreatDoorM47

/- THE CONTRACT of the law's 'without'. -/
namespace Go.Proofs.YtdaoeplblkfapaaGreatDoor
open Go.RowKit

theorem take_next' {α : Type} {l : List α} {i : Nat} {x : α} (h : l[i]? = some x) : l.take (i + 1) = l.take i ++ [x] := by rw [List.take_add_one, h]; rfl
theorem mem_snoc_beq {l : List Int} {n x : Int} (h : ¬ n ∈ l) : decide (n ∈ l ++ [x]) = (x == n) := by
  by_cases e : x = n
  · subst e; simp
  · have e' : ¬ n = x := fun h => e h.symm
    simp [h, e, e']
theorem Sl.boxed4 (w : World) (T : TypeId) (c0 c1 c2 c3 : Value) : Sl (w.alloc (.cells #[c0, c1, c2, c3] T)) (.slice (some ⟨w.heap.size, 0, none⟩) 1 1) (some w.heap.size) T 4 1 [c0, c1, c2, c3] :=
  ⟨by simp, .inr ⟨w.heap.size, 0, 1, #[c0, c1, c2, c3], rfl, rfl, heap_alloc_new w _, Nat.le_refl _, by simp, by simp⟩⟩
theorem Sl.boxed6 (w : World) (T : TypeId) (c0 c1 c2 c3 c4 c5 : Value) : Sl (w.alloc (.cells #[c0, c1, c2, c3, c4, c5] T)) (.slice (some ⟨w.heap.size, 0, none⟩) 1 1) (some w.heap.size) T 6 1 [c0, c1, c2, c3, c4, c5] :=
  ⟨by simp, .inr ⟨w.heap.size, 0, 1, #[c0, c1, c2, c3, c4, c5], rfl, rfl, heap_alloc_new w _, Nat.le_refl _, by simp, by simp⟩⟩
set_option maxRecDepth 100000 in
set_option maxHeartbeats 4000000 in
theorem without_any {A : Nat → Prop} (u : Value) (L : List (Pl.Bt × Value)) (lv : Value) (less : List Int) (w : World) (hu : BtIn A w u L) (hl : Ta.Nums w lv less) (hLn : L.length ≤ 200) (hr : ∀ p ∈ L, p.1.recs.length ≤ 8) (hless : less.length ≤ 50) :
    Calls Tryz.prog 39 #[u, lv] w (AllOut w (woL less 0 (L.map (·.1)))) := by
  obtain ⟨ua, uc, rfl⟩ := hu.1.form
  obtain ⟨la, lc, rfl, hlc⟩ := hl
  obtain ⟨LN, hLN⟩ : ∃ n, L.length = n := ⟨_, rfl⟩
  obtain ⟨ln, hln⟩ : ∃ n, less.length = n := ⟨_, rfl⟩
  have HU := Lib.hid hu
  have HLC := Lib.hid hlc
  have HLN := Lib.hid (And.intro hLN hln)
  have HR := Lib.hid hr
  have HS0 := Lib.hid (Sl.empty w 34 6)
  have HB0 := Lib.hid ((Below.refl w.heap.size w).alloc (Nat.le_refl _) (.cells #[] 34))
  rw [hLN] at hLn
  rw [hln] at hless
  rw [hLN, hln]
  clear hu hlc hLN hln hr
  go_enter Tryz.func39, Tryz.ntmps39
  go_wp2_with fail
  go_loopw [5, 6, 7] (fun ov nv iv wr => ∃ (j : Nat) (gb : Option Nat) (M : List (Pl.Bt × Value)), j ≤ LN ∧ iv = .int .i64 j ∧ nv = .int .i64 (cntR ((L.map (·.1)).take j) : Nat) ∧ Sl wr ov gb 34 6 M.length (M.flatMap bc6) ∧ (∀ b, gb = some b → w.heap.size ≤ b) ∧ All (fun b => w.heap.size ≤ b ∧ gb ≠ some b) wr M ∧ M.map (·.1) = woL less 0 ((L.map (·.1)).take j) ∧ Below w.heap.size w wr) (fun _ _ iv _ => LN - (intOf iv).toNat)
  case atStart => exact ⟨0, some w.heap.size, [], Nat.zero_le _, rfl, rfl, HS0.out, fun b hb => (by cases hb; exact Nat.le_refl _), fun p hp => (by cases hp), rfl, HB0.out⟩
  case round =>
    obtain ⟨j, gb, M, hj, rfl, rfl, hs, hgb, hall, hM, hb⟩ := hrel
    obtain ⟨oa, oc, hov⟩ := hs.form
    obtain ⟨mn, hmn⟩ : ∃ n, M.length = n := ⟨_, rfl⟩
    have hmnj : mn = j := by
      have h1 := congrArg List.length hM
      rw [List.length_map, woL_length, List.length_take, List.length_map, HLN.out.1] at h1
      omega
    subst hmnj
    rw [hmn] at hov
    subst hov
    have HS := Lib.hid hs
    have HGB := Lib.hid hgb
    have HALL := Lib.hid hall
    have HM := Lib.hid (And.intro hM hmn)
    have HB := Lib.hid hb
    clear hs hgb hall hM hmn hb HS0 HB0
    by_cases hlt : mn < LN
    · have hd : decide ((mn : Int) < (LN : Int)) = true := by simp; omega
      obtain ⟨⟨⟨base, count, prod, seq, time, recs⟩, rv⟩, hp⟩ : ∃ p, L[mn]? = some p := ⟨_, List.getElem?_eq_getElem (by rw [HLN.out.1]; exact hlt)⟩
      have hbt := HU.out.below HB.out
      obtain ⟨b, o, cap, e1, -, -, hcell, hrv⟩ := hbt.at hp
      have e1a : ua = some ⟨b, o, none⟩ := by injection e1
      subst e1a
      obtain ⟨ra, rc, hrve⟩ := Rds.form hrv
      obtain ⟨rl, hrl⟩ : ∃ n, recs.length = n := ⟨_, rfl⟩
      simp only [hrl] at hrve
      subst hrve
      have c0 : wr.cell? ⟨b, o + mn * 6, none⟩ = some (.int .i64 base) := hcell 0 _ (by decide) rfl
      have c1 : wr.cell? ⟨b, o + mn * 6 + 1, none⟩ = some (.int .i64 count) := hcell 1 _ (by decide) rfl
      have c2 : wr.cell? ⟨b, o + mn * 6 + 2, none⟩ = some (.int .i64 prod) := hcell 2 _ (by decide) rfl
      have c3 : wr.cell? ⟨b, o + mn * 6 + 3, none⟩ = some (.int .i64 seq) := hcell 3 _ (by decide) rfl
      have c4 : wr.cell? ⟨b, o + mn * 6 + 4, none⟩ = some (.int .i64 time) := hcell 4 _ (by decide) rfl
      have c5 : wr.cell? ⟨b, o + mn * 6 + 5, none⟩ = some (.slice ra rl rc) := hcell 5 _ (by decide) rfl
      have i0 : (0 : Int) ≤ (mn : Int) := by omega
      have i1 : (mn : Int) < (LN : Int) := by omega
      have hrl8 : rl ≤ 8 := by have := HR.out _ (List.mem_of_getElem? hp); simp only at this; omega
      obtain ⟨q, hq⟩ : ∃ q, cntR ((L.map (·.1)).take mn) = q := ⟨_, rfl⟩
      have hq200 : q ≤ 1600 := by
        rw [← hq]
        have key : ∀ l : List (Pl.Bt × Value), (∀ p ∈ l, p.1.recs.length ≤ 8) → cntR (l.map (·.1)) ≤ 8 * l.length := fun l => by
          induction l with
          | nil => intro _; exact Nat.le_refl _
          | cons x l ih =>
            intro h
            have h1 := ih fun p hp => h p (List.mem_cons_of_mem _ hp)
            have h2 := h x List.mem_cons_self
            unfold cntR at *
            rw [show rcs ((x :: l).map (·.1)) = x.1.recs ++ rcs (l.map (·.1)) from rfl, List.length_append, List.length_cons]
            omega
        have h1 := key (L.take mn) fun p hp => HR.out p (List.mem_of_mem_take hp)
        rw [List.length_take, List.map_take] at h1
        omega
      rw [hq]
      obtain ⟨wo, rfl⟩ : ∃ wo : World, wo = wr := ⟨_, rfl⟩
      obtain ⟨W1, hW1⟩ : ∃ V, wo.alloc (.cells #[.int .i64 base, .int .i64 count, .int .i64 prod, .int .i64 seq, .int .i64 time, .slice ra rl rc] 34) = V := ⟨_, rfl⟩
      have s1 : W1.heap.size = wo.heap.size + 1 := by rw [← hW1]; simp
      have b1 : Below wo.heap.size wo W1 := by rw [← hW1]; exact (Below.refl _ _).alloc (Nat.le_refl _) _
      have k1 : Blk W1 wo.heap.size #[.int .i64 base, .int .i64 count, .int .i64 prod, .int .i64 seq, .int .i64 time, .slice ra rl rc] 34 := by rw [← hW1]; exact Blk.new _ _ _
      have HL1 : Hid (Sl (W1.alloc (.cells #[] 75)) (.slice (some ⟨wo.heap.size + 1, 0, none⟩) 0 0) (some W1.heap.size) 75 4 0 [] ∧ Blk (W1.alloc (.cells #[] 75)) wo.heap.size #[.int .i64 base, .int .i64 count, .int .i64 prod, .int .i64 seq, .int .i64 time, .slice ra rl rc] 34 ∧ Below wo.heap.size wo (W1.alloc (.cells #[] 75))) := Lib.hid ⟨by rw [← s1]; exact Sl.empty W1 _ 4, k1.alloc _, b1.alloc (by omega) _⟩
      have HS1 := Lib.hid s1
      have HW1 := Lib.hid hW1
      have HRV := Lib.hid hrv
      have HP := Lib.hid (And.intro hp (And.intro hrl hq))
      clear hcell hp hrl hq hrv hbt e1 s1 b1 k1 hW1
      go_wp2_with fail
      rw [HW1.out]
      go_loopw [6, 9, 10, 11, 12] (fun nv rv9 kv _ _ wx => ∃ (k : Nat) (gr : Option Nat), k ≤ rl ∧ kv = .int .i64 k ∧ nv = .int .i64 ((q + k : Nat) : Int) ∧ Sl wx rv9 gr 75 4 (wo1 less q (recs.take k)).length ((wo1 less q (recs.take k)).flatMap cells4) ∧ (∀ b, gr = some b → wo.heap.size + 1 ≤ b) ∧ Blk wx wo.heap.size #[.int .i64 base, .int .i64 count, .int .i64 prod, .int .i64 seq, .int .i64 time, .slice ra rl rc] 34 ∧ Below wo.heap.size wo wx) (fun _ _ kv _ _ _ => rl - (intOf kv).toNat)
      case atStart => exact ⟨0, some W1.heap.size, Nat.zero_le _, rfl, rfl, HL1.out.1, fun b hb => (by cases hb; have := HS1.out; omega), HL1.out.2.1, HL1.out.2.2⟩
      case round =>
        obtain ⟨k, gr, hk, rfl, rfl, hs9, hgr, hbx, hbo⟩ := hrel
        obtain ⟨nn, hnn⟩ : ∃ nn, q + k = nn := ⟨_, rfl⟩
        rw [hnn]
        obtain ⟨qa, qc, hqv⟩ := hs9.form
        subst hqv
        obtain ⟨qn, hqn⟩ : ∃ n, (wo1 less q (recs.take k)).length = n := ⟨_, rfl⟩
        have hqn8 : qn ≤ k := by
          rw [← hqn]
          have h1 := (wo1_sub less (recs.take k) q).length_le
          rw [List.length_take] at h1
          omega
        rw [hqn] at hs9 ⊢
        have HS9 := Lib.hid hs9
        have HGR := Lib.hid hgr
        have HBX := Lib.hid hbx
        have HBO := Lib.hid hbo
        have HQN := Lib.hid hqn
        have q5 : wr.cell? ⟨wo.heap.size, 5, none⟩ = some (.slice ra rl rc) := hbx.cell rfl
        clear hs9 hgr hbo hqn HL1
        by_cases hkl : k < rl
        · have hdk : decide ((k : Int) < (rl : Int)) = true := by simp; omega
          obtain ⟨r, hr⟩ : ∃ r, recs[k]? = some r := ⟨_, List.getElem?_eq_getElem (by rw [HP.out.2.1]; exact hkl)⟩
          have HRK := Lib.hid hr
          clear hr hbx
          obtain ⟨wk, rfl⟩ : ∃ wk : World, wk = wr := ⟨_, rfl⟩
          go_wp2_with fail
          go_loopw [11, 12] (fun bv9 jv wy => ∃ jj : Nat, jj ≤ ln ∧ jv = .int .i64 jj ∧ bv9 = .bool (decide ((nn : Int) ∈ less.take jj)) ∧ wk = wy) (fun _ jv _ => ln - (intOf jv).toNat)
          case atStart => exact ⟨0, Nat.zero_le _, rfl, by simp, rfl⟩
          case round =>
            obtain ⟨jj, hjj, rfl, rfl, rfl⟩ := hrel
            obtain ⟨is, his⟩ : ∃ is, decide ((nn : Int) ∈ less.take jj) = is := ⟨_, rfl⟩
            have HIS := Lib.hid his
            rw [his]
            clear his
            by_cases hjl : jj < ln
            · have hdj : decide ((jj : Int) < (ln : Int)) = true := by simp; omega
              obtain ⟨x, hx⟩ : ∃ x, less[jj]? = some x := ⟨_, List.getElem?_eq_getElem (by rw [HLN.out.2]; exact hjl)⟩
              obtain ⟨lb, lo, rfl, hlcell⟩ := HLC.out jj x hx
              have g0 : wk.cell? ⟨lb, lo + jj, none⟩ = some (.int .i64 x) := (Below.cell (p := ⟨lb, lo + jj, none⟩) (HB.out.trans (HBO.out.mono HB.out.size)) (block_lt_of_cell hlcell)).trans hlcell
              have j0 : (0 : Int) ≤ (jj : Int) := by omega
              have j1 : (jj : Int) < (ln : Int) := by omega
              have HX := Lib.hid (take_next' hx)
              clear hx hlcell
              cases is with
              | true =>
                have ht := of_decide_eq_true HIS.out
                go_wp2_with fail
                go_roundw
                case rel => exact ⟨jj + 1, by omega, by go_num, by rw [HX.out, decide_eq_true (List.mem_append.2 (.inl ht))], trivial⟩
                case measure => simp [intOf]; omega
              | false =>
                have ht := of_decide_eq_false HIS.out
                have HT := Lib.hid ht
                clear ht
                go_wp2_with fail
                go_roundw
                case rel =>
                  exact ⟨jj + 1, by omega, by go_num, by rw [HX.out, mem_snoc_beq HT.out], trivial⟩
                case measure => simp [intOf]; omega
            · obtain rfl : jj = ln := by omega
              have hdj : decide ((jj : Int) < (jj : Int)) = false := by simp
              have hmem : decide ((nn : Int) ∈ less) = is := by
                have h1 := HIS.out
                rwa [List.take_of_length_le (by rw [HLN.out.2]; exact Nat.le_refl _)] at h1
              have HME := Lib.hid hmem
              clear hmem
              have HW1K : Hid (wo1 less q (recs.take (k + 1)) = wo1 less q (recs.take k) ++ (if (nn : Int) ∈ less then [] else [⟨r.off, r.key, r.val, r.gone⟩])) := Lib.hid (by
                rw [take_next' HRK.out, wo1_snoc, List.length_take, HP.out.2.1, Nat.min_eq_left (by omega), hnn])
              cases is with
              | true =>
                have ht := of_decide_eq_true HME.out
                have HF : Hid (wo1 less q (recs.take (k + 1)) = wo1 less q (recs.take k)) := Lib.hid (by rw [HW1K.out, if_pos ht, List.append_nil])
                clear ht
                go_wp2_with fail
                go_roundw
                case rel =>
                  refine ⟨k + 1, gr, by omega, by go_num, ?_, ?_, HGR.out, HBX.out, HBO.out⟩
                  · rw [show q + (k + 1) = nn + 1 by omega]; go_num
                  · rw [HF.out, HQN.out]; exact HS9.out
                case measure => simp [intOf]; omega
              | false =>
                have ht := of_decide_eq_false HME.out
                have HF : Hid (wo1 less q (recs.take (k + 1)) = wo1 less q (recs.take k) ++ [⟨r.off, r.key, r.val, r.gone⟩]) := Lib.hid (by rw [HW1K.out, if_neg ht])
                clear ht
                obtain ⟨rb, ro, rcap, e2, -, -, hrc⟩ := Rds.at (HRV.out.below HBO.out) (by rw [HP.out.2.1]; omega)
                have e2a : ra = some ⟨rb, ro, none⟩ := by injection e2
                subst e2a
                have hcel : ∀ i u, i < 4 → (cells4 r)[i]? = some u → wk.cell? ⟨rb, ro + k * 4 + i, none⟩ = some u := fun i u hi hu => by
                  have := hrc (k * 4 + i) u (by rw [flat_at cells4 4 (fun _ => rfl) recs k r HRK.out i hi]; exact hu)
                  rw [← Nat.add_assoc] at this
                  exact this
                obtain ⟨roff, rkey, rval, rgone⟩ := r
                have m0 : wk.cell? ⟨rb, ro + k * 4, none⟩ = some (.int .i64 roff) := hcel 0 _ (by decide) rfl
                have m1 : wk.cell? ⟨rb, ro + k * 4 + 1, none⟩ = some (.string ⟨rkey.toArray⟩) := hcel 1 _ (by decide) rfl
                have m2 : wk.cell? ⟨rb, ro + k * 4 + 2, none⟩ = some (.string ⟨rval.toArray⟩) := hcel 2 _ (by decide) rfl
                have m3 : wk.cell? ⟨rb, ro + k * 4 + 3, none⟩ = some (.bool rgone) := hcel 3 _ (by decide) rfl
                have l0 : (0 : Int) ≤ (k : Int) := by omega
                have l1 : (k : Int) < (rl : Int) := by omega
                have hal : Below wk.heap.size wk (wk.alloc (.cells #[.int .i64 roff, .string ⟨rkey.toArray⟩, .string ⟨rval.toArray⟩, .bool rgone] 75)) := (Below.refl _ _).alloc (Nat.le_refl _) _
                have HSB : Hid (Sl (wk.alloc (.cells #[.int .i64 roff, .string ⟨rkey.toArray⟩, .string ⟨rval.toArray⟩, .bool rgone] 75)) (.slice qa qn qc) gr 75 4 qn ((wo1 less q (recs.take k)).flatMap cells4)) := Lib.hid (HS9.out.alloc _)
                have HSC := Lib.hid (Rds.of_sl (A := fun _ => True) (Sl.boxed4 wk 75 (.int .i64 roff) (.string ⟨rkey.toArray⟩) (.string ⟨rval.toArray⟩) (.bool rgone)) fun _ _ => trivial)
                have HAL := Lib.hid hal
                obtain ⟨i0', hi0, hz0, hz1, hz2⟩ := infoRec
                clear hcel hrc e2 hal
                go_wp2_with (at_builtin; refine wpList_append_rd (by rfl) _ _ 32 (by rfl) 75 i0' (.agg zeroR) 4 48 Tryz.underlying32 hi0 hz0 hz1 hz2 rfl _ gr qn _ (by rfl) HSB.out _ 1 [.int .i64 roff, .string ⟨rkey.toArray⟩, .string ⟨rval.toArray⟩, .bool rgone] (by rfl) HSC.out (fun u hu => by simp only [List.mem_cons, List.not_mem_nil, or_false] at hu; rcases hu with rfl | rfl | rfl | rfl <;> rfl) (by omega) (by omega) ?_)
                intro v9 w9 g9 hs9 hg9 hn9
                have hne : some wo.heap.size ≠ gr := fun e => by have := HGR.out _ e.symm; omega
                have HE : Hid (Sl w9 v9 g9 75 4 (wo1 less q (recs.take (k + 1))).length ((wo1 less q (recs.take (k + 1))).flatMap cells4) ∧ (∀ b, g9 = some b → wo.heap.size + 1 ≤ b) ∧ Blk w9 wo.heap.size #[.int .i64 base, .int .i64 count, .int .i64 prod, .int .i64 seq, .int .i64 time, .slice (some ⟨rb, ro, none⟩) rl rc] 34 ∧ Below wo.heap.size wo w9) := Lib.hid ⟨by
                  rw [HF.out, List.length_append, HQN.out, List.flatMap_append]
                  exact hs9, fun b hb => by
                  rcases hn9 with h | ⟨g, h, hg⟩
                  · exact HGR.out b (h ▸ hb)
                  · rw [h] at hb
                    have e := Option.some.inj hb
                    have h1 := HBO.out.size
                    have h2 := HBX.out.lt
                    try simp at hg
                    omega, (HBX.out.alloc _).grown hg9 hne, (HBO.out.alloc HBO.out.size _).grown hg9 (by have := HBO.out.size; simp; omega) fun b hb => by have := HGR.out b hb; omega⟩
                clear hs9 hg9 hn9
                go_wp2_with fail
                go_roundw
                case rel =>
                  refine ⟨k + 1, g9, by omega, by go_num, ?_, HE.out.1, HE.out.2.1, HE.out.2.2.1, HE.out.2.2.2⟩
                  rw [show q + (k + 1) = nn + 1 by omega]; go_num
                case measure => simp [intOf]; omega
        · obtain rfl : k = rl := by omega
          have hdk : decide ((k : Int) < (k : Int)) = false := by simp
          have hall : recs.take k = recs := List.take_of_length_le (by rw [HP.out.2.1]; exact Nat.le_refl _)
          have HAL := Lib.hid hall
          clear hall hbx
          obtain ⟨wk, rfl⟩ : ∃ wk : World, wk = wr := ⟨_, rfl⟩
          have f5 : wk.frozen? ⟨wo.heap.size, 5, none⟩ = false := HBX.out.free
          obtain ⟨W2, hW2⟩ : ∃ V, wk.setCell ⟨wo.heap.size, 5, none⟩ (.slice qa qn qc) = V := ⟨_, rfl⟩
          have hk2 : Blk W2 wo.heap.size #[.int .i64 base, .int .i64 count, .int .i64 prod, .int .i64 seq, .int .i64 time, .slice qa qn qc] 34 := by rw [← hW2]; exact HBX.out.set (i := 5) (.slice qa qn qc)
          have hb2 : Below wo.heap.size wo W2 := by rw [← hW2]; exact Below.setCell (p := ⟨wo.heap.size, 5, none⟩) HBO.out (Nat.le_refl _) _
          have hsz2 : W2.heap.size = wk.heap.size := by rw [← hW2]; simp [World.setCell]
          have hgrl : ∀ b, gr = some b → b < wk.heap.size := HS9.out.lt
          have hsr2 : Sl W2 (.slice qa qn qc) gr 75 4 qn ((wo1 less q recs).flatMap cells4) := by
            have h1 := HS9.out
            rw [HAL.out] at h1
            rw [← hW2]
            exact h1.same fun b hb => Below.heap_setCell _ _ _ _ (by have := HGR.out b hb; show b ≠ wo.heap.size; omega)
          have hso2 : Sl W2 (.slice oa mn oc) gb 34 6 mn (M.flatMap bc6) := by
            have h1 := HS.out
            rw [HM.out.2] at h1
            exact h1.same fun b hb => hb2.block b (HS.out.lt b hb)
          have p0 : W2.cell? ⟨wo.heap.size, 0, none⟩ = some (.int .i64 base) := hk2.cell rfl
          have p1 : W2.cell? ⟨wo.heap.size, 1, none⟩ = some (.int .i64 count) := hk2.cell rfl
          have p2 : W2.cell? ⟨wo.heap.size, 2, none⟩ = some (.int .i64 prod) := hk2.cell rfl
          have p3 : W2.cell? ⟨wo.heap.size, 3, none⟩ = some (.int .i64 seq) := hk2.cell rfl
          have p4 : W2.cell? ⟨wo.heap.size, 4, none⟩ = some (.int .i64 time) := hk2.cell rfl
          have p5 : W2.cell? ⟨wo.heap.size, 5, none⟩ = some (.slice qa qn qc) := hk2.cell rfl
          have HSO : Hid (Sl (W2.alloc (.cells #[.int .i64 base, .int .i64 count, .int .i64 prod, .int .i64 seq, .int .i64 time, .slice qa qn qc] 34)) (.slice oa mn oc) gb 34 6 mn (M.flatMap bc6)) := Lib.hid (hso2.alloc _)
          have HSN := Lib.hid (Rds.of_sl (A := fun _ => True) (Sl.boxed6 W2 34 (.int .i64 base) (.int .i64 count) (.int .i64 prod) (.int .i64 seq) (.int .i64 time) (.slice qa qn qc)) fun _ _ => trivial)
          have HSR := Lib.hid hsr2
          have HB2 := Lib.hid hb2
          have HZ2 := Lib.hid (And.intro hsz2 hgrl)
          obtain ⟨i0', hi0, hz0, hz1, hz2⟩ := infoBt
          clear hk2 hb2 hsz2 hgrl hsr2 hso2
          go_wp2_with (at_builtin; refine wpList_append_rd (by rfl) _ _ 29 (by rfl) 34 i0' (.agg zeroB) 6 64 Tryz.underlying29 hi0 hz0 hz1 hz2 rfl _ gb mn _ (by rfl) HSO.out _ 1 [.int .i64 base, .int .i64 count, .int .i64 prod, .int .i64 seq, .int .i64 time, .slice qa qn qc] (by rfl) HSN.out (fun u hu => by simp only [List.mem_cons, List.not_mem_nil, or_false] at hu; rcases hu with rfl | rfl | rfl | rfl | rfl | rfl <;> rfl) (by omega) (by omega) ?_)
          intro v9 w9 g9 hs9 hg9 hn9
          have hgs : W2.heap.size ≤ (W2.alloc (.cells #[.int .i64 base, .int .i64 count, .int .i64 prod, .int .i64 seq, .int .i64 time, .slice qa qn qc] 34)).heap.size := by simp
          have hn9' : ∀ b, b < W2.heap.size → gb ≠ some b → g9 ≠ some b := fun b hl hne e => by
            rcases hn9 with h | ⟨g, h, hg⟩
            · exact hne (h ▸ e)
            · rw [h] at e
              have e' := Option.some.inj e
              try simp at hg
              omega
          have h9b : ∀ b, b < W2.heap.size → some b ≠ gb → w9.heap[b]? = W2.heap[b]? := fun b hl hne => (hg9.block b (by omega) hne).trans (Below.heap_alloc _ _ _ hl)
          have hwle := HB.out.size
          have hoW := HB2.out.size
          have hs9W : W2.heap.size ≤ w9.heap.size := Nat.le_trans hgs hg9.size
          have hnew : RcIn (fun b => w.heap.size ≤ b ∧ g9 ≠ some b) w9 (.slice qa qn qc) (wo1 less q recs) := by
            have hne : ∀ b, gr = some b → some b ≠ gb := fun b hb e => by
              have h1 := HS.out.lt b e.symm
              have h2 := HGR.out b hb
              omega
            have h1 : Sl w9 (.slice qa qn qc) gr 75 4 qn ((wo1 less q recs).flatMap cells4) := HSR.out.same fun b hb => h9b b (by have := HZ2.out.1; have := HZ2.out.2 b hb; omega) (hne b hb)
            have hql : (wo1 less q recs).length = qn := by rw [← HQN.out, HAL.out]
            unfold RcIn
            rw [hql]
            exact Rds.of_sl h1 fun b hb => ⟨by have := HGR.out b hb; omega, hn9' b (by have := HZ2.out.1; have := HZ2.out.2 b hb; omega) fun e => hne b hb e.symm⟩
          have hold : All (fun b => w.heap.size ≤ b ∧ g9 ≠ some b) w9 M := fun p hp => Rds.keep (HALL.out p hp) (by omega) fun b hb hl => ⟨(h9b b (by omega) fun e => hb.2 e.symm).trans (HB2.out.block b hl), hb.1, hn9' b (by omega) hb.2⟩
          have hlk : (L.map (·.1))[mn]? = some ⟨base, count, prod, seq, time, recs⟩ := by rw [List.getElem?_map, HP.out.1]; rfl
          have HE : Hid (Sl w9 v9 g9 34 6 (M ++ [((woB less q ⟨base, count, prod, seq, time, recs⟩ : Pl.Bt), Value.slice qa qn qc)]).length ((M ++ [((woB less q ⟨base, count, prod, seq, time, recs⟩ : Pl.Bt), Value.slice qa qn qc)]).flatMap bc6) ∧ (∀ b, g9 = some b → w.heap.size ≤ b) ∧ All (fun b => w.heap.size ≤ b ∧ g9 ≠ some b) w9 (M ++ [((woB less q ⟨base, count, prod, seq, time, recs⟩ : Pl.Bt), Value.slice qa qn qc)]) ∧ (M ++ [((woB less q ⟨base, count, prod, seq, time, recs⟩ : Pl.Bt), Value.slice qa qn qc)]).map (·.1) = woL less 0 ((L.map (·.1)).take (mn + 1)) ∧ Below w.heap.size w w9 ∧ cntR ((L.map (·.1)).take (mn + 1)) = q + k) := Lib.hid ⟨by
            rw [List.length_append, HM.out.2, List.flatMap_append]
            exact hs9, fun b hb => by
            rcases hn9 with h | ⟨g, h, hg⟩
            · exact HGB.out b (h ▸ hb)
            · rw [h] at hb
              have e := Option.some.inj hb
              try simp at hg
              omega, fun p hp => by
            rcases List.mem_append.1 hp with hp | hp
            · exact hold p hp
            · rw [List.mem_singleton.1 hp]; exact hnew, by
            rw [List.map_append, HM.out.1, take_next' hlk, woL_snoc, HP.out.2.2, Nat.zero_add]
            rfl, ((HB.out.trans (HB2.out.mono hwle)).alloc (by omega) _).grown hg9 (by omega) HGB.out, by
            rw [take_next' hlk]
            have h1 := HP.out.2.2
            unfold cntR at h1 ⊢
            rw [rcs_append, rcs_one, List.length_append, h1, HP.out.2.1]⟩
          clear hs9 hg9 hn9 hgs hn9' h9b hwle hoW hs9W hnew hold hlk
          go_wp2_with fail
          go_roundw
          case rel =>
            refine ⟨mn + 1, g9, _, by omega, by go_num, ?_, HE.out.1, HE.out.2.1, HE.out.2.2.1, HE.out.2.2.2.1, HE.out.2.2.2.2.1⟩
            rw [HE.out.2.2.2.2.2]; go_num
          case measure => simp [intOf]; omega
    · obtain rfl : mn = LN := by omega
      have hd : decide ((mn : Int) < (mn : Int)) = false := by simp
      have hfin : AllOut w (woL less 0 (L.map (·.1))) (.returned (.slice oa mn oc)) wr := by
        have h1 := HM.out.1
        rw [List.take_of_length_le (by rw [List.length_map, HLN.out.1]; exact Nat.le_refl _)] at h1
        exact ⟨_, gb, M, rfl, HS.out, HGB.out, HALL.out, h1, HB.out⟩
      have HF := Lib.hid hfin
      clear hfin
      go_wp2_with fail
      go_ret
      exact HF.out
end Go.Proofs.YtdaoeplblkfapaaGreatDoor

/- WHAT THE LAW OF THE CLEANINGS HOLDS: lists beside the strand; the log as it may be found; the list that is wanted. -/
namespace Go.Proofs.YtdaoeplblkfapaaGreatDoor
open Go.RowKit

/-- What is wanted behind r segments. -/
def mixL (k q r : Nat) (a b : List Pl.Bt) : List Pl.Bt := if k < r ∧ q ≤ k then a else b
theorem mixL_yes {k q r : Nat} {a b : List Pl.Bt} (h1 : k < r) (h2 : q ≤ k) : mixL k q r a b = a := if_pos ⟨h1, h2⟩
theorem mixL_no {k q r : Nat} {a b : List Pl.Bt} (h : ¬ (k < r ∧ q ≤ k)) : mixL k q r a b = b := if_neg h
theorem mixL_next {k q r : Nat} {a b : List Pl.Bt} (h : ¬ (r = k ∧ q ≤ k)) : mixL k q (r + 1) a b = mixL k q r a b := by
  unfold mixL
  by_cases h1 : k < r ∧ q ≤ k
  · rw [if_pos h1, if_pos ⟨by omega, h1.2⟩]
  · rw [if_neg h1, if_neg (by omega)]
/-- How many batches each segment has. -/
def cntL (G : List Sg) : List Int := G.map fun g => ((g.l.length : Nat) : Int)
theorem cntL_length (G : List Sg) : (cntL G).length = G.length := List.length_map _
theorem cntL_at {G : List Sg} {j : Nat} {g : Sg} (h : G[j]? = some g) : (cntL G)[j]? = some ((g.l.length : Nat) : Int) := by
  unfold cntL
  rw [List.getElem?_map, h]
  rfl
theorem cntL_snoc {G : List Sg} {j : Nat} {g : Sg} (h : G[j]? = some g) : (cntL (G.take (j + 1))).map icell = (cntL (G.take j)).map icell ++ [.int .i64 ((g.l.length : Nat) : Int)] := by
  unfold cntL
  rw [take_nxt h, List.map_append, List.map_append]
  rfl
theorem woL_mem {less : List Int} : ∀ {l : List Pl.Bt} {n : Nat} {p : Pl.Bt}, p ∈ woL less n l → ∃ b ∈ l, p.recs.length ≤ b.recs.length
  | [], _, _, h => by cases h
  | b :: l, n, p, h => by
    rcases List.mem_cons.1 (show p ∈ woB less n b :: woL less (n + b.recs.length) l from h) with rfl | h
    · exact ⟨b, List.mem_cons_self, (wo1_sub less b.recs n).length_le⟩
    · obtain ⟨c, hc, h2⟩ := woL_mem h
      exact ⟨c, List.mem_cons_of_mem _ hc, h2⟩
/-- The lists that are only read: all batches, the bases, how many batches, the segment's, those that were put. -/
structure Kl (A : Nat → Prop) (wv : Value) (W0 : List Pl.Bt) (bv : Value) (bs : List Int) (cv : Value) (cs : List Int) (ov : Value) (O0 : List Pl.Bt) (nv : Value) (N0 : List Pl.Bt) (W : World) : Prop where
  was : ∃ L, BtIn A W wv L ∧ L.map (·.1) = W0
  bases : Rds A W bv 1 bs.length (bs.map icell)
  counts : Rds A W cv 1 cs.length (cs.map icell)
  old : ∃ L, BtIn A W ov L ∧ L.map (·.1) = O0
  now : ∃ L, BtIn A W nv L ∧ L.map (·.1) = N0
section
variable {A Q : Nat → Prop} {wv bv cv ov nv : Value} {W0 O0 N0 : List Pl.Bt} {bs cs : List Int} {W W' : World}
theorem Kl.keep {A' : Nat → Prop} (h : Kl A wv W0 bv bs cv cs ov O0 nv N0 W) (hs : W.heap.size ≤ W'.heap.size) (k : ∀ b, A b → b < W.heap.size → W'.heap[b]? = W.heap[b]? ∧ A' b) : Kl A' wv W0 bv bs cv cs ov O0 nv N0 W' := by
  obtain ⟨⟨L1, h1, e1⟩, h2, h3, ⟨L4, h4, e4⟩, ⟨L5, h5, e5⟩⟩ := h
  exact ⟨⟨L1, ⟨h1.1.keep hs k, fun p hp => Rds.keep (h1.2 p hp) hs k⟩, e1⟩, h2.keep hs k, h3.keep hs k, ⟨L4, ⟨h4.1.keep hs k, fun p hp => Rds.keep (h4.2 p hp) hs k⟩, e4⟩, ⟨L5, ⟨h5.1.keep hs k, fun p hp => Rds.keep (h5.2 p hp) hs k⟩, e5⟩⟩
theorem Kl.below (h : Kl A wv W0 bv bs cv cs ov O0 nv N0 W) (b : Below W.heap.size W W') : Kl A wv W0 bv bs cv cs ov O0 nv N0 W' := h.keep b.size fun k hk hl => ⟨b.block k hl, hk⟩
theorem Kl.kq (h : Kl A wv W0 bv bs cv cs ov O0 nv N0 W) (k : Kq Q W W') (hq : ∀ b, A b → b < W.heap.size → Q b) : Kl A wv W0 bv bs cv cs ov O0 nv N0 W' := h.keep k.size fun b hb hl => ⟨k.block b hl (hq b hb hl), hb⟩
end
/-- What Put and Drop answered, and what log there may be then: Gs without its first j segments. -/
def Ways (er fr : Int) (G G' Gs : List Sg) (j nd : Nat) : Prop := j ≤ nd ∧ ((er = 0 ∧ Gs = G' ∧ (fr = 0 ∧ j = nd ∨ fr = 10)) ∨ (er = 10 ∧ fr = 0 ∧ j = 0 ∧ (Gs = G ∨ Gs = G')))
/-- The segment's batches in such a log. -/
theorem Ways.seg {er fr : Int} {G Gs : List Sg} {j nd k : Nat} {gk : Sg} {l' : List Pl.Bt} (h : Ways er fr G (G.set k ⟨gk.first, l'⟩) Gs j nd) (hk : G[k]? = some gk) (hl : l'.length = gk.l.length) :
    ∃ ml : List Pl.Bt, Gs = G.set k ⟨gk.first, ml⟩ ∧ ml.length = gk.l.length ∧ (ml = l' ∨ er = 10 ∧ ml = gk.l) := by
  have hself : G = G.set k ⟨gk.first, gk.l⟩ := by
    obtain ⟨hlt, e⟩ := List.getElem?_eq_some_iff.1 hk
    rw [← e, List.set_getElem_self]
  rcases h.2 with ⟨-, rfl, -⟩ | ⟨rfl, -, -, rfl | rfl⟩
  · exact ⟨l', rfl, hl, .inl rfl⟩
  · exact ⟨gk.l, hself, rfl, .inr ⟨rfl, rfl⟩⟩
  · exact ⟨l', rfl, hl, .inl rfl⟩
/-- The batches of a log with a segment's first r ones put in their place. -/
def curL (G : List Sg) (k : Nat) (ml gl : List Pl.Bt) (r : Nat) : List Pl.Bt := fla (G.take k) ++ (ml.take r ++ gl.drop r) ++ fla (G.drop (k + 1))
theorem fla_at {G : List Sg} {k : Nat} {g : Sg} (hk : G[k]? = some g) : fla G = fla (G.take k) ++ g.l ++ fla (G.drop (k + 1)) := by
  have e : G = G.take k ++ g :: G.drop (k + 1) := by
    conv => lhs; rw [← List.take_append_drop k G]
    rw [drop_nxt hk]
  conv => lhs; rw [e]
  rw [fla_append, show fla (g :: G.drop (k + 1)) = g.l ++ fla (G.drop (k + 1)) from rfl, List.append_assoc]
theorem curL_zero {G : List Sg} {k : Nat} {g : Sg} (hk : G[k]? = some g) (ml : List Pl.Bt) : curL G k ml g.l 0 = fla G := by
  rw [fla_at hk]
  rfl
theorem curL_all {G : List Sg} {k : Nat} {g : Sg} (hk : G[k]? = some g) {ml : List Pl.Bt} (hl : ml.length = g.l.length) : curL G k ml g.l ml.length = fla (G.set k ⟨g.first, ml⟩) := by
  have hlt := (List.getElem?_eq_some_iff.1 hk).1
  have hk' : (G.set k ⟨g.first, ml⟩)[k]? = some ⟨g.first, ml⟩ := List.getElem?_set_self hlt
  rw [fla_at hk']
  unfold curL
  rw [List.take_length, hl, List.drop_length, List.append_nil, List.take_set_of_le (Nat.le_refl _), List.drop_set_of_lt (by omega)]
theorem curL_next {G : List Sg} {k : Nat} {ml gl : List Pl.Bt} {r : Nat} {b : Pl.Bt} (hl : ml.length = gl.length) (hb : ml[r]? = some b) : (curL G k ml gl r).set ((fla (G.take k)).length + r) b = curL G k ml gl (r + 1) := by
  have hr := (List.getElem?_eq_some_iff.1 hb).1
  have e1 : gl.drop r = gl[r]'(by omega) :: gl.drop (r + 1) := List.drop_eq_getElem_cons (by omega)
  have e2 : ml.take (r + 1) = ml.take r ++ [b] := take_nxt hb
  unfold curL
  rw [e2, e1]
  rw [List.append_assoc, List.set_append_right _ _ (by omega), Nat.add_sub_cancel_left, List.append_assoc, List.set_append_right _ _ (by rw [List.length_take]; omega), List.length_take, Nat.min_eq_left (by omega), Nat.sub_self]
  simp
  rw [e1]
  rfl
theorem curL_length {G : List Sg} {k : Nat} {g : Sg} (hk : G[k]? = some g) {ml : List Pl.Bt} (hl : ml.length = g.l.length) (r : Nat) : (curL G k ml g.l r).length = (fla G).length := by
  rw [fla_at hk]
  unfold curL
  simp only [List.length_append, List.length_take, List.length_drop]
  omega
/-- The list that is wanted, in memory of its own behind w0. -/
def Wt (w0 : World) (wv : Value) (gb : Option Nat) (l : List Pl.Bt) (W : World) : Prop :=
  ∃ L, Sl W wv gb 34 6 L.length (L.flatMap bc6) ∧ L.map (·.1) = l ∧ (∀ b, gb = some b → w0.heap.size ≤ b) ∧ All (fun b => gb ≠ some b) W L ∧ Below w0.heap.size w0 W
section
variable {w0 W W' : World} {wv : Value} {gb : Option Nat} {l : List Pl.Bt}
theorem Wt.low (h : Wt w0 wv gb l W) : Below w0.heap.size w0 W := let ⟨_, _, _, _, _, h⟩ := h; h
theorem Wt.below (h : Wt w0 wv gb l W) (b : Below W.heap.size W W') : Wt w0 wv gb l W' := by
  obtain ⟨L, h1, h2, h3, h4, h5⟩ := h
  exact ⟨L, h1.below b, h2, h3, h4.below b, h5.trans (b.mono h5.size)⟩
theorem Wt.form (h : Wt w0 wv gb l W) : ∃ a cap, wv = .slice a l.length cap := by
  obtain ⟨L, h1, rfl, -⟩ := h
  rw [List.length_map]
  exact h1.form
/-- The cells of the batch at a place: they may be written. -/
theorem Wt.at (h : Wt w0 wv gb l W) {c : Nat} (hc : c < l.length) : ∃ g p cap, wv = .slice (some ⟨g, p, none⟩) l.length cap ∧ gb = some g ∧ (∀ i, i < 6 → ∃ u, W.cell? ⟨g, p + c * 6 + i, none⟩ = some u) ∧ ∀ o, W.frozen? ⟨g, o, none⟩ = false := by
  obtain ⟨L, h1, rfl, -⟩ := h
  rw [List.length_map] at hc ⊢
  obtain ⟨g, p, cap, rfl, rfl⟩ : ∃ g p cap, wv = .slice (some ⟨g, p, none⟩) L.length cap ∧ gb = some g := by
    rcases h1.2 with ⟨-, -, h⟩ | ⟨g, p, cap, cur, e1, e2, -⟩
    · omega
    · exact ⟨g, p, cap, e2, e1⟩
  have hl := h1.1
  refine ⟨g, p, cap, rfl, rfl, fun i hi => ?_, fun o => h1.frozen rfl o⟩
  have h3 := h1.cell rfl (c * 6 + i) _ (List.getElem?_eq_getElem (by omega))
  rw [← Nat.add_assoc] at h3
  exact ⟨_, h3⟩
theorem Wt.put {g p cap c n : Nat} {b : Pl.Bt} {rv : Value} (h : Wt w0 (.slice (some ⟨g, p, none⟩) n cap) (some g) l W) (hc : c < l.length) (hr : RcIn (fun k => g ≠ k) W rv b.recs) :
    Wt w0 (.slice (some ⟨g, p, none⟩) n cap) (some g) (l.set c b) ((((((W.setCell ⟨g, p + c * 6, none⟩ (.int .i64 b.base)).setCell ⟨g, p + c * 6 + 1, none⟩ (.int .i64 b.count)).setCell ⟨g, p + c * 6 + 2, none⟩ (.int .i64 b.prod)).setCell ⟨g, p + c * 6 + 3, none⟩ (.int .i64 b.seq)).setCell ⟨g, p + c * 6 + 4, none⟩ (.int .i64 b.time)).setCell ⟨g, p + c * 6 + 5, none⟩ rv) := by
  obtain ⟨L, h1, rfl, h3, h4, h5⟩ := h
  rw [List.length_map] at hc
  obtain rfl : n = L.length := by
    obtain ⟨_, _, e⟩ := h1.form
    injection e
  obtain ⟨x, hx⟩ : ∃ x, L[c]? = some x := ⟨_, List.getElem?_eq_getElem hc⟩
  have e1 : L = L.take c ++ x :: L.drop (c + 1) := by
    conv => lhs; rw [← List.take_append_drop c L]
    rw [drop_nxt hx]
  have e2 : L.set c (b, rv) = L.take c ++ (b, rv) :: L.drop (c + 1) := by rw [List.set_eq_take_append_cons_drop, if_pos hc]
  have e3 : L.flatMap bc6 = (L.take c).flatMap bc6 ++ bc6 x ++ (L.drop (c + 1)).flatMap bc6 := by
    conv => lhs; rw [e1]
    simp
  have e4 : (L.set c (b, rv)).flatMap bc6 = (L.take c).flatMap bc6 ++ bc6 (b, rv) ++ (L.drop (c + 1)).flatMap bc6 := by rw [e2]; simp
  rw [e3] at h1
  have hs := Sl.set6 (k := c) (A := (L.take c).flatMap bc6) (C := (L.drop (c + 1)).flatMap bc6) h1 (by rw [flat_length bc6 6 bc6_length, List.length_take]; omega) (.int .i64 b.base) (.int .i64 b.count) (.int .i64 b.prod) (.int .i64 b.seq) (.int .i64 b.time) rv
  have hk : ∀ j, j ≠ g → (((((((W.setCell ⟨g, p + c * 6, none⟩ (.int .i64 b.base)).setCell ⟨g, p + c * 6 + 1, none⟩ (.int .i64 b.count)).setCell ⟨g, p + c * 6 + 2, none⟩ (.int .i64 b.prod)).setCell ⟨g, p + c * 6 + 3, none⟩ (.int .i64 b.seq)).setCell ⟨g, p + c * 6 + 4, none⟩ (.int .i64 b.time)).setCell ⟨g, p + c * 6 + 5, none⟩ rv).heap)[j]? = W.heap[j]? := fun j hj =>
    (Below.heap_setCell _ _ _ _ hj).trans ((Below.heap_setCell _ _ _ _ hj).trans ((Below.heap_setCell _ _ _ _ hj).trans ((Below.heap_setCell _ _ _ _ hj).trans ((Below.heap_setCell _ _ _ _ hj).trans (Below.heap_setCell _ _ _ _ hj)))))
  have hg := h3 g rfl
  refine ⟨L.set c (b, rv), ?_, by rw [List.map_set], h3, fun q hq => ?_, ?_⟩
  · rw [List.length_set, e4]
    exact hs
  · have hk2 : ∀ j, some g ≠ some j → j ≠ g := fun j h e => h (by rw [e])
    rcases List.mem_or_eq_of_mem_set hq with hq | rfl
    · exact Rds.keep (h4 q hq) (by simp [World.setCell]) fun j hj _ => ⟨hk j (hk2 j hj), hj⟩
    · exact Rds.keep hr (by simp [World.setCell]) fun j hj _ => ⟨hk j (fun e => hj e.symm), fun e => hj (Option.some.inj e)⟩
  · exact (((((h5.setCell hg _).setCell hg _).setCell hg _).setCell hg _).setCell hg _).setCell hg _
end
end Go.Proofs.YtdaoeplblkfapaaGreatDoor
