import Derived.Test.YtdaoeplblkfapaaGreatDoorM21
import Derived.Test.YtdaoeplblkfapaaGreatDoorM33
import Derived.Test.YtdaoeplblkfapaaGreatDoorM29

/- PLAIN MATHEMATICS OF PUT: batches without some records. -/
namespace Go.Proofs.YtdaoeplblkfapaaGreatDoor

/-- Records without those whose places, counted on from n, are told. -/
def wo1 (less : List Int) : Nat → List Pl.Rc → List Pl.Rc
  | _, [] => []
  | n, r :: l => if (n : Int) ∈ less then wo1 less (n + 1) l else r :: wo1 less (n + 1) l
def woB (less : List Int) (n : Nat) (b : Pl.Bt) : Pl.Bt := { b with recs := wo1 less n b.recs }
def woL (less : List Int) : Nat → List Pl.Bt → List Pl.Bt
  | _, [] => []
  | n, b :: l => woB less n b :: woL less (n + b.recs.length) l
theorem wo1_sub (less : List Int) : ∀ (l : List Pl.Rc) (n : Nat), (wo1 less n l).Sublist l
  | [], _ => List.Sublist.refl _
  | r :: l, n => by
    unfold wo1
    split
    · exact (wo1_sub less l (n + 1)).cons r
    · exact (wo1_sub less l (n + 1)).cons_cons r
theorem wo1_snoc (less : List Int) (r : Pl.Rc) : ∀ (l : List Pl.Rc) (n : Nat), wo1 less n (l ++ [r]) = wo1 less n l ++ (if ((n + l.length : Nat) : Int) ∈ less then [] else [r])
  | [], n => by
    by_cases h : (n : Int) ∈ less <;> simp [wo1, h]
  | x :: l, n => by
    have ih := wo1_snoc less r l (n + 1)
    rw [show n + 1 + l.length = n + (x :: l).length by simp; omega] at ih
    show wo1 less n (x :: (l ++ [r])) = wo1 less n (x :: l) ++ _
    conv => lhs; unfold wo1
    conv => rhs; arg 1; unfold wo1
    rw [ih]
    split <;> rfl
/-- How many records there are. -/
def cntR (l : List Pl.Bt) : Nat := (rcs l).length
theorem woL_length (less : List Int) : ∀ (l : List Pl.Bt) (n : Nat), (woL less n l).length = l.length
  | [], _ => rfl
  | b :: l, n => by show (woL less _ l).length + 1 = l.length + 1; rw [woL_length less l]
theorem woL_snoc (less : List Int) (b : Pl.Bt) : ∀ (l : List Pl.Bt) (n : Nat), woL less n (l ++ [b]) = woL less n l ++ [woB less (n + cntR l) b]
  | [], n => rfl
  | x :: l, n => by
    show woB less n x :: woL less (n + x.recs.length) (l ++ [b]) = woB less n x :: (woL less (n + x.recs.length) l ++ [_])
    rw [woL_snoc less b l (n + x.recs.length)]
    unfold cntR
    rw [show rcs (x :: l) = x.recs ++ rcs l from rfl, List.length_append, Nat.add_assoc]
theorem woB_good {less : List Int} {n : Nat} {b : Pl.Bt} (h : Pl.goodB b = true) : Pl.goodB (woB less n b) = true := Pl.good_sub (wo1_sub less b.recs n) h
theorem woL_chain {less : List Int} : ∀ {l : List Pl.Bt} {x : Int} (n : Nat), Chain x l → Chain x (woL less n l) ∧ lend x (woL less n l) = lend x l
  | [], _, _, h => ⟨h, rfl⟩
  | b :: l, x, n, h => by
    obtain ⟨h1, h2, h3⟩ := h
    obtain ⟨i1, i2⟩ := woL_chain (less := less) (n + b.recs.length) h3
    exact ⟨⟨woB_good h1, h2, i1⟩, i2⟩
/-- What is in a part of a list without twins, taken out of the list, is the part. -/
theorem filter_sub {α : Type} [DecidableEq α] {s l : List α} (h : s.Sublist l) (hn : l.Nodup) : l.filter (fun x => decide (x ∈ s)) = s := by
  induction h with
  | slnil => rfl
  | cons x hs ih =>
    obtain ⟨h1, h2⟩ := List.nodup_cons.1 hn
    rw [List.filter_cons, if_neg (by simp; exact fun hx => h1 (hs.subset hx))]
    exact ih h2
  | cons_cons x hs ih =>
    obtain ⟨h1, h2⟩ := List.nodup_cons.1 hn
    rw [List.filter_cons, if_pos (by simp)]
    congr 1
    rename_i s' l'
    have h3 : l'.filter (fun y => decide (y ∈ x :: s')) = l'.filter (fun y => decide (y ∈ s')) := by
      refine List.filter_congr fun y hy => ?_
      have : y ≠ x := fun e => h1 (e ▸ hy)
      simp [this]
    rw [h3]
    exact ih h2
theorem rise_nodup {l : List Pl.Rc} {a c : Int} (h : Pl.riseB l a c = true) : l.Nodup := (rise_pair h).imp fun {r s} hrs e => by subst e; omega
end Go.Proofs.YtdaoeplblkfapaaGreatDoor

/- THE CONTRACT of the law's 'without'. -/
namespace Go.Proofs.YtdaoeplblkfapaaGreatDoor
open Go.RowKit

theorem take_next' {α : Type} {l : List α} {i : Nat} {x : α} (h : l[i]? = some x) : l.take (i + 1) = l.take i ++ [x] := by rw [List.take_add_one, h]; rfl
theorem mem_snoc_beq {l : List Int} {n x : Int} (h : ¬ n ∈ l) : decide (n ∈ l ++ [x]) = (x == n) := by
  by_cases e : x = n
  · subst e; simp
  · have e' : ¬ n = x := fun h => e h.symm
    simp [h, e, e']
theorem Sl.boxed4 (w : World) (T : TypeId) (c0 c1 c2 c3 : Value) : Sl (w.alloc (.cells #[c0, c1, c2, c3] T)) (.slice (some ⟨w.heap.size, 0, none⟩) 1 1) (some w.heap.size) T 4 1 [c0, c1, c2, c3] :=
  ⟨by simp, .inr ⟨w.heap.size, 0, 1, #[c0, c1, c2, c3], rfl, rfl, heap_alloc_new w _, Nat.le_refl _, by simp, by simp⟩⟩
theorem Sl.boxed6 (w : World) (T : TypeId) (c0 c1 c2 c3 c4 c5 : Value) : Sl (w.alloc (.cells #[c0, c1, c2, c3, c4, c5] T)) (.slice (some ⟨w.heap.size, 0, none⟩) 1 1) (some w.heap.size) T 6 1 [c0, c1, c2, c3, c4, c5] :=
  ⟨by simp, .inr ⟨w.heap.size, 0, 1, #[c0, c1, c2, c3, c4, c5], rfl, rfl, heap_alloc_new w _, Nat.le_refl _, by simp, by simp⟩⟩
set_option maxRecDepth 100000 in
set_option maxHeartbeats 4000000 in
theorem without_any {A : Nat → Prop} (u : Value) (L : List (Pl.Bt × Value)) (lv : Value) (less : List Int) (w : World) (hu : BtIn A w u L) (hl : Ta.Nums w lv less) (hLn : L.length ≤ 200) (hr : ∀ p ∈ L, p.1.recs.length ≤ 8) (hless : less.length ≤ 50) :
    Calls Tryz.prog 39 #[u, lv] w (AllOut w (woL less 0 (L.map (·.1)))) := by
  obtain ⟨ua, uc, rfl⟩ := hu.1.form
  obtain ⟨la, lc, rfl, hlc⟩ := hl
  obtain ⟨LN, hLN⟩ : ∃ n, L.length = n := ⟨_, rfl⟩
  obtain ⟨ln, hln⟩ : ∃ n, less.length = n := ⟨_, rfl⟩
  have HU := Lib.hid hu
  have HLC := Lib.hid hlc
  have HLN := Lib.hid (And.intro hLN hln)
  have HR := Lib.hid hr
  have HS0 := Lib.hid (Sl.empty w 34 6)
  have HB0 := Lib.hid ((Below.refl w.heap.size w).alloc (Nat.le_refl _) (.cells #[] 34))
  rw [hLN] at hLn
  rw [hln] at hless
  rw [hLN, hln]
  clear hu hlc hLN hln hr
  go_enter Tryz.func39, Tryz.ntmps39
  go_wp2_with fail
  go_loopw [5, 6, 7] (fun ov nv iv wr => ∃ (j : Nat) (gb : Option Nat) (M : List (Pl.Bt × Value)), j ≤ LN ∧ iv = .int .i64 j ∧ nv = .int .i64 (cntR ((L.map (·.1)).take j) : Nat) ∧ Sl wr ov gb 34 6 M.length (M.flatMap bc6) ∧ (∀ b, gb = some b → w.heap.size ≤ b) ∧ All (fun b => w.heap.size ≤ b ∧ gb ≠ some b) wr M ∧ M.map (·.1) = woL less 0 ((L.map (·.1)).take j) ∧ Below w.heap.size w wr) (fun _ _ iv _ => LN - (intOf iv).toNat)
  case atStart => exact ⟨0, some w.heap.size, [], Nat.zero_le _, rfl, rfl, HS0.out, fun b hb => (by cases hb; exact Nat.le_refl _), fun p hp => (by cases hp), rfl, HB0.out⟩
  case round =>
    obtain ⟨j, gb, M, hj, rfl, rfl, hs, hgb, hall, hM, hb⟩ := hrel
    obtain ⟨oa, oc, hov⟩ := hs.form
    obtain ⟨mn, hmn⟩ : ∃ n, M.length = n := ⟨_, rfl⟩
    have hmnj : mn = j := by
      have h1 := congrArg List.length hM
      rw [List.length_map, woL_length, List.length_take, List.length_map, HLN.out.1] at h1
      omega
    subst hmnj
    rw [hmn] at hov
    subst hov
    have HS := Lib.hid hs
    have HGB := Lib.hid hgb
    have HALL := Lib.hid hall
    have HM := Lib.hid (And.intro hM hmn)
    have HB := Lib.hid hb
    clear hs hgb hall hM hmn hb HS0 HB0
    by_cases hlt : mn < LN
    · have hd : decide ((mn : Int) < (LN : Int)) = true := by simp; omega
      obtain ⟨⟨⟨base, count, prod, seq, time, recs⟩, rv⟩, hp⟩ : ∃ p, L[mn]? = some p := ⟨_, List.getElem?_eq_getElem (by rw [HLN.out.1]; exact hlt)⟩
      have hbt := HU.out.below HB.out
      obtain ⟨b, o, cap, e1, -, -, hcell, hrv⟩ := hbt.at hp
      have e1a : ua = some ⟨b, o, none⟩ := by injection e1
      subst e1a
      obtain ⟨ra, rc, hrve⟩ := Rds.form hrv
      obtain ⟨rl, hrl⟩ : ∃ n, recs.length = n := ⟨_, rfl⟩
      simp only [hrl] at hrve
      subst hrve
      have c0 : wr.cell? ⟨b, o + mn * 6, none⟩ = some (.int .i64 base) := hcell 0 _ (by decide) rfl
      have c1 : wr.cell? ⟨b, o + mn * 6 + 1, none⟩ = some (.int .i64 count) := hcell 1 _ (by decide) rfl
      have c2 : wr.cell? ⟨b, o + mn * 6 + 2, none⟩ = some (.int .i64 prod) := hcell 2 _ (by decide) rfl
      have c3 : wr.cell? ⟨b, o + mn * 6 + 3, none⟩ = some (.int .i64 seq) := hcell 3 _ (by decide) rfl
      have c4 : wr.cell? ⟨b, o + mn * 6 + 4, none⟩ = some (.int .i64 time) := hcell 4 _ (by decide) rfl
      have c5 : wr.cell? ⟨b, o + mn * 6 + 5, none⟩ = some (.slice ra rl rc) := hcell 5 _ (by decide) rfl
      have i0 : (0 : Int) ≤ (mn : Int) := by omega
      have i1 : (mn : Int) < (LN : Int) := by omega
      have hrl8 : rl ≤ 8 := by have := HR.out _ (List.mem_of_getElem? hp); simp only at this; omega
      obtain ⟨q, hq⟩ : ∃ q, cntR ((L.map (·.1)).take mn) = q := ⟨_, rfl⟩
      have hq200 : q ≤ 1600 := by
        rw [← hq]
        have key : ∀ l : List (Pl.Bt × Value), (∀ p ∈ l, p.1.recs.length ≤ 8) → cntR (l.map (·.1)) ≤ 8 * l.length := fun l => by
          induction l with
          | nil => intro _; exact Nat.le_refl _
          | cons x l ih =>
            intro h
            have h1 := ih fun p hp => h p (List.mem_cons_of_mem _ hp)
            have h2 := h x List.mem_cons_self
            unfold cntR at *
            rw [show rcs ((x :: l).map (·.1)) = x.1.recs ++ rcs (l.map (·.1)) from rfl, List.length_append, List.length_cons]
            omega
        have h1 := key (L.take mn) fun p hp => HR.out p (List.mem_of_mem_take hp)
        rw [List.length_take, List.map_take] at h1
        omega
      rw [hq]
      obtain ⟨wo, rfl⟩ : ∃ wo : World, wo = wr := ⟨_, rfl⟩
      obtain ⟨W1, hW1⟩ : ∃ V, wo.alloc (.cells #[.int .i64 base, .int .i64 count, .int .i64 prod, .int .i64 seq, .int .i64 time, .slice ra rl rc] 34) = V := ⟨_, rfl⟩
      have s1 : W1.heap.size = wo.heap.size + 1 := by rw [← hW1]; simp
      have b1 : Below wo.heap.size wo W1 := by rw [← hW1]; exact (Below.refl _ _).alloc (Nat.le_refl _) _
      have k1 : Blk W1 wo.heap.size #[.int .i64 base, .int .i64 count, .int .i64 prod, .int .i64 seq, .int .i64 time, .slice ra rl rc] 34 := by rw [← hW1]; exact Blk.new _ _ _
      have HL1 : Hid (Sl (W1.alloc (.cells #[] 75)) (.slice (some ⟨wo.heap.size + 1, 0, none⟩) 0 0) (some W1.heap.size) 75 4 0 [] ∧ Blk (W1.alloc (.cells #[] 75)) wo.heap.size #[.int .i64 base, .int .i64 count, .int .i64 prod, .int .i64 seq, .int .i64 time, .slice ra rl rc] 34 ∧ Below wo.heap.size wo (W1.alloc (.cells #[] 75))) := Lib.hid ⟨by rw [← s1]; exact Sl.empty W1 _ 4, k1.alloc _, b1.alloc (by omega) _⟩
      have HS1 := Lib.hid s1
      have HW1 := Lib.hid hW1
      have HRV := Lib.hid hrv
      have HP := Lib.hid (And.intro hp (And.intro hrl hq))
      clear hcell hp hrl hq hrv hbt e1 s1 b1 k1 hW1
      go_wp2_with fail
      rw [HW1.out]
      go_loopw [6, 9, 10, 11, 12] (fun nv rv9 kv _ _ wx => ∃ (k : Nat) (gr : Option Nat), k ≤ rl ∧ kv = .int .i64 k ∧ nv = .int .i64 ((q + k : Nat) : Int) ∧ Sl wx rv9 gr 75 4 (wo1 less q (recs.take k)).length ((wo1 less q (recs.take k)).flatMap cells4) ∧ (∀ b, gr = some b → wo.heap.size + 1 ≤ b) ∧ Blk wx wo.heap.size #[.int .i64 base, .int .i64 count, .int .i64 prod, .int .i64 seq, .int .i64 time, .slice ra rl rc] 34 ∧ Below wo.heap.size wo wx) (fun _ _ kv _ _ _ => rl - (intOf kv).toNat)
      case atStart => exact ⟨0, some W1.heap.size, Nat.zero_le _, rfl, rfl, HL1.out.1, fun b hb => (by cases hb; have := HS1.out; omega), HL1.out.2.1, HL1.out.2.2⟩
      case round =>
        obtain ⟨k, gr, hk, rfl, rfl, hs9, hgr, hbx, hbo⟩ := hrel
        obtain ⟨nn, hnn⟩ : ∃ nn, q + k = nn := ⟨_, rfl⟩
        rw [hnn]
        obtain ⟨qa, qc, hqv⟩ := hs9.form
        subst hqv
        obtain ⟨qn, hqn⟩ : ∃ n, (wo1 less q (recs.take k)).length = n := ⟨_, rfl⟩
        have hqn8 : qn ≤ k := by
          rw [← hqn]
          have h1 := (wo1_sub less (recs.take k) q).length_le
          rw [List.length_take] at h1
          omega
        rw [hqn] at hs9 ⊢
        have HS9 := Lib.hid hs9
        have HGR := Lib.hid hgr
        have HBX := Lib.hid hbx
        have HBO := Lib.hid hbo
        have HQN := Lib.hid hqn
        have q5 : wr.cell? ⟨wo.heap.size, 5, none⟩ = some (.slice ra rl rc) := hbx.cell rfl
        clear hs9 hgr hbo hqn HL1
        by_cases hkl : k < rl
        · have hdk : decide ((k : Int) < (rl : Int)) = true := by simp; omega
          obtain ⟨r, hr⟩ : ∃ r, recs[k]? = some r := ⟨_, List.getElem?_eq_getElem (by rw [HP.out.2.1]; exact hkl)⟩
          have HRK := Lib.hid hr
          clear hr hbx
          obtain ⟨wk, rfl⟩ : ∃ wk : World, wk = wr := ⟨_, rfl⟩
          go_wp2_with fail
          go_loopw [11, 12] (fun bv9 jv wy => ∃ jj : Nat, jj ≤ ln ∧ jv = .int .i64 jj ∧ bv9 = .bool (decide ((nn : Int) ∈ less.take jj)) ∧ wk = wy) (fun _ jv _ => ln - (intOf jv).toNat)
          case atStart => exact ⟨0, Nat.zero_le _, rfl, by simp, rfl⟩
          case round =>
            obtain ⟨jj, hjj, rfl, rfl, rfl⟩ := hrel
            obtain ⟨is, his⟩ : ∃ is, decide ((nn : Int) ∈ less.take jj) = is := ⟨_, rfl⟩
            have HIS := Lib.hid his
            rw [his]
            clear his
            by_cases hjl : jj < ln
            · have hdj : decide ((jj : Int) < (ln : Int)) = true := by simp; omega
              obtain ⟨x, hx⟩ : ∃ x, less[jj]? = some x := ⟨_, List.getElem?_eq_getElem (by rw [HLN.out.2]; exact hjl)⟩
              obtain ⟨lb, lo, rfl, hlcell⟩ := HLC.out jj x hx
              have g0 : wk.cell? ⟨lb, lo + jj, none⟩ = some (.int .i64 x) := (Below.cell (p := ⟨lb, lo + jj, none⟩) (HB.out.trans (HBO.out.mono HB.out.size)) (block_lt_of_cell hlcell)).trans hlcell
              have j0 : (0 : Int) ≤ (jj : Int) := by omega
              have j1 : (jj : Int) < (ln : Int) := by omega
              have HX := Lib.hid (take_next' hx)
              clear hx hlcell
              cases is with
              | true =>
                have ht := of_decide_eq_true HIS.out
                go_wp2_with fail
                go_roundw
                case rel => exact ⟨jj + 1, by omega, by go_num, by rw [HX.out, decide_eq_true (List.mem_append.2 (.inl ht))], trivial⟩
                case measure => simp [intOf]; omega
              | false =>
                have ht := of_decide_eq_false HIS.out
                have HT := Lib.hid ht
                clear ht
                go_wp2_with fail
                go_roundw
                case rel =>
                  exact ⟨jj + 1, by omega, by go_num, by rw [HX.out, mem_snoc_beq HT.out], trivial⟩
                case measure => simp [intOf]; omega
            · obtain rfl : jj = ln := by omega
              have hdj : decide ((jj : Int) < (jj : Int)) = false := by simp
              have hmem : decide ((nn : Int) ∈ less) = is := by
                have h1 := HIS.out
                rwa [List.take_of_length_le (by rw [HLN.out.2]; exact Nat.le_refl _)] at h1
              have HME := Lib.hid hmem
              clear hmem
              have HW1K : Hid (wo1 less q (recs.take (k + 1)) = wo1 less q (recs.take k) ++ (if (nn : Int) ∈ less then [] else [⟨r.off, r.key, r.val, r.gone⟩])) := Lib.hid (by
                rw [take_next' HRK.out, wo1_snoc, List.length_take, HP.out.2.1, Nat.min_eq_left (by omega), hnn])
              cases is with
              | true =>
                have ht := of_decide_eq_true HME.out
                have HF : Hid (wo1 less q (recs.take (k + 1)) = wo1 less q (recs.take k)) := Lib.hid (by rw [HW1K.out, if_pos ht, List.append_nil])
                clear ht
                go_wp2_with fail
                go_roundw
                case rel =>
                  refine ⟨k + 1, gr, by omega, by go_num, ?_, ?_, HGR.out, HBX.out, HBO.out⟩
                  · rw [show q + (k + 1) = nn + 1 by omega]; go_num
                  · rw [HF.out, HQN.out]; exact HS9.out
                case measure => simp [intOf]; omega
              | false =>
                have ht := of_decide_eq_false HME.out
                have HF : Hid (wo1 less q (recs.take (k + 1)) = wo1 less q (recs.take k) ++ [⟨r.off, r.key, r.val, r.gone⟩]) := Lib.hid (by rw [HW1K.out, if_neg ht])
                clear ht
                obtain ⟨rb, ro, rcap, e2, -, -, hrc⟩ := Rds.at (HRV.out.below HBO.out) (by rw [HP.out.2.1]; omega)
                have e2a : ra = some ⟨rb, ro, none⟩ := by injection e2
                subst e2a
                have hcel : ∀ i u, i < 4 → (cells4 r)[i]? = some u → wk.cell? ⟨rb, ro + k * 4 + i, none⟩ = some u := fun i u hi hu => by
                  have := hrc (k * 4 + i) u (by rw [flat_at cells4 4 (fun _ => rfl) recs k r HRK.out i hi]; exact hu)
                  rw [← Nat.add_assoc] at this
                  exact this
                obtain ⟨roff, rkey, rval, rgone⟩ := r
                have m0 : wk.cell? ⟨rb, ro + k * 4, none⟩ = some (.int .i64 roff) := hcel 0 _ (by decide) rfl
                have m1 : wk.cell? ⟨rb, ro + k * 4 + 1, none⟩ = some (.string ⟨rkey.toArray⟩) := hcel 1 _ (by decide) rfl
                have m2 : wk.cell? ⟨rb, ro + k * 4 + 2, none⟩ = some (.string ⟨rval.toArray⟩) := hcel 2 _ (by decide) rfl
                have m3 : wk.cell? ⟨rb, ro + k * 4 + 3, none⟩ = some (.bool rgone) := hcel 3 _ (by decide) rfl
                have l0 : (0 : Int) ≤ (k : Int) := by omega
                have l1 : (k : Int) < (rl : Int) := by omega
                have hal : Below wk.heap.size wk (wk.alloc (.cells #[.int .i64 roff, .string ⟨rkey.toArray⟩, .string ⟨rval.toArray⟩, .bool rgone] 75)) := (Below.refl _ _).alloc (Nat.le_refl _) _
                have HSB : Hid (Sl (wk.alloc (.cells #[.int .i64 roff, .string ⟨rkey.toArray⟩, .string ⟨rval.toArray⟩, .bool rgone] 75)) (.slice qa qn qc) gr 75 4 qn ((wo1 less q (recs.take k)).flatMap cells4)) := Lib.hid (HS9.out.alloc _)
                have HSC := Lib.hid (Rds.of_sl (A := fun _ => True) (Sl.boxed4 wk 75 (.int .i64 roff) (.string ⟨rkey.toArray⟩) (.string ⟨rval.toArray⟩) (.bool rgone)) fun _ _ => trivial)
                have HAL := Lib.hid hal
                obtain ⟨i0', hi0, hz0, hz1, hz2⟩ := infoRec
                clear hcel hrc e2 hal
                go_wp2_with (at_builtin; refine wpList_append_rd (by rfl) _ _ 32 (by rfl) 75 i0' (.agg zeroR) 4 48 Tryz.underlying32 hi0 hz0 hz1 hz2 rfl _ gr qn _ (by rfl) HSB.out _ 1 [.int .i64 roff, .string ⟨rkey.toArray⟩, .string ⟨rval.toArray⟩, .bool rgone] (by rfl) HSC.out (fun u hu => by simp only [List.mem_cons, List.not_mem_nil, or_false] at hu; rcases hu with rfl | rfl | rfl | rfl <;> rfl) (by omega) (by omega) ?_)
                intro v9 w9 g9 hs9 hg9 hn9
                have hne : some wo.heap.size ≠ gr := fun e => by have := HGR.out _ e.symm; omega
                have HE : Hid (Sl w9 v9 g9 75 4 (wo1 less q (recs.take (k + 1))).length ((wo1 less q (recs.take (k + 1))).flatMap cells4) ∧ (∀ b, g9 = some b → wo.heap.size + 1 ≤ b) ∧ Blk w9 wo.heap.size #[.int .i64 base, .int .i64 count, .int .i64 prod, .int .i64 seq, .int .i64 time, .slice (some ⟨rb, ro, none⟩) rl rc] 34 ∧ Below wo.heap.size wo w9) := Lib.hid ⟨by
                  rw [HF.out, List.length_append, HQN.out, List.flatMap_append]
                  exact hs9, fun b hb => by
                  rcases hn9 with h | ⟨g, h, hg⟩
                  · exact HGR.out b (h ▸ hb)
                  · rw [h] at hb
                    have e := Option.some.inj hb
                    have h1 := HBO.out.size
                    have h2 := HBX.out.lt
                    try simp at hg
                    omega, (HBX.out.alloc _).grown hg9 hne, (HBO.out.alloc HBO.out.size _).grown hg9 (by have := HBO.out.size; simp; omega) fun b hb => by have := HGR.out b hb; omega⟩
                clear hs9 hg9 hn9
                go_wp2_with fail
                go_roundw
                case rel =>
                  refine ⟨k + 1, g9, by omega, by go_num, ?_, HE.out.1, HE.out.2.1, HE.out.2.2.1, HE.out.2.2.2⟩
                  rw [show q + (k + 1) = nn + 1 by omega]; go_num
                case measure => simp [intOf]; omega
        · obtain rfl : k = rl := by omega
          have hdk : decide ((k : Int) < (k : Int)) = false := by simp
          have hall : recs.take k = recs := List.take_of_length_le (by rw [HP.out.2.1]; exact Nat.le_refl _)
          have HAL := Lib.hid hall
          clear hall hbx
          obtain ⟨wk, rfl⟩ : ∃ wk : World, wk = wr := ⟨_, rfl⟩
          have f5 : wk.frozen? ⟨wo.heap.size, 5, none⟩ = false := HBX.out.free
          obtain ⟨W2, hW2⟩ : ∃ V, wk.setCell ⟨wo.heap.size, 5, none⟩ (.slice qa qn qc) = V := ⟨_, rfl⟩
          have hk2 : Blk W2 wo.heap.size #[.int .i64 base, .int .i64 count, .int .i64 prod, .int .i64 seq, .int .i64 time, .slice qa qn qc] 34 := by rw [← hW2]; exact HBX.out.set (i := 5) (.slice qa qn qc)
          have hb2 : Below wo.heap.size wo W2 := by rw [← hW2]; exact Below.setCell (p := ⟨wo.heap.size, 5, none⟩) HBO.out (Nat.le_refl _) _
          have hsz2 : W2.heap.size = wk.heap.size := by rw [← hW2]; simp [World.setCell]
          have hgrl : ∀ b, gr = some b → b < wk.heap.size := HS9.out.lt
          have hsr2 : Sl W2 (.slice qa qn qc) gr 75 4 qn ((wo1 less q recs).flatMap cells4) := by
            have h1 := HS9.out
            rw [HAL.out] at h1
            rw [← hW2]
            exact h1.same fun b hb => Below.heap_setCell _ _ _ _ (by have := HGR.out b hb; show b ≠ wo.heap.size; omega)
          have hso2 : Sl W2 (.slice oa mn oc) gb 34 6 mn (M.flatMap bc6) := by
            have h1 := HS.out
            rw [HM.out.2] at h1
            exact h1.same fun b hb => hb2.block b (HS.out.lt b hb)
          have p0 : W2.cell? ⟨wo.heap.size, 0, none⟩ = some (.int .i64 base) := hk2.cell rfl
          have p1 : W2.cell? ⟨wo.heap.size, 1, none⟩ = some (.int .i64 count) := hk2.cell rfl
          have p2 : W2.cell? ⟨wo.heap.size, 2, none⟩ = some (.int .i64 prod) := hk2.cell rfl
          have p3 : W2.cell? ⟨wo.heap.size, 3, none⟩ = some (.int .i64 seq) := hk2.cell rfl
          have p4 : W2.cell? ⟨wo.heap.size, 4, none⟩ = some (.int .i64 time) := hk2.cell rfl
          have p5 : W2.cell? ⟨wo.heap.size, 5, none⟩ = some (.slice qa qn qc) := hk2.cell rfl
          have HSO : Hid (Sl (W2.alloc (.cells #[.int .i64 base, .int .i64 count, .int .i64 prod, .int .i64 seq, .int .i64 time, .slice qa qn qc] 34)) (.slice oa mn oc) gb 34 6 mn (M.flatMap bc6)) := Lib.hid (hso2.alloc _)
          have HSN := Lib.hid (Rds.of_sl (A := fun _ => True) (Sl.boxed6 W2 34 (.int .i64 base) (.int .i64 count) (.int .i64 prod) (.int .i64 seq) (.int .i64 time) (.slice qa qn qc)) fun _ _ => trivial)
          have HSR := Lib.hid hsr2
          have HB2 := Lib.hid hb2
          have HZ2 := Lib.hid (And.intro hsz2 hgrl)
          obtain ⟨i0', hi0, hz0, hz1, hz2⟩ := infoBt
          clear hk2 hb2 hsz2 hgrl hsr2 hso2
          go_wp2_with (at_builtin; refine wpList_append_rd (by rfl) _ _ 29 (by rfl) 34 i0' (.agg zeroB) 6 64 Tryz.underlying29 hi0 hz0 hz1 hz2 rfl _ gb mn _ (by rfl) HSO.out _ 1 [.int .i64 base, .int .i64 count, .int .i64 prod, .int .i64 seq, .int .i64 time, .slice qa qn qc] (by rfl) HSN.out (fun u hu => by simp only [List.mem_cons, List.not_mem_nil, or_false] at hu; rcases hu with rfl | rfl | rfl | rfl | rfl | rfl <;> rfl) (by omega) (by omega) ?_)
          intro v9 w9 g9 hs9 hg9 hn9
          have hgs : W2.heap.size ≤ (W2.alloc (.cells #[.int .i64 base, .int .i64 count, .int .i64 prod, .int .i64 seq, .int .i64 time, .slice qa qn qc] 34)).heap.size := by simp
          have hn9' : ∀ b, b < W2.heap.size → gb ≠ some b → g9 ≠ some b := fun b hl hne e => by
            rcases hn9 with h | ⟨g, h, hg⟩
            · exact hne (h ▸ e)
            · rw [h] at e
              have e' := Option.some.inj e
              try simp at hg
              omega
          have h9b : ∀ b, b < W2.heap.size → some b ≠ gb → w9.heap[b]? = W2.heap[b]? := fun b hl hne => (hg9.block b (by omega) hne).trans (Below.heap_alloc _ _ _ hl)
          have hwle := HB.out.size
          have hoW := HB2.out.size
          have hs9W : W2.heap.size ≤ w9.heap.size := Nat.le_trans hgs hg9.size
          have hnew : RcIn (fun b => w.heap.size ≤ b ∧ g9 ≠ some b) w9 (.slice qa qn qc) (wo1 less q recs) := by
            have hne : ∀ b, gr = some b → some b ≠ gb := fun b hb e => by
              have h1 := HS.out.lt b e.symm
              have h2 := HGR.out b hb
              omega
            have h1 : Sl w9 (.slice qa qn qc) gr 75 4 qn ((wo1 less q recs).flatMap cells4) := HSR.out.same fun b hb => h9b b (by have := HZ2.out.1; have := HZ2.out.2 b hb; omega) (hne b hb)
            have hql : (wo1 less q recs).length = qn := by rw [← HQN.out, HAL.out]
            unfold RcIn
            rw [hql]
            exact Rds.of_sl h1 fun b hb => ⟨by have := HGR.out b hb; omega, hn9' b (by have := HZ2.out.1; have := HZ2.out.2 b hb; omega) fun e => hne b hb e.symm⟩
          have hold : All (fun b => w.heap.size ≤ b ∧ g9 ≠ some b) w9 M := fun p hp => Rds.keep (HALL.out p hp) (by omega) fun b hb hl => ⟨(h9b b (by omega) fun e => hb.2 e.symm).trans (HB2.out.block b hl), hb.1, hn9' b (by omega) hb.2⟩
          have hlk : (L.map (·.1))[mn]? = some ⟨base, count, prod, seq, time, recs⟩ := by rw [List.getElem?_map, HP.out.1]; rfl
          have HE : Hid (Sl w9 v9 g9 34 6 (M ++ [((woB less q ⟨base, count, prod, seq, time, recs⟩ : Pl.Bt), Value.slice qa qn qc)]).length ((M ++ [((woB less q ⟨base, count, prod, seq, time, recs⟩ : Pl.Bt), Value.slice qa qn qc)]).flatMap bc6) ∧ (∀ b, g9 = some b → w.heap.size ≤ b) ∧ All (fun b => w.heap.size ≤ b ∧ g9 ≠ some b) w9 (M ++ [((woB less q ⟨base, count, prod, seq, time, recs⟩ : Pl.Bt), Value.slice qa qn qc)]) ∧ (M ++ [((woB less q ⟨base, count, prod, seq, time, recs⟩ : Pl.Bt), Value.slice qa qn qc)]).map (·.1) = woL less 0 ((L.map (·.1)).take (mn + 1)) ∧ Below w.heap.size w w9 ∧ cntR ((L.map (·.1)).take (mn + 1)) = q + k) := Lib.hid ⟨by
            rw [List.length_append, HM.out.2, List.flatMap_append]
            exact hs9, fun b hb => by
            rcases hn9 with h | ⟨g, h, hg⟩
            · exact HGB.out b (h ▸ hb)
            · rw [h] at hb
              have e := Option.some.inj hb
              try simp at hg
              omega, fun p hp => by
            rcases List.mem_append.1 hp with hp | hp
            · exact hold p hp
            · rw [List.mem_singleton.1 hp]; exact hnew, by
            rw [List.map_append, HM.out.1, take_next' hlk, woL_snoc, HP.out.2.2, Nat.zero_add]
            rfl, ((HB.out.trans (HB2.out.mono hwle)).alloc (by omega) _).grown hg9 (by omega) HGB.out, by
            rw [take_next' hlk]
            have h1 := HP.out.2.2
            unfold cntR at h1 ⊢
            rw [rcs_append, rcs_one, List.length_append, h1, HP.out.2.1]⟩
          clear hs9 hg9 hn9 hgs hn9' h9b hwle hoW hs9W hnew hold hlk
          go_wp2_with fail
          go_roundw
          case rel =>
            refine ⟨mn + 1, g9, _, by omega, by go_num, ?_, HE.out.1, HE.out.2.1, HE.out.2.2.1, HE.out.2.2.2.1, HE.out.2.2.2.2.1⟩
            rw [HE.out.2.2.2.2.2]; go_num
          case measure => simp [intOf]; omega
    · obtain rfl : mn = LN := by omega
      have hd : decide ((mn : Int) < (mn : Int)) = false := by simp
      have hfin : AllOut w (woL less 0 (L.map (·.1))) (.returned (.slice oa mn oc)) wr := by
        have h1 := HM.out.1
        rw [List.take_of_length_le (by rw [List.length_map, HLN.out.1]; exact Nat.le_refl _)] at h1
        exact ⟨_, gb, M, rfl, HS.out, HGB.out, HALL.out, h1, HB.out⟩
      have HF := Lib.hid hfin
      clear hfin
      go_wp2_with fail
      go_ret
      exact HF.out
end Go.Proofs.YtdaoeplblkfapaaGreatDoor

/- THE CONTRACTS of slices.Index and slices.Contains over records. -/
namespace Go.Proofs.YtdaoeplblkfapaaGreatDoor
open Go.RowKit

set_option maxRecDepth 100000 in
theorem rec_eql (o o' : Int) (K K' V V' : ByteArray) (g g' : Bool) (wx : World) :
    (binOp .eql 75 (.agg #[.int .i64 o, .string K, .string V, .bool g]) (.agg #[.int .i64 o', .string K', .string V', .bool g'])).run Tryz.prog wx = .ok (.bool (o == o' && (K.toList == K'.toList && (V.toList == V'.toList && g == g')))) wx := by
  rw [run_eql_struct, show (10000 : Nat) = 9999 + 1 from rfl, run_equalIn_struct wx 9999 _ _ _ rec_under rec_held]
  go_simp
  by_cases h1 : o = o' <;> by_cases h2 : K.toList = K'.toList <;> by_cases h3 : V.toList = V'.toList <;> by_cases h4 : g = g' <;> simp [h1, h2, h3, h4]
instance : DecidableEq Pl.Rc := fun x y => decidable_of_iff (x.off = y.off ∧ x.key = y.key ∧ x.val = y.val ∧ x.gone = y.gone) (by cases x; cases y; simp)
theorem rec_same (x y : Pl.Rc) : (x.off == y.off && ((⟨x.key.toArray⟩ : ByteArray).toList == (⟨y.key.toArray⟩ : ByteArray).toList && ((⟨x.val.toArray⟩ : ByteArray).toList == (⟨y.val.toArray⟩ : ByteArray).toList && x.gone == y.gone))) = decide (x = y) := by
  obtain ⟨a, b, c, d⟩ := x
  obtain ⟨a', b', c', d'⟩ := y
  by_cases h1 : a = a' <;> by_cases h2 : b = b' <;> by_cases h3 : c = c' <;> by_cases h4 : d = d' <;> simp [h1, h2, h3, h4]
set_option maxHeartbeats 1000000 in
set_option maxRecDepth 100000 in
theorem indexR_any {A : Nat → Prop} (u : Value) (l : List Pl.Rc) (x : Pl.Rc) (w : World) (hu : RcIn A w u l) (hl : l.length ≤ 1048576) :
    Calls Tryz.prog 168 #[u, .agg #[.int .i64 x.off, .string ⟨x.key.toArray⟩, .string ⟨x.val.toArray⟩, .bool x.gone]] w fun e w' => ∃ i : Int, e = .returned (.int .i64 i) ∧ (0 ≤ i ↔ x ∈ l) ∧ Below w.heap.size w w' := by
  obtain ⟨W1, hW1⟩ : ∃ V, w.alloc (.cells #[.int .i64 x.off, .string ⟨x.key.toArray⟩, .string ⟨x.val.toArray⟩, .bool x.gone] 75) = V := ⟨_, rfl⟩
  have hb1 : Below w.heap.size w W1 := by rw [← hW1]; exact (Below.refl _ _).alloc (Nat.le_refl _) _
  have hk1 : Blk W1 w.heap.size #[.int .i64 x.off, .string ⟨x.key.toArray⟩, .string ⟨x.val.toArray⟩, .bool x.gone] 75 := by rw [← hW1]; exact Blk.new _ _ _
  obtain ⟨a1, cap1, rfl, hc1⟩ := RcIn.recs (hu.below hb1)
  obtain ⟨m, hm⟩ : ∃ m, l.length = m := ⟨_, rfl⟩
  rw [hm] at hl ⊢
  have x0 : W1.cell? ⟨w.heap.size, 0, none⟩ = some (.int .i64 x.off) := hk1.cell rfl
  have x1 : W1.cell? ⟨w.heap.size, 1, none⟩ = some (.string ⟨x.key.toArray⟩) := hk1.cell rfl
  have x2 : W1.cell? ⟨w.heap.size, 2, none⟩ = some (.string ⟨x.val.toArray⟩) := hk1.cell rfl
  have x3 : W1.cell? ⟨w.heap.size, 3, none⟩ = some (.bool x.gone) := hk1.cell rfl
  have HM := Lib.hid hm
  have HC1 := Lib.hid hc1
  have HB1 := Lib.hid hb1
  have HW1 := Lib.hid hW1
  clear hm hc1 hu hb1 hk1 hW1
  go_enter Tryz.func168, Tryz.ntmps168
  go_wp2_with fail
  rw [HW1.out]
  go_loopw [5, 8] (fun _ iv wr => ∃ k n : Nat, k ≤ m ∧ iv = .int .i64 k ∧ (∀ j y, j < k → l[j]? = some y → x ≠ y) ∧ wr = W1.drewN n) (fun _ iv _ => m - (intOf iv).toNat)
  case atStart => exact ⟨0, 0, Nat.zero_le _, rfl, fun j y h => absurd h (Nat.not_lt_zero _), rfl⟩
  case round =>
    obtain ⟨k, n, hk, rfl, hno, rfl⟩ := hrel
    have HNO := Lib.hid hno
    clear hno
    by_cases hlt : k < m
    · have hdk : decide ((k : Int) < (m : Int)) = true := by simp; omega
      obtain ⟨y, hg⟩ : ∃ y, l[k]? = some y := ⟨_, List.getElem?_eq_getElem (by rw [HM.out]; exact hlt)⟩
      obtain ⟨b, off, rfl, hbl, c0, c1, c2, c3⟩ := HC1.out k y hg
      have HG := Lib.hid hg
      clear hg hbl
      have hgu := rec_guard
      obtain ⟨q, hq⟩ : ∃ q, decide (x = y) = q := ⟨_, rfl⟩
      have hne : ∀ wx, (binOp .eql 75 (.agg #[.int .i64 x.off, .string ⟨x.key.toArray⟩, .string ⟨x.val.toArray⟩, .bool x.gone]) (.agg #[.int .i64 y.off, .string ⟨y.key.toArray⟩, .string ⟨y.val.toArray⟩, .bool y.gone])).run Tryz.prog wx = .ok (.bool q) wx := fun wx => by
        rw [rec_eql x.off y.off ⟨x.key.toArray⟩ ⟨y.key.toArray⟩ ⟨x.val.toArray⟩ ⟨y.val.toArray⟩ x.gone y.gone wx, rec_same, hq]
      have HQ := Lib.hid hq
      clear hq
      have k0 : (0 : Int) ≤ (k : Int) := by omega
      have k1 : (k : Int) < (m : Int) := by omega
      go_wp2_with fail
      go_quiet (fail)
      cases q with
      | true =>
        have he := of_decide_eq_true HQ.out
        have HF : Hid ((0 : Int) ≤ (k : Int) ↔ x ∈ l) := Lib.hid ⟨fun _ => he ▸ List.mem_of_getElem? HG.out, fun _ => by omega⟩
        clear he
        go_wp2_with fail
        go_ret
        exact ⟨_, rfl, HF.out, (HB1.out.trans (below_drewN _ _)).trans (below_drewN _ _)⟩
      | false =>
        have he := of_decide_eq_false HQ.out
        have HF : Hid (∀ j z, j < k + 1 → l[j]? = some z → x ≠ z) := Lib.hid fun j z hj hz => by
          by_cases hjk : j = k
          · subst hjk
            rw [HG.out] at hz
            exact fun e => he (e.trans (Option.some.inj hz).symm)
          · exact HNO.out j z (by omega) hz
        clear he
        go_wp2_with fail
        go_roundw
        case rel => exact ⟨k + 1, n + nq, by omega, by go_num, HF.out, rfl⟩
        case measure => simp [intOf]; omega
    · have hdk : decide ((k : Int) < (m : Int)) = false := by simp; omega
      have HF : Hid ((0 : Int) ≤ -1 ↔ x ∈ l) := Lib.hid ⟨fun h => by omega, fun h => by
        obtain ⟨j, hj⟩ := List.getElem?_of_mem h
        have hjl := (List.getElem?_eq_some_iff.1 hj).1
        exact absurd rfl (HNO.out j x (by rw [HM.out] at hjl; omega) hj)⟩
      go_wp2_with fail
      go_ret
      exact ⟨_, rfl, HF.out, HB1.out.trans (below_drewN _ _)⟩
set_option maxRecDepth 100000 in
theorem hasR_any {A : Nat → Prop} (u : Value) (l : List Pl.Rc) (x : Pl.Rc) (w : World) (hu : RcIn A w u l) (hl : l.length ≤ 1048576) :
    Calls Tryz.prog 132 #[u, .agg #[.int .i64 x.off, .string ⟨x.key.toArray⟩, .string ⟨x.val.toArray⟩, .bool x.gone]] w fun e w' => e = .returned (.bool (decide (x ∈ l))) ∧ Below w.heap.size w w' := by
  obtain ⟨W1, hW1⟩ : ∃ V, w.alloc (.cells #[.int .i64 x.off, .string ⟨x.key.toArray⟩, .string ⟨x.val.toArray⟩, .bool x.gone] 75) = V := ⟨_, rfl⟩
  have hb1 : Below w.heap.size w W1 := by rw [← hW1]; exact (Below.refl _ _).alloc (Nat.le_refl _) _
  have hk1 : Blk W1 w.heap.size #[.int .i64 x.off, .string ⟨x.key.toArray⟩, .string ⟨x.val.toArray⟩, .bool x.gone] 75 := by rw [← hW1]; exact Blk.new _ _ _
  have x0 : W1.cell? ⟨w.heap.size, 0, none⟩ = some (.int .i64 x.off) := hk1.cell rfl
  have x1 : W1.cell? ⟨w.heap.size, 1, none⟩ = some (.string ⟨x.key.toArray⟩) := hk1.cell rfl
  have x2 : W1.cell? ⟨w.heap.size, 2, none⟩ = some (.string ⟨x.val.toArray⟩) := hk1.cell rfl
  have x3 : W1.cell? ⟨w.heap.size, 3, none⟩ = some (.bool x.gone) := hk1.cell rfl
  have HI := Lib.hid (indexR_any u l x W1 (hu.below hb1) hl)
  have HB1 := Lib.hid hb1
  have HW1 := Lib.hid hW1
  obtain ⟨q, hq⟩ : ∃ q, decide (x ∈ l) = q := ⟨_, rfl⟩
  rw [hq]
  have HQ := Lib.hid hq
  clear hb1 hk1 hW1 hu hq
  go_enter Tryz.func132, Tryz.ntmps132
  go_wp2_with fail
  rw [HW1.out]
  refine HI.out.mono ?_
  rintro e w2 ⟨i, rfl, hi, hb2⟩
  have hd : decide ((0 : Int) ≤ i) = q := by rw [← HQ.out]; exact decide_eq_decide.2 hi
  have HF := Lib.hid (HB1.out.trans (hb2.mono HB1.out.size))
  clear hi hb2
  go_wp2_with fail
  go_ret
  exact ⟨rfl, HF.out⟩
set_option maxRecDepth 100000 in
/-- What 'lessened' calls missing: the closure holds the batch's box. -/
theorem missing_any {A : Nat → Prop} (bx : Nat) (base count prod seq time : Int) (u : Value) (l : List Pl.Rc) (x : Pl.Rc) (w : World) (hb : Blk w bx #[.int .i64 base, .int .i64 count, .int .i64 prod, .int .i64 seq, .int .i64 time, u] 34) (hu : RcIn A w u l) (hl : l.length ≤ 1048576) :
    Calls Tryz.prog 131 #[.agg #[.int .i64 x.off, .string ⟨x.key.toArray⟩, .string ⟨x.val.toArray⟩, .bool x.gone], .pointer (some ⟨bx, 0, none⟩)] w fun e w' => e = .returned (.bool (!decide (x ∈ l))) ∧ Below w.heap.size w w' := by
  obtain ⟨ua, uc, rfl⟩ := Rds.form hu
  obtain ⟨m, hm⟩ : ∃ m, l.length = m := ⟨_, rfl⟩
  obtain ⟨W1, hW1⟩ : ∃ V, w.alloc (.cells #[.int .i64 x.off, .string ⟨x.key.toArray⟩, .string ⟨x.val.toArray⟩, .bool x.gone] 75) = V := ⟨_, rfl⟩
  have hb1 : Below w.heap.size w W1 := by rw [← hW1]; exact (Below.refl _ _).alloc (Nat.le_refl _) _
  have hk1 : Blk W1 w.heap.size #[.int .i64 x.off, .string ⟨x.key.toArray⟩, .string ⟨x.val.toArray⟩, .bool x.gone] 75 := by rw [← hW1]; exact Blk.new _ _ _
  have x0 : W1.cell? ⟨w.heap.size, 0, none⟩ = some (.int .i64 x.off) := hk1.cell rfl
  have x1 : W1.cell? ⟨w.heap.size, 1, none⟩ = some (.string ⟨x.key.toArray⟩) := hk1.cell rfl
  have x2 : W1.cell? ⟨w.heap.size, 2, none⟩ = some (.string ⟨x.val.toArray⟩) := hk1.cell rfl
  have x3 : W1.cell? ⟨w.heap.size, 3, none⟩ = some (.bool x.gone) := hk1.cell rfl
  have x5 : W1.cell? ⟨bx, 5, none⟩ = some (.slice ua m uc) := by rw [← hm]; exact (hb.below hb1).cell rfl
  have x5' : w.cell? ⟨bx, 5, none⟩ = some (.slice ua m uc) := by rw [← hm]; exact hb.cell rfl
  have hne : bx ≠ w.heap.size := Nat.ne_of_lt hb.lt
  have hne' : w.heap.size ≠ bx := fun e => hne e.symm
  have hltb : bx < w.heap.size := hb.lt
  have HI := Lib.hid (hasR_any _ l x W1 (hu.below hb1) hl)
  have HB1 := Lib.hid hb1
  have HW1 := Lib.hid hW1
  obtain ⟨q, hq⟩ : ∃ q, decide (x ∈ l) = q := ⟨_, rfl⟩
  rw [hq, hm] at HI
  rw [hq]
  clear hb1 hk1 hW1 hu hq hb hm
  go_enter Tryz.func131, Tryz.ntmps131
  go_wp2_with fail
  rw [HW1.out]
  refine HI.out.mono ?_
  rintro e w2 ⟨rfl, hb2⟩
  have HF := Lib.hid (HB1.out.trans (hb2.mono HB1.out.size))
  clear hb2
  go_wp2_with fail
  go_ret
  exact ⟨rfl, HF.out⟩
end Go.Proofs.YtdaoeplblkfapaaGreatDoor

/- THE CONTRACT of slices.IndexFunc over records, with the closure of lessened. -/
namespace Go.Proofs.YtdaoeplblkfapaaGreatDoor
open Go.RowKit

/-- The first record that isn't in l. -/
def FirstOut (l L : List Pl.Rc) (i : Int) : Prop :=
  (i = -1 ∧ ∀ x ∈ L, x ∈ l) ∨ ∃ k : Nat, i = k ∧ k < L.length ∧ (∀ j y, j < k → L[j]? = some y → y ∈ l) ∧ ∀ y, L[k]? = some y → y ∉ l
set_option maxHeartbeats 1000000 in
set_option maxRecDepth 100000 in
theorem indexF_any {A A' : Nat → Prop} (bx : Nat) (base count prod seq time : Int) (u v : Value) (l L : List Pl.Rc) (w : World) (hb : Blk w bx #[.int .i64 base, .int .i64 count, .int .i64 prod, .int .i64 seq, .int .i64 time, u] 34) (hu : RcIn A w u l) (hl : l.length ≤ 1048576) (hv : RcIn A' w v L) (hL : L.length ≤ 1048576) :
    Calls Tryz.prog 156 #[v, .func (.func 131) #[] #[.pointer (some ⟨bx, 0, none⟩)]] w fun e w' => ∃ i : Int, e = .returned (.int .i64 i) ∧ FirstOut l L i ∧ Below w.heap.size w w' := by
  obtain ⟨va, vc, rfl⟩ := Rds.form hv
  obtain ⟨m, hm⟩ : ∃ m, L.length = m := ⟨_, rfl⟩
  have HM := Lib.hid hm
  have HV := Lib.hid hv
  have HMI : Hid (∀ x wx, Below w.heap.size w wx → Calls Tryz.prog 131 #[.agg #[.int .i64 x.off, .string ⟨x.key.toArray⟩, .string ⟨x.val.toArray⟩, .bool x.gone], .pointer (some ⟨bx, 0, none⟩)] wx fun e w' => e = .returned (.bool (!decide (x ∈ l))) ∧ Below wx.heap.size wx w') := Lib.hid fun x wx h => missing_any bx base count prod seq time u l x wx (hb.below h) (hu.below h) hl
  rw [hm] at hL ⊢
  clear hb hu hv hm
  go_enter Tryz.func156, Tryz.ntmps156
  go_wp2_with fail
  go_loopw [5, 8] (fun _ iv wr => ∃ k : Nat, k ≤ m ∧ iv = .int .i64 k ∧ (∀ j y, j < k → L[j]? = some y → y ∈ l) ∧ Below w.heap.size w wr) (fun _ iv _ => m - (intOf iv).toNat)
  case atStart => exact ⟨0, Nat.zero_le _, rfl, fun j y h => absurd h (Nat.not_lt_zero _), Below.refl _ _⟩
  case round =>
    obtain ⟨k, hk, rfl, hno, hbw⟩ := hrel
    have HNO := Lib.hid hno
    have HBW := Lib.hid hbw
    clear hno hbw
    by_cases hlt : k < m
    · have hdk : decide ((k : Int) < (m : Int)) = true := by simp; omega
      obtain ⟨y, hg⟩ : ∃ y, L[k]? = some y := ⟨_, List.getElem?_eq_getElem (by rw [HM.out]; exact hlt)⟩
      obtain ⟨a1, cap1, e1, hc⟩ := RcIn.recs (HV.out.below HBW.out)
      obtain ⟨b, off, rfl, hbl, c0, c1, c2, c3⟩ := hc k y hg
      have e1' : va = some ⟨b, off, none⟩ := by injection e1
      subst e1'
      have HG := Lib.hid hg
      have HCM := Lib.hid (HMI.out y wr HBW.out)
      obtain ⟨q, hq⟩ : ∃ q, (!decide (y ∈ l)) = q := ⟨_, rfl⟩
      have HQ := Lib.hid hq
      rw [hq] at HCM
      have k0 : (0 : Int) ≤ (k : Int) := by omega
      have k1 : (k : Int) < (m : Int) := by omega
      clear hg hbl hc e1 hq
      go_wp2_with fail
      refine HCM.out.mono ?_
      rintro e w2 ⟨rfl, hb2⟩
      have HB2 := Lib.hid (HBW.out.trans (hb2.mono HBW.out.size))
      clear hb2
      cases q with
      | true =>
        have he : y ∉ l := by have := HQ.out; simpa using this
        have HF : Hid (FirstOut l L k) := Lib.hid (.inr ⟨k, rfl, by rw [HM.out]; exact hlt, HNO.out, fun z hz => by rw [HG.out] at hz; exact Option.some.inj hz ▸ he⟩)
        clear he
        go_wp2_with fail
        go_ret
        exact ⟨_, rfl, HF.out, HB2.out⟩
      | false =>
        have he : y ∈ l := by have := HQ.out; simpa using this
        have HF : Hid (∀ j z, j < k + 1 → L[j]? = some z → z ∈ l) := Lib.hid fun j z hj hz => by
          by_cases hjk : j = k
          · subst hjk
            rw [HG.out] at hz
            exact Option.some.inj hz ▸ he
          · exact HNO.out j z (by omega) hz
        clear he
        go_wp2_with fail
        go_roundw
        case rel => exact ⟨k + 1, by omega, by go_num, HF.out, HB2.out⟩
        case measure => simp [intOf]; omega
    · have hdk : decide ((k : Int) < (m : Int)) = false := by simp; omega
      have HF : Hid (FirstOut l L (-1)) := Lib.hid (.inl ⟨rfl, fun x hx => by
        obtain ⟨j, hj⟩ := List.getElem?_of_mem hx
        have hjl := (List.getElem?_eq_some_iff.1 hj).1
        exact HNO.out j x (by rw [HM.out] at hjl; omega) hj⟩)
      go_wp2_with fail
      go_ret
      exact ⟨_, rfl, HF.out, HBW.out⟩
end Go.Proofs.YtdaoeplblkfapaaGreatDoor
