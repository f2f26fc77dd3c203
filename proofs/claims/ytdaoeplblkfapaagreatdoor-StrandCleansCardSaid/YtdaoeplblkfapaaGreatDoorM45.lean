import Derived.Test.YtdaoeplblkfapaaGreatDoorM21
import Derived.Test.YtdaoeplblkfapaaGreatDoorM29
import Derived.Test.YtdaoeplblkfapaaGreatDoorM17

/- PLAIN MATHEMATICS OF PUT: batches without some records. -/
namespace Go.Proofs.YtdaoeplblkfapaaGreatDoor

/-- Records without those whose places, counted on from n, are told. -/
def wo1 (less : List Int) : Nat → List Pl.Rc → List Pl.Rc
  | _, [] => []
  | n, r :: l => if (n : Int) ∈ less then wo1 less (n + 1) l else r :: wo1 less (n + 1) l
def woB (less : List Int) (n : Nat) (b : Pl.Bt) : Pl.Bt := { b with recs := wo1 less n b.recs }
def woL (less : List Int) : Nat → List Pl.Bt → List Pl.Bt
  | _, [] => []
  | n, b :: l => woB less n b :: woL less (n + b.recs.length) l
theorem wo1_sub (less : List Int) : ∀ (l : List Pl.Rc) (n : Nat), (wo1 less n l).Sublist l
  | [], _ => List.Sublist.refl _
  | r :: l, n => by
    unfold wo1
    split
    · exact (wo1_sub less l (n + 1)).cons r
    · exact (wo1_sub less l (n + 1)).cons_cons r
theorem wo1_snoc (less : List Int) (r : Pl.Rc) : ∀ (l : List Pl.Rc) (n : Nat), wo1 less n (l ++ [r]) = wo1 less n l ++ (if ((n + l.length : Nat) : Int) ∈ less then [] else [r])
  | [], n => by
    by_cases h : (n : Int) ∈ less <;> simp [wo1, h]
  | x :: l, n => by
    have ih := wo1_snoc less r l (n + 1)
    rw [show n + 1 + l.length = n + (x :: l).length by simp; omega] at ih
    show wo1 less n (x :: (l ++ [r])) = wo1 less n (x :: l) ++ _
    conv => lhs; unfold wo1
    conv => rhs; arg 1; unfold wo1
    rw [ih]
    split <;> rfl
/-- How many records there are. -/
def cntR (l : List Pl.Bt) : Nat := (rcs l).length
theorem woL_length (less : List Int) : ∀ (l : List Pl.Bt) (n : Nat), (woL less n l).length = l.length
  | [], _ => rfl
  | b :: l, n => by show (woL less _ l).length + 1 = l.length + 1; rw [woL_length less l]
theorem woL_snoc (less : List Int) (b : Pl.Bt) : ∀ (l : List Pl.Bt) (n : Nat), woL less n (l ++ [b]) = woL less n l ++ [woB less (n + cntR l) b]
  | [], n => rfl
  | x :: l, n => by
    show woB less n x :: woL less (n + x.recs.length) (l ++ [b]) = woB less n x :: (woL less (n + x.recs.length) l ++ [_])
    rw [woL_snoc less b l (n + x.recs.length)]
    unfold cntR
    rw [show rcs (x :: l) = x.recs ++ rcs l from rfl, List.length_append, Nat.add_assoc]
theorem woB_good {less : List Int} {n : Nat} {b : Pl.Bt} (h : Pl.goodB b = true) : Pl.goodB (woB less n b) = true := Pl.good_sub (wo1_sub less b.recs n) h
theorem woL_chain {less : List Int} : ∀ {l : List Pl.Bt} {x : Int} (n : Nat), Chain x l → Chain x (woL less n l) ∧ lend x (woL less n l) = lend x l
  | [], _, _, h => ⟨h, rfl⟩
  | b :: l, x, n, h => by
    obtain ⟨h1, h2, h3⟩ := h
    obtain ⟨i1, i2⟩ := woL_chain (less := less) (n + b.recs.length) h3
    exact ⟨⟨woB_good h1, h2, i1⟩, i2⟩
/-- What is in a part of a list without twins, taken out of the list, is the part. -/
theorem filter_sub {α : Type} [DecidableEq α] {s l : List α} (h : s.Sublist l) (hn : l.Nodup) : l.filter (fun x => decide (x ∈ s)) = s := by
  induction h with
  | slnil => rfl
  | cons x hs ih =>
    obtain ⟨h1, h2⟩ := List.nodup_cons.1 hn
    rw [List.filter_cons, if_neg (by simp; exact fun hx => h1 (hs.subset hx))]
    exact ih h2
  | cons_cons x hs ih =>
    obtain ⟨h1, h2⟩ := List.nodup_cons.1 hn
    rw [List.filter_cons, if_pos (by simp)]
    congr 1
    rename_i s' l'
    have h3 : l'.filter (fun y => decide (y ∈ x :: s')) = l'.filter (fun y => decide (y ∈ s')) := by
      refine List.filter_congr fun y hy => ?_
      have : y ≠ x := fun e => h1 (e ▸ hy)
      simp [this]
    rw [h3]
    exact ih h2
theorem rise_nodup {l : List Pl.Rc} {a c : Int} (h : Pl.riseB l a c = true) : l.Nodup := (rise_pair h).imp fun {r s} hrs e => by subst e; omega
end Go.Proofs.YtdaoeplblkfapaaGreatDoor

/- THE CONTRACTS of slices.Index and slices.Contains over records. -/
namespace Go.Proofs.YtdaoeplblkfapaaGreatDoor
open Go.RowKit

set_option maxRecDepth 100000 in
theorem rec_eql (o o' : Int) (K K' V V' : ByteArray) (g g' : Bool) (wx : World) :
    (binOp .eql 75 (.agg #[.int .i64 o, .string K, .string V, .bool g]) (.agg #[.int .i64 o', .string K', .string V', .bool g'])).run Tryz.prog wx = .ok (.bool (o == o' && (K.toList == K'.toList && (V.toList == V'.toList && g == g')))) wx := by
  rw [run_eql_struct, show (10000 : Nat) = 9999 + 1 from rfl, run_equalIn_struct wx 9999 _ _ _ rec_under rec_held]
  go_simp
  by_cases h1 : o = o' <;> by_cases h2 : K.toList = K'.toList <;> by_cases h3 : V.toList = V'.toList <;> by_cases h4 : g = g' <;> simp [h1, h2, h3, h4]
instance : DecidableEq Pl.Rc := fun x y => decidable_of_iff (x.off = y.off ∧ x.key = y.key ∧ x.val = y.val ∧ x.gone = y.gone) (by cases x; cases y; simp)
theorem rec_same (x y : Pl.Rc) : (x.off == y.off && ((⟨x.key.toArray⟩ : ByteArray).toList == (⟨y.key.toArray⟩ : ByteArray).toList && ((⟨x.val.toArray⟩ : ByteArray).toList == (⟨y.val.toArray⟩ : ByteArray).toList && x.gone == y.gone))) = decide (x = y) := by
  obtain ⟨a, b, c, d⟩ := x
  obtain ⟨a', b', c', d'⟩ := y
  by_cases h1 : a = a' <;> by_cases h2 : b = b' <;> by_cases h3 : c = c' <;> by_cases h4 : d = d' <;> simp [h1, h2, h3, h4]
set_option maxHeartbeats 1000000 in
set_option maxRecDepth 100000 in
theorem indexR_any {A : Nat → Prop} (u : Value) (l : List Pl.Rc) (x : Pl.Rc) (w : World) (hu : RcIn A w u l) (hl : l.length ≤ 1048576) :
    Calls Tryz.prog 168 #[u, .agg #[.int .i64 x.off, .string ⟨x.key.toArray⟩, .string ⟨x.val.toArray⟩, .bool x.gone]] w fun e w' => ∃ i : Int, e = .returned (.int .i64 i) ∧ (0 ≤ i ↔ x ∈ l) ∧ Below w.heap.size w w' := by
  obtain ⟨W1, hW1⟩ : ∃ V, w.alloc (.cells #[.int .i64 x.off, .string ⟨x.key.toArray⟩, .string ⟨x.val.toArray⟩, .bool x.gone] 75) = V := ⟨_, rfl⟩
  have hb1 : Below w.heap.size w W1 := by rw [← hW1]; exact (Below.refl _ _).alloc (Nat.le_refl _) _
  have hk1 : Blk W1 w.heap.size #[.int .i64 x.off, .string ⟨x.key.toArray⟩, .string ⟨x.val.toArray⟩, .bool x.gone] 75 := by rw [← hW1]; exact Blk.new _ _ _
  obtain ⟨a1, cap1, rfl, hc1⟩ := RcIn.recs (hu.below hb1)
  obtain ⟨m, hm⟩ : ∃ m, l.length = m := ⟨_, rfl⟩
  rw [hm] at hl ⊢
  have x0 : W1.cell? ⟨w.heap.size, 0, none⟩ = some (.int .i64 x.off) := hk1.cell rfl
  have x1 : W1.cell? ⟨w.heap.size, 1, none⟩ = some (.string ⟨x.key.toArray⟩) := hk1.cell rfl
  have x2 : W1.cell? ⟨w.heap.size, 2, none⟩ = some (.string ⟨x.val.toArray⟩) := hk1.cell rfl
  have x3 : W1.cell? ⟨w.heap.size, 3, none⟩ = some (.bool x.gone) := hk1.cell rfl
  have HM := Lib.hid hm
  have HC1 := Lib.hid hc1
  have HB1 := Lib.hid hb1
  have HW1 := Lib.hid hW1
  clear hm hc1 hu hb1 hk1 hW1
  go_enter Tryz.func168, Tryz.ntmps168
  go_wp2_with fail
  rw [HW1.out]
  go_loopw [5, 8] (fun _ iv wr => ∃ k n : Nat, k ≤ m ∧ iv = .int .i64 k ∧ (∀ j y, j < k → l[j]? = some y → x ≠ y) ∧ wr = W1.drewN n) (fun _ iv _ => m - (intOf iv).toNat)
  case atStart => exact ⟨0, 0, Nat.zero_le _, rfl, fun j y h => absurd h (Nat.not_lt_zero _), rfl⟩
  case round =>
    obtain ⟨k, n, hk, rfl, hno, rfl⟩ := hrel
    have HNO := Lib.hid hno
    clear hno
    by_cases hlt : k < m
    · have hdk : decide ((k : Int) < (m : Int)) = true := by simp; omega
      obtain ⟨y, hg⟩ : ∃ y, l[k]? = some y := ⟨_, List.getElem?_eq_getElem (by rw [HM.out]; exact hlt)⟩
      obtain ⟨b, off, rfl, hbl, c0, c1, c2, c3⟩ := HC1.out k y hg
      have HG := Lib.hid hg
      clear hg hbl
      have hgu := rec_guard
      obtain ⟨q, hq⟩ : ∃ q, decide (x = y) = q := ⟨_, rfl⟩
      have hne : ∀ wx, (binOp .eql 75 (.agg #[.int .i64 x.off, .string ⟨x.key.toArray⟩, .string ⟨x.val.toArray⟩, .bool x.gone]) (.agg #[.int .i64 y.off, .string ⟨y.key.toArray⟩, .string ⟨y.val.toArray⟩, .bool y.gone])).run Tryz.prog wx = .ok (.bool q) wx := fun wx => by
        rw [rec_eql x.off y.off ⟨x.key.toArray⟩ ⟨y.key.toArray⟩ ⟨x.val.toArray⟩ ⟨y.val.toArray⟩ x.gone y.gone wx, rec_same, hq]
      have HQ := Lib.hid hq
      clear hq
      have k0 : (0 : Int) ≤ (k : Int) := by omega
      have k1 : (k : Int) < (m : Int) := by omega
      go_wp2_with fail
      go_quiet (fail)
      cases q with
      | true =>
        have he := of_decide_eq_true HQ.out
        have HF : Hid ((0 : Int) ≤ (k : Int) ↔ x ∈ l) := Lib.hid ⟨fun _ => he ▸ List.mem_of_getElem? HG.out, fun _ => by omega⟩
        clear he
        go_wp2_with fail
        go_ret
        exact ⟨_, rfl, HF.out, (HB1.out.trans (below_drewN _ _)).trans (below_drewN _ _)⟩
      | false =>
        have he := of_decide_eq_false HQ.out
        have HF : Hid (∀ j z, j < k + 1 → l[j]? = some z → x ≠ z) := Lib.hid fun j z hj hz => by
          by_cases hjk : j = k
          · subst hjk
            rw [HG.out] at hz
            exact fun e => he (e.trans (Option.some.inj hz).symm)
          · exact HNO.out j z (by omega) hz
        clear he
        go_wp2_with fail
        go_roundw
        case rel => exact ⟨k + 1, n + nq, by omega, by go_num, HF.out, rfl⟩
        case measure => simp [intOf]; omega
    · have hdk : decide ((k : Int) < (m : Int)) = false := by simp; omega
      have HF : Hid ((0 : Int) ≤ -1 ↔ x ∈ l) := Lib.hid ⟨fun h => by omega, fun h => by
        obtain ⟨j, hj⟩ := List.getElem?_of_mem h
        have hjl := (List.getElem?_eq_some_iff.1 hj).1
        exact absurd rfl (HNO.out j x (by rw [HM.out] at hjl; omega) hj)⟩
      go_wp2_with fail
      go_ret
      exact ⟨_, rfl, HF.out, HB1.out.trans (below_drewN _ _)⟩
set_option maxRecDepth 100000 in
theorem hasR_any {A : Nat → Prop} (u : Value) (l : List Pl.Rc) (x : Pl.Rc) (w : World) (hu : RcIn A w u l) (hl : l.length ≤ 1048576) :
    Calls Tryz.prog 132 #[u, .agg #[.int .i64 x.off, .string ⟨x.key.toArray⟩, .string ⟨x.val.toArray⟩, .bool x.gone]] w fun e w' => e = .returned (.bool (decide (x ∈ l))) ∧ Below w.heap.size w w' := by
  obtain ⟨W1, hW1⟩ : ∃ V, w.alloc (.cells #[.int .i64 x.off, .string ⟨x.key.toArray⟩, .string ⟨x.val.toArray⟩, .bool x.gone] 75) = V := ⟨_, rfl⟩
  have hb1 : Below w.heap.size w W1 := by rw [← hW1]; exact (Below.refl _ _).alloc (Nat.le_refl _) _
  have hk1 : Blk W1 w.heap.size #[.int .i64 x.off, .string ⟨x.key.toArray⟩, .string ⟨x.val.toArray⟩, .bool x.gone] 75 := by rw [← hW1]; exact Blk.new _ _ _
  have x0 : W1.cell? ⟨w.heap.size, 0, none⟩ = some (.int .i64 x.off) := hk1.cell rfl
  have x1 : W1.cell? ⟨w.heap.size, 1, none⟩ = some (.string ⟨x.key.toArray⟩) := hk1.cell rfl
  have x2 : W1.cell? ⟨w.heap.size, 2, none⟩ = some (.string ⟨x.val.toArray⟩) := hk1.cell rfl
  have x3 : W1.cell? ⟨w.heap.size, 3, none⟩ = some (.bool x.gone) := hk1.cell rfl
  have HI := Lib.hid (indexR_any u l x W1 (hu.below hb1) hl)
  have HB1 := Lib.hid hb1
  have HW1 := Lib.hid hW1
  obtain ⟨q, hq⟩ : ∃ q, decide (x ∈ l) = q := ⟨_, rfl⟩
  rw [hq]
  have HQ := Lib.hid hq
  clear hb1 hk1 hW1 hu hq
  go_enter Tryz.func132, Tryz.ntmps132
  go_wp2_with fail
  rw [HW1.out]
  refine HI.out.mono ?_
  rintro e w2 ⟨i, rfl, hi, hb2⟩
  have hd : decide ((0 : Int) ≤ i) = q := by rw [← HQ.out]; exact decide_eq_decide.2 hi
  have HF := Lib.hid (HB1.out.trans (hb2.mono HB1.out.size))
  clear hi hb2
  go_wp2_with fail
  go_ret
  exact ⟨rfl, HF.out⟩
set_option maxRecDepth 100000 in
/-- What 'lessened' calls missing: the closure holds the batch's box. -/
theorem missing_any {A : Nat → Prop} (bx : Nat) (base count prod seq time : Int) (u : Value) (l : List Pl.Rc) (x : Pl.Rc) (w : World) (hb : Blk w bx #[.int .i64 base, .int .i64 count, .int .i64 prod, .int .i64 seq, .int .i64 time, u] 34) (hu : RcIn A w u l) (hl : l.length ≤ 1048576) :
    Calls Tryz.prog 131 #[.agg #[.int .i64 x.off, .string ⟨x.key.toArray⟩, .string ⟨x.val.toArray⟩, .bool x.gone], .pointer (some ⟨bx, 0, none⟩)] w fun e w' => e = .returned (.bool (!decide (x ∈ l))) ∧ Below w.heap.size w w' := by
  obtain ⟨ua, uc, rfl⟩ := Rds.form hu
  obtain ⟨m, hm⟩ : ∃ m, l.length = m := ⟨_, rfl⟩
  obtain ⟨W1, hW1⟩ : ∃ V, w.alloc (.cells #[.int .i64 x.off, .string ⟨x.key.toArray⟩, .string ⟨x.val.toArray⟩, .bool x.gone] 75) = V := ⟨_, rfl⟩
  have hb1 : Below w.heap.size w W1 := by rw [← hW1]; exact (Below.refl _ _).alloc (Nat.le_refl _) _
  have hk1 : Blk W1 w.heap.size #[.int .i64 x.off, .string ⟨x.key.toArray⟩, .string ⟨x.val.toArray⟩, .bool x.gone] 75 := by rw [← hW1]; exact Blk.new _ _ _
  have x0 : W1.cell? ⟨w.heap.size, 0, none⟩ = some (.int .i64 x.off) := hk1.cell rfl
  have x1 : W1.cell? ⟨w.heap.size, 1, none⟩ = some (.string ⟨x.key.toArray⟩) := hk1.cell rfl
  have x2 : W1.cell? ⟨w.heap.size, 2, none⟩ = some (.string ⟨x.val.toArray⟩) := hk1.cell rfl
  have x3 : W1.cell? ⟨w.heap.size, 3, none⟩ = some (.bool x.gone) := hk1.cell rfl
  have x5 : W1.cell? ⟨bx, 5, none⟩ = some (.slice ua m uc) := by rw [← hm]; exact (hb.below hb1).cell rfl
  have x5' : w.cell? ⟨bx, 5, none⟩ = some (.slice ua m uc) := by rw [← hm]; exact hb.cell rfl
  have hne : bx ≠ w.heap.size := Nat.ne_of_lt hb.lt
  have hne' : w.heap.size ≠ bx := fun e => hne e.symm
  have hltb : bx < w.heap.size := hb.lt
  have HI := Lib.hid (hasR_any _ l x W1 (hu.below hb1) hl)
  have HB1 := Lib.hid hb1
  have HW1 := Lib.hid hW1
  obtain ⟨q, hq⟩ : ∃ q, decide (x ∈ l) = q := ⟨_, rfl⟩
  rw [hq, hm] at HI
  rw [hq]
  clear hb1 hk1 hW1 hu hq hb hm
  go_enter Tryz.func131, Tryz.ntmps131
  go_wp2_with fail
  rw [HW1.out]
  refine HI.out.mono ?_
  rintro e w2 ⟨rfl, hb2⟩
  have HF := Lib.hid (HB1.out.trans (hb2.mono HB1.out.size))
  clear hb2
  go_wp2_with fail
  go_ret
  exact ⟨rfl, HF.out⟩
end Go.Proofs.YtdaoeplblkfapaaGreatDoor

/- THE CONTRACT of slices.IndexFunc over records, with the closure of lessened. -/
namespace Go.Proofs.YtdaoeplblkfapaaGreatDoor
open Go.RowKit

/-- The first record that isn't in l. -/
def FirstOut (l L : List Pl.Rc) (i : Int) : Prop :=
  (i = -1 ∧ ∀ x ∈ L, x ∈ l) ∨ ∃ k : Nat, i = k ∧ k < L.length ∧ (∀ j y, j < k → L[j]? = some y → y ∈ l) ∧ ∀ y, L[k]? = some y → y ∉ l
set_option maxHeartbeats 1000000 in
set_option maxRecDepth 100000 in
theorem indexF_any {A A' : Nat → Prop} (bx : Nat) (base count prod seq time : Int) (u v : Value) (l L : List Pl.Rc) (w : World) (hb : Blk w bx #[.int .i64 base, .int .i64 count, .int .i64 prod, .int .i64 seq, .int .i64 time, u] 34) (hu : RcIn A w u l) (hl : l.length ≤ 1048576) (hv : RcIn A' w v L) (hL : L.length ≤ 1048576) :
    Calls Tryz.prog 156 #[v, .func (.func 131) #[] #[.pointer (some ⟨bx, 0, none⟩)]] w fun e w' => ∃ i : Int, e = .returned (.int .i64 i) ∧ FirstOut l L i ∧ Below w.heap.size w w' := by
  obtain ⟨va, vc, rfl⟩ := Rds.form hv
  obtain ⟨m, hm⟩ : ∃ m, L.length = m := ⟨_, rfl⟩
  have HM := Lib.hid hm
  have HV := Lib.hid hv
  have HMI : Hid (∀ x wx, Below w.heap.size w wx → Calls Tryz.prog 131 #[.agg #[.int .i64 x.off, .string ⟨x.key.toArray⟩, .string ⟨x.val.toArray⟩, .bool x.gone], .pointer (some ⟨bx, 0, none⟩)] wx fun e w' => e = .returned (.bool (!decide (x ∈ l))) ∧ Below wx.heap.size wx w') := Lib.hid fun x wx h => missing_any bx base count prod seq time u l x wx (hb.below h) (hu.below h) hl
  rw [hm] at hL ⊢
  clear hb hu hv hm
  go_enter Tryz.func156, Tryz.ntmps156
  go_wp2_with fail
  go_loopw [5, 8] (fun _ iv wr => ∃ k : Nat, k ≤ m ∧ iv = .int .i64 k ∧ (∀ j y, j < k → L[j]? = some y → y ∈ l) ∧ Below w.heap.size w wr) (fun _ iv _ => m - (intOf iv).toNat)
  case atStart => exact ⟨0, Nat.zero_le _, rfl, fun j y h => absurd h (Nat.not_lt_zero _), Below.refl _ _⟩
  case round =>
    obtain ⟨k, hk, rfl, hno, hbw⟩ := hrel
    have HNO := Lib.hid hno
    have HBW := Lib.hid hbw
    clear hno hbw
    by_cases hlt : k < m
    · have hdk : decide ((k : Int) < (m : Int)) = true := by simp; omega
      obtain ⟨y, hg⟩ : ∃ y, L[k]? = some y := ⟨_, List.getElem?_eq_getElem (by rw [HM.out]; exact hlt)⟩
      obtain ⟨a1, cap1, e1, hc⟩ := RcIn.recs (HV.out.below HBW.out)
      obtain ⟨b, off, rfl, hbl, c0, c1, c2, c3⟩ := hc k y hg
      have e1' : va = some ⟨b, off, none⟩ := by injection e1
      subst e1'
      have HG := Lib.hid hg
      have HCM := Lib.hid (HMI.out y wr HBW.out)
      obtain ⟨q, hq⟩ : ∃ q, (!decide (y ∈ l)) = q := ⟨_, rfl⟩
      have HQ := Lib.hid hq
      rw [hq] at HCM
      have k0 : (0 : Int) ≤ (k : Int) := by omega
      have k1 : (k : Int) < (m : Int) := by omega
      clear hg hbl hc e1 hq
      go_wp2_with fail
      refine HCM.out.mono ?_
      rintro e w2 ⟨rfl, hb2⟩
      have HB2 := Lib.hid (HBW.out.trans (hb2.mono HBW.out.size))
      clear hb2
      cases q with
      | true =>
        have he : y ∉ l := by have := HQ.out; simpa using this
        have HF : Hid (FirstOut l L k) := Lib.hid (.inr ⟨k, rfl, by rw [HM.out]; exact hlt, HNO.out, fun z hz => by rw [HG.out] at hz; exact Option.some.inj hz ▸ he⟩)
        clear he
        go_wp2_with fail
        go_ret
        exact ⟨_, rfl, HF.out, HB2.out⟩
      | false =>
        have he : y ∈ l := by have := HQ.out; simpa using this
        have HF : Hid (∀ j z, j < k + 1 → L[j]? = some z → z ∈ l) := Lib.hid fun j z hj hz => by
          by_cases hjk : j = k
          · subst hjk
            rw [HG.out] at hz
            exact Option.some.inj hz ▸ he
          · exact HNO.out j z (by omega) hz
        clear he
        go_wp2_with fail
        go_roundw
        case rel => exact ⟨k + 1, by omega, by go_num, HF.out, HB2.out⟩
        case measure => simp [intOf]; omega
    · have hdk : decide ((k : Int) < (m : Int)) = false := by simp; omega
      have HF : Hid (FirstOut l L (-1)) := Lib.hid (.inl ⟨rfl, fun x hx => by
        obtain ⟨j, hj⟩ := List.getElem?_of_mem hx
        have hjl := (List.getElem?_eq_some_iff.1 hj).1
        exact HNO.out j x (by rw [HM.out] at hjl; omega) hj⟩)
      go_wp2_with fail
      go_ret
      exact ⟨_, rfl, HF.out, HBW.out⟩
end Go.Proofs.YtdaoeplblkfapaaGreatDoor

/- THE CONTRACT of slices.DeleteFunc over records, with the closure of lessened: in place, in a slice of the call's own. -/
namespace Go.Proofs.YtdaoeplblkfapaaGreatDoor
open Go.RowKit

theorem take_nxt {α : Type} {l : List α} {i : Nat} {x : α} (h : l[i]? = some x) : l.take (i + 1) = l.take i ++ [x] := by rw [List.take_add_one, h]; rfl
theorem drop_nxt {α : Type} {l : List α} {i : Nat} {x : α} (h : l[i]? = some x) : l.drop i = x :: l.drop (i + 1) := by
  obtain ⟨hl, rfl⟩ := List.getElem?_eq_some_iff.1 h
  exact List.drop_eq_getElem_cons hl
theorem set4 (A C : List Value) (a0 a1 a2 a3 u0 u1 u2 u3 : Value) :
    ((((A ++ [a0, a1, a2, a3] ++ C).set A.length u0).set (A.length + 1) u1).set (A.length + 2) u2).set (A.length + 3) u3 = A ++ [u0, u1, u2, u3] ++ C := by
  simp
theorem Sl.set4 {w : World} {g p cap e n k : Nat} {A C : List Value} {a0 a1 a2 a3 : Value} (h : Sl w (.slice (some ⟨g, p, none⟩) n cap) (some g) e 4 n (A ++ [a0, a1, a2, a3] ++ C)) (hA : A.length = k * 4) (u0 u1 u2 u3 : Value) :
    Sl ((((w.setCell ⟨g, p + k * 4, none⟩ u0).setCell ⟨g, p + k * 4 + 1, none⟩ u1).setCell ⟨g, p + k * 4 + 2, none⟩ u2).setCell ⟨g, p + k * 4 + 3, none⟩ u3)
      (.slice (some ⟨g, p, none⟩) n cap) (some g) e 4 n (A ++ [u0, u1, u2, u3] ++ C) := by
  have hl := h.1
  simp only [List.length_append, List.length_cons, List.length_nil] at hl
  have := (((h.set (j := k * 4) (by omega) u0).set (j := k * 4 + 1) (by omega) u1).set (j := k * 4 + 2) (by omega) u2).set (j := k * 4 + 3) (by omega) u3
  rw [← hA, Go.Proofs.YtdaoeplblkfapaaGreatDoor.set4, hA] at this
  simp only [← Nat.add_assoc] at this
  exact this
theorem Sl.cur {w : World} {g p cap e size n : Nat} {xs : List Value} (h : Sl w (.slice (some ⟨g, p, none⟩) n cap) (some g) e size n xs) :
    ∃ cur : Array Value, w.heap[g]? = some (.cells cur e (0, 0)) ∧ n ≤ cap ∧ p + cap * size ≤ cur.size ∧ (cur.toList.drop p).take (n * size) = xs := by
  rcases h.2 with ⟨e1, _⟩ | ⟨g', p', cap', cur, e1, e2, hg, hc, hcs, ht⟩
  · cases e1
  · cases e1
    injection e2 with e3 e4 e5
    injection e3 with e3
    injection e3 with e6 e7
    subst e7 e5
    exact ⟨cur, hg, hc, hcs, ht⟩
theorem grown_below {w w1 w2 : World} {r : Option Nat} (h : w.grownBy w1 r) (b : Below w1.heap.size w1 w2) : w.grownBy w2 r :=
  ⟨b.os.trans h.os, b.tape.trans h.tape, b.output.trans h.output, Nat.le_trans h.size b.size, fun k hk hn => (b.block k (Nat.lt_of_lt_of_le hk h.size)).trans (h.block k hk hn)⟩
theorem grown_set {w w1 : World} {g i : Nat} (h : w.grownBy w1 (some g)) (v : Value) : w.grownBy (w1.setCell ⟨g, i, none⟩ v) (some g) :=
  ⟨h.os, h.tape, h.output, by have := h.size; simpa [World.setCell] using this, fun k hk hn => (Below.heap_setCell _ _ _ _ (fun e => hn (by rw [e]))).trans (h.block k hk hn)⟩
theorem grown_trans {w w1 w2 : World} {r : Option Nat} (h : w.grownBy w1 r) (b : w1.grownBy w2 r) : w.grownBy w2 r :=
  ⟨b.os.trans h.os, b.tape.trans h.tape, b.output.trans h.output, Nat.le_trans h.size b.size, fun k hk hn => (b.block k (Nat.lt_of_lt_of_le hk h.size) hn).trans (h.block k hk hn)⟩
theorem zeroRc (w : World) : (zeroValue 75).run Tryz.prog w = .ok (.agg zeroR) w := by kernel_rfl
/-- How far DeleteFunc is. -/
structure DlF (l L : List Pl.Rc) (w : World) (g p cap : Nat) (n m : Nat) (wr : World) : Prop where
  lt : n < m
  le : m ≤ L.length
  cnt : ((L.take m).filter fun x => decide (x ∈ l)).length = n
  sl : ∃ M : List Value, M.length = (m - n) * 4 ∧ Sl wr (.slice (some ⟨g, p, none⟩) L.length cap) (some g) 75 4 L.length (((L.take m).filter fun x => decide (x ∈ l)).flatMap cells4 ++ M ++ (L.drop m).flatMap cells4)
  gr : w.grownBy wr (some g)
section
variable {l L : List Pl.Rc} {w wr w2 : World} {g p cap n m : Nat} {y : Pl.Rc}
theorem DlF.cell (h : DlF l L w g p cap n m wr) (hy : L[m]? = some y) {i : Nat} {u : Value} (hi : i < 4) (hu : (cells4 y)[i]? = some u) : wr.cell? ⟨g, p + m * 4 + i, none⟩ = some u := by
  obtain ⟨M, hM, hs⟩ := h.sl
  have h1 := h.lt
  have h2 := hs.cell rfl (m * 4 + i) u (by
    have e : (((L.take m).filter fun x => decide (x ∈ l)).flatMap cells4 ++ M).length = m * 4 := by rw [List.length_append, flat4_len, h.cnt, hM]; omega
    rw [List.getElem?_append_right (by omega), e, Nat.add_sub_cancel_left, drop_nxt hy, List.flatMap_cons, List.getElem?_append_left (by show i < 4; exact hi)]
    exact hu)
  rw [← Nat.add_assoc] at h2
  exact h2
theorem DlF.old (h : DlF l L w g p cap n m wr) (i : Nat) (hi : i < 4) : ∃ u, wr.cell? ⟨g, p + n * 4 + i, none⟩ = some u := by
  obtain ⟨M, hM, hs⟩ := h.sl
  have h1 := h.lt
  have h2 := h.le
  have hl := hs.1
  have h3 := hs.cell rfl (n * 4 + i) _ (List.getElem?_eq_getElem (by omega))
  rw [← Nat.add_assoc] at h3
  exact ⟨_, h3⟩
theorem DlF.skip (h : DlF l L w g p cap n m wr) (hy : L[m]? = some y) (hn : y ∉ l) (b : Below wr.heap.size wr w2) : DlF l L w g p cap n (m + 1) w2 := by
  obtain ⟨M, hM, hs⟩ := h.sl
  have hm := (List.getElem?_eq_some_iff.1 hy).1
  have h1 := h.lt
  have e : (L.take (m + 1)).filter (fun x => decide (x ∈ l)) = (L.take m).filter (fun x => decide (x ∈ l)) := by
    rw [take_nxt hy, List.filter_append, List.filter_cons, if_neg (by simpa using hn), List.filter_nil, List.append_nil]
  refine ⟨by omega, hm, by rw [e]; exact h.cnt, ⟨M ++ cells4 y, by rw [List.length_append, hM]; show _ + 4 = _; omega, ?_⟩, grown_below h.gr b⟩
  rw [e]
  rw [drop_nxt hy, List.flatMap_cons] at hs
  have := hs.below b
  simpa [List.append_assoc] using this
theorem DlF.keep (h : DlF l L w g p cap n m wr) (hy : L[m]? = some y) (hn : y ∈ l) (b : Below wr.heap.size wr w2) :
    DlF l L w g p cap (n + 1) (m + 1) ((((w2.setCell ⟨g, p + n * 4, none⟩ (.int .i64 y.off)).setCell ⟨g, p + n * 4 + 1, none⟩ (.string ⟨y.key.toArray⟩)).setCell ⟨g, p + n * 4 + 2, none⟩ (.string ⟨y.val.toArray⟩)).setCell ⟨g, p + n * 4 + 3, none⟩ (.bool y.gone)) := by
  obtain ⟨M, hM, hs⟩ := h.sl
  have hm := (List.getElem?_eq_some_iff.1 hy).1
  have h1 := h.lt
  have e : (L.take (m + 1)).filter (fun x => decide (x ∈ l)) = (L.take m).filter (fun x => decide (x ∈ l)) ++ [y] := by
    rw [take_nxt hy, List.filter_append, List.filter_cons, if_pos (by simpa using hn), List.filter_nil]
  have hMl : 4 ≤ M.length := by rw [hM]; omega
  obtain ⟨a0, a1, a2, a3, M', rfl⟩ : ∃ a0 a1 a2 a3 M', M = a0 :: a1 :: a2 :: a3 :: M' := by
    match M, hMl with
    | a0 :: a1 :: a2 :: a3 :: M', _ => exact ⟨a0, a1, a2, a3, M', rfl⟩
  refine ⟨by omega, hm, by rw [e, List.length_append, h.cnt]; rfl, ⟨M' ++ cells4 y, by rw [List.length_append]; simp only [List.length_cons] at hM; show _ + 4 = _; omega, ?_⟩, grown_set (grown_set (grown_set (grown_set (grown_below h.gr b) _) _) _) _⟩
  rw [e]
  rw [drop_nxt hy, List.flatMap_cons] at hs
  have hs2 := hs.below b
  rw [show (List.filter (fun x => decide (x ∈ l)) (L.take m)).flatMap cells4 ++ (a0 :: a1 :: a2 :: a3 :: M') ++ (cells4 y ++ (L.drop (m + 1)).flatMap cells4) = (List.filter (fun x => decide (x ∈ l)) (L.take m)).flatMap cells4 ++ [a0, a1, a2, a3] ++ (M' ++ (cells4 y ++ (L.drop (m + 1)).flatMap cells4)) by simp] at hs2
  have := hs2.set4 (k := n) (by rw [flat4_len, h.cnt]) (.int .i64 y.off) (.string ⟨y.key.toArray⟩) (.string ⟨y.val.toArray⟩) (.bool y.gone)
  rw [List.flatMap_append]
  simpa [List.append_assoc, cells4] using this
theorem DlF.done (h : DlF l L w g p cap n L.length wr) {cur' : Array Value} {cur : Array Value} (hcu : wr.heap[g]? = some (.cells cur 75 (0, 0))) (hg : wr.grownBy w2 (some g)) (h5 : w2.heap[g]? = some (.cells cur' 75 (0, 0))) (_h6 : cur'.size = cur.size) (h7 : cur'.toList.take (p + n * 4) = cur.toList.take (p + n * 4)) :
    RcIn (fun b => b = g) w2 (.slice (some ⟨g, p, none⟩) n cap) (L.filter fun x => decide (x ∈ l)) ∧ w.grownBy w2 (some g) := by
  obtain ⟨M, hM, hs⟩ := h.sl
  have hcnt := h.cnt
  rw [List.take_length] at hs hcnt
  refine ⟨⟨by rw [flat4_len], .inr ⟨_, cap, by rw [hcnt], fun _ => ⟨g, p, rfl, rfl, ?_, fun j x hj => ?_⟩⟩⟩, grown_trans h.gr hg⟩
  · exact (Array.getElem?_eq_some_iff.1 h5).1
  · obtain ⟨cur0, hg0, hc, hcs, ht⟩ := hs.cur
    rw [hg0] at hcu
    injection hcu with hcu
    injection hcu with hcu
    subst hcu
    have hjl := (List.getElem?_eq_some_iff.1 hj).1
    rw [flat4_len, hcnt] at hjl
    rw [cell_of_row _ _ _ _ _ _ h5]
    have e1 : cur'.toList[p + j]? = cur0.toList[p + j]? := by
      have := congrArg (fun t : List Value => t[p + j]?) h7
      simpa [List.getElem?_take, show p + j < p + n * 4 by omega] using this
    have e2 : cur0.toList[p + j]? = some x := by
      have := congrArg (fun t : List Value => t[j]?) ht
      have hL := h.lt
      simp only [List.getElem?_take, List.getElem?_drop, if_pos (show j < L.length * 4 by omega)] at this
      rw [this, List.append_assoc, List.getElem?_append_left (by rw [flat4_len, hcnt]; omega)]
      exact hj
    rw [← Array.getElem?_toList, e1, e2]
end
set_option maxHeartbeats 2000000 in
set_option maxRecDepth 100000 in
theorem delF_any {A : Nat → Prop} (bx : Nat) (base count prod seq time : Int) (u v : Value) (gb : Option Nat) (l L : List Pl.Rc) (w : World) (hb : Blk w bx #[.int .i64 base, .int .i64 count, .int .i64 prod, .int .i64 seq, .int .i64 time, u] 34) (hu : RcIn A w u l) (hl : l.length ≤ 1048576) (hv : Sl w v gb 75 4 L.length (L.flatMap cells4)) (hL : L.length ≤ 1048576) (hA : ∀ b, A b → gb ≠ some b) (hbx : gb ≠ some bx) :
    Calls Tryz.prog 133 #[v, .func (.func 131) #[] #[.pointer (some ⟨bx, 0, none⟩)]] w fun e w' => ∃ v', e = .returned v' ∧ RcIn (fun b => gb = some b) w' v' (L.filter fun x => decide (x ∈ l)) ∧ w.grownBy w' gb := by
  have HIX := Lib.hid (indexF_any bx base count prod seq time u v l L w hb hu hl (Rds.of_sl hv (A := fun _ => True) fun _ _ => trivial) hL)
  have HMI : Hid (∀ x wx, w.grownBy wx gb → Calls Tryz.prog 131 #[.agg #[.int .i64 x.off, .string ⟨x.key.toArray⟩, .string ⟨x.val.toArray⟩, .bool x.gone], .pointer (some ⟨bx, 0, none⟩)] wx fun e w' => e = .returned (.bool (!decide (x ∈ l))) ∧ Below wx.heap.size wx w') := Lib.hid fun x wx h => missing_any bx base count prod seq time u l x wx (hb.same (h.block bx hb.lt fun e => hbx e.symm)) (Rds.keep hu h.size fun b hb hl => ⟨h.block b hl fun e => hA b hb e.symm, hb⟩) hl
  obtain ⟨va, vc, rfl⟩ := hv.form
  obtain ⟨N, hN⟩ : ∃ n, L.length = n := ⟨_, rfl⟩
  have HN := Lib.hid hN
  have HV := Lib.hid hv
  rw [hN] at hL HIX ⊢
  clear hb hu hv hN hA hbx
  go_enter Tryz.func133, Tryz.ntmps133
  go_wp2_with fail
  refine HIX.out.mono ?_
  rintro e w1 ⟨i, rfl, hfo, hb1⟩
  have HB1 := Lib.hid hb1
  clear hb1 HIX
  rcases hfo with ⟨rfl, hall⟩ | ⟨k, rfl, hk, hbef, hat⟩
  · have HF : Hid (RcIn (fun b => gb = some b) w1 (.slice va N vc) (L.filter fun x => decide (x ∈ l)) ∧ w.grownBy w1 gb) := Lib.hid ⟨by
      rw [List.filter_eq_self.2 fun x hx => by simpa using hall x hx]
      have := (Rds.of_sl (A := fun b => gb = some b) (HV.out.below HB1.out) fun _ h => h)
      rw [← HN.out]
      exact this, grown_below (World.grownBy.refl _ _) HB1.out⟩
    clear hall
    go_wp2_with fail
    go_ret
    exact ⟨_, rfl, HF.out⟩
  · rw [HN.out] at hk
    obtain ⟨y0, hy0⟩ : ∃ y, L[k]? = some y := ⟨_, List.getElem?_eq_getElem (by rw [HN.out]; exact hk)⟩
    obtain ⟨g, p, rfl, rfl⟩ : ∃ g p, va = some ⟨g, p, none⟩ ∧ gb = some g := by
      rcases HV.out.2 with ⟨-, -, h⟩ | ⟨g, p, c, cur, e1, e2, -⟩
      · rw [HN.out] at h; omega
      · injection e2 with e3
        exact ⟨g, p, e3, e1⟩
    have hneg : ((k : Int) == (-1 : Int)) = false := beq_eq_false_iff_ne.2 (by omega)
    have HST : Hid (DlF l L w g p vc k (k + 1) w1) := Lib.hid (by
      have e : (L.take (k + 1)).filter (fun x => decide (x ∈ l)) = L.take k := by
        rw [take_nxt hy0, List.filter_append, List.filter_cons, if_neg (by simpa using hat y0 hy0), List.filter_nil, List.append_nil]
        refine List.filter_eq_self.2 fun x hx => ?_
        obtain ⟨j, hj⟩ := List.getElem?_of_mem hx
        have hjl := (List.getElem?_eq_some_iff.1 hj).1
        rw [List.length_take] at hjl
        rw [List.getElem?_take_of_lt (by omega)] at hj
        simpa using hbef j x (by omega) hj
      refine ⟨by omega, by rw [HN.out]; omega, by rw [e, List.length_take, HN.out]; omega, ⟨cells4 y0, by rw [show (cells4 y0).length = 4 from rfl]; omega, ?_⟩, grown_below (World.grownBy.refl _ _) HB1.out⟩
      rw [e]
      have h2 : L.flatMap cells4 = (L.take k).flatMap cells4 ++ cells4 y0 ++ (L.drop (k + 1)).flatMap cells4 := by
        conv => lhs; rw [← List.take_append_drop k L, drop_nxt hy0]
        simp
      have h3 := HV.out.below HB1.out
      rw [h2] at h3
      exact h3)
    clear hbef hat hy0
    go_wp2_with fail
    go_loopw [5, 6] (fun iv jv wr => ∃ n m : Nat, iv = .int .i64 n ∧ jv = .int .i64 m ∧ DlF l L w g p vc n m wr) (fun _ jv _ => N - (intOf jv).toNat)
    case atStart => exact ⟨k, k + 1, rfl, by go_num, HST.out⟩
    case round =>
      obtain ⟨n, m, rfl, rfl, hd⟩ := hrel
      have HD := Lib.hid hd
      clear hd HST
      have hnm := HD.out.lt
      have hmN : m ≤ N := by have := HD.out.le; rwa [HN.out] at this
      by_cases hlt : m < N
      · have hdk : decide ((m : Int) < (N : Int)) = true := by simp; omega
        obtain ⟨y, hy⟩ : ∃ y, L[m]? = some y := ⟨_, List.getElem?_eq_getElem (by rw [HN.out]; exact hlt)⟩
        have c0 : wr.cell? ⟨g, p + m * 4, none⟩ = some (.int .i64 y.off) := HD.out.cell hy (i := 0) (by decide) rfl
        have c1 : wr.cell? ⟨g, p + m * 4 + 1, none⟩ = some (.string ⟨y.key.toArray⟩) := HD.out.cell hy (i := 1) (by decide) rfl
        have c2 : wr.cell? ⟨g, p + m * 4 + 2, none⟩ = some (.string ⟨y.val.toArray⟩) := HD.out.cell hy (i := 2) (by decide) rfl
        have c3 : wr.cell? ⟨g, p + m * 4 + 3, none⟩ = some (.bool y.gone) := HD.out.cell hy (i := 3) (by decide) rfl
        have m0 : (0 : Int) ≤ (m : Int) := by omega
        have m1 : (m : Int) < (N : Int) := by omega
        have n0 : (0 : Int) ≤ (n : Int) := by omega
        have n1 : (n : Int) < (N : Int) := by omega
        have HY := Lib.hid hy
        obtain ⟨M0, -, hs0⟩ := HD.out.sl
        have hz0 : ∀ o, wr.frozen? ⟨g, o, none⟩ = false := fun o => hs0.frozen rfl o
        have HZ0 := Lib.hid (And.intro hz0 (hs0.lt g rfl))
        obtain ⟨o0, ho0⟩ := HD.out.old 0 (by decide)
        obtain ⟨o1, ho1⟩ := HD.out.old 1 (by decide)
        obtain ⟨o2, ho2⟩ := HD.out.old 2 (by decide)
        obtain ⟨o3, ho3⟩ := HD.out.old 3 (by decide)
        have HO := Lib.hid (And.intro ho0 (And.intro ho1 (And.intro ho2 ho3)))
        clear hz0 hs0 ho0 ho1 ho2 ho3
        obtain ⟨W1, hW1⟩ : ∃ V, wr.alloc (.cells #[.int .i64 y.off, .string ⟨y.key.toArray⟩, .string ⟨y.val.toArray⟩, .bool y.gone] 75) = V := ⟨_, rfl⟩
        have hb1 : Below wr.heap.size wr W1 := by rw [← hW1]; exact (Below.refl _ _).alloc (Nat.le_refl _) _
        have hk1 : Blk W1 wr.heap.size #[.int .i64 y.off, .string ⟨y.key.toArray⟩, .string ⟨y.val.toArray⟩, .bool y.gone] 75 := by rw [← hW1]; exact Blk.new _ _ _
        have x0 : W1.cell? ⟨wr.heap.size, 0, none⟩ = some (.int .i64 y.off) := hk1.cell rfl
        have x1 : W1.cell? ⟨wr.heap.size, 1, none⟩ = some (.string ⟨y.key.toArray⟩) := hk1.cell rfl
        have x2 : W1.cell? ⟨wr.heap.size, 2, none⟩ = some (.string ⟨y.val.toArray⟩) := hk1.cell rfl
        have x3 : W1.cell? ⟨wr.heap.size, 3, none⟩ = some (.bool y.gone) := hk1.cell rfl
        have HCM := Lib.hid (HMI.out y W1 (grown_below HD.out.gr hb1))
        have HBB := Lib.hid hb1
        have HK1 := Lib.hid hk1
        have HW1 := Lib.hid hW1
        obtain ⟨q, hq⟩ : ∃ q, (!decide (y ∈ l)) = q := ⟨_, rfl⟩
        have HQ := Lib.hid hq
        rw [hq] at HCM
        clear hb1 hk1 hW1 hy hq
        go_wp2_with fail
        rw [HW1.out]
        go_wp2_with fail
        refine HCM.out.mono ?_
        rintro e w2 ⟨rfl, hb2⟩
        have HB2 := Lib.hid (HBB.out.trans (hb2.mono HBB.out.size))
        have hk2 := HK1.out.below hb2
        have z0 : w2.cell? ⟨wr.heap.size, 0, none⟩ = some (.int .i64 y.off) := hk2.cell rfl
        have z1 : w2.cell? ⟨wr.heap.size, 1, none⟩ = some (.string ⟨y.key.toArray⟩) := hk2.cell rfl
        have z2 : w2.cell? ⟨wr.heap.size, 2, none⟩ = some (.string ⟨y.val.toArray⟩) := hk2.cell rfl
        have z3 : w2.cell? ⟨wr.heap.size, 3, none⟩ = some (.bool y.gone) := hk2.cell rfl
        have fz : ∀ o, w2.frozen? ⟨g, o, none⟩ = false := fun o => (HB2.out.frozen (p := ⟨g, o, none⟩) HZ0.out.2).trans (HZ0.out.1 o)
        have r0 : w2.cell? ⟨g, p + n * 4, none⟩ = some o0 := (HB2.out.cell (p := ⟨g, _, none⟩) HZ0.out.2).trans HO.out.1
        have r1 : w2.cell? ⟨g, p + n * 4 + 1, none⟩ = some o1 := (HB2.out.cell (p := ⟨g, _, none⟩) HZ0.out.2).trans HO.out.2.1
        have r2 : w2.cell? ⟨g, p + n * 4 + 2, none⟩ = some o2 := (HB2.out.cell (p := ⟨g, _, none⟩) HZ0.out.2).trans HO.out.2.2.1
        have r3 : w2.cell? ⟨g, p + n * 4 + 3, none⟩ = some o3 := (HB2.out.cell (p := ⟨g, _, none⟩) HZ0.out.2).trans HO.out.2.2.2
        clear hb2 hk2
        cases q with
        | true =>
          have he : y ∉ l := by have := HQ.out; simpa using this
          have HF := Lib.hid (HD.out.skip HY.out he HB2.out)
          clear he
          go_wp2_with fail
          go_roundw
          case rel => exact ⟨n, m + 1, rfl, by go_num, HF.out⟩
          case measure => simp [intOf]; omega
        | false =>
          have he : y ∈ l := by have := HQ.out; simpa using this
          have HF := Lib.hid (HD.out.keep HY.out he HB2.out)
          clear he
          go_wp2_with fail
          go_roundw
          case rel => exact ⟨n + 1, m + 1, by go_num, by go_num, HF.out⟩
          case measure => simp [intOf]; omega
      · have hdk : decide ((m : Int) < (N : Int)) = false := by simp; omega
        obtain rfl : m = N := by omega
        obtain ⟨M, -, hs⟩ := HD.out.sl
        obtain ⟨cur, hcu, hNc, hcs, -⟩ := hs.cur
        rw [HN.out] at hNc
        have hnm' : n ≤ m := by omega
        have hnc : n ≤ vc := by omega
        obtain ⟨w2, hcl, hg2, cur', hcu2, hcs2, hct2⟩ := run_clear_sl (P := Tryz.prog) wr 32 75 0 (.agg zeroR) 4 Tryz.underlying32 zeroRc rfl (by decide) (by simp [Value.oneCell', Value.cells, zeroR]) g (p + n * 4) (m - n) (vc - n) cur hcu (by omega)
        have HRES : Hid (RcIn (fun b => some g = some b) w2 (.slice (some ⟨g, p, none⟩) n vc) (L.filter fun x => decide (x ∈ l)) ∧ w.grownBy w2 (some g)) := Lib.hid (by
          have hd := HD.out
          rw [← HN.out] at hd
          obtain ⟨h1, h2⟩ := hd.done hcu hg2 hcu2 hcs2 hct2
          exact ⟨Rds.mono h1 fun b hb => by rw [hb], h2⟩)
        clear hg2 hcu2 hcs2 hct2 hs hcu hcs
        go_wp2_with fail
        go_ret
        exact ⟨_, rfl, HRES.out⟩
end Go.Proofs.YtdaoeplblkfapaaGreatDoor

/- PLAIN MATHEMATICS OF PUT: a segment's batches are others, as many, from the same first one to the same end. -/
namespace Go.Proofs.YtdaoeplblkfapaaGreatDoor

/-- As many, from x on, to the same end. -/
structure As (x : Int) (l l' : List Pl.Bt) : Prop where
  len : l'.length = l.length
  chain : Chain x l → Chain x l'
  lend : Chain x l → lend x l' = lend x l
theorem As.wo (less : List Int) (n : Nat) (x : Int) (l : List Pl.Bt) : As x l (woL less n l) := ⟨woL_length less l n, fun h => (woL_chain n h).1, fun h => (woL_chain n h).2⟩
theorem As.nil {x : Int} {l l' : List Pl.Bt} (h : As x l l') (hn : l ≠ []) : l' ≠ [] := fun e => hn (List.eq_nil_of_length_eq_zero (by rw [← h.len, e]; rfl))
theorem Lk.put {l : List Pl.Bt} : ∀ {G : List Sg} {x : Int} {i : Nat} {g : Sg}, Lk x G → G[i]? = some g → As g.first g.l l → Lk x (G.set i ⟨g.first, l⟩)
  | [], _, _, _, _, hi, _ => by simp at hi
  | y :: G, x, 0, g, h, hi, ha => by
    simp only [List.getElem?_cons_zero, Option.some.injEq] at hi
    subst hi
    obtain ⟨h1, h2, h3, h4⟩ := h
    subst h1
    exact ⟨rfl, ha.chain h2, fun hn => ha.nil (h3 hn), by rw [ha.lend h2]; exact h4⟩
  | y :: G, x, i + 1, g, h, hi, ha => by
    rw [List.getElem?_cons_succ] at hi
    obtain ⟨h1, h2, h3, h4⟩ := h
    refine ⟨h1, h2, fun hn => h3 fun e => ?_, h4.put hi ha⟩
    subst e
    simp at hi
theorem Log.put {G : List Sg} (h : Log G) {i : Nat} {g : Sg} (hi : G[i]? = some g) {l : List Pl.Bt} (ha : As g.first g.l l) : Log (G.set i ⟨g.first, l⟩) :=
  let ⟨_, hx, hk⟩ := h.get
  Log.of hx (hk.put hi ha)
theorem fla_put_length {G : List Sg} {i : Nat} {g : Sg} (hi : G[i]? = some g) {l : List Pl.Bt} (hl : l.length = g.l.length) : (fla (G.set i ⟨g.first, l⟩)).length = (fla G).length := by
  induction G generalizing i with
  | nil => simp at hi
  | cons y G ih =>
    cases i with
    | zero =>
      simp only [List.getElem?_cons_zero, Option.some.injEq] at hi
      subst hi
      show (l ++ fla G).length = (y.l ++ fla G).length
      rw [List.length_append, List.length_append, hl]
    | succ i =>
      rw [List.getElem?_cons_succ] at hi
      show (y.l ++ fla (G.set i ⟨g.first, l⟩)).length = (y.l ++ fla G).length
      rw [List.length_append, List.length_append, ih hi]
theorem firsts_put {G : List Sg} {i : Nat} {g : Sg} (hi : G[i]? = some g) {l : List Pl.Bt} : (G.set i ⟨g.first, l⟩).map Sg.first = G.map Sg.first := by
  induction G generalizing i with
  | nil => rfl
  | cons y G ih =>
    cases i with
    | zero =>
      simp only [List.getElem?_cons_zero, Option.some.injEq] at hi
      subst hi
      rfl
    | succ i =>
      rw [List.getElem?_cons_succ] at hi
      show y.first :: _ = y.first :: _
      rw [ih hi]
/-- The file beside is put in the segment's place. -/
theorem Fl.put {P : List UInt8} {f : Ta.View} {G : List Sg} {sf : Nat} (h : Fl P f G sf) (hg : Log G) {i : Nat} {g : Sg} (hi : G[i]? = some g) (hil : i + 1 < G.length) (l : List Pl.Bt) :
    Fl P (Ta.upd f (nm P g.first) (some (frs l, (frs l).length))) (G.set i ⟨g.first, l⟩) sf := by
  refine ⟨fun j y hy => ?_, fun k hk => ?_⟩
  · rw [List.length_set]
    by_cases hj : j = i
    · subst hj
      rw [List.getElem?_set_self (by omega)] at hy
      cases hy
      rw [Ta.upd_same, if_neg (by omega)]
    · rw [List.getElem?_set_ne (fun e => hj e.symm)] at hy
      rw [Ta.upd_other _ _ fun e => hj (hg.one hy hi (nm_inj (hg.firsts y (List.mem_of_getElem? hy)) (hg.firsts g (List.mem_of_getElem? hi)) e))]
      exact h.hold j y hy
  · have hgm : (⟨g.first, l⟩ : Sg) ∈ G.set i ⟨g.first, l⟩ := List.mem_of_getElem? (List.getElem?_set_self (by omega))
    rw [Ta.upd_other _ _ fun e => hk _ hgm e.symm]
    refine h.rest k fun y hy e => ?_
    have hf : y.first ∈ (G.set i ⟨g.first, l⟩).map Sg.first := by rw [firsts_put hi]; exact List.mem_map.2 ⟨y, hy, rfl⟩
    obtain ⟨z, hz, e2⟩ := List.mem_map.1 hf
    exact hk z hz (by rw [e2]; exact e)
/-- A name of no use is taken, and free again. -/
theorem upd_gone {f : Ta.View} {k a : List UInt8} {v v' : Option (List UInt8 × Nat)} (hk : f k = none) : Ta.upd (Ta.upd (Ta.upd f k v) k none) a v' = Ta.upd f a v' := by
  funext x
  unfold Ta.upd
  by_cases h1 : x = a
  · rw [if_pos h1, if_pos h1]
  · rw [if_neg h1, if_neg h1]
    by_cases h2 : x = k
    · rw [if_pos h2, h2, hk]
    · rw [if_neg h2, if_neg h2]
theorem Fl.noNew {P : List UInt8} {f : Ta.View} {G : List Sg} {sf : Nat} (h : Fl P f G sf) (hg : Log G) : f (nmNew P) = none := h.rest _ fun y hy => nm_not_new (hg.firsts y hy).1 (hg.firsts y hy).2
/-- The segment that is put: what it takes to pass. -/
theorem wo1_filter (less : List Int) (n : Nat) (l : List Pl.Rc) (hn : l.Nodup) : l.filter (fun x => decide (x ∈ wo1 less n l)) = wo1 less n l := filter_sub (wo1_sub less l n) hn
theorem woL_get {less : List Int} : ∀ {l : List Pl.Bt} {n j : Nat} {p q : Pl.Bt}, (woL less n l)[j]? = some p → l[j]? = some q → ∃ n', p = woB less n' q
  | [], _, _, _, _, _, h => by simp at h
  | b :: l, n, 0, p, q, hp, hq => by
    simp only [woL, List.getElem?_cons_zero, Option.some.injEq] at hp hq
    exact ⟨n, by rw [← hp, ← hq]⟩
  | b :: l, n, j + 1, p, q, hp, hq => by
    simp only [woL, List.getElem?_cons_succ] at hp hq
    exact woL_get hp hq
end Go.Proofs.YtdaoeplblkfapaaGreatDoor
