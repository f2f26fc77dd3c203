/- THE CONTRACT OF slices.Insert of one element (written by genins11.py). -/
import Derived.Test.YtmkinnheoejphaaGreatDoorIn0
import Derived.Test.YtmkinnheoejphaaGreatDoorPnM
namespace Go.Proofs.YtmkinnheoejphaaGreatDoor
open Go.RowKit

theorem insInfoL' : (Tryz.prog.info? 55).map (fun i => (i.zero, i.size, i.bytes)) = some (some (.agg #[.int .i64 0, .int .i64 0]), 2, 16) := by kernel_rfl
theorem insInfoL : ∃ i, Tryz.prog.info? 55 = some i ∧ i.zero = some (.agg #[.int .i64 0, .int .i64 0]) ∧ i.size = 2 ∧ i.bytes = 16 := by
  obtain ⟨i, h⟩ := info_parts insInfoL'
  exact ⟨i, h⟩
/-- What Insert hands back: m producers, the cells ys, in the old block or a new one. -/
def InsL (w : World) (tb : Option Nat) (m : Nat) (ys : List Value) (e : Ending) (w' : World) : Prop :=
  ∃ g p cap, e = .returned (.slice (some ⟨g, p, none⟩) m cap) ∧ Sl w' (.slice (some ⟨g, p, none⟩) m cap) (some g) 55 2 m ys ∧ w.grownBy w' tb ∧ (tb = some g ∨ w.heap.size ≤ g)

set_option maxHeartbeats 1000000 in
set_option maxRecDepth 100000 in
theorem insL_end (tv : Value) (tb : Option Nat) (m vb : Nat) (xs : List Value) (Y : List Value) (hYl : Y.length = 2) (hY1 : ∀ u ∈ Y, u.oneCell' = true) (w : World) (hs : Sl w tv tb 55 2 m xs) (hm : m ≤ 64) (hv : Blk w vb Y.toArray 55) :
    Calls Tryz.prog 61 #[tv, .int .i64 m, .slice (some ⟨vb, 0, none⟩) 1 1] w (InsL w tb (m + 1) (xs ++ Y)) := by
  obtain ⟨i0, hi, hz0, hz1, hz2⟩ := insInfoL
  have HNEWS : Hid (∀ j u, Y[j]? = some u → World.cell? w (Addr.add ⟨vb, 0, none⟩ j) = some u) := Lib.hid (news_of hv)
  have HONE : Hid (∀ u ∈ Y, u.oneCell' = true) := Lib.hid hY1
  have HYL := Lib.hid hYl
  have HS := Lib.hid hs
  obtain ⟨ao, cap, rfl, hcap, -, hnil⟩ := hs.make
  have HNIL := Lib.hid hnil
  clear hs hv hnil hYl hY1
  have hmm : ¬ (m < m) := by omega
  go_enter Tryz.func61, Tryz.ntmps61
  go_wp2_with (at_builtin; refine wpList_append_sl _ (by rfl) _ _ _ (by rfl) 55 i0 (.agg #[.int .i64 0, .int .i64 0]) 2 16 Tryz.underlying23 hi hz0 hz1 hz2 rfl (.slice ao m cap) tb m xs (by rfl) HS.out ⟨vb, 0, none⟩ 1 1 Y (by rfl) (by rw [HYL.out]) HNEWS.out HONE.out (by decide) (by omega) (by omega) ?_)
  all_goals
    intro g p cap1 w9 gb' hown hgrow hgb hnew
    have HF : Hid (InsL w tb (m + 1) (xs ++ Y) (.returned (.slice (some ⟨g, p, none⟩) (m + 1) cap1)) w9) := by
      subst hgb
      exact ⟨g, p, cap1, rfl, hown, hgrow, hnew.imp Eq.symm id⟩
    clear hown hgrow hgb hnew
    go_wp2_with fail
    go_ret
    exact HF.out

set_option maxHeartbeats 4000000 in
set_option maxRecDepth 100000 in
theorem insL_shift (g p cap m i vb : Nat) (xs : List Value) (Y : List Value) (hYl : Y.length = 2) (hY1 : ∀ u ∈ Y, u.oneCell' = true) (w : World) (hs : Sl w (.slice (some ⟨g, p, none⟩) m cap) (some g) 55 2 m xs) (h1x : ∀ u ∈ xs, u.oneCell' = true) (hm : m ≤ 64) (hi : i < m) (hroom : m + 1 ≤ cap) (hv : Blk w vb Y.toArray 55) (hne : vb ≠ g) :
    Calls Tryz.prog 61 #[.slice (some ⟨g, p, none⟩) m cap, .int .i64 i, .slice (some ⟨vb, 0, none⟩) 1 1] w (InsL w (some g) (m + 1) (xs.take (i * 2) ++ (Y ++ xs.drop (i * 2)))) := by
  obtain ⟨hxl, hh⟩ := hs
  rcases hh with ⟨h0, -⟩ | ⟨g', p', cap', cur, hg', hv', hg, hnc, hcs, htake⟩
  · cases h0
  cases hg'
  cases hv'
  have hinfo : (Tryz.prog.info? 55).map (·.size) = some 2 := by
    obtain ⟨i0, hi0, -, hz1, -⟩ := insInfoL
    rw [hi0]; simp [hz1]
  obtain ⟨X1, hX1⟩ : ∃ X1, xs.take (i * 2) = X1 := ⟨_, rfl⟩
  obtain ⟨X2, hX2⟩ : ∃ X2, xs.drop (i * 2) = X2 := ⟨_, rfl⟩
  obtain ⟨A, hA⟩ : ∃ A, cur.toList.take p = A := ⟨_, rfl⟩
  obtain ⟨D, hD⟩ : ∃ D, (cur.toList.drop p).drop (m * 2) = D := ⟨_, rfl⟩
  have hx : X1 ++ X2 = xs := by rw [← hX1, ← hX2, List.take_append_drop]
  have hcur : cur.toList = A ++ (X1 ++ (X2 ++ D)) := by
    rw [← List.append_assoc X1, hx, ← htake, ← hD, List.take_append_drop, ← hA, List.take_append_drop]
  have lA : A.length = p := by rw [← hA]; simp; omega
  have l1 : X1.length = i * 2 := by rw [← hX1]; simp; omega
  have l2 : X2.length = (m - i) * 2 := by rw [← hX2]; simp; omega
  have lD : 2 ≤ D.length := by rw [← hD]; simp; omega
  have h1X2 : ∀ u ∈ X2, u.oneCell' = true := fun u hu => h1x u (by rw [← hx]; exact List.mem_append_right _ hu)
  have lY : Y.length = 2 := hYl
  have h1Y : ∀ u ∈ Y, u.oneCell' = true := hY1
  have hcsz : cur.size = (A ++ (X1 ++ (X2 ++ D))).length := by rw [← hcur, Array.length_toList]
  have hcsz2 : cur.size = p + i * 2 + (m - i) * 2 + D.length := by rw [hcsz]; simp; omega
  obtain ⟨R1, hR1⟩ : ∃ R1 : List Value, cur.toList.take (p + (i + 1) * 2) ++ X2 ++ cur.toList.drop (p + (i + 1) * 2 + X2.length) = R1 := ⟨_, rfl⟩
  have hrow := shift_row (A := A) (X1 := X1) (X2 := X2) (D := D) (Y := Y) (R1 := R1) (c := 2) lY lD (by
    rw [← hR1, hcur]
    have e : A.length + X1.length + 2 = p + (i + 1) * 2 := by omega
    rw [e])
  have cold : ∀ (j : Nat) (v : Value), X2[j]? = some v → w.drew.cell? ((⟨g, p + i * 2, none⟩ : Addr).add j) = some v := fun j v hj => by
    rw [Addr.add_lit]
    show w.cell? _ = _
    rw [cell_of_row w g (p + i * 2 + j) cur _ (0, 0) hg, ← Array.getElem?_toList, hcur, ← lA, ← l1, List.getElem?_append_right (by omega), List.getElem?_append_right (by omega), List.getElem?_append_left (by have := (List.getElem?_eq_some_iff.1 hj).1; omega)]
    rw [← hj]; congr 1; omega
  have hcp1 : ∀ ty dc sc, (Builtin.copy_ #[23, 23] ty #[.slice (some ⟨g, p + (i + 1) * 2, none⟩) (m - i) dc, .slice (some ⟨g, p + i * 2, none⟩) (m + 1 - i) sc]).run Tryz.prog w.drew = .ok (goInt (Nat.min (m + 1 - i) (m - i))) (w.drew.setRow g R1.toArray) := fun ty dc sc => by
    rw [run_copy_w w.drew _ _ ty 55 2 g (p + (i + 1) * 2) (m - i) dc ⟨g, p + i * 2, none⟩ (m + 1 - i) sc cur 55 X2 Tryz.underlying23 hinfo hg (by rw [l2]; congr 1; simp only [Nat.min_def]; split <;> omega) cold (by omega) h1X2, hR1]
  obtain ⟨W1, hW1⟩ : ∃ W1, W1 = w.drew.setRow g R1.toArray := ⟨_, rfl⟩
  rw [← hW1] at hcp1
  have hg1 : W1.heap[g]? = some (.cells R1.toArray 55 (0, 0)) := by rw [hW1]; exact setRow_heap w.drew g cur _ _ _ hg
  have hv1 : Blk W1 vb Y.toArray 55 := by
    rw [hW1]
    unfold Blk at hv ⊢
    rw [setRow_other w.drew g vb _ hne]
    exact hv
  have hR1s : R1.toArray.size = cur.size := by rw [List.size_toArray, hrow.1, hcsz]
  have hcp2 : ∀ ty dc, (Builtin.copy_ #[23, 23] ty #[.slice (some ⟨g, p + i * 2, none⟩) (m + 1 - i) dc, .slice (some ⟨vb, 0, none⟩) 1 1]).run Tryz.prog W1 = .ok (goInt (Nat.min 1 (m + 1 - i))) (W1.setRow g (A ++ (X1 ++ (Y ++ (X2 ++ D.drop 2)))).toArray) := fun ty dc => by
    rw [run_copy_w W1 _ _ ty 55 2 g (p + i * 2) (m + 1 - i) dc ⟨vb, 0, none⟩ 1 1 R1.toArray 55 Y Tryz.underlying23 hinfo hg1 (by rw [lY]; simp only [Nat.min_def]; split <;> omega) (by
      exact news_of hv1) (by rw [hR1s, lY]; omega) h1Y]
    have h2 := hrow.2
    rw [lA, l1] at h2
    dsimp only
    rw [h2]
  have HFIN : Hid (InsL w (some g) (m + 1) (X1 ++ (Y ++ X2)) (.returned (.slice (some ⟨g, p, none⟩) (m + 1) cap)) (W1.setRow g (A ++ (X1 ++ (Y ++ (X2 ++ D.drop 2)))).toArray)) := by
    refine ⟨g, p, cap, rfl, ⟨by simp; omega, .inr ⟨g, p, cap, _, rfl, rfl, setRow_heap W1 g _ _ _ _ hg1, hroom, ?_, ?_⟩⟩, ?_, .inl rfl⟩
    · rw [List.size_toArray]
      simp only [List.length_append, List.length_drop]
      omega
    · rw [List.toList_toArray, ← lA, List.drop_left, ← List.append_assoc Y, ← List.append_assoc X1, List.take_append_of_le_length (by simp; omega), List.take_of_length_le (by simp; omega)]
    · rw [hW1]
      refine ⟨rfl, rfl, rfl, by simp [World.setRow], fun k hk hkg => ?_⟩
      have hkg' : k ≠ g := fun e => hkg (by rw [e])
      rw [setRow_other _ g k _ hkg', setRow_other w.drew g k _ hkg']
      rfl
  have hov : ∀ lb cb, (callFunc 71 #[.slice (some ⟨vb, 0, none⟩) 1 1, .slice (some ⟨g, p + (i + 1) * 2, none⟩) lb cb]).run Tryz.prog w = .ok (.value (.bool false)) w := fun lb cb => by
    rw [run_callFunc_extern Tryz.func71 (by kernel_rfl) (by kernel_rfl) (by kernel_rfl) (e := Extern.SlicesOverlaps.overlaps #[23, 23] #[4]) (by kernel_rfl),
      Lib.run_overlaps_apart w 23 4 55 Tryz.underlying23 2 (by
        intro w
        obtain ⟨i0, hi0, -, hz1, -⟩ := insInfoL
        simp [sizeOf, typeInfo, hi0, hz1]) ⟨vb, 0, none⟩ ⟨g, p + (i + 1) * 2, none⟩ 1 1 lb cb hne 55 55 2 cur.size (by have h := hv.shape; rw [List.size_toArray, hYl] at h; exact h) (Blk.shape (cs := cur) (T := 55) hg) (by omega) hv.unfrozen hv.unfrozen]
    rfl
  rw [hX1, hX2]
  have HCP1 := Lib.hid hcp1
  have HCP2 := Lib.hid hcp2
  clear hcp1 hcp2 hrow cold hcur hA hD hx hX1 hX2 hR1 hW1 hg1 hv1 hR1s htake hcsz hcsz2 h1X2 h1Y h1x hg hcs hxl lA l1 l2 lD lY hv hinfo hYl hY1
  have hz1 : ¬ ((i : Int) = (m : Int)) := by omega
  have him : i ≤ m := by omega
  have him1 : i ≤ m + 1 := by omega
  have hb2 : ¬ (cap = i + 1) := by omega
  have hb4 : ¬ (cap = i) := by omega
  have hb3 : (i : Int) ≤ (m : Int) + 1 := by omega
  have hw1 : IntKind.i64.wrap ((i : Int) + 1) = (i : Int) + 1 := by rw [IntKind.wrap_i64]; omega
  have htn : ((i : Int) + 1).toNat = i + 1 := by omega
  have hb1 : (0 : Int) ≤ (i : Int) + 1 := by omega
  go_enter Tryz.func61, Tryz.ntmps61
  go_wp2_with (simp only [hov])
  have hcp1 := HCP1.out
  go_region_law (refine step_copy_r rfl (.tmp 73) (.tmp 76) 23 23 rfl (.slice (some ⟨g, p + (i + 1) * 2, none⟩) (m - i) (cap - (i + 1))) (.slice (some ⟨g, p + i * 2, none⟩) (m + 1 - i) (cap - i)) (by simp [Act.eval, Act.put]) (by simp [Act.eval, Act.put]) (hcp1 _ _ _) ?_)
  clear hcp1
  go_wp2_with (refine wpList_copy_r _ rfl (.tmp 80) (.tmp 81) _ _ rfl (.slice (some ⟨g, p + i * 2, none⟩) (m + 1 - i) (cap - i)) (.slice (some ⟨vb, 0, none⟩) 1 1) rfl rfl (HCP2.out _ _) ?_)
  go_ret
  exact HFIN.out

set_option maxHeartbeats 4000000 in
set_option maxRecDepth 100000 in
theorem insL_grow (g p cap m i vb : Nat) (xs : List Value) (Y : List Value) (hYl : Y.length = 2) (hY1 : ∀ u ∈ Y, u.oneCell' = true) (w : World) (hs : Sl w (.slice (some ⟨g, p, none⟩) m cap) (some g) 55 2 m xs) (h1x : ∀ u ∈ xs, u.oneCell' = true) (hm : m ≤ 64) (hi : i < m) (hroom : cap < m + 1) (hv : Blk w vb Y.toArray 55) :
    Calls Tryz.prog 61 #[.slice (some ⟨g, p, none⟩) m cap, .int .i64 i, .slice (some ⟨vb, 0, none⟩) 1 1] w (InsL w (some g) (m + 1) (xs.take (i * 2) ++ (Y ++ xs.drop (i * 2)))) := by
  have hcell := fun j u hj => hs.cell (j := j) (u := u) rfl hj
  have hnc : m ≤ cap := by
    obtain ⟨ao, cap', hv', hnc, -, -⟩ := hs.make
    cases hv'
    exact hnc
  have hgl : g < w.heap.size := hs.lt g rfl
  have hxl := hs.1
  obtain ⟨i0, hi0, hz0, hz1, hz2⟩ := insInfoL
  have hinfo : (Tryz.prog.info? 55).map (·.size) = some 2 := by rw [hi0]; simp [hz1]
  obtain ⟨X1, hX1⟩ : ∃ X1, xs.take (i * 2) = X1 := ⟨_, rfl⟩
  obtain ⟨X2, hX2⟩ : ∃ X2, xs.drop (i * 2) = X2 := ⟨_, rfl⟩
  have hx : X1 ++ X2 = xs := by rw [← hX1, ← hX2, List.take_append_drop]
  have l1 : X1.length = i * 2 := by rw [← hX1]; simp; omega
  have l2 : X2.length = (m - i) * 2 := by rw [← hX2]; simp; omega
  have h1X2 : ∀ u ∈ X2, u.oneCell' = true := fun u hu => h1x u (by rw [← hx]; exact List.mem_append_right _ hu)
  have c1 : ∀ (j : Nat) (u : Value), X1[j]? = some u → w.cell? ⟨g, p + j, none⟩ = some u := fun j u hj => hcell j u (by rw [← hx, List.getElem?_append_left (List.getElem?_eq_some_iff.1 hj).1]; exact hj)
  have c2 : ∀ (j : Nat) (u : Value), X2[j]? = some u → w.cell? ⟨g, p + i * 2 + j, none⟩ = some u := fun j u hj => by
    rw [Nat.add_assoc]
    refine hcell (i * 2 + j) u ?_
    rw [← hx, List.getElem?_append_right (by omega), ← hj]; congr 1; omega
  have lY : Y.length = 2 := hYl
  have h1Y : ∀ u ∈ Y, u.oneCell' = true := hY1
  have hold : (Builtin.firstCells i0.size i (.slice (some ⟨g, p, none⟩) i cap)).run Tryz.prog w.drew = .ok X1.toArray w.drew := by
    rw [hz1]
    exact run_firstCells_some w.drew 2 i ⟨g, p, none⟩ i cap X1 l1 (fun j u hj => by rw [Addr.add_lit]; exact c1 j u hj)
  obtain ⟨G, hG⟩ : ∃ G, G = grownCap w (m + 1) cap 55 := ⟨_, rfl⟩
  obtain ⟨Z, hZ⟩ : ∃ Z : Array Value, Z = Builtin.zeroCells (Value.agg #[.int .i64 0, .int .i64 0]).cells (m + 1 - i) := ⟨_, rfl⟩
  obtain ⟨E, hE⟩ : ∃ E : Array Value, E = Builtin.zeroCells (Value.agg #[.int .i64 0, .int .i64 0]).cells (G - (m + 1)) := ⟨_, rfl⟩
  have lZ : Z.toList.length = 2 + X2.length := by
    rw [Array.length_toList, hZ, size_zeroCells, l2]
    show (m + 1 - i) * 2 = _
    omega
  have lE : E.toList.length = (G - (m + 1)) * 2 := by
    rw [Array.length_toList, hE, size_zeroCells]
    rfl
  have hik : i + (m + 1 - i) = m + 1 := by omega
  have hkk : (m : Int) + 1 - (i : Int) = ((m + 1 - i : Nat) : Int) := by omega
  have hrz : ∀ ty, (Builtin.append_ #[23, 3] ty #[.slice (some ⟨g, p, none⟩) i cap, .int .i64 ((m : Int) + 1 - (i : Int))]).run Tryz.prog w =
      .ok (.slice (some ⟨w.heap.size, 0, none⟩) (m + 1) G) (w.drew.alloc (.cells (X1.toArray ++ Z ++ E) 55)) := fun ty => by
    have h := Lib.run_append_grow_zeros w 23 3 ty 55 i0 _ .i64 .i64 Tryz.underlying23 Tryz.underlying3 hi0 hz0 (some ⟨g, p, none⟩) i cap X1 hold (m + 1 - i) (by omega) (by omega) (by omega) (by omega) (by rw [hz2]; omega) (by rw [hz2, hik]; exact growslice_fits (by omega) (by omega))
    rw [hik] at h
    rw [hkk, h, ← hG, ← hZ, ← hE]
  have hGe : m + 1 ≤ G := by rw [hG]; exact grownCap_ge _ _ _ _
  obtain ⟨W1, hW1⟩ : ∃ W1, w.drew.alloc (.cells (X1.toArray ++ Z ++ E) 55) = W1 := ⟨_, rfl⟩
  have hrow1 : (X1.toArray ++ Z ++ E).toList = X1 ++ (Z.toList ++ E.toList) := by simp
  have hg1 : W1.heap[w.heap.size]? = some (.cells (X1.toArray ++ Z ++ E) 55 (0, 0)) := by rw [← hW1]; exact heap_alloc_new w.drew _
  have hold1 : ∀ k, k < w.heap.size → W1.heap[k]? = w.heap[k]? := fun k hk => by rw [← hW1]; exact Below.heap_alloc w.drew _ k hk
  have hvl := hv.lt
  have hv1 : Blk W1 vb Y.toArray 55 := hv.same (hold1 _ hvl)
  obtain ⟨R1, hR1⟩ : ∃ R1 : List Value, (X1.toArray ++ Z ++ E).toList.take (i * 2) ++ Y ++ (X1.toArray ++ Z ++ E).toList.drop (i * 2 + Y.length) = R1 := ⟨_, rfl⟩
  have hrow := fill_row (X1 := X1) (Z := Z.toList) (X2 := X2) (Y := Y) (R1 := R1) (E := E.toList) (c := 2) lY lZ (by rw [← hR1, hrow1, l1])
  have hsz1 : (X1.toArray ++ Z ++ E).size = (X1 ++ (Z.toList ++ E.toList)).length := by rw [← hrow1, Array.length_toList]
  have hsz2 : (X1.toArray ++ Z ++ E).size = i * 2 + (2 + (m - i) * 2) + (G - (m + 1)) * 2 := by
    rw [hsz1]
    simp only [List.length_append]
    rw [lZ, lE, l1, l2]
    omega
  have hcp1 : ∀ ty dc, (Builtin.copy_ #[23, 23] ty #[.slice (some ⟨w.heap.size, i * 2, none⟩) (m + 1 - i) dc, .slice (some ⟨vb, 0, none⟩) 1 1]).run Tryz.prog W1 = .ok (goInt (Nat.min 1 (m + 1 - i))) (W1.setRow w.heap.size R1.toArray) := fun ty dc => by
    rw [run_copy_w W1 _ _ ty 55 2 w.heap.size (i * 2) (m + 1 - i) dc ⟨vb, 0, none⟩ 1 1 _ 55 Y Tryz.underlying23 hinfo hg1 (by rw [lY]; simp only [Nat.min_def]; split <;> omega) (by
      exact news_of hv1) (by rw [hsz2, lY]; omega) h1Y, hR1]
  obtain ⟨W2, hW2⟩ : ∃ W2, W1.setRow w.heap.size R1.toArray = W2 := ⟨_, rfl⟩
  rw [hW2] at hcp1
  have hg2 : W2.heap[w.heap.size]? = some (.cells R1.toArray 55 (0, 0)) := by rw [← hW2]; exact setRow_heap W1 _ _ _ _ _ hg1
  have hold2 : ∀ k, k < w.heap.size → W2.heap[k]? = w.heap[k]? := fun k hk => by rw [← hW2, setRow_other W1 _ k _ (by omega)]; exact hold1 k hk
  have hR1s : R1.toArray.size = (X1.toArray ++ Z ++ E).size := by rw [List.size_toArray, hrow.1, hsz1]
  have hcp2 : ∀ ty dc sc, (Builtin.copy_ #[23, 23] ty #[.slice (some ⟨w.heap.size, (i + 1) * 2, none⟩) (m - i) dc, .slice (some ⟨g, p + i * 2, none⟩) (m - i) sc]).run Tryz.prog W2.drew = .ok (goInt (Nat.min (m - i) (m - i))) (W2.drew.setRow w.heap.size (X1 ++ (Y ++ (X2 ++ E.toList))).toArray) := fun ty dc sc => by
    rw [run_copy_w W2.drew _ _ ty 55 2 w.heap.size ((i + 1) * 2) (m - i) dc ⟨g, p + i * 2, none⟩ (m - i) sc R1.toArray 55 X2 Tryz.underlying23 hinfo hg2 (by rw [l2]; congr 1; simp only [Nat.min_def]; split <;> omega) (fun j u hj => by
      rw [Addr.add_lit]
      show W2.cell? _ = _
      rw [World.cell?_of_block (w := w) (hold2 g hgl)]
      exact c2 j u hj) (by rw [hR1s, hsz2, l2]; omega) h1X2]
    have h2 := hrow.2
    have e : X1.length + 2 = (i + 1) * 2 := by omega
    rw [e] at h2
    dsimp only
    rw [h2]
  have HFIN : Hid (InsL w (some g) (m + 1) (X1 ++ (Y ++ X2)) (.returned (.slice (some ⟨w.heap.size, 0, none⟩) (m + 1) G)) (W2.drew.setRow w.heap.size (X1 ++ (Y ++ (X2 ++ E.toList))).toArray)) := by
    refine ⟨w.heap.size, 0, G, rfl, ⟨by simp; omega, .inr ⟨w.heap.size, 0, G, _, rfl, rfl, setRow_heap W2.drew _ _ _ _ _ hg2, hGe, ?_, ?_⟩⟩, ?_, .inr (Nat.le_refl _)⟩
    · rw [List.size_toArray]
      simp only [List.length_append]
      omega
    · rw [List.toList_toArray, List.drop_zero, ← List.append_assoc Y, ← List.append_assoc X1, List.take_append_of_le_length (by simp; omega), List.take_of_length_le (by simp; omega)]
    · refine ⟨by rw [← hW2, ← hW1]; rfl, by rw [← hW2, ← hW1]; rfl, by rw [← hW2, ← hW1]; rfl, ?_, fun k hk _ => ?_⟩
      · have : w.heap.size < W2.heap.size := (Array.getElem?_eq_some_iff.1 hg2).1
        simp [World.setRow]
        omega
      · rw [setRow_other W2.drew _ k _ (by omega)]
        exact hold2 k hk
  rw [hX1, hX2]
  rw [hW1] at hrz
  have HRZ := Lib.hid hrz
  have HCP1 := Lib.hid hcp1
  have HCP2 := Lib.hid hcp2
  have hG63 : G ≤ 9223372036854775807 := by
    have := grownCap_le_maxLen w (m + 1) cap 55 (by unfold maxLen; omega)
    rw [← hG] at this
    unfold maxLen at this
    omega
  clear hrz hcp1 hcp2 hrow hcell hX1 hX2 hR1 hW1 hW2 hg1 hg2 hv1 hR1s h1X2 h1Y h1x hxl lY hv hinfo hYl hY1 hs hx c1 c2 hold hZ hE hG lZ lE hik hkk hrow1 hold1 hold2 hsz1 hsz2 hi0 hz0 hz1 hz2 l1 l2
  have hz1 : ¬ ((i : Int) = (m : Int)) := by omega
  have him : i ≤ m := by omega
  have him1 : i ≤ m + 1 := by omega
  have hb2 : ¬ (G = i + 1) := by omega
  have hb4 : ¬ (cap = i) := by omega
  have hb5 : ¬ (G = i) := by omega
  have hb3 : (i : Int) ≤ (m : Int) + 1 := by omega
  have hw1 : IntKind.i64.wrap ((i : Int) + 1) = (i : Int) + 1 := by rw [IntKind.wrap_i64]; omega
  have htn : ((i : Int) + 1).toNat = i + 1 := by omega
  have hb1 : (0 : Int) ≤ (i : Int) + 1 := by omega
  go_enter Tryz.func61, Tryz.ntmps61
  go_wp2_with (first
    | (at_builtin; refine Lib.wpList_append_run _ rfl _ _ _ _ rfl _ _ rfl rfl _ _ (HRZ.out _) ?_)
    | (refine wpList_copy_r _ rfl (.tmp 43) (.tmp 44) _ _ rfl (.slice (some ⟨w.heap.size, i * 2, none⟩) (m + 1 - i) (G - i)) (.slice (some ⟨vb, 0, none⟩) 1 1) rfl rfl (HCP1.out _ _) ?_))
  have hcp2 := HCP2.out
  go_region_law (refine step_copy_r rfl (.tmp 50) (.tmp 53) 23 23 rfl (.slice (some ⟨w.heap.size, (i + 1) * 2, none⟩) (m - i) (G - (i + 1))) (.slice (some ⟨g, p + i * 2, none⟩) (m - i) (cap - i)) (by simp [Act.eval, Act.put]) (by simp [Act.eval, Act.put]) (hcp2 _ _ _) ?_)
  clear hcp2
  go_wp2_with fail
  go_ret
  exact HFIN.out
theorem insL_any {z : Nat} {gb : Option Nat} (v : Value) (m i vb : Nat) (xs : List Value) (Y : List Value) (w : World) (hs : Wz z w v gb 55 2 m xs) (h1x : ∀ u ∈ xs, u.oneCell' = true) (hm : m ≤ 64) (hi : i ≤ m) (hYl : Y.length = 2) (hY1 : ∀ u ∈ Y, u.oneCell' = true) (hv : Blk w vb Y.toArray 55) (hne : ∀ b, gb = some b → vb ≠ b) (hz : z ≤ w.heap.size) :
    Calls Tryz.prog 61 #[v, .int .i64 i, .slice (some ⟨vb, 0, none⟩) 1 1] w fun e w' => ∃ v' gb', e = .returned v' ∧ Wz z w' v' gb' 55 2 (m + 1) (xs.take (i * 2) ++ (Y ++ xs.drop (i * 2))) ∧ w.grownBy w' gb ∧ (∀ b, gb' = some b → gb = some b ∨ w.heap.size ≤ b) := by
  have fin : ∀ e w', InsL w gb (m + 1) (xs.take (i * 2) ++ (Y ++ xs.drop (i * 2))) e w' → ∃ v' gb', e = .returned v' ∧ Wz z w' v' gb' 55 2 (m + 1) (xs.take (i * 2) ++ (Y ++ xs.drop (i * 2))) ∧ w.grownBy w' gb ∧ (∀ b, gb' = some b → gb = some b ∨ w.heap.size ≤ b) := by
    rintro e w' ⟨g, p, cap, rfl, h1, h2, h3⟩
    refine ⟨_, some g, rfl, ⟨h1, fun b hb => ?_⟩, h2, fun b hb => ?_⟩
    · cases hb
      rcases h3 with h3 | h3
      · exact hs.2 g h3
      · omega
    · cases hb
      exact h3
  rcases Nat.lt_or_ge i m with him | him
  · rcases hs.1.2 with ⟨rfl, -, h0⟩ | ⟨g, p, cap, cur, rfl, rfl, -⟩
    · omega
    · rcases Nat.lt_or_ge cap (m + 1) with hc | hc
      · exact (insL_grow g p cap m i vb xs Y hYl hY1 w hs.1 h1x hm him hc hv).mono fin
      · exact (insL_shift g p cap m i vb xs Y hYl hY1 w hs.1 h1x hm him hc hv (hne g rfl)).mono fin
  · obtain rfl : i = m := by omega
    have e1 : xs.take (i * 2) = xs := List.take_of_length_le (by rw [hs.1.1]; exact Nat.le_refl _)
    have e2 : xs.drop (i * 2) = [] := List.drop_of_length_le (by rw [hs.1.1]; exact Nat.le_refl _)
    rw [e1, e2, List.append_nil] at fin ⊢
    exact (insL_end v gb i vb xs Y hYl hY1 w hs.1 hm hv).mono fin
end Go.Proofs.YtmkinnheoejphaaGreatDoor
