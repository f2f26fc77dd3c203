/- .. into a new block. -/
import Derived.Test.YtloallndnmofnaaGreatDoorIns
namespace Go.Proofs.YtloallndnmofnaaGreatDoor
open Go.RowKit

set_option maxHeartbeats 4000000 in
set_option maxRecDepth 100000 in
theorem dins_grow (g p cap m i vb : Nat) (xs : List Value) (n : Int) (w : World) (hs : Sl w (.slice (some ⟨g, p, none⟩) m cap) (some g) 46 2 m xs) (h1x : ∀ u ∈ xs, u.oneCell' = true) (hm : m ≤ 64) (hi : i < m) (hroom : cap < m + 1) (hv : Blk w vb #[.int .i64 n, .slice none 0 0] 46) :
    Calls Tryz.prog 52 #[.slice (some ⟨g, p, none⟩) m cap, .int .i64 i, .slice (some ⟨vb, 0, none⟩) 1 1] w (Insd w (some g) (m + 1) (xs.take (i * 2) ++ ([.int .i64 n, .slice none 0 0] ++ xs.drop (i * 2)))) := by
  have hcell := fun j u hj => hs.cell (j := j) (u := u) rfl hj
  have hnc : m ≤ cap := by
    obtain ⟨ao, cap', hv', hnc, -, -⟩ := hs.make
    cases hv'
    exact hnc
  have hgl : g < w.heap.size := hs.lt g rfl
  have hxl := hs.1
  obtain ⟨i0, hi0, hz0, hz1, hz2⟩ := infoSeen
  have hinfo : (Tryz.prog.info? 46).map (·.size) = some 2 := by rw [hi0]; simp [hz1]
  obtain ⟨X1, hX1⟩ : ∃ X1, xs.take (i * 2) = X1 := ⟨_, rfl⟩
  obtain ⟨X2, hX2⟩ : ∃ X2, xs.drop (i * 2) = X2 := ⟨_, rfl⟩
  have hx : X1 ++ X2 = xs := by rw [← hX1, ← hX2, List.take_append_drop]
  have l1 : X1.length = i * 2 := by rw [← hX1]; simp; omega
  have l2 : X2.length = (m - i) * 2 := by rw [← hX2]; simp; omega
  have h1X2 : ∀ u ∈ X2, u.oneCell' = true := fun u hu => h1x u (by rw [← hx]; exact List.mem_append_right _ hu)
  have c1 : ∀ (j : Nat) (u : Value), X1[j]? = some u → w.cell? ⟨g, p + j, none⟩ = some u := fun j u hj => hcell j u (by rw [← hx, List.getElem?_append_left (List.getElem?_eq_some_iff.1 hj).1]; exact hj)
  have c2 : ∀ (j : Nat) (u : Value), X2[j]? = some u → w.cell? ⟨g, p + i * 2 + j, none⟩ = some u := fun j u hj => by
    rw [Nat.add_assoc]
    refine hcell (i * 2 + j) u ?_
    rw [← hx, List.getElem?_append_right (by omega), ← hj]; congr 1; omega
  obtain ⟨Y, hY⟩ : ∃ Y : List Value, [Value.int .i64 n, .slice none 0 0] = Y := ⟨_, rfl⟩
  have lY : Y.length = 2 := by rw [← hY]; rfl
  have h1Y : ∀ u ∈ Y, u.oneCell' = true := by
    rw [← hY]
    intro u hu
    simp only [List.mem_cons, List.not_mem_nil, or_false] at hu
    rcases hu with rfl | rfl <;> rfl
  have hold : (Builtin.firstCells i0.size i (.slice (some ⟨g, p, none⟩) i cap)).run Tryz.prog w.drew = .ok X1.toArray w.drew := by
    rw [hz1]
    exact run_firstCells_some w.drew 2 i ⟨g, p, none⟩ i cap X1 l1 (fun j u hj => by rw [Addr.add_lit]; exact c1 j u hj)
  obtain ⟨G, hG⟩ : ∃ G, G = grownCap w (m + 1) cap 46 := ⟨_, rfl⟩
  obtain ⟨Z, hZ⟩ : ∃ Z : Array Value, Z = Builtin.zeroCells (Value.agg #[.int .i64 0, .slice none 0 0]).cells (m + 1 - i) := ⟨_, rfl⟩
  obtain ⟨E, hE⟩ : ∃ E : Array Value, E = Builtin.zeroCells (Value.agg #[.int .i64 0, .slice none 0 0]).cells (G - (m + 1)) := ⟨_, rfl⟩
  have lZ : Z.toList.length = 2 + X2.length := by
    rw [Array.length_toList, hZ, size_zeroCells, l2]
    show (m + 1 - i) * 2 = _
    omega
  have lE : E.toList.length = (G - (m + 1)) * 2 := by
    rw [Array.length_toList, hE, size_zeroCells]
    rfl
  have hik : i + (m + 1 - i) = m + 1 := by omega
  have hkk : (m : Int) + 1 - (i : Int) = ((m + 1 - i : Nat) : Int) := by omega
  have hrz : ∀ ty, (Builtin.append_ #[22, 3] ty #[.slice (some ⟨g, p, none⟩) i cap, .int .i64 ((m : Int) + 1 - (i : Int))]).run Tryz.prog w =
      .ok (.slice (some ⟨w.heap.size, 0, none⟩) (m + 1) G) (w.drew.alloc (.cells (X1.toArray ++ Z ++ E) 46)) := fun ty => by
    have h := Lib.run_append_grow_zeros w 22 3 ty 46 i0 _ .i64 .i64 Tryz.underlying22 Tryz.underlying3 hi0 hz0 (some ⟨g, p, none⟩) i cap X1 hold (m + 1 - i) (by omega) (by omega) (by omega) (by omega) (by rw [hz2]; omega) (by rw [hz2, hik]; exact growslice_fits (by omega) (by omega))
    rw [hik] at h
    rw [hkk, h, ← hG, ← hZ, ← hE]
  have hGe : m + 1 ≤ G := by rw [hG]; exact grownCap_ge _ _ _ _
  obtain ⟨W1, hW1⟩ : ∃ W1, w.drew.alloc (.cells (X1.toArray ++ Z ++ E) 46) = W1 := ⟨_, rfl⟩
  have hrow1 : (X1.toArray ++ Z ++ E).toList = X1 ++ (Z.toList ++ E.toList) := by simp
  have hg1 : W1.heap[w.heap.size]? = some (.cells (X1.toArray ++ Z ++ E) 46 (0, 0)) := by rw [← hW1]; exact heap_alloc_new w.drew _
  have hold1 : ∀ k, k < w.heap.size → W1.heap[k]? = w.heap[k]? := fun k hk => by rw [← hW1]; exact Below.heap_alloc w.drew _ k hk
  have hvl := hv.lt
  have hv1 : Blk W1 vb #[.int .i64 n, .slice none 0 0] 46 := hv.same (hold1 _ hvl)
  obtain ⟨R1, hR1⟩ : ∃ R1 : List Value, (X1.toArray ++ Z ++ E).toList.take (i * 2) ++ Y ++ (X1.toArray ++ Z ++ E).toList.drop (i * 2 + Y.length) = R1 := ⟨_, rfl⟩
  have hrow := fill_row (X1 := X1) (Z := Z.toList) (X2 := X2) (Y := Y) (R1 := R1) (E := E.toList) (c := 2) lY lZ (by rw [← hR1, hrow1, l1])
  have hsz1 : (X1.toArray ++ Z ++ E).size = (X1 ++ (Z.toList ++ E.toList)).length := by rw [← hrow1, Array.length_toList]
  have hsz2 : (X1.toArray ++ Z ++ E).size = i * 2 + (2 + (m - i) * 2) + (G - (m + 1)) * 2 := by
    rw [hsz1]
    simp only [List.length_append]
    rw [lZ, lE, l1, l2]
    omega
  have hcp1 : ∀ ty dc, (Builtin.copy_ #[22, 22] ty #[.slice (some ⟨w.heap.size, i * 2, none⟩) (m + 1 - i) dc, .slice (some ⟨vb, 0, none⟩) 1 1]).run Tryz.prog W1 = .ok (goInt (Nat.min 1 (m + 1 - i))) (W1.setRow w.heap.size R1.toArray) := fun ty dc => by
    rw [run_copy_w W1 _ _ ty 46 2 w.heap.size (i * 2) (m + 1 - i) dc ⟨vb, 0, none⟩ 1 1 _ 46 Y Tryz.underlying22 hinfo hg1 (by rw [lY]; simp only [Nat.min_def]; split <;> omega) (by
      rw [← hY]; exact World.news_of_block (cs := #[.int .i64 n, .slice none 0 0]) (t := 46) (fr := (0, 0)) hv1) (by rw [hsz2, lY]; omega) h1Y, hR1]
  obtain ⟨W2, hW2⟩ : ∃ W2, W1.setRow w.heap.size R1.toArray = W2 := ⟨_, rfl⟩
  rw [hW2] at hcp1
  have hg2 : W2.heap[w.heap.size]? = some (.cells R1.toArray 46 (0, 0)) := by rw [← hW2]; exact setRow_heap W1 _ _ _ _ _ hg1
  have hold2 : ∀ k, k < w.heap.size → W2.heap[k]? = w.heap[k]? := fun k hk => by rw [← hW2, setRow_other W1 _ k _ (by omega)]; exact hold1 k hk
  have hR1s : R1.toArray.size = (X1.toArray ++ Z ++ E).size := by rw [List.size_toArray, hrow.1, hsz1]
  have hcp2 : ∀ ty dc sc, (Builtin.copy_ #[22, 22] ty #[.slice (some ⟨w.heap.size, (i + 1) * 2, none⟩) (m - i) dc, .slice (some ⟨g, p + i * 2, none⟩) (m - i) sc]).run Tryz.prog W2.drew = .ok (goInt (Nat.min (m - i) (m - i))) (W2.drew.setRow w.heap.size (X1 ++ (Y ++ (X2 ++ E.toList))).toArray) := fun ty dc sc => by
    rw [run_copy_w W2.drew _ _ ty 46 2 w.heap.size ((i + 1) * 2) (m - i) dc ⟨g, p + i * 2, none⟩ (m - i) sc R1.toArray 46 X2 Tryz.underlying22 hinfo hg2 (by rw [l2]; congr 1; simp only [Nat.min_def]; split <;> omega) (fun j u hj => by
      rw [Addr.add_lit]
      show W2.cell? _ = _
      rw [World.cell?_of_block (w := w) (hold2 g hgl)]
      exact c2 j u hj) (by rw [hR1s, hsz2, l2]; omega) h1X2]
    have h2 := hrow.2
    have e : X1.length + 2 = (i + 1) * 2 := by omega
    rw [e] at h2
    dsimp only
    rw [h2]
  have HFIN : Hid (Insd w (some g) (m + 1) (X1 ++ (Y ++ X2)) (.returned (.slice (some ⟨w.heap.size, 0, none⟩) (m + 1) G)) (W2.drew.setRow w.heap.size (X1 ++ (Y ++ (X2 ++ E.toList))).toArray)) := by
    refine ⟨w.heap.size, 0, G, rfl, ⟨by simp; omega, .inr ⟨w.heap.size, 0, G, _, rfl, rfl, setRow_heap W2.drew _ _ _ _ _ hg2, hGe, ?_, ?_⟩⟩, ?_, .inr (Nat.le_refl _)⟩
    · rw [List.size_toArray]
      simp only [List.length_append]
      omega
    · rw [List.toList_toArray, List.drop_zero, ← List.append_assoc Y, ← List.append_assoc X1, List.take_append_of_le_length (by simp; omega), List.take_of_length_le (by simp; omega)]
    · refine ⟨by rw [← hW2, ← hW1]; rfl, by rw [← hW2, ← hW1]; rfl, by rw [← hW2, ← hW1]; rfl, ?_, fun k hk _ => ?_⟩
      · have : w.heap.size < W2.heap.size := (Array.getElem?_eq_some_iff.1 hg2).1
        simp [World.setRow]
        omega
      · rw [setRow_other W2.drew _ k _ (by omega)]
        exact hold2 k hk
  rw [hX1, hX2, hY]
  rw [hW1] at hrz
  have HRZ := Lib.hid hrz
  have HCP1 := Lib.hid hcp1
  have HCP2 := Lib.hid hcp2
  have hG63 : G ≤ 9223372036854775807 := by
    have := grownCap_le_maxLen w (m + 1) cap 46 (by unfold maxLen; omega)
    rw [← hG] at this
    unfold maxLen at this
    omega
  clear hrz hcp1 hcp2 hrow hcell hX1 hX2 hY hR1 hW1 hW2 hg1 hg2 hv1 hR1s h1X2 h1Y h1x hxl lY hv hinfo hs hx c1 c2 hold hZ hE hG lZ lE hik hkk hrow1 hold1 hold2 hsz1 hsz2 hi0 hz0 hz1 hz2 l1 l2
  have hz1 : ¬ ((i : Int) = (m : Int)) := by omega
  have him : i ≤ m := by omega
  have him1 : i ≤ m + 1 := by omega
  have hb2 : ¬ (G = i + 1) := by omega
  have hb4 : ¬ (cap = i) := by omega
  have hb5 : ¬ (G = i) := by omega
  have hb3 : (i : Int) ≤ (m : Int) + 1 := by omega
  have hw1 : IntKind.i64.wrap ((i : Int) + 1) = (i : Int) + 1 := by rw [IntKind.wrap_i64]; omega
  have htn : ((i : Int) + 1).toNat = i + 1 := by omega
  have hb1 : (0 : Int) ≤ (i : Int) + 1 := by omega
  go_enter Tryz.func52, Tryz.ntmps52
  go_wp2_with (first
    | (at_builtin; refine Lib.wpList_append_run _ rfl _ _ _ _ rfl _ _ rfl rfl _ _ (HRZ.out _) ?_)
    | (refine wpList_copy_r _ rfl (.tmp 43) (.tmp 44) _ _ rfl (.slice (some ⟨w.heap.size, i * 2, none⟩) (m + 1 - i) (G - i)) (.slice (some ⟨vb, 0, none⟩) 1 1) rfl rfl (HCP1.out _ _) ?_))
  have hcp2 := HCP2.out
  go_region_law (refine step_copy_r rfl (.tmp 50) (.tmp 53) 22 22 rfl (.slice (some ⟨w.heap.size, (i + 1) * 2, none⟩) (m - i) (G - (i + 1))) (.slice (some ⟨g, p + i * 2, none⟩) (m - i) (cap - i)) (by simp [Act.eval, Act.put]) (by simp [Act.eval, Act.put]) (hcp2 _ _ _) ?_)
  clear hcp2
  go_wp2_with fail
  go_ret
  exact HFIN.out
end Go.Proofs.YtloallndnmofnaaGreatDoor
