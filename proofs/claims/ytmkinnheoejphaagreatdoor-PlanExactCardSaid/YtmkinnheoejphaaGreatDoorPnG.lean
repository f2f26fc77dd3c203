/- THE CONTRACTS OF slices.Clone, of cloned. -/
import Derived.Test.YtmkinnheoejphaaGreatDoorPnF
import Derived.Test.YtmkinnheoejphaaGreatDoorQTail
import Derived.Lib.SliceRun
namespace Go.Proofs.YtmkinnheoejphaaGreatDoor
open Go.RowKit

def ClnOut (T size : Nat) (w : World) (n : Nat) (xs : List Value) (e : Ending) (w' : World) : Prop := Below w.heap.size w w' ∧ ∃ v gb, e = .returned v ∧ Wz w.heap.size w' v gb T size n xs
theorem infoPart : Info Tryz.prog 49 3 40 (.agg #[.int .i64 0, .slice none 0 0, .int .i64 0]) := Info.of (by kernel_rfl) rfl
theorem infoLife : Info Tryz.prog 55 2 16 (.agg #[.int .i64 0, .int .i64 0]) := Info.of (by kernel_rfl) rfl
set_option maxHeartbeats 1000000 in
set_option maxRecDepth 100000 in
theorem cloneP_any {A : Nat → Prop} (v : Value) (n : Nat) (xs : List Value) (w : World) (h : Rds A w v 3 n xs) (h1 : ∀ u ∈ xs, u.oneCell' = true) (hn : n ≤ 64) :
    Calls Tryz.prog 55 #[v] w fun e w' => ClnOut 49 3 w n xs e w' := by
  obtain ⟨i, hi, i1, i2, i3, i4⟩ := infoPart
  obtain ⟨W1, hW1⟩ : ∃ W1, w.alloc (.cells #[] 49) = W1 := ⟨_, rfl⟩
  have hB1 : Below w.heap.size w W1 := by rw [← hW1]; exact (Below.refl _ _).alloc (Nat.le_refl _) _
  have HE : Hid (Wz w.heap.size W1 (.slice (some ⟨w.heap.size, 0, none⟩) 0 0) (some w.heap.size) 49 3 0 []) := Lib.hid (by rw [← hW1]; exact Wz.empty w _ _ (Nat.le_refl _))
  have HH := Lib.hid (h.below hB1)
  have HB1 := Lib.hid hB1
  have HONE := Lib.hid h1
  rcases h.2 with ⟨rfl, hn0⟩ | ⟨ad, cap, rfl, -⟩
  · have HX : Hid (xs = []) := Lib.hid (List.eq_nil_of_length_eq_zero (by rw [h.1, hn0, Nat.zero_mul]))
    subst hn0
    clear hB1 h h1 hW1
    have hnil := fun wx => Lib.run_eql_slice_nil (P := Tryz.prog) wx 22 49 none 0 0 0 0 Tryz.underlying22
    go_enter Tryz.func55, Tryz.ntmps55
    go_wp2_with fail
    go_ret
    exact ⟨Below.refl _ _, _, none, rfl, by rw [HX.out]; exact Wz.nil _ _ _ _⟩
  · clear hB1 h h1
    have hnil := fun wx => Lib.run_eql_slice_nil (P := Tryz.prog) wx 22 49 (some ad) n cap 0 0 Tryz.underlying22
    go_enter Tryz.func55, Tryz.ntmps55
    go_wp2_with (at_builtin; refine wpList_append_rd (by rfl) _ _ _ (by rfl) 49 i _ 3 40 Tryz.underlying22 hi i1 i2 i3 i4 _ (some w.heap.size) 0 [] (by rfl) HE.out.1 _ n xs (by rfl) HH.out HONE.out (by omega) (by omega) ?_)
    intro v' w' gb' k1 k2 k3
    have HF : Hid (Wz w.heap.size w' v' gb' 49 3 n xs) := Lib.hid ⟨by simpa using k1, fun b e => by
      rcases k3 with k3 | ⟨g, k3, k4⟩
      · rw [k3] at e; cases e; exact Nat.le_refl _
      · rw [k3] at e; cases e; have := HB1.out.size; omega⟩
    have HK : Hid (Below w.heap.size w w') := Lib.hid (Below.appended HB1.out k2 (fun b e => by cases e; exact Nat.le_refl _) HB1.out.size)
    clear k1 k2 k3
    go_wp2_with fail
    go_ret
    exact ⟨HK.out, _, gb', rfl, HF.out⟩
set_option maxHeartbeats 1000000 in
set_option maxRecDepth 100000 in
theorem cloneL_any {A : Nat → Prop} (v : Value) (n : Nat) (xs : List Value) (w : World) (h : Rds A w v 2 n xs) (h1 : ∀ u ∈ xs, u.oneCell' = true) (hn : n ≤ 64) :
    Calls Tryz.prog 56 #[v] w fun e w' => ClnOut 55 2 w n xs e w' := by
  obtain ⟨i, hi, i1, i2, i3, i4⟩ := infoLife
  obtain ⟨W1, hW1⟩ : ∃ W1, w.alloc (.cells #[] 55) = W1 := ⟨_, rfl⟩
  have hB1 : Below w.heap.size w W1 := by rw [← hW1]; exact (Below.refl _ _).alloc (Nat.le_refl _) _
  have HE : Hid (Wz w.heap.size W1 (.slice (some ⟨w.heap.size, 0, none⟩) 0 0) (some w.heap.size) 55 2 0 []) := Lib.hid (by rw [← hW1]; exact Wz.empty w _ _ (Nat.le_refl _))
  have HH := Lib.hid (h.below hB1)
  have HB1 := Lib.hid hB1
  have HONE := Lib.hid h1
  rcases h.2 with ⟨rfl, hn0⟩ | ⟨ad, cap, rfl, -⟩
  · have HX : Hid (xs = []) := Lib.hid (List.eq_nil_of_length_eq_zero (by rw [h.1, hn0, Nat.zero_mul]))
    subst hn0
    clear hB1 h h1 hW1
    have hnil := fun wx => Lib.run_eql_slice_nil (P := Tryz.prog) wx 23 55 none 0 0 0 0 Tryz.underlying23
    go_enter Tryz.func56, Tryz.ntmps56
    go_wp2_with fail
    go_ret
    exact ⟨Below.refl _ _, _, none, rfl, by rw [HX.out]; exact Wz.nil _ _ _ _⟩
  · clear hB1 h h1
    have hnil := fun wx => Lib.run_eql_slice_nil (P := Tryz.prog) wx 23 55 (some ad) n cap 0 0 Tryz.underlying23
    go_enter Tryz.func56, Tryz.ntmps56
    go_wp2_with (at_builtin; refine wpList_append_rd (by rfl) _ _ _ (by rfl) 55 i _ 2 16 Tryz.underlying23 hi i1 i2 i3 i4 _ (some w.heap.size) 0 [] (by rfl) HE.out.1 _ n xs (by rfl) HH.out HONE.out (by omega) (by omega) ?_)
    intro v' w' gb' k1 k2 k3
    have HF : Hid (Wz w.heap.size w' v' gb' 55 2 n xs) := Lib.hid ⟨by simpa using k1, fun b e => by
      rcases k3 with k3 | ⟨g, k3, k4⟩
      · rw [k3] at e; cases e; exact Nat.le_refl _
      · rw [k3] at e; cases e; have := HB1.out.size; omega⟩
    have HK : Hid (Below w.heap.size w w') := Lib.hid (Below.appended HB1.out k2 (fun b e => by cases e; exact Nat.le_refl _) HB1.out.size)
    clear k1 k2 k3
    go_wp2_with fail
    go_ret
    exact ⟨HK.out, _, gb', rfl, HF.out⟩
set_option maxHeartbeats 1000000 in
set_option maxRecDepth 100000 in
theorem cloneI_any {A : Nat → Prop} (v : Value) (n : Nat) (xs : List Value) (w : World) (h : Rds A w v 1 n xs) (h1 : ∀ u ∈ xs, u.oneCell' = true) (hn : n ≤ 64) :
    Calls Tryz.prog 57 #[v] w fun e w' => ClnOut 3 1 w n xs e w' := by
  obtain ⟨i, hi, i1, i2, i3, i4⟩ := infoInt
  obtain ⟨W1, hW1⟩ : ∃ W1, w.alloc (.cells #[] 3) = W1 := ⟨_, rfl⟩
  have hB1 : Below w.heap.size w W1 := by rw [← hW1]; exact (Below.refl _ _).alloc (Nat.le_refl _) _
  have HE : Hid (Wz w.heap.size W1 (.slice (some ⟨w.heap.size, 0, none⟩) 0 0) (some w.heap.size) 3 1 0 []) := Lib.hid (by rw [← hW1]; exact Wz.empty w _ _ (Nat.le_refl _))
  have HH := Lib.hid (h.below hB1)
  have HB1 := Lib.hid hB1
  have HONE := Lib.hid h1
  rcases h.2 with ⟨rfl, hn0⟩ | ⟨ad, cap, rfl, -⟩
  · have HX : Hid (xs = []) := Lib.hid (List.eq_nil_of_length_eq_zero (by rw [h.1, hn0, Nat.zero_mul]))
    subst hn0
    clear hB1 h h1 hW1
    have hnil := fun wx => Lib.run_eql_slice_nil (P := Tryz.prog) wx 32 3 none 0 0 0 0 Tryz.underlying32
    go_enter Tryz.func57, Tryz.ntmps57
    go_wp2_with fail
    go_ret
    exact ⟨Below.refl _ _, _, none, rfl, by rw [HX.out]; exact Wz.nil _ _ _ _⟩
  · clear hB1 h h1
    have hnil := fun wx => Lib.run_eql_slice_nil (P := Tryz.prog) wx 32 3 (some ad) n cap 0 0 Tryz.underlying32
    go_enter Tryz.func57, Tryz.ntmps57
    go_wp2_with (at_builtin; refine wpList_append_rd (by rfl) _ _ _ (by rfl) 3 i _ 1 8 Tryz.underlying32 hi i1 i2 i3 i4 _ (some w.heap.size) 0 [] (by rfl) HE.out.1 _ n xs (by rfl) HH.out HONE.out (by omega) (by omega) ?_)
    intro v' w' gb' k1 k2 k3
    have HF : Hid (Wz w.heap.size w' v' gb' 3 1 n xs) := Lib.hid ⟨by simpa using k1, fun b e => by
      rcases k3 with k3 | ⟨g, k3, k4⟩
      · rw [k3] at e; cases e; exact Nat.le_refl _
      · rw [k3] at e; cases e; have := HB1.out.size; omega⟩
    have HK : Hid (Below w.heap.size w w') := Lib.hid (Below.appended HB1.out k2 (fun b e => by cases e; exact Nat.le_refl _) HB1.out.size)
    clear k1 k2 k3
    go_wp2_with fail
    go_ret
    exact ⟨HK.out, _, gb', rfl, HF.out⟩
theorem cell_far {w : World} {b c o o' : Nat} {v : Value} (h : b ≠ c) : (w.setCell ⟨c, o', none⟩ v).cell? ⟨b, o, none⟩ = w.cell? ⟨b, o, none⟩ := World.cell?_of_block (Below.heap_setCell _ _ _ _ h)
/-- While cloned goes through its own places: what is done, what is as it was. -/
structure CSt (w : World) (v : Value) (gb : Option Nat) (n : Nat) (E : List PE) (lv : Value) (ls : List (Int × Int)) (i : Nat) (lab : Lab) (F : List PE) (wr : World) : Prop where
  low : Below w.heap.size w wr
  row : Wz w.heap.size wr v gb 49 3 n (F.flatMap PE.cells)
  out : ∀ b, gb = some b → lab b = .ps
  len : F.length = n
  gs : F.map PE.x = E.map PE.x
  done : ∀ j e, j < i → F[j]? = some e → ChO w.heap.size lab wr j e.cv e.x.ch
  rest : ∀ j, i ≤ j → F[j]? = E[j]?
  lvs : LvO w.heap.size lab wr lv ls
theorem CSt.step {w wr W1 : World} {gb p n cap i : Nat} {E F : List PE} {lab : Lab} {e : PE} {lv cv : Value} {ls : List (Int × Int)} {cb : Option Nat}
    (h : CSt w (.slice (some ⟨gb, p, none⟩) n cap) (some gb) n E lv ls i lab F wr) (he : F[i]? = some e) (h1 : Below wr.heap.size wr W1) (hc : NsO wr.heap.size W1 cv cb e.x.ch) :
    ∃ lab' F', CSt w (.slice (some ⟨gb, p, none⟩) n cap) (some gb) n E lv ls (i + 1) lab' F' (W1.setCell ⟨gb, p + i * 3 + 1, none⟩ cv) ∧ ∀ b, b < wr.heap.size → lab' b = lab b := by
  have hil : i < n := by rw [← h.len]; exact (List.getElem?_eq_some_iff.1 he).1
  have hgl := h.row.lt gb rfl
  have hs1 := h1.size
  have hlow := h.low.size
  have hk : Kb gb W1 (W1.setCell ⟨gb, p + i * 3 + 1, none⟩ cv) := Kb.setCell _ _
  have hsz : (W1.setCell ⟨gb, p + i * 3 + 1, none⟩ cv).heap.size = W1.heap.size := by simp [World.setCell]
  have row2 := h.row.below h1
  have r3 := Sl.set row2.1 (j := i * 3 + 1) (by omega) cv
  simp only [← Nat.add_assoc] at r3
  rw [flat_put1 he e.x.ch cv] at r3
  refine ⟨relab lab wr.heap.size (.ch i), F.set i ⟨⟨e.x.ep, e.x.ch, e.x.le⟩, cv⟩, ⟨?_, ⟨r3, row2.2⟩, fun b hb => ?_, by rw [List.length_set]; exact h.len, ?_, fun j x hj hx => ?_, fun j hj => ?_, ?_⟩, fun b hb => relab_lt hb⟩
  · exact (h.low.trans (h1.mono hlow)).trans (hk.below hgl.1 (by omega))
  · cases hb
    rw [relab_lt (by omega)]
    exact h.out gb rfl
  · rw [List.map_set, h.gs, ← h.gs]
    have hge : (F.map PE.x)[i]? = some e.x := by rw [List.getElem?_map, he]; rfl
    exact set_same hge
  · rw [List.getElem?_set] at hx
    split at hx
    · rename_i hij
      subst hij
      rw [if_pos (by rw [h.len]; exact hil)] at hx
      injection hx with hx
      subst hx
      refine ⟨cb, ?_, fun b hb => ?_⟩
      · have := Wz.kb hc hk (fun e2 => by have := hc.lt gb e2; omega)
        exact this.mono (by omega)
      · rw [relab_ge (hc.lt b hb).1]
    · refine (h.done j x (by omega) hx).keep fun b hl hz hb => ⟨?_, ?_⟩
      · rw [hk.block b (by omega) (fun e => by subst e; rw [h.out b rfl] at hb; cases hb), h1.block b hl]
      · rw [relab_lt hl]; exact hb
  · rw [List.getElem?_set_ne (by omega)]
    exact h.rest j (by omega)
  · refine h.lvs.keep fun b hl hz hb => ⟨?_, by rw [relab_lt hl]; exact hb⟩
    rw [hk.block b (by omega) (fun e => by subst e; rw [h.out b rfl] at hb; cases hb), h1.block b hl]
end Go.Proofs.YtmkinnheoejphaaGreatDoor
