/- THE CONTRACTS OF has AND OF change WITH IT. -/
import Derived.Test.YtmkinnheoejphaaGreatDoorPnL
import Derived.Deep.RegionLaw
import Derived.Deep.DrawnRows
namespace Go.Proofs.YtmkinnheoejphaaGreatDoor
open Go.RowKit

set_option maxHeartbeats 2000000 in
set_option maxRecDepth 100000 in
/-- Whether a node is in a place. -/
theorem has_any {A : Nat → Prop} (b o : Nat) (x : Pn.Pt) (cv : Value) (n : Int) (w : World) (h : Ns A w cv x.ch) (hl : x.ch.length ≤ 64) (c1 : w.cell? ⟨b, o + 1, none⟩ = some cv) (c2 : w.cell? ⟨b, o + 2, none⟩ = some (.int .i64 x.le)) :
    Calls Tryz.prog 27 #[.pointer (some ⟨b, o, none⟩), .int .i64 n] w fun e w' => SmeOut w (Pn.hasB n x) e w' := by
  obtain ⟨xe, xc, xl⟩ := x
  simp only at h hl c1 c2
  have HCT := Lib.hid (contains_any cv xc n w h hl)
  have HD : Hid (Pn.hasB n ⟨xe, xc, xl⟩ = (xl == n || xc.contains n)) := Lib.hid rfl
  obtain ⟨D, hD⟩ : ∃ D, Pn.hasB n ⟨xe, xc, xl⟩ = D := ⟨_, rfl⟩
  rw [hD] at HD ⊢
  obtain ⟨B, hB⟩ : ∃ B, xc.contains n = B := ⟨_, rfl⟩
  rw [hB] at HCT HD
  clear h hl hD hB
  go_enter Tryz.func27, Tryz.ntmps27
  by_cases hx : xl = n
  · subst hx
    have HT : Hid (D = true) := Lib.hid (by rw [HD.out]; simp)
    go_wp2_with fail
    go_ret
    exact ⟨by rw [HT.out]; rfl, rfl⟩
  · have hne : (xl == n) = false := by simp [hx]
    have HT : Hid (D = B) := Lib.hid (by rw [HD.out, hne]; rfl)
    go_wp2_with fail
    refine HCT.out.mono ?_
    rintro e w1 ⟨rfl, rfl⟩
    go_wp2_with fail
    go_ret
    exact ⟨by rw [HT.out]; rfl, rfl⟩
set_option maxHeartbeats 4000000 in
set_option maxRecDepth 100000 in
/-- The partitions in which a node is. -/
theorem change_has {A : Nat → Prop} (v : Value) (L : List Pn.Pt) (n : Int) (w : World) (h : PsR A w v L) (hl : L.length ≤ 64) (hc : ∀ x ∈ L, x.ch.length ≤ 64) :
    Calls Tryz.prog 26 #[v, .int .i64 n, .func (.func 27) #[] #[]] w fun e w' => LstOut w (Pn.nums (Pn.idx (Pn.hasB n) 0 L)) e w' := by
  obtain ⟨a, cap, rfl⟩ := h.form
  obtain ⟨m, hm⟩ : ∃ m, L.length = m := ⟨_, rfl⟩
  have HM := Lib.hid hm
  have HC := Lib.hid hc
  have HV := Lib.hid h
  have HR := Lib.hid (Below.refl w.heap.size w)
  rw [hm] at HV hl ⊢
  clear h hm hc
  go_enter Tryz.func26, Tryz.ntmps26
  go_wp2_with fail
  go_loopw [7, 8, 11] (fun s7 _ s11 wx => ∃ (i : Nat) (gb : Option Nat), i ≤ m ∧ s11 = .int .i64 i ∧ Below w.heap.size w wx ∧ NsO w.heap.size wx s7 gb (Pn.nums (Pn.idx (Pn.hasB n) 0 (L.take i)))) (fun _ _ s11 _ => m - (intOf s11).toNat)
  case atStart => exact ⟨0, none, Nat.zero_le _, rfl, HR.out, by simp only [List.take_zero]; exact NsO.nil _ _⟩
  case round =>
    obtain ⟨i, gb, hi, rfl, hb, hw⟩ := hrel
    have HB := Lib.hid hb
    have HW := Lib.hid hw
    obtain ⟨aw, cw, rfl⟩ := hw.ns.form
    by_cases hlt : i < m
    · obtain ⟨x, hx⟩ : ∃ x, L[i]? = some x := ⟨_, List.getElem?_eq_getElem (by rw [HM.out]; exact hlt)⟩
      have hv := HV.out.below hb
      rw [← HM.out] at hv
      obtain ⟨b, p, cap', cv, ev, -, hbl, hns, e0, e1, e2⟩ := hv.at hx
      rw [HM.out] at ev
      obtain rfl : a = some ⟨b, p, none⟩ := by injection ev
      have hc64 := HC.out x (List.mem_of_getElem? hx)
      have HIX := Lib.hid (Pn.idx_take (Pn.hasB n) hx)
      have HWL : Hid ((Pn.idx (Pn.hasB n) 0 (L.take i)).length ≤ 64) := Lib.hid (Nat.le_trans (Pn.idx_len _ _ _) (by rw [List.length_take]; omega))
      have HHA := Lib.hid (has_any b (p + i * 3) x cv n wr hns hc64 e1 e2)
      have i0 : (0 : Int) ≤ (i : Int) := by omega
      have i1 : (i : Int) < (m : Int) := by omega
      clear ev hx hv hb hw hns hc64 e0 e1 e2
      go_wp2_with fail
      refine HHA.out.mono ?_
      rintro e w1 ⟨rfl, rfl⟩
      clear HHA
      cases hf : Pn.hasB n x with
      | false =>
        have HIY : Hid (Pn.idx (Pn.hasB n) 0 (L.take (i + 1)) = Pn.idx (Pn.hasB n) 0 (L.take i)) := Lib.hid (by rw [HIX.out, hf]; simp)
        clear hf
        go_wp2_with fail
        go_roundw
        case rel => exact ⟨i + 1, gb, by omega, by go_num, HB.out, by rw [HIY.out]; exact HW.out⟩
        case measure => simp [intOf]; omega
      | true =>
        have HIY : Hid (Pn.idx (Pn.hasB n) 0 (L.take (i + 1)) = Pn.idx (Pn.hasB n) 0 (L.take i) ++ [i]) := Lib.hid (by rw [HIX.out, hf]; simp)
        obtain ⟨T, hT⟩ : ∃ T, Pn.idx (Pn.hasB n) 0 (L.take i) = T := ⟨_, rfl⟩
        rw [hT] at HIY HW HWL ⊢
        have HTL : Hid ((Pn.nums T).length ≤ 64) := Lib.hid (by unfold Pn.nums; rw [List.length_map]; exact HWL.out)
        clear hf hT
        obtain ⟨W3, hW3⟩ : ∃ W, w1.alloc (.cells #[.int .i64 (i : Int)] 3) = W := ⟨_, rfl⟩
        have hb3 : Below w1.heap.size w1 W3 := by rw [← hW3]; exact (Below.refl _ _).alloc (Nat.le_refl _) _
        have HN : Hid (W3.cell? ⟨w1.heap.size, 0, none⟩ = some (.int .i64 (i : Int))) := Lib.hid (by rw [← hW3]; exact (Blk.new w1 #[.int .i64 (i : Int)] 3).cell rfl)
        have HB3 := Lib.hid (HB.out.trans (hb3.mono HB.out.size))
        have HW3 := Lib.hid (Wz.below HW.out hb3)
        clear hb3
        obtain ⟨tn, htn⟩ : ∃ n, (Pn.nums T).length = n := ⟨_, rfl⟩
        have HTN := Lib.hid htn
        rw [htn]
        clear htn
        go_wp2_with (at_builtin; refine wp_num infoInt Tryz.underlying32 (by rfl) _ _ (by rfl) (by rfl) (by rw [← HTN.out]; exact HW3.out) w1.heap.size 1 (i : Int) (by rfl) HN.out (by have := HTL.out; omega) HB3.out.size ?_)
        intro v' g' w' hz' hg' _
        have HZ' : Hid (NsO w.heap.size w' v' g' (Pn.nums (Pn.idx (Pn.hasB n) 0 (L.take (i + 1))))) := Lib.hid (by
          rw [HIY.out]
          unfold Pn.nums at hz' ⊢
          rw [List.map_append]
          exact hz')
        have HB' := Lib.hid (Below.appended HB3.out hg' HW3.out.2 HB3.out.size)
        clear hz' hg'
        go_wp2_with fail
        go_roundw
        case rel => exact ⟨i + 1, g', by omega, by go_num, HB'.out, HZ'.out⟩
        case measure => simp [intOf]; omega
    · have HF : Hid (NsO w.heap.size wr (.slice aw (Pn.nums (Pn.idx (Pn.hasB n) 0 (L.take i))).length cw) gb (Pn.nums (Pn.idx (Pn.hasB n) 0 L))) := Lib.hid (by
        have e : L.take i = L := List.take_of_length_le (by rw [HM.out]; omega)
        rw [e] at hw ⊢
        exact hw)
      clear hb hw
      go_wp2_with fail
      go_ret
      exact ⟨HB.out, _, gb, rfl, HF.out⟩
end Go.Proofs.YtmkinnheoejphaaGreatDoor
