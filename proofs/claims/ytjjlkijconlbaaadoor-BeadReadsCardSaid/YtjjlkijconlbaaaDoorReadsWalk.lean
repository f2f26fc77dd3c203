/- The walk of the law BeadReads: bead's reader and the document's own, side by side. -/
import Derived.Test.YtjjlkijconlbaaaDoorRefText
import Derived.Test.YtjjlkijconlbaaaDoorStaysWalk
namespace Go.Proofs.YtjjlkijconlbaaaDoor
open Go.RowKit

theorem Rs.len {c : Nat} {w : World} {s : ByteArray} {u : St} (h : Rs c w s u) (hs : s.size ≤ 281474976710656) : u.s.length ≤ 281474976710656 := by
  obtain ⟨a, -, e, -⟩ := h
  rw [e, List.length_drop, ← Lib.size_eq]
  omega
theorem Kb.undraw {b : Nat} {w w' : World} (h : Kb b w.drew w') : Kb b w w' := ⟨h.os, h.tape, h.output, h.size, h.block⟩

set_option maxHeartbeats 4000000 in
set_option maxRecDepth 100000 in
theorem reads_any (s : ByteArray) (aa : Option Addr) (len cap : Nat) (ks ns : Nat → Int) (w : World) (hl : Lb w) (hs : s.size ≤ 140737488355328) (hA : Asks aa len ks ns w) (hN : ∀ i, i < len → ns i ≤ 9223372036854775807) :
    Calls Tryd.prog 4 #[.string s, .slice aa len cap] w fun e w' => e = .returned (.bool true) ∧ Below w.heap.size w w' := by
  have hs2 : s.size ≤ 281474976710656 := by omega
  have HA := Lib.hid hA
  have HN := Lib.hid hN
  clear hA hN
  go_enter Tryd.func4, Tryd.ntmps4
  go_wp2_with fail
  refine (awake_any _ hl).mono ?_
  rintro e w1 ⟨rfl, b1⟩
  go_wp2_with fail
  refine (rd_new _ _).mono ?_
  rintro e w2 ⟨rfl, r2, b2⟩
  have b12 := b1.trans (b2.mono b1.size)
  have hW := b1.size
  obtain ⟨b, hb⟩ : ∃ b, w1.heap.size = b := ⟨_, rfl⟩
  rw [hb] at r2 hW ⊢
  clear hb b1 b2
  have r2 : Rd b w2 ⟨s.data.toList, false⟩ := r2
  have hbc0 : b < w2.heap.size := r2.lt
  go_wp2_with fail
  obtain ⟨w3, hw3⟩ : ∃ w3, w2.alloc (Obj.cells #[Value.string s, Value.int IntKind.i64 0, Value.bool false] 32) = w3 := ⟨_, rfl⟩
  have u3 : Rs w2.heap.size w3 s ⟨s.data.toList, false⟩ := ⟨0, Nat.zero_le _, rfl, by subst hw3; exact heap_alloc_new _ _⟩
  have r3 : Rd b w3 ⟨s.data.toList, false⟩ := by subst hw3; exact r2.same ((Below.refl _ _).alloc (Nat.le_refl _) _)
  have b3 : Below w.heap.size w w3 := by subst hw3; exact b12.alloc b12.size _
  have hWc := b12.size
  obtain ⟨c, hc⟩ : ∃ c, w2.heap.size = c := ⟨_, rfl⟩
  rw [hw3]
  rw [hc] at u3 hbc0 hWc ⊢
  clear hw3 hc b12 r2
  have hcb : c ≠ b := by omega
  have hbc : b ≠ c := by omega
  clear hbc0
  go_loopw [7] (fun i wr => ∃ k : Nat, k ≤ len ∧ i = .int .i64 k ∧ ∃ u, Rd b wr u ∧ Rs c wr s u ∧ Below w.heap.size w wr) (fun i _ => len - (intOf i).toNat)
  case atStart => exact ⟨0, Nat.zero_le _, rfl, _, r3, u3, b3⟩
  case round =>
    clear b3 r3 u3
    obtain ⟨k, hk, rfl, u, rr, ru, br⟩ := hrel
    by_cases hlt : k < len ∧ k < 200
    · obtain ⟨hlt, h200⟩ := hlt
      have hlr := hl.below hl.size br
      have hul := ru.len hs2
      have hmost := HN.out k hlt
      obtain ⟨ab, off, rfl, hab, hcells⟩ : ∃ ab off, aa = some ⟨ab, off, none⟩ ∧ ab < w.heap.size ∧ AsksAt ab off len ks ns w := by
        rcases HA.out with h | h
        · omega
        · exact h
      obtain ⟨a0, a1⟩ := hcells k hlt
      have HC := Lib.hid hcells
      clear hcells
      have a0 : wr.cell? ⟨ab, off + k * 2, none⟩ = some (.int .i64 (ks k)) := (br.cell hab).trans a0
      have a1 : wr.cell? ⟨ab, off + k * 2 + 1, none⟩ = some (.int .i64 (ns k)) := (br.cell hab).trans a1
      obtain ⟨kd, hkd⟩ : ∃ kd, ks k = kd := ⟨_, rfl⟩
      obtain ⟨nn, hnn⟩ : ∃ nn, ns k = nn := ⟨_, rfl⟩
      rw [hkd] at a0
      rw [hnn] at a1 hmost
      clear hkd hnn HA HN
      by_cases e1 : kd = 1
      · subst e1
        clear a1 hmost
        go_wp2_with fail
        refine (rd_int b _ _ hlr rr hul).mono ?_
        rintro e w2 ⟨rfl, r2, k2⟩
        have u2 := ru.other k2 hcb
        have b2 := br.trans (k2.below hW rr.lt)
        go_wp2_with fail
        refine (rf_int c s _ _ u2 hs2).mono ?_
        rintro e w3 ⟨rfl, u3, k3⟩
        have r3 := r2.other k3 hbc
        have b3 := b2.trans (k3.below hWc u2.lt)
        clear rr ru br k2 u2 b2 r2 k3
        go_wp2_with fail
        refine (rd_done b _ _ r3).mono ?_
        rintro e w' ⟨rfl, rfl⟩
        go_wp2_with fail
        refine (rf_done c s _ _ u3 hs2).mono ?_
        rintro e w9 ⟨rfl, k9⟩
        go_wp2_with fail
        go_roundw
        case rel => exact ⟨k + 1, by omega, by go_num, _, r3.same k9, u3.same k9, b3.trans (k9.mono b3.size)⟩
        case measure => simp [intOf]; omega
      by_cases e2 : kd = 2
      · subst e2
        obtain ⟨wx, rfl⟩ : ∃ wx : World, wx = wr := ⟨_, rfl⟩
        have rxd : Rd b wx.drew u := rr
        have uxd : Rs c wx.drew s u := ru
        have hlxd : Lb wx.drew := hlr.below hlr.size ((Below.refl wx.heap.size wx).drew)
        have CT := rd_text b _ nn wx.drew hlxd rxd hul
        have CU : ∀ wI : World, Kb b wx.drew wI → Calls Tryd.prog 21 #[.pointer (some ⟨c, 0, none⟩), .int .i64 nn] wI fun e w' => e = .returned (.string ⟨(u.text nn).1.toArray⟩) ∧ Rs c w' s (u.text nn).2 ∧ Kb c wI w' :=
          fun wI h => rf_text c s u nn hmost wI (uxd.other h hcb) hs2
        have hkc : ∀ wI : World, Kb b wx.drew wI → wI.cell? ⟨ab, off + k * 2 + 1, none⟩ = some (.int .i64 nn) := by
          intro wI h
          rw [World.cell?_of_block (w := wx) (h.block ab (Nat.lt_trans (Nat.lt_of_lt_of_le hab hW) rr.lt) (by omega))]
          exact a1
        obtain ⟨tx, htx⟩ : ∃ tx, (u.text nn).1 = tx := ⟨_, rfl⟩
        obtain ⟨v, hv⟩ : ∃ v, (u.text nn).2 = v := ⟨_, rfl⟩
        rw [htx, hv] at CT
        simp only [htx, hv] at CU
        have HKC := Lib.hid hkc
        have HCT := Lib.hid CT
        have HCU := Lib.hid CU
        clear CT CU hkc hlxd rxd uxd htx hv
        go_wp2_with fail
        go_region_with (first
          | (go_at_call 20; refine HCT.out.mono ?_; rintro e wI ⟨rfl, r7, k7⟩; have hcI := HKC.out _ k7)
          | (go_at_call 21; refine (HCU.out _ k7).mono ?_; rintro e wJ ⟨rfl, u8, k8⟩))
        all_goals
          have b7 := br.trans ((Kb.undraw k7).below hW rr.lt)
          have r8 := r7.other k8 hbc
          have b8 := b7.trans (k8.below hWc (Nat.lt_of_lt_of_le ru.lt k7.size))
          clear rr ru br b7 r7
          go_wp2_with fail
          refine (rd_done b _ _ r8).mono ?_
          rintro e w' ⟨rfl, rfl⟩
          go_wp2_with fail
          refine (rf_done c s _ _ u8 hs2).mono ?_
          rintro e w9 ⟨rfl, k9⟩
          go_wp2_with fail
          go_roundw
          case rel => exact ⟨k + 1, by omega, by go_num, _, r8.same k9, u8.same k9, b8.trans (k9.mono b8.size)⟩
          case measure => simp [intOf]; omega
      by_cases e3 : kd = 3
      · subst e3
        clear a1 hmost
        go_wp2_with fail
        refine (rd_open b _ _ rr hul).mono ?_
        rintro e w2 ⟨rfl, r2, k2⟩
        have u2 := ru.other k2 hcb
        have b2 := br.trans (k2.below hW rr.lt)
        go_wp2_with fail
        refine (rf_open c s _ _ u2 hs2).mono ?_
        rintro e w3 ⟨rfl, u3, k3⟩
        have r3 := r2.other k3 hbc
        have b3 := b2.trans (k3.below hWc u2.lt)
        clear rr ru br k2 u2 b2 r2 k3
        go_wp2_with fail
        refine (rd_done b _ _ r3).mono ?_
        rintro e w' ⟨rfl, rfl⟩
        go_wp2_with fail
        refine (rf_done c s _ _ u3 hs2).mono ?_
        rintro e w9 ⟨rfl, k9⟩
        go_wp2_with fail
        go_roundw
        case rel => exact ⟨k + 1, by omega, by go_num, _, r3.same k9, u3.same k9, b3.trans (k9.mono b3.size)⟩
        case measure => simp [intOf]; omega
      by_cases e4 : kd = 4
      · subst e4
        clear a1 hmost
        go_wp2_with fail
        refine (rd_more b _ _ rr).mono ?_
        rintro e w' ⟨rfl, rfl⟩
        go_wp2_with fail
        refine (rf_more c s _ _ ru hs2).mono ?_
        rintro e w3 ⟨rfl, k3⟩
        have r3 := rr.same k3
        have u3 := ru.same k3
        have b3 := br.trans (k3.mono br.size)
        clear rr ru br k3
        go_wp2_with fail
        refine (rd_done b _ _ r3).mono ?_
        rintro e w' ⟨rfl, rfl⟩
        go_wp2_with fail
        refine (rf_done c s _ _ u3 hs2).mono ?_
        rintro e w9 ⟨rfl, k9⟩
        go_wp2_with fail
        go_roundw
        case rel => exact ⟨k + 1, by omega, by go_num, _, r3.same k9, u3.same k9, b3.trans (k9.mono b3.size)⟩
        case measure => simp [intOf]; omega
      by_cases e5 : kd = 5
      · subst e5
        clear a1 hmost
        go_wp2_with fail
        refine (rd_close b _ _ rr hul).mono ?_
        rintro e w2 ⟨rfl, r2, k2⟩
        have u2 := ru.other k2 hcb
        have b2 := br.trans (k2.below hW rr.lt)
        go_wp2_with fail
        refine (rf_close c s _ _ u2 hs2).mono ?_
        rintro e w3 ⟨rfl, u3, k3⟩
        have r3 := r2.other k3 hbc
        have b3 := b2.trans (k3.below hWc u2.lt)
        clear rr ru br k2 u2 b2 r2 k3
        go_wp2_with fail
        refine (rd_done b _ _ r3).mono ?_
        rintro e w' ⟨rfl, rfl⟩
        go_wp2_with fail
        refine (rf_done c s _ _ u3 hs2).mono ?_
        rintro e w9 ⟨rfl, k9⟩
        go_wp2_with fail
        go_roundw
        case rel => exact ⟨k + 1, by omega, by go_num, _, r3.same k9, u3.same k9, b3.trans (k9.mono b3.size)⟩
        case measure => simp [intOf]; omega
      have g1 : (kd == 1) = false := beq_eq_false_iff_ne.2 e1
      have g2 : (kd == 2) = false := beq_eq_false_iff_ne.2 e2
      have g3 : (kd == 3) = false := beq_eq_false_iff_ne.2 e3
      have g4 : (kd == 4) = false := beq_eq_false_iff_ne.2 e4
      have g5 : (kd == 5) = false := beq_eq_false_iff_ne.2 e5
      clear e1 e2 e3 e4 e5 a1 hmost
      go_wp2_with fail
      refine (rd_done b _ _ rr).mono ?_
      rintro e w' ⟨rfl, rfl⟩
      go_wp2_with fail
      refine (rf_done c s _ _ ru hs2).mono ?_
      rintro e w9 ⟨rfl, k9⟩
      go_wp2_with fail
      go_roundw
      case rel => exact ⟨k + 1, by omega, by go_num, u, rr.same k9, ru.same k9, br.trans (k9.mono br.size)⟩
      case measure => simp [intOf]; omega
    · have hend : (k < len ∧ ¬ k < 200) ∨ ¬ k < len := by
        by_cases h : k < len
        · exact Or.inl ⟨h, fun h2 => hlt ⟨h, h2⟩⟩
        · exact Or.inr h
      clear hlt HA HN
      rcases hend with ⟨h1, h2⟩ | h1
      all_goals
        go_wp2_with fail
        refine (rd_done b _ _ rr).mono ?_
        rintro e w' ⟨rfl, rfl⟩
        go_wp2_with fail
        refine (rf_done c s _ _ ru hs2).mono ?_
        rintro e w9 ⟨rfl, k9⟩
        go_wp2_with fail
        go_ret
        exact ⟨rfl, br.trans (k9.mono br.size)⟩
end Go.Proofs.YtjjlkijconlbaaaDoor
