/- The document's own reader of digits (heliographref01.number). -/
import Derived.Test.YtmkinnheoejphaaGreatDoorWalk1
import Derived.Test.YtmkinnheoejphaaGreatDoorRefPlain
namespace Go.Proofs.YtmkinnheoejphaaGreatDoor
open Go.RowKit

theorem drop_at {s : ByteArray} {a K : Nat} {l : List UInt8} (hl : s.data.toList.drop a = l) (hlt : a + K < s.size) : l.drop K = s[a + K] :: l.drop (K + 1) := by
  have h1 : K < l.length := by rw [← hl, List.length_drop, ← Lib.size_eq]; omega
  rw [List.drop_eq_getElem_cons h1]
  congr 1
  subst hl
  rw [List.getElem_drop]
  rfl
theorem at_zero {s : ByteArray} {a : Nat} {l : List UInt8} (hl : s.data.toList.drop a = l) (hlt : a < s.size) : l[0]? = some (s[a]'hlt) := by
  have h := drop_at (K := 0) hl (by omega)
  rw [List.drop_zero] at h
  rw [h]
  rfl
theorem at_k {s : ByteArray} {a K : Nat} {l : List UInt8} (hl : s.data.toList.drop a = l) (hlt : a + K < s.size) : l[K]? = some (s[a + K]'hlt) := by
  have h := drop_at hl hlt
  have h2 : (l.drop K)[0]? = some (s[a + K]'hlt) := by rw [h]; rfl
  simpa using h2
theorem byte_eq {x : UInt8} {c : Nat} (h : x.toNat = c) (v : UInt8) (hv : c = v.toNat) : x = v := UInt8.toNat_inj.1 (h.trans hv)

set_option maxHeartbeats 1000000 in
set_option maxRecDepth 100000 in
set_option maxRecDepth 100000 in
/-- Behind the loop: the answer, whichever way it ended. -/
theorem number_any (s : ByteArray) (a : Nat) (ha : a ≤ s.size) (hs : s.size ≤ 281474976710656) (w : World) :
    Calls Tryz.prog 69 #[.string s, .int .i64 a] w fun e w' =>
      e = .returned (.tuple #[.int .i64 (Pl.num (s.data.toList.drop a)).1, .int .u64 (Pl.num (s.data.toList.drop a)).2]) ∧ w = w' := by
  obtain ⟨l, hl⟩ : ∃ l, s.data.toList.drop a = l := ⟨_, rfl⟩
  rw [hl]
  have hll : l.length = s.size - a := by rw [← hl, List.length_drop, ← Lib.size_eq]
  have HL := Lib.hid hl
  clear hl
  go_enter Tryz.func69, Tryz.ntmps69
  go_wp2
  go_loop [6, 7] (fun k u => ∃ K U : Nat, k = .int .i64 K ∧ u = .int .u64 U ∧ a + K ≤ s.size ∧ K ≤ 20 ∧ Hid (U < 18446744073709551616) ∧ Pl.scan 0 0 l = Pl.scan K U (l.drop K)) (fun k _ => 20 - (intOf k).toNat)
  case atStart => exact ⟨0, 0, rfl, rfl, by omega, by omega, by unfold Hid; omega, rfl⟩
  case round =>
    obtain ⟨K, U, rfl, rfl, hK, h20, HU, hsc⟩ := hrel
    have HS := Lib.hid hsc
    clear hsc
    by_cases hlt : a + K < s.size
    · obtain ⟨c, hc⟩ : ∃ c, (s[a + K]'hlt).toNat = c := ⟨_, rfl⟩
      have hcb : c < 256 := by rw [← hc]; exact UInt8.toNat_lt _
      have hda := drop_at HL.out hlt
      have hak := at_k HL.out hlt
      have hdg : Pl.dig (s[a + K]'hlt) ↔ 48 ≤ c ∧ c ≤ 57 := by unfold Pl.dig; rw [hc]
      by_cases hk : K < 20
      · by_cases hd : 48 ≤ c ∧ c ≤ 57
        · have hov : Hid (18446744073709551616 ≤ 10 * U + (c - 48) → Pl.num l = (0, 0)) := by
            intro ho
            refine Pl.num_none ?_
            rw [HS.out, hda, Pl.scan_cons, if_pos ⟨hk, hdg.2 hd⟩, if_pos (by unfold Pl.over; rw [hc]; exact ho)]
          have hgo : Hid (¬ 18446744073709551616 ≤ 10 * U + (c - 48) → Pl.scan 0 0 l = Pl.scan (K + 1) (10 * U + (c - 48)) (l.drop (K + 1))) := by
            intro ho
            rw [HS.out, hda, Pl.scan_step hk (hdg.2 hd) (by unfold Pl.over; rw [hc]; exact ho), hc]
          clear hda hak hdg HS
          obtain ⟨h1, h2⟩ := hd
          go_wp2
          · rename_i ho
            go_ret2
            rw [hov.out (by omega)]
            exact ⟨rfl, rfl⟩
          · rename_i ho
            go_round
            case rel =>
              have ho2 : ¬ 18446744073709551616 ≤ 10 * U + (c - 48) := by omega
              exact ⟨K + 1, 10 * U + (c - 48), by go_num, by rw [show ((10 * U + (c - 48) : Nat) : Int) = 10 * (U : Int) + ((c : Int) - 48) by omega], by omega, by omega, by show _ < _; omega, hgo.out ho2⟩
            case measure => simp [intOf]; omega
        · have hsome : Pl.scan 0 0 l = some (K, U) := by rw [HS.out, hda, Pl.scan_cons, if_neg (fun h => hd (hdg.1 h.2))]
          have hnot : ¬ ∃ x, l[K]? = some x ∧ Pl.dig x := by
            rintro ⟨x, hx, hdx⟩
            rw [hak] at hx
            injection hx with hx
            rw [← hx] at hdx
            exact hd (hdg.1 hdx)
          have hcc : c < 48 ∨ (48 ≤ c ∧ 57 < c) := by omega
          by_cases hk1 : 1 < K
          · obtain ⟨c0, hc0⟩ : ∃ c0, (s[a]'(by omega)).toNat = c0 := ⟨_, rfl⟩
            have ha0 := at_zero HL.out (show a < s.size by omega)
            have hc0b : c0 < 256 := by rw [← hc0]; exact UInt8.toNat_lt _
            by_cases h0 : c0 = 48
            · have hn : Hid (Pl.num l = (0, 0)) := Pl.num_bad hsome (Or.inl ⟨hk1, by rw [ha0, byte_eq hc0 48 h0]⟩)
              clear hda hak hdg HS hsome hnot ha0 hd
              rcases hcc with h1 | ⟨h1, h2⟩
              all_goals
                go_wp2
                go_ret2
                rw [hn.out]
                exact ⟨rfl, rfl⟩
            · have hn : Hid (Pl.num l = (K, U)) := Pl.num_good hsome (by
                rintro (⟨-, h⟩ | h)
                · rw [ha0] at h
                  injection h with h
                  rw [h] at hc0
                  exact h0 hc0.symm
                · exact hnot h)
              have h0b : ((c0 : Int) == 48) = false := by rw [beq_eq_false_iff_ne]; omega
              clear hda hak hdg HS hsome hnot ha0 hd
              rcases hcc with h1 | ⟨h1, h2⟩
              all_goals
                go_wp2
                go_ret2
                rw [hn.out]
                exact ⟨rfl, rfl⟩
          · have hn : Hid (Pl.num l = (K, U)) := Pl.num_good hsome (by
              rintro (⟨h, -⟩ | h)
              · exact hk1 h
              · exact hnot h)
            clear hda hak hdg HS hsome hnot hd
            rcases hcc with h1 | ⟨h1, h2⟩
            all_goals
              go_wp2
              go_ret2
              rw [hn.out]
              exact ⟨rfl, rfl⟩
      · have hsome : Pl.scan 0 0 l = some (K, U) := by rw [HS.out, hda, Pl.scan_cons, if_neg (fun h => hk h.1)]
        have hk1 : 1 < K := by omega
        obtain ⟨c0, hc0⟩ : ∃ c0, (s[a]'(by omega)).toNat = c0 := ⟨_, rfl⟩
        have ha0 := at_zero HL.out (show a < s.size by omega)
        have hc0b : c0 < 256 := by rw [← hc0]; exact UInt8.toNat_lt _
        by_cases h0 : c0 = 48
        · have hn : Hid (Pl.num l = (0, 0)) := Pl.num_bad hsome (Or.inl ⟨hk1, by rw [ha0, byte_eq hc0 48 h0]⟩)
          clear hda hak hdg HS hsome ha0
          go_wp2
          go_ret2
          rw [hn.out]
          exact ⟨rfl, rfl⟩
        · have h0b : ((c0 : Int) == 48) = false := by rw [beq_eq_false_iff_ne]; omega
          by_cases hd : 48 ≤ c ∧ c ≤ 57
          · have hn : Hid (Pl.num l = (0, 0)) := Pl.num_bad hsome (Or.inr ⟨_, hak, hdg.2 hd⟩)
            clear hda hak hdg HS hsome ha0
            obtain ⟨h1, h2⟩ := hd
            go_wp2
            go_ret2
            rw [hn.out]
            exact ⟨rfl, rfl⟩
          · have hn : Hid (Pl.num l = (K, U)) := Pl.num_good hsome (by
              rintro (⟨-, h⟩ | ⟨x, hx, hdx⟩)
              · rw [ha0] at h
                injection h with h
                rw [h] at hc0
                exact h0 hc0.symm
              · rw [hak] at hx
                injection hx with hx
                rw [← hx] at hdx
                exact hd (hdg.1 hdx))
            have hcc : c < 48 ∨ (48 ≤ c ∧ 57 < c) := by omega
            clear hda hak hdg HS hsome ha0 hd
            rcases hcc with h1 | ⟨h1, h2⟩
            all_goals
              go_wp2
              go_ret2
              rw [hn.out]
              exact ⟨rfl, rfl⟩
    · have hKl : l.drop K = [] := List.drop_eq_nil_iff.2 (by omega)
      have hsome : Pl.scan 0 0 l = some (K, U) := by rw [HS.out, hKl, Pl.scan_nil]
      have hnot : ¬ ∃ x, l[K]? = some x ∧ Pl.dig x := by
        rintro ⟨x, hx, -⟩
        rw [List.getElem?_eq_none (by omega)] at hx
        cases hx
      by_cases hk1 : 1 < K
      · obtain ⟨c0, hc0⟩ : ∃ c0, (s[a]'(by omega)).toNat = c0 := ⟨_, rfl⟩
        have ha0 := at_zero HL.out (show a < s.size by omega)
        have hc0b : c0 < 256 := by rw [← hc0]; exact UInt8.toNat_lt _
        by_cases h0 : c0 = 48
        · have hn : Hid (Pl.num l = (0, 0)) := Pl.num_bad hsome (Or.inl ⟨hk1, by rw [ha0, byte_eq hc0 48 h0]⟩)
          clear hKl HS hsome hnot ha0
          go_wp2
          go_ret2
          rw [hn.out]
          exact ⟨rfl, rfl⟩
        · have hn : Hid (Pl.num l = (K, U)) := Pl.num_good hsome (by
            rintro (⟨-, h⟩ | h)
            · rw [ha0] at h
              injection h with h
              rw [h] at hc0
              exact h0 hc0.symm
            · exact hnot h)
          have h0b : ((c0 : Int) == 48) = false := by rw [beq_eq_false_iff_ne]; omega
          clear hKl HS hsome hnot ha0
          go_wp2
          go_ret2
          rw [hn.out]
          exact ⟨rfl, rfl⟩
      · have hn : Hid (Pl.num l = (K, U)) := Pl.num_good hsome (by
          rintro (⟨h, -⟩ | h)
          · exact hk1 h
          · exact hnot h)
        clear hKl HS hsome hnot
        go_wp2
        go_ret2
        rw [hn.out]
        exact ⟨rfl, rfl⟩
end Go.Proofs.YtmkinnheoejphaaGreatDoor
