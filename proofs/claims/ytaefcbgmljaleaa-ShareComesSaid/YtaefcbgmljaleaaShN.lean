/- THE CONTRACTS OF share's isName, Good. -/
import Derived.Test.YtaefcbgmljaleaaProg
import Derived.Test.YtaefcbgmljaleaaShP
import Derived.Test.YtaefcbgmljaleaaAdd
import Derived.Lib.ConvBytes
import Derived.WalkSpells
import Derived.WalkLawsBesides
import Derived.Outline
import Derived.Carry
namespace Go.Proofs.Ytaefcbgmljaleaa
open Go.RowKit

/-- A slice that reads as these texts. -/
def Nms (A : Nat → Prop) (w : World) (v : Value) (L : List ByteArray) : Prop := Rds A w v 1 L.length (L.map Value.string)
section
variable {A A' : Nat → Prop} {w w' : World} {v : Value} {L : List ByteArray}
theorem Nms.form (h : Nms A w v L) : ∃ a cap, v = .slice a L.length cap := Rds.form h
theorem Nms.below (h : Nms A w v L) (hb : Below w.heap.size w w') : Nms A w' v L := Rds.below h hb
theorem Nms.mono (h : Nms A w v L) (k : ∀ b, A b → A' b) : Nms A' w v L := Rds.mono h k
theorem Nms.nil (A : Nat → Prop) (w : World) : Nms A w (.slice none 0 0) [] := Rds.nil A w 1
theorem Nms.at (h : Nms A w v L) {j : Nat} {x : ByteArray} (hj : L[j]? = some x) : ∃ b p cap, v = .slice (some ⟨b, p, none⟩) L.length cap ∧ A b ∧ b < w.heap.size ∧ w.cell? ⟨b, p + j, none⟩ = some (.string x) := by
  obtain ⟨b, p, cap, h1, h2, h3, h4⟩ := Rds.at h (Nat.lt_of_le_of_lt (Nat.zero_le _) (List.getElem?_eq_some_iff.1 hj).1)
  exact ⟨b, p, cap, h1, h2, h3, h4 j _ (by rw [List.getElem?_map, hj]; rfl)⟩
end

set_option maxHeartbeats 1000000 in
theorem isName_any (s : ByteArray) (w : World) : Calls Try.prog 13 #[.string s] w fun e w' => e = .returned (.bool (Sh.nameB s)) ∧ Below w.heap.size w w' := by
  by_cases h1 : (1 : Int) ≤ s.size
  · by_cases h8 : (s.size : Int) ≤ 8
    · have HB : Hid (Sh.nameB s = s.data.toList.all fun c => !Sh.badC c) := Lib.hid (by unfold Sh.nameB; simp [h1, h8])
      have hcv := Lib.run_convert_string_bytes (P := Try.prog) w 9 39 5 s Try.underlying9 Try.underlying39 Try.underlying5
      obtain ⟨n, hn⟩ : ∃ n, s.size = n := ⟨_, rfl⟩
      obtain ⟨cp, hcp⟩ : ∃ cp, grownCap w s.size 0 5 = cp := ⟨_, rfl⟩
      obtain ⟨W1, hW⟩ : ∃ W1, Lib.bytesWorld w 5 s = W1 := ⟨_, rfl⟩
      have HC : Hid (∀ j, j < n → W1.cell? ⟨w.heap.size, j, none⟩ = some (.int .u8 (s.data.toList.getD j 0).toNat)) := Lib.hid (by rw [← hW, ← hn]; exact fun j hj => Lib.bytesWorld_cell w _ s j hj)
      have HW : Hid (Below w.heap.size w W1) := Lib.hid (by rw [← hW]; exact ⟨rfl, rfl, rfl, by rw [Lib.bytesWorld_size]; omega, fun k hk => Lib.bytesWorld_at_old w _ s k hk⟩)
      have HL : Hid (s.data.toList.length = n) := Lib.hid (by rw [← hn]; exact Array.length_toList)
      rw [hcp, hn, hW] at hcv
      rw [hn] at h1 h8
      have HN := Lib.hid hn
      clear hcp hW
      go_enter Try.func13, Try.ntmps13
      go_wp2_with fail
      go_loop [4, 16] (fun _ i => ∃ k : Nat, k ≤ n ∧ i = .int .i64 k ∧ ∀ j, j < k → Sh.badC (s.data.toList.getD j 0) = false) (fun _ i => n - (intOf i).toNat)
      case atStart => exact ⟨0, Nat.zero_le _, rfl, fun j hj => by omega⟩
      case round =>
        obtain ⟨k, hk, rfl, hok⟩ := hrel
        have HOK := Lib.hid hok
        clear hok
        by_cases hlt : k < n
        · have c0 := HC.out k hlt
          obtain ⟨c, hc⟩ : ∃ c, s.data.toList.getD k 0 = c := ⟨_, rfl⟩
          rw [hc] at c0
          obtain ⟨x, hx⟩ : ∃ x : Int, (c.toNat : Int) = x := ⟨_, rfl⟩
          rw [hx] at c0
          have HX := Lib.hid hx
          have HCC := Lib.hid hc
          clear hx hc
          have HBAD : Hid (Sh.badC c = true → Sh.nameB s = false) := Lib.hid fun hb => by
            rw [HB.out]
            refine Bool.eq_false_iff.2 fun h => ?_
            have := List.all_eq_true.1 h c (by rw [← HCC.out, List.getD_eq_getElem?_getD, List.getElem?_eq_getElem (by rw [HL.out]; exact hlt)]; exact List.getElem_mem _)
            rw [hb] at this
            cases this
          have HNX : Hid (Sh.badC c = false → ∀ j, j < k + 1 → Sh.badC (s.data.toList.getD j 0) = false) := Lib.hid fun hb j hj => by
            by_cases e : j = k
            · subst e; rw [HCC.out]; exact hb
            · exact HOK.out j (by omega)
          go_wp2_with fail
          all_goals first
            | (go_ret
               exact ⟨by rw [HBAD.out (by unfold Sh.badC; rw [HX.out]; simp; omega)]; rfl, HW.out⟩)
            | (go_round
               case rel => exact ⟨k + 1, by omega, by go_num, HNX.out (by unfold Sh.badC; rw [HX.out]; simp; omega)⟩
               case measure => simp [intOf]; omega)
        · go_wp2_with fail
          go_ret
          have e : Sh.nameB s = true := by
            rw [HB.out]
            refine List.all_eq_true.2 fun c hc => ?_
            obtain ⟨j, hj, e⟩ := List.getElem_of_mem hc
            have := HOK.out j (by rw [HL.out] at hj; omega)
            rw [List.getD_eq_getElem?_getD, List.getElem?_eq_getElem hj] at this
            rw [← e]
            simpa using this
          exact ⟨by rw [e]; rfl, HW.out⟩
    · have hd : Sh.nameB s = false := by unfold Sh.nameB; simp [h8]
      rw [hd]
      clear hd
      go_enter Try.func13, Try.ntmps13
      go_wp2_with fail
      go_ret
      exact ⟨rfl, Below.refl _ _⟩
  · have hd : Sh.nameB s = false := by unfold Sh.nameB; simp [h1]
    rw [hd]
    clear hd
    go_enter Try.func13, Try.ntmps13
    go_wp2_with fail
    go_ret
    exact ⟨rfl, Below.refl _ _⟩
end Go.Proofs.Ytaefcbgmljaleaa
