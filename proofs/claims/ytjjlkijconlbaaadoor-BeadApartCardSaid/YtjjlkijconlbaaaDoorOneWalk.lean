/- The walk of the law BeadOne. -/
import Derived.Test.YtjjlkijconlbaaaDoorAwake
import Derived.Lib.QuietBelow
import Derived.BigQuiet
import Derived.Deep.RegionWith
namespace Go.Proofs.YtjjlkijconlbaaaDoor
open Go.RowKit Go.Sort

theorem int_done {l : List UInt8} (h : (St.int ⟨l, false⟩).2.done = 0) : l = Pl.wInt (St.int ⟨l, false⟩).1 ∧ Pl.I64 (St.int ⟨l, false⟩).1 := by
  cases hr : Pl.rInt l with
  | none => simp [St.int, hr, St.done] at h
  | some p =>
    obtain ⟨n, r⟩ := p
    obtain ⟨e, hb⟩ := Pl.rInt_some hr
    have hr0 : r = [] := by
      cases r with
      | nil => rfl
      | cons x r => simp [St.int, hr, St.done] at h
    simp only [St.int, hr]
    rw [hr0] at e
    simp at e
    exact ⟨e, hb⟩
theorem text_done {l : List UInt8} {most : Int} (h : (St.text most ⟨l, false⟩).2.done = 0) : l = Pl.wText (St.text most ⟨l, false⟩).1 ∧ ((St.text most ⟨l, false⟩).1.length : Int) ≤ most := by
  cases hr : Pl.rText most l with
  | none => simp [St.text, hr, St.done] at h
  | some p =>
    obtain ⟨n, r⟩ := p
    obtain ⟨e, hb, -⟩ := Pl.rText_some hr
    have hr0 : r = [] := by
      cases r with
      | nil => rfl
      | cons x r => simp [St.text, hr, St.done] at h
    simp only [St.text, hr]
    rw [hr0] at e
    simp at e
    exact ⟨e, hb⟩
theorem not_both {l : List UInt8} {most : Int} (h1 : (St.int ⟨l, false⟩).2.done = 0) (h2 : (St.text most ⟨l, false⟩).2.done = 0) : False := by
  have e1 := (int_done h1).1
  have e2 := (text_done h2).1
  rw [e1] at e2
  exact Pl.wText_not_wInt (q := []) (r := []) (by simpa using e2.symm)

/-- How a beginning reads as a number and as a text: as one of them at most, and then it is just that one's bytes; no bytes are neither. -/
theorem one_cases (l : List UInt8) {n : Int} {ra : St} {t : List UInt8} {rb : St} (e1 : St.int ⟨l, false⟩ = (n, ra)) (e2 : St.text 4096 ⟨l, false⟩ = (t, rb)) :
    (l ≠ [] ∧ ra.done = 0 ∧ rb.done = 3 ∧ l = Pl.wInt n ∧ Pl.I64 n) ∨ (l ≠ [] ∧ ra.done = 3 ∧ rb.done = 0 ∧ l = Pl.wText t ∧ (t.length : Int) ≤ 4096) ∨ (ra.done = 3 ∧ rb.done = 3) := by
  have f1 : (St.int ⟨l, false⟩).2.done = 0 → l = Pl.wInt (St.int ⟨l, false⟩).1 ∧ Pl.I64 (St.int ⟨l, false⟩).1 := int_done
  have f2 : (St.text 4096 ⟨l, false⟩).2.done = 0 → l = Pl.wText (St.text 4096 ⟨l, false⟩).1 ∧ ((St.text 4096 ⟨l, false⟩).1.length : Int) ≤ 4096 := text_done
  have f3 : (St.int ⟨l, false⟩).2.done = 0 → (St.text 4096 ⟨l, false⟩).2.done = 0 → False := not_both
  rw [e1] at f1 f3
  rw [e2] at f2 f3
  rcases done_cases ra with ⟨h1, -, -⟩ | h1 <;> rcases done_cases rb with ⟨h2, -, -⟩ | h2
  · exact (f3 h1 h2).elim
  · refine Or.inl ⟨?_, h1, h2, f1 h1⟩
    rw [(f1 h1).1]; exact Pl.wInt_ne _
  · refine Or.inr (Or.inl ⟨?_, h1, h2, f2 h2⟩)
    rw [(f2 h2).1]; exact Pl.wText_ne _
  · exact Or.inr (Or.inr ⟨h1, h2⟩)

set_option maxHeartbeats 1000000 in
set_option maxRecDepth 100000 in
theorem one_any (s : ByteArray) (w : World) (hl : Lb w) :
    Calls Tryd.prog 6 #[.string s] w fun e w' => e = .returned (.bool true) ∧ Below w.heap.size w w' := by
  by_cases hs : 4096 < s.size
  · go_enter Tryd.func6, Tryd.ntmps6
    go_wp2_with fail
    refine (awake_any _ hl).mono ?_
    rintro e w1 ⟨rfl, b1⟩
    go_wp2_with fail
    go_ret
    exact ⟨rfl, b1⟩
  · go_enter Tryd.func6, Tryd.ntmps6
    go_wp2_with fail
    refine (awake_any _ hl).mono ?_
    rintro e w1 ⟨rfl, b1⟩
    go_wp2_with fail
    go_loopw [3] (fun i wr => ∃ k : Nat, k ≤ s.size + 1 ∧ i = .int .i64 k ∧ Below w.heap.size w wr) (fun i _ => s.size + 1 - (intOf i).toNat)
    case atStart => exact ⟨0, Nat.zero_le _, rfl, b1⟩
    case round =>
      clear b1
      obtain ⟨k, hk, rfl, br⟩ := hrel
      by_cases hlt : k ≤ s.size
      · have hlr := hl.below hl.size br
        obtain ⟨l, hxl⟩ : ∃ l, (s.extract 0 k).data.toList = l := ⟨_, rfl⟩
        have hll : l = s.data.toList.take k := by rw [← hxl, Lib.extract_data]; simp
        have hlen : l.length = k := by rw [hll, List.length_take, ← Lib.size_eq]; omega
        obtain ⟨n, ra, e1⟩ : ∃ n ra, St.int ⟨l, false⟩ = (n, ra) := ⟨_, _, rfl⟩
        obtain ⟨t, rb, e2⟩ : ∃ t rb, St.text 4096 ⟨l, false⟩ = (t, rb) := ⟨_, _, rfl⟩
        have hcs := one_cases l e1 e2
        have HX := Lib.hid (ofList_eq (s.extract 0 k) l hxl.symm)
        have HXL := Lib.hid hxl
        have E1 := Lib.hid e1
        have E2 := Lib.hid e2
        have HLEN := Lib.hid hlen
        clear hxl hll e1 e2 hlen
        go_wp2_with fail
        refine (rd_new _ _).mono ?_
        rintro e wA ⟨rfl, rA, bA⟩
        rw [HXL.out] at rA
        have br1 := br.trans (bA.mono br.size)
        have hW := br.size
        have h6 := hlr.size
        obtain ⟨b, hb⟩ : ∃ b, wr.heap.size = b := ⟨_, rfl⟩
        rw [hb] at rA hW h6 ⊢
        clear hb hlr br bA
        have hlA := hl.below hl.size br1
        go_wp2_with fail
        have C := rd_int b _ wA hlA rA (by show l.length ≤ _; rw [HLEN.out]; omega)
        rw [E1.out] at C
        refine C.mono ?_
        clear C
        rintro e wB ⟨rfl, rB, kB⟩
        have br2 := br1.trans (kB.below hW rA.lt)
        have hlB := hl.below hl.size br2
        clear rA kB br1 hlA
        go_wp2_with fail
        refine (rd_new _ _).mono ?_
        rintro e wC ⟨rfl, rC, bC⟩
        rw [HXL.out] at rC
        have rB2 := rB.same bC
        have hbc : b < wB.heap.size := rB.lt
        have br3 := br2.trans (bC.mono br2.size)
        have hW2 := br2.size
        obtain ⟨c, hc⟩ : ∃ c, wB.heap.size = c := ⟨_, rfl⟩
        rw [hc] at rC hbc hW2 ⊢
        clear hc hlB br2 bC rB
        have hlC := hl.below hl.size br3
        go_wp2_with fail
        have C := rd_text c _ 4096 wC hlC rC (by show l.length ≤ _; rw [HLEN.out]; omega)
        rw [E2.out] at C
        refine C.mono ?_
        clear C
        rintro e wD ⟨rfl, rD, kD⟩
        have rE := rB2.other kD (Nat.ne_of_lt hbc)
        have br4 := br3.trans (kD.below hW2 rC.lt)
        have hlD := hl.below hl.size br4
        clear rC kD br3 hlC rB2
        rcases hcs with ⟨hne, h1, h2, hwi, hi⟩ | ⟨hne, h1, h2, hwt, ht⟩ | ⟨h1, h2⟩
        · have hk0 : 0 < k := by
            rcases Nat.eq_zero_or_pos k with h | h
            · exact absurd (List.length_eq_zero_iff.1 (HLEN.out.trans h)) hne
            · exact h
          have hkb : ((k : Int) == 0) = false := by rw [beq_eq_false_iff_ne]; omega
          have cD1 : ∀ d os, Calls Tryd.prog 28 #[.pointer (some ⟨b, 0, none⟩)] (grow (redrawn wD d) os) fun e w'' => e = .returned (.int .i64 0) ∧ ∃ p : Regrown, w'' = grow (redrawn wD p.d) p.os := fun d os => Calls.regrown_of ((rd_done b _ _ (rE.same (below_regrown wD d os))).mono fun _ _ ⟨he, hw⟩ => ⟨by rw [he, h1], hw ▸ Below.refl _ _⟩)
          have cD2 : ∀ d os, Calls Tryd.prog 28 #[.pointer (some ⟨c, 0, none⟩)] (grow (redrawn wD d) os) fun e w'' => e = .returned (.int .i64 3) ∧ ∃ p : Regrown, w'' = grow (redrawn wD p.d) p.os := fun d os => Calls.regrown_of ((rd_done c _ _ (rD.same (below_regrown wD d os))).mono fun _ _ ⟨he, hw⟩ => ⟨by rw [he, h2], hw ▸ Below.refl _ _⟩)
          have hx2 : s.extract 0 k = ⟨(Pl.wInt n).toArray⟩ := by rw [HX.out, hwi]
          have cI : ∀ d os, Calls Tryd.prog 12 #[.int .i64 n] (grow (redrawn wD d) os) fun e w'' => e = .returned (.string (s.extract 0 k)) ∧ ∃ p : Regrown, w'' = grow (redrawn wD p.d) p.os := fun d os => Calls.regrown_of ((bead_int n hi _ (hlD.below hlD.size (below_regrown wD d os))).mono fun _ _ ⟨he, hw⟩ => ⟨by rw [he, hx2], hw⟩)
          clear h1 h2 hwi hi hx2 hne E1 E2 HLEN HXL
          go_wp2_with fail
          refine wp_region_quiet_below (by kernel_rfl) (by kernel_rfl) ?_
          repeat (go_big_quiet_step ((first | (go_at_call_of 28 (Value.pointer (some ⟨b, 0, none⟩)); exact cD1 _ _) | (go_at_call_of 28 (Value.pointer (some ⟨c, 0, none⟩)); exact cD2 _ _) | (go_at_call 12; exact cI _ _))))
          refine wpQuiet_nil ?_
          intro _ hw'
          obtain ⟨⟨dq, osq⟩, rfl⟩ := hw'
          have bE := below_regrown wD dq osq
          obtain ⟨wE, hwE⟩ : ∃ wE, grow (redrawn wD dq) osq = wE := ⟨_, rfl⟩
          rw [hwE] at bE ⊢
          clear hwE cD1 cD2
          have brE := br4.trans (bE.mono br4.size)
          go_wp2_with fail
          go_roundw
          case rel => exact ⟨k + 1, by omega, by go_num, brE⟩
          case measure => simp [intOf]; omega
        · have hk0 : 0 < k := by
            rcases Nat.eq_zero_or_pos k with h | h
            · exact absurd (List.length_eq_zero_iff.1 (HLEN.out.trans h)) hne
            · exact h
          have hkb : ((k : Int) == 0) = false := by rw [beq_eq_false_iff_ne]; omega
          have cD1 : ∀ d os, Calls Tryd.prog 28 #[.pointer (some ⟨b, 0, none⟩)] (grow (redrawn wD d) os) fun e w'' => e = .returned (.int .i64 3) ∧ ∃ p : Regrown, w'' = grow (redrawn wD p.d) p.os := fun d os => Calls.regrown_of ((rd_done b _ _ (rE.same (below_regrown wD d os))).mono fun _ _ ⟨he, hw⟩ => ⟨by rw [he, h1], hw ▸ Below.refl _ _⟩)
          have cD2 : ∀ d os, Calls Tryd.prog 28 #[.pointer (some ⟨c, 0, none⟩)] (grow (redrawn wD d) os) fun e w'' => e = .returned (.int .i64 0) ∧ ∃ p : Regrown, w'' = grow (redrawn wD p.d) p.os := fun d os => Calls.regrown_of ((rd_done c _ _ (rD.same (below_regrown wD d os))).mono fun _ _ ⟨he, hw⟩ => ⟨by rw [he, h2], hw ▸ Below.refl _ _⟩)
          have hx2 : s.extract 0 k = ⟨(Pl.wText t).toArray⟩ := by rw [HX.out, hwt]
          have cI : ∀ d os, Calls Tryd.prog 14 #[.string ⟨t.toArray⟩] (grow (redrawn wD d) os) fun e w'' => e = .returned (.string (s.extract 0 k)) ∧ ∃ p : Regrown, w'' = grow (redrawn wD p.d) p.os := fun d os => Calls.regrown_of ((bead_text ⟨t.toArray⟩ (size_le (by omega)) _ (hlD.below hlD.size (below_regrown wD d os))).mono fun _ _ ⟨he, hw⟩ => ⟨by rw [he, hx2], hw⟩)
          clear h1 h2 hwt ht hx2 hne E1 E2 HLEN HXL
          go_wp2_with fail
          refine wp_region_quiet_below (by kernel_rfl) (by kernel_rfl) ?_
          repeat (go_big_quiet_step ((first | (go_at_call_of 28 (Value.pointer (some ⟨b, 0, none⟩)); exact cD1 _ _) | (go_at_call_of 28 (Value.pointer (some ⟨c, 0, none⟩)); exact cD2 _ _) | (go_at_call 14; exact cI _ _))))
          refine wpQuiet_nil ?_
          intro _ hw'
          obtain ⟨⟨dq, osq⟩, rfl⟩ := hw'
          have bE := below_regrown wD dq osq
          obtain ⟨wE, hwE⟩ : ∃ wE, grow (redrawn wD dq) osq = wE := ⟨_, rfl⟩
          rw [hwE] at bE ⊢
          clear hwE cD1 cD2
          have brE := br4.trans (bE.mono br4.size)
          go_wp2_with fail
          go_roundw
          case rel => exact ⟨k + 1, by omega, by go_num, brE⟩
          case measure => simp [intOf]; omega
        · by_cases hk0 : 0 < k
          · have hkb : ((k : Int) == 0) = false := by rw [beq_eq_false_iff_ne]; omega
            have cD1 : ∀ d os, Calls Tryd.prog 28 #[.pointer (some ⟨b, 0, none⟩)] (grow (redrawn wD d) os) fun e w'' => e = .returned (.int .i64 3) ∧ ∃ p : Regrown, w'' = grow (redrawn wD p.d) p.os := fun d os => Calls.regrown_of ((rd_done b _ _ (rE.same (below_regrown wD d os))).mono fun _ _ ⟨he, hw⟩ => ⟨by rw [he, h1], hw ▸ Below.refl _ _⟩)
            have cD2 : ∀ d os, Calls Tryd.prog 28 #[.pointer (some ⟨c, 0, none⟩)] (grow (redrawn wD d) os) fun e w'' => e = .returned (.int .i64 3) ∧ ∃ p : Regrown, w'' = grow (redrawn wD p.d) p.os := fun d os => Calls.regrown_of ((rd_done c _ _ (rD.same (below_regrown wD d os))).mono fun _ _ ⟨he, hw⟩ => ⟨by rw [he, h2], hw ▸ Below.refl _ _⟩)
            clear E1 E2 HLEN HXL h1 h2
            go_wp2_with fail
            refine wp_region_quiet_below (by kernel_rfl) (by kernel_rfl) ?_
            repeat (go_big_quiet_step ((first | (go_at_call_of 28 (Value.pointer (some ⟨b, 0, none⟩)); exact cD1 _ _) | (go_at_call_of 28 (Value.pointer (some ⟨c, 0, none⟩)); exact cD2 _ _))))
            refine wpQuiet_nil ?_
            intro _ hw'
            obtain ⟨⟨dq, osq⟩, rfl⟩ := hw'
            have bE := below_regrown wD dq osq
            obtain ⟨wE, hwE⟩ : ∃ wE, grow (redrawn wD dq) osq = wE := ⟨_, rfl⟩
            rw [hwE] at bE ⊢
            clear hwE cD1 cD2
            have brE := br4.trans (bE.mono br4.size)
            go_wp2_with fail
            go_roundw
            case rel => exact ⟨k + 1, by omega, by go_num, brE⟩
            case measure => simp [intOf]; omega
          · obtain rfl : k = 0 := by omega
            have cD1 : ∀ d os, Calls Tryd.prog 28 #[.pointer (some ⟨b, 0, none⟩)] (grow (redrawn wD d) os) fun e w'' => e = .returned (.int .i64 3) ∧ ∃ p : Regrown, w'' = grow (redrawn wD p.d) p.os := fun d os => Calls.regrown_of ((rd_done b _ _ (rE.same (below_regrown wD d os))).mono fun _ _ ⟨he, hw⟩ => ⟨by rw [he, h1], hw ▸ Below.refl _ _⟩)
            have cD2 : ∀ d os, Calls Tryd.prog 28 #[.pointer (some ⟨c, 0, none⟩)] (grow (redrawn wD d) os) fun e w'' => e = .returned (.int .i64 3) ∧ ∃ p : Regrown, w'' = grow (redrawn wD p.d) p.os := fun d os => Calls.regrown_of ((rd_done c _ _ (rD.same (below_regrown wD d os))).mono fun _ _ ⟨he, hw⟩ => ⟨by rw [he, h2], hw ▸ Below.refl _ _⟩)
            clear E1 E2 HLEN HXL
            go_wp2_with fail
            refine wp_region_quiet_below (by kernel_rfl) (by kernel_rfl) ?_
            repeat (go_big_quiet_step ((first | (go_at_call_of 28 (Value.pointer (some ⟨b, 0, none⟩)); exact cD1 _ _) | (go_at_call_of 28 (Value.pointer (some ⟨c, 0, none⟩)); exact cD2 _ _))))
            refine wpQuiet_nil ?_
            intro _ hw'
            obtain ⟨⟨dq, osq⟩, rfl⟩ := hw'
            have bE := below_regrown wD dq osq
            obtain ⟨wE, hwE⟩ : ∃ wE, grow (redrawn wD dq) osq = wE := ⟨_, rfl⟩
            rw [hwE] at bE ⊢
            clear hwE cD1 cD2
            have brE := br4.trans (bE.mono br4.size)
            have rD2 := rD.same bE
            have rE2 := rE.same bE
            go_wp2_with fail
            refine (rd_done b _ _ rE2).mono ?_
            rintro e w' ⟨rfl, rfl⟩
            rw [h1]
            go_wp2_with fail
            refine (rd_done c _ _ rD2).mono ?_
            rintro e w' ⟨rfl, rfl⟩
            rw [h2]
            go_wp2_with fail
            go_roundw
            case rel => exact ⟨0 + 1, by omega, by go_num, brE⟩
            case measure => simp [intOf]
      · go_wp2_with fail
        go_ret
        exact ⟨rfl, br⟩
end Go.Proofs.YtjjlkijconlbaaaDoor
