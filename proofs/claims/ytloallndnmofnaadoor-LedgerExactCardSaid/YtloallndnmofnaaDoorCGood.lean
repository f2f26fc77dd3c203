/- THE CONTRACT OF the document's Good. -/
import Derived.Test.YtloallndnmofnaaDoorCWalk1
import Derived.Deep.RegionWith
import Derived.Lib.QuietBelow
import Derived.BigQuiet
import Derived.IntWalk
namespace Go.Proofs.YtloallndnmofnaaDoor
open Go.RowKit

theorem cells_six (w : World) (x0 x1 x2 x3 x4 x5 : Value) (T : TypeId) : (w.alloc (.cells #[x0, x1, x2, x3, x4, x5] T)).cell? ⟨w.heap.size, 0, none⟩ = some x0 ∧ (w.alloc (.cells #[x0, x1, x2, x3, x4, x5] T)).cell? ⟨w.heap.size, 1, none⟩ = some x1 ∧ (w.alloc (.cells #[x0, x1, x2, x3, x4, x5] T)).cell? ⟨w.heap.size, 5, none⟩ = some x5 := by
  have h := heap_alloc_new w (.cells #[x0, x1, x2, x3, x4, x5] T)
  refine ⟨?_, ?_, ?_⟩ <;> (unfold World.cell?; rw [h]; rfl)

set_option maxHeartbeats 2000000 in
set_option maxRecDepth 100000 in
theorem rgood (base count prod seq time : Int) (ls : List Pl.Rc) (v : Value) (w : World) (h : Recs v ls w) (hl : ls.length ≤ 1099511627776) (hc : Pl.I64 count) (hb : Pl.I64 base) :
    Calls Tryd.prog 26 #[.agg #[.int .i64 base, .int .i64 count, .int .i64 prod, .int .i64 seq, .int .i64 time, v]] w fun e w' => e = .returned (.bool (Pl.goodB ⟨base, count, prod, seq, time, ls⟩)) ∧ Below w.heap.size w w' := by
  obtain ⟨m, hm⟩ : ∃ m, ls.length = m := ⟨_, rfl⟩
  obtain ⟨r, hr⟩ : ∃ r, Pl.goodB ⟨base, count, prod, seq, time, ls⟩ = r := ⟨_, rfl⟩
  have HG : Hid ((Pl.numB base && decide (1 ≤ count ∧ count ≤ 8 ∧ base ≤ 1099511627776 - count) && Pl.numB prod && Pl.numB seq && Pl.numB time && decide ((m : Int) ≤ count) && Pl.riseB ls (base - 1) (base + count)) = r) := by rw [← hr, ← hm]; rfl
  rw [hr]
  obtain ⟨a, cap, rfl, hcell⟩ := h
  rw [hm] at hl ⊢
  have HM := Lib.hid hm
  have HC := Lib.hid hcell
  have hw0 : Below w.heap.size w (w.alloc (.cells #[.int .i64 base, .int .i64 count, .int .i64 prod, .int .i64 seq, .int .i64 time, .slice a m cap] 34)) := (Below.refl _ _).alloc (Nat.le_refl _) _
  have HW0 := Lib.hid hw0
  have HCB := Lib.hid hc
  have HBB := Lib.hid hb
  clear hm hr hcell hc hb hw0
  cases n1 : Pl.numB base with
  | false =>
    go_enter Tryd.func26, Tryd.ntmps26
    go_wp2_with (go_at_call 44; refine (rnum _ _).mono ?_; rintro e w' ⟨rfl, rfl⟩)
    go_ret
    exact ⟨congrArg (fun b => Ending.returned (.bool b)) (by rw [← HG.out, n1]; simp), HW0.out⟩
  | true =>
    have hbase := Pl.numB_iff.1 n1
    by_cases n2 : count < 1
    · skip
      go_enter Tryd.func26, Tryd.ntmps26
      go_wp2_with (go_at_call 44; refine (rnum _ _).mono ?_; rintro e w' ⟨rfl, rfl⟩)
      go_ret
      exact ⟨congrArg (fun b => Ending.returned (.bool b)) (by rw [← HG.out, decide_eq_false (show ¬ (1 ≤ count ∧ count ≤ 8 ∧ base ≤ 1099511627776 - count) by omega)]; simp), HW0.out⟩
    · by_cases n2b : 8 < count
      · skip
        go_enter Tryd.func26, Tryd.ntmps26
        go_wp2_with (go_at_call 44; refine (rnum _ _).mono ?_; rintro e w' ⟨rfl, rfl⟩)
        go_ret
        exact ⟨congrArg (fun b => Ending.returned (.bool b)) (by rw [← HG.out, decide_eq_false (show ¬ (1 ≤ count ∧ count ≤ 8 ∧ base ≤ 1099511627776 - count) by omega)]; simp), HW0.out⟩
      · by_cases n3 : 1099511627776 - count < base
        · skip
          go_enter Tryd.func26, Tryd.ntmps26
          go_wp2_with (go_at_call 44; refine (rnum _ _).mono ?_; rintro e w' ⟨rfl, rfl⟩)
          go_ret
          exact ⟨congrArg (fun b => Ending.returned (.bool b)) (by rw [← HG.out, decide_eq_false (show ¬ (1 ≤ count ∧ count ≤ 8 ∧ base ≤ 1099511627776 - count) by omega)]; simp), HW0.out⟩
        · cases n4 : Pl.numB prod with
          | false =>
            go_enter Tryd.func26, Tryd.ntmps26
            go_wp2_with (go_at_call 44; refine (rnum _ _).mono ?_; rintro e w' ⟨rfl, rfl⟩)
            go_ret
            exact ⟨congrArg (fun b => Ending.returned (.bool b)) (by rw [← HG.out, n4]; simp), HW0.out⟩
          | true =>
            cases n5 : Pl.numB seq with
            | false =>
              go_enter Tryd.func26, Tryd.ntmps26
              go_wp2_with (go_at_call 44; refine (rnum _ _).mono ?_; rintro e w' ⟨rfl, rfl⟩)
              go_ret
              exact ⟨congrArg (fun b => Ending.returned (.bool b)) (by rw [← HG.out, n5]; simp), HW0.out⟩
            | true =>
              cases n6 : Pl.numB time with
              | false =>
                go_enter Tryd.func26, Tryd.ntmps26
                go_wp2_with (go_at_call 44; refine (rnum _ _).mono ?_; rintro e w' ⟨rfl, rfl⟩)
                go_ret
                exact ⟨congrArg (fun b => Ending.returned (.bool b)) (by rw [← HG.out, n6]; simp), HW0.out⟩
              | true =>
                by_cases n7 : (m : Int) ≤ count
                · skip
                  go_enter Tryd.func26, Tryd.ntmps26
                  go_wp2_with (go_at_call 44; refine (rnum _ _).mono ?_; rintro e w' ⟨rfl, rfl⟩)
                  obtain ⟨d0, d1, d5⟩ := cells_six w (.int .i64 base) (.int .i64 count) (.int .i64 prod) (.int .i64 seq) (.int .i64 time) (.slice a m cap) 34
                  have HG2 : Hid (Pl.riseB ls (base - 1) (base + count) = r) := by
                    show Pl.riseB ls (base - 1) (base + count) = r
                    have h := HG.out
                    rw [n1, decide_eq_true (show 1 ≤ count ∧ count ≤ 8 ∧ base ≤ 1099511627776 - count by omega), n4, n5, n6, decide_eq_true n7] at h
                    simpa using h
                  have HS0 : (w.alloc (.cells #[.int .i64 base, .int .i64 count, .int .i64 prod, .int .i64 seq, .int .i64 time, .slice a m cap] 34)).heap.size = w.heap.size + 1 := by simp
                  generalize w.alloc (.cells #[.int .i64 base, .int .i64 count, .int .i64 prod, .int .i64 seq, .int .i64 time, .slice a m cap] 34) = W0 at *
                  have HD0 := Lib.hid d0
                  have HD1 := Lib.hid d1
                  have HD5 := Lib.hid d5
                  have HSZ := Lib.hid HS0
                  clear d0 d1 d5 HS0 HG n1 n4 n5 n6
                  go_loopw [3, 4] (fun lv iv wr => ∃ (k : Nat) (last : Int), k ≤ m ∧ iv = .int .i64 k ∧ lv = .int .i64 last ∧ Pl.riseB (ls.drop k) last (base + count) = r ∧ Below W0.heap.size W0 wr) (fun _ iv _ => m - (intOf iv).toNat)
                  case atStart => exact ⟨0, base - 1, Nat.zero_le _, rfl, rfl, HG2.out, Below.refl _ _⟩
                  case round =>
                    obtain ⟨k, last, hk, rfl, rfl, hrise, hb⟩ := hrel
                    have HB := Lib.hid hb
                    have HRI := Lib.hid hrise
                    have e : ∀ o, wr.cell? ⟨w.heap.size, o, none⟩ = W0.cell? ⟨w.heap.size, o, none⟩ := fun o => HB.out.cell (p := ⟨w.heap.size, o, none⟩) (by have := HSZ.out; show w.heap.size < _; omega)
                    have d0 := (e _).trans HD0.out
                    have d1 := (e _).trans HD1.out
                    have d5 := (e _).trans HD5.out
                    clear hb hrise e
                    by_cases hlt : k < m
                    · obtain ⟨x, hg⟩ : ∃ x, ls[k]? = some x := ⟨_, List.getElem?_eq_getElem (by rw [HM.out]; exact hlt)⟩
                      obtain ⟨b, off, rfl, hbl, c0, c1, c2, c3⟩ := HC.out k x hg
                      have e : ∀ o, wr.cell? ⟨b, o, none⟩ = w.cell? ⟨b, o, none⟩ := fun o => ((HW0.out.trans (HB.out.mono HW0.out.size)).cell (p := ⟨b, o, none⟩) hbl)
                      rw [← e] at c0 c1 c2 c3
                      have hdr : ls.drop k = x :: ls.drop (k + 1) := by
                        have h1 := List.drop_eq_getElem_cons (l := ls) (i := k) (by rw [HM.out]; exact hlt)
                        rw [h1, Option.some.inj ((List.getElem?_eq_getElem (by rw [HM.out]; exact hlt)).symm.trans hg)]
                      have HR2 : Hid ((Pl.recB x && decide (last < x.off ∧ x.off < base + count) && Pl.riseB (ls.drop (k + 1)) x.off (base + count)) = r) := by rw [← HRI.out, hdr]; rfl
                      have k0 := cell_regrown d0
                      have k1 := cell_regrown d1
                      have k5 := cell_regrown d5
                      have q0 := cell_regrown c0
                      have q1 := cell_regrown c1
                      have q2 := cell_regrown c2
                      have q3 := cell_regrown c3
                      have cR : ∀ d os, Calls Tryd.prog 45 #[.agg #[.int .i64 x.off, .string ⟨x.key.toArray⟩, .string ⟨x.val.toArray⟩, .bool x.gone]] (Sort.grow (redrawn wr d) os) fun e w'' => e = .returned (.bool (Pl.recB x)) ∧ ∃ p : Regrown, w'' = Sort.grow (redrawn wr p.d) p.os := fun d os => Calls.regrown_of (rrec x _)
                      clear hdr e hg hbl
                      cases hx : Pl.recB x with
                      | true =>
                        rw [hx] at cR
                        have HX := Lib.hid hx
                        have HCR := Lib.hid cR
                        clear hx cR
                        have hsum : IntKind.i64.wrap (base + count) = base + count := IntWalk.i64_in _ (by omega)
                        by_cases ho : x.off ≤ last
                        · have ho2 : decide (x.off ≤ last) = true := decide_eq_true ho
                          have HO := Lib.hid ho
                          clear ho
                          go_wp2_with fail
                          refine wp_region_quiet_below (by kernel_rfl) (by kernel_rfl) ?_
                          repeat (go_big_quiet_step (exact HCR.out _ _))
                          refine wpQuiet_nil ?_
                          intro _ hw'
                          obtain ⟨⟨dq, osq⟩, hw''⟩ := hw'
                          subst hw''
                          go_wp2_with fail
                          go_ret
                          exact ⟨congrArg (fun b => Ending.returned (.bool b)) (by rw [← HR2.out, HX.out, decide_eq_false (show ¬ (last < x.off ∧ x.off < base + count) from fun h => absurd HO.out (by omega))]; rfl), HW0.out.trans ((HB.out.trans ((below_regrown wr dq osq).mono HB.out.size)).mono HW0.out.size)⟩
                        · have ho2 : decide (x.off ≤ last) = false := decide_eq_false ho
                          have HO := Lib.hid ho
                          clear ho
                          by_cases hu : base + count ≤ x.off
                          · have hu2 : decide (base + count ≤ x.off) = true := decide_eq_true hu
                            have HU := Lib.hid hu
                            clear hu
                            go_wp2_with fail
                            refine wp_region_quiet_below (by kernel_rfl) (by kernel_rfl) ?_
                            repeat (go_big_quiet_step (exact HCR.out _ _))
                            refine wpQuiet_nil ?_
                            intro _ hw'
                            obtain ⟨⟨dq, osq⟩, hw''⟩ := hw'
                            subst hw''
                            go_wp2_with fail
                            go_ret
                            exact ⟨congrArg (fun b => Ending.returned (.bool b)) (by rw [← HR2.out, HX.out, decide_eq_false (show ¬ (last < x.off ∧ x.off < base + count) from fun h => absurd HU.out (by omega))]; rfl), HW0.out.trans ((HB.out.trans ((below_regrown wr dq osq).mono HB.out.size)).mono HW0.out.size)⟩
                          · have hu2 : decide (base + count ≤ x.off) = false := decide_eq_false hu
                            have HU := Lib.hid hu
                            clear hu
                            go_wp2_with fail
                            refine wp_region_quiet_below (by kernel_rfl) (by kernel_rfl) ?_
                            repeat (go_big_quiet_step (exact HCR.out _ _))
                            refine wpQuiet_nil ?_
                            intro _ hw'
                            obtain ⟨⟨dq, osq⟩, hw''⟩ := hw'
                            subst hw''
                            have HBB2 := Lib.hid (HB.out.trans ((below_regrown wr dq osq).mono HB.out.size))
                            go_wp2_with fail
                            go_roundw
                            case rel => exact ⟨k + 1, x.off, by omega, by go_num, rfl, by rw [← HR2.out, HX.out, decide_eq_true (show last < x.off ∧ x.off < base + count from ⟨by have := HO.out; omega, by have := HU.out; omega⟩)]; rfl, HBB2.out⟩
                            case measure => simp [intOf]; omega
                      | false =>
                        rw [hx] at cR
                        have HX := Lib.hid hx
                        have HCR := Lib.hid cR
                        clear hx cR
                        go_wp2_with fail
                        refine wp_region_quiet_below (by kernel_rfl) (by kernel_rfl) ?_
                        repeat (go_big_quiet_step (exact HCR.out _ _))
                        refine wpQuiet_nil ?_
                        intro _ hw'
                        obtain ⟨⟨dq, osq⟩, hw''⟩ := hw'
                        subst hw''
                        go_wp2_with fail
                        go_ret
                        exact ⟨congrArg (fun b => Ending.returned (.bool b)) (by rw [← HR2.out, HX.out]; rfl), HW0.out.trans ((HB.out.trans ((below_regrown wr dq osq).mono HB.out.size)).mono HW0.out.size)⟩
                    · go_wp2_with fail
                      go_ret
                      have h := HRI.out
                      rw [List.drop_of_length_le (by rw [HM.out]; omega)] at h
                      exact ⟨congrArg (fun b => Ending.returned (.bool b)) (by rw [← h]; rfl), HW0.out.trans (HB.out.mono HW0.out.size)⟩
                · skip
                  go_enter Tryd.func26, Tryd.ntmps26
                  go_wp2_with (go_at_call 44; refine (rnum _ _).mono ?_; rintro e w' ⟨rfl, rfl⟩)
                  go_ret
                  exact ⟨congrArg (fun b => Ending.returned (.bool b)) (by rw [← HG.out, decide_eq_false (show ¬ (m : Int) ≤ count by omega)]; simp), HW0.out⟩
end Go.Proofs.YtloallndnmofnaaDoor
