/- THE CONTRACTS of the document's Recs and Batches, where both are the same. -/
import Derived.Test.YtfapigccdbpepaaSRep
import Derived.Test.YtfapigccdbpepaaCSame
import Derived.Test.YtfapigccdbpepaaQTail
import Derived.Deep.RegionHeld3
import Derived.Deep.Cut
import Derived.Deep.DeepCutAuto
import Derived.Deep.CutBlock
namespace Go.Proofs.Ytfapigccdbpepaa
open Go.RowKit

set_option maxHeartbeats 2000000 in
set_option maxRecDepth 100000 in
theorem recs_true {A A' : Nat → Prop} (u v : Value) (l : List Pl.Rc) (w : World) (hu : RcIn A w u l) (hv : RcIn A' w v l) (hl : l.length ≤ 1099511627776) :
    Calls Try.prog 15 #[u, v] w fun e w' => e = .returned (.bool true) ∧ Below w.heap.size w w' := by
  obtain ⟨a1, cap1, rfl, hc1⟩ := hu.recs
  obtain ⟨a2, cap2, rfl, hc2⟩ := hv.recs
  obtain ⟨m, hm⟩ : ∃ m, l.length = m := ⟨_, rfl⟩
  rw [hm] at hl ⊢
  have HM := Lib.hid hm
  have HC1 := Lib.hid hc1
  have HC2 := Lib.hid hc2
  clear hm hc1 hc2 hu hv
  go_enter Try.func15, Try.ntmps15
  go_wp2_with fail
  go_loopw [5] (fun iv wr => ∃ k n : Nat, k ≤ m ∧ iv = .int .i64 k ∧ wr = w.drewN n) (fun iv _ => m - (intOf iv).toNat)
  case atStart => exact ⟨0, 0, Nat.zero_le _, rfl, rfl⟩
  case round =>
    obtain ⟨k, n, hk, rfl, rfl⟩ := hrel
    by_cases hlt : k < m
    · obtain ⟨x, hg⟩ : ∃ x, l[k]? = some x := ⟨_, List.getElem?_eq_getElem (by rw [HM.out]; exact hlt)⟩
      obtain ⟨b, off, rfl, hbl, c0, c1, c2, c3⟩ := HC1.out k x hg
      obtain ⟨b', off', rfl, hbl', c0', c1', c2', c3'⟩ := HC2.out k x hg
      clear hg hbl hbl'
      have hgu := rec_guard
      have hne : ∀ wx, (binOp .neq 44 (.agg #[.int .i64 x.off, .string ⟨x.key.toArray⟩, .string ⟨x.val.toArray⟩, .bool x.gone]) (.agg #[.int .i64 x.off, .string ⟨x.key.toArray⟩, .string ⟨x.val.toArray⟩, .bool x.gone])).run Try.prog wx = .ok (.bool false) wx := fun wx => by
        rw [rec_neq x.off x.off ⟨x.key.toArray⟩ ⟨x.key.toArray⟩ ⟨x.val.toArray⟩ ⟨x.val.toArray⟩ x.gone x.gone wx]
        simp
      go_wp2_with fail
      go_quiet (fail)
      go_wp2_with fail
      go_roundw
      case rel => exact ⟨k + 1, n + nq, by omega, by go_num, rfl⟩
      case measure => simp [intOf]; omega
    · go_wp2_with fail
      go_ret
      exact ⟨rfl, below_drewN _ _⟩

set_option maxHeartbeats 4000000 in
set_option maxRecDepth 100000 in
theorem batches_true {A A' : Nat → Prop} (u v : Value) (L M : List (Pl.Bt × Value)) (w : World) (hu : BtIn A w u L) (hv : BtIn A' w v M) (hLM : L.map (·.1) = M.map (·.1)) (hl : L.length ≤ 1099511627776) (hr : ∀ p ∈ L, p.1.recs.length ≤ 1099511627776) :
    Calls Try.prog 12 #[u, v] w fun e w' => e = .returned (.bool true) ∧ Below w.heap.size w w' := by
  have hML : M.length = L.length := by have := congrArg List.length hLM; simpa using this.symm
  obtain ⟨a1, cap1, rfl⟩ := hu.1.form
  obtain ⟨a2, cap2, rfl⟩ := hv.1.form
  obtain ⟨m, hm⟩ : ∃ m, L.length = m := ⟨_, rfl⟩
  have HHU := Lib.hid hu
  have HHV := Lib.hid hv
  have HLM := Lib.hid hLM
  have HML := Lib.hid (hML.trans hm)
  have HR := Lib.hid hr
  rw [hML, hm]
  rw [hm] at hl
  have HM := Lib.hid hm
  clear hm hu hv hLM hr
  go_enter Try.func12, Try.ntmps12
  go_wp2_with fail
  go_loopw [5] (fun iv wr => ∃ k : Nat, k ≤ m ∧ iv = .int .i64 k ∧ Below w.heap.size w wr) (fun iv _ => m - (intOf iv).toNat)
  case atStart => exact ⟨0, Nat.zero_le _, rfl, Below.refl _ _⟩
  case round =>
    obtain ⟨k, hk, rfl, hb⟩ := hrel
    by_cases hlt : k < m
    · obtain ⟨⟨⟨base, count, prod, seq, time, recs⟩, rv⟩, hg⟩ : ∃ x, L[k]? = some x := ⟨_, List.getElem?_eq_getElem (by rw [HM.out]; exact hlt)⟩
      obtain ⟨⟨y, rv2⟩, hg2⟩ : ∃ y, M[k]? = some y := ⟨_, List.getElem?_eq_getElem (by rw [HML.out]; exact hlt)⟩
      have hy : (⟨base, count, prod, seq, time, recs⟩ : Pl.Bt) = y := by
        have h1 := congrArg (fun l => l[k]?) HLM.out
        simp only [List.getElem?_map, hg, hg2, Option.map_some] at h1
        exact Option.some.inj h1
      subst hy
      have hu1 := HHU.out.below hb
      have hv1 := HHV.out.below hb
      obtain ⟨b1, o1, cp1, e1, -, -, hc1, hr1⟩ := hu1.at hg
      obtain ⟨b2, o2, cp2, e2, -, -, hc2, hr2⟩ := hv1.at hg2
      obtain rfl : a1 = some ⟨b1, o1, none⟩ := by injection e1
      obtain rfl : a2 = some ⟨b2, o2, none⟩ := by injection e2
      have c0 : wr.cell? ⟨b1, o1 + k * 6, none⟩ = some (.int .i64 base) := hc1 0 _ (by decide) rfl
      have c1 : wr.cell? ⟨b1, o1 + k * 6 + 1, none⟩ = some (.int .i64 count) := hc1 1 _ (by decide) rfl
      have c2 : wr.cell? ⟨b1, o1 + k * 6 + 2, none⟩ = some (.int .i64 prod) := hc1 2 _ (by decide) rfl
      have c3 : wr.cell? ⟨b1, o1 + k * 6 + 3, none⟩ = some (.int .i64 seq) := hc1 3 _ (by decide) rfl
      have c4 : wr.cell? ⟨b1, o1 + k * 6 + 4, none⟩ = some (.int .i64 time) := hc1 4 _ (by decide) rfl
      have c5 : wr.cell? ⟨b1, o1 + k * 6 + 5, none⟩ = some rv := hc1 5 _ (by decide) rfl
      have d0 : wr.cell? ⟨b2, o2 + k * 6, none⟩ = some (.int .i64 base) := hc2 0 _ (by decide) rfl
      have d1 : wr.cell? ⟨b2, o2 + k * 6 + 1, none⟩ = some (.int .i64 count) := hc2 1 _ (by decide) rfl
      have d2 : wr.cell? ⟨b2, o2 + k * 6 + 2, none⟩ = some (.int .i64 prod) := hc2 2 _ (by decide) rfl
      have d3 : wr.cell? ⟨b2, o2 + k * 6 + 3, none⟩ = some (.int .i64 seq) := hc2 3 _ (by decide) rfl
      have d4 : wr.cell? ⟨b2, o2 + k * 6 + 4, none⟩ = some (.int .i64 time) := hc2 4 _ (by decide) rfl
      have d5 : wr.cell? ⟨b2, o2 + k * 6 + 5, none⟩ = some rv2 := hc2 5 _ (by decide) rfl
      have hs := fun (wx : World) (hbx : Below wr.heap.size wr wx) => rsame base count prod seq time base count prod seq time recs recs rv rv2 wx (RcIn.recs (hr1.below hbx)) (RcIn.recs (hr2.below hbx)) (HR.out _ (List.mem_of_getElem? hg)) (HR.out _ (List.mem_of_getElem? hg))
      have hsame : Pl.sameB ⟨base, count, prod, seq, time, recs⟩ ⟨base, count, prod, seq, time, recs⟩ = true := Pl.sameB_iff.2 rfl
      rw [hsame] at hs
      have HS := Lib.hid fun d os => Calls.regrown_of (hs _ (below_regrown wr d os))
      have HB := Lib.hid hb
      have k0 : ∀ d os, _ := cell_regrown c0
      have k1 : ∀ d os, _ := cell_regrown c1
      have k2 : ∀ d os, _ := cell_regrown c2
      have k3 : ∀ d os, _ := cell_regrown c3
      have k4 : ∀ d os, _ := cell_regrown c4
      have k5 : ∀ d os, _ := cell_regrown c5
      have j0 : ∀ d os, _ := cell_regrown d0
      have j1 : ∀ d os, _ := cell_regrown d1
      have j2 : ∀ d os, _ := cell_regrown d2
      have j3 : ∀ d os, _ := cell_regrown d3
      have j4 : ∀ d os, _ := cell_regrown d4
      have j5 : ∀ d os, _ := cell_regrown d5
      clear hs hsame hg hg2 hu1 hv1 hb hc1 hc2 hr1 hr2 e1 e2
      go_upto_region 6 with fail
      refine wp_region_below_tail 9 (by kernel_rfl) (by kernel_rfl) ?_
      simp only [List.take_succ_cons, List.take_zero, List.drop_succ_cons, List.drop_zero]
      repeat (go_big_quiet_step ((go_at_call 22; with_reducible exact HS.out _ _)))
      refine wpQuiet_nil ?_
      intro w3 hw3
      obtain ⟨⟨dq, osq⟩, hw3'⟩ := hw3
      have H3 : Hid (Below wr.heap.size wr w3) := by rw [hw3']; exact below_regrown wr dq osq
      clear hw3' HS k0 k1 k2 k3 k4 k5 j0 j1 j2 j3 j4 j5 c0 c1 c2 c3 c4 c5 d0 d1 d2 d3 d4 d5
      go_wp2_with fail
      go_roundw
      case rel => exact ⟨k + 1, by omega, by go_num, HB.out.trans (H3.out.mono HB.out.size)⟩
      case measure => simp [intOf]; omega
    · have HB := Lib.hid hb
      clear hb
      go_wp2_with fail
      go_ret
      exact ⟨rfl, HB.out⟩
end Go.Proofs.Ytfapigccdbpepaa
