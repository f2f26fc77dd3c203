/- THE WALK of WeedLater. -/
import Derived.Test.YtfapigccdbpepaaLPlain
import Derived.Test.YtfapigccdbpepaaLExact
namespace Go.Proofs.Ytfapigccdbpepaa
open Go.RowKit

/-- Whether a record is among the first j. -/
def isB (fd : List Pl.Rc) (x : Pl.Rc) (j : Nat) : Bool := (fd.take j).any fun y => decide (y = x)
theorem isB_next {fd : List Pl.Rc} {x y : Pl.Rc} {j : Nat} (h : fd[j]? = some y) : isB fd x (j + 1) = (isB fd x j || decide (y = x)) := by
  unfold isB
  rw [List.take_add_one, h, List.any_append]
  simp
theorem isB_all {fd : List Pl.Rc} {x : Pl.Rc} {j : Nat} (hj : fd.length ≤ j) (h : x ∈ fd) : isB fd x j = true := by
  unfold isB
  rw [List.take_of_length_le hj]
  exact List.any_eq_true.2 ⟨x, h, by simp⟩
set_option maxHeartbeats 4000000 in
set_option maxRecDepth 100000 in
theorem later_law {A : Nat → Prop} (D : Devs) (v : Value) (rs : List Pl.Rc) (upto : Int) (w : World) (h : RcIn A w v rs) :
    Calls Try.prog 9 #[v, .int .i64 upto] w fun e w' => e = .returned (.bool true) ∧ Below w.heap.size w w' := by
  have HAW := Lib.hid (awake8 D w)
  have HSM : Hid (∀ wx, Below w.heap.size w wx → Calls Try.prog 20 #[v] wx fun e w' => ∃ g, e = .returned (.bool g) ∧ Eqw2 wx w' ∧ (g = true → ∀ (j : Nat) (x : Pl.Rc), j < 40 → rs[j]? = some x → okR x)) := Lib.hid fun wx hx => small_any v rs wx (Rds.below h hx)
  have HRI : Hid (∀ wx, Below w.heap.size w wx → Calls Try.prog 21 #[v, .slice none 0 0] wx (RiseOut wx (rise rs []))) := Lib.hid fun wx hx => rising_any (A' := fun _ => True) v _ rs [] wx (Rds.below h hx) (Rds.nil _ _ _)
  obtain ⟨a1, c1, rfl⟩ := h.slice
  obtain ⟨m, hm⟩ : ∃ m, rs.length = m := ⟨_, rfl⟩
  rw [hm] at HSM HRI ⊢
  clear h hm
  go_enter Try.func9, Try.ntmps9
  go_wp2_with fail
  refine HAW.out.mono ?_
  rintro e W1 ⟨rfl, hb1⟩
  have HB1 := Lib.hid hb1
  clear hb1 HAW
  go_wp2_with fail
  refine (HSM.out _ HB1.out).mono ?_
  rintro e W2 ⟨g, rfl, hw2, hg⟩
  have hwe : W1 = W2 := hw2.symm
  subst hwe
  cases g with
  | false =>
    clear hg
    go_wp2_with fail
    go_ret
    exact ⟨rfl, HB1.out⟩
  | true =>
  have hok := hg rfl
  have HF : Hid (Few (rise rs [])) := Lib.hid (rise_few [] hok)
  clear hg hok hw2 HSM
  go_wp2_with fail
  refine (HRI.out _ HB1.out).mono ?_
  rintro e W3 ⟨hb3, vl, L, rfl, hL, hLm⟩
  obtain ⟨al, cl, rfl⟩ := hL.form
  obtain ⟨ll, hll⟩ : ∃ n, L.length = n := ⟨_, rfl⟩
  rw [hll] at hL ⊢
  have HLL := Lib.hid hll
  have HLM : Hid (L.map (·.1) = riseTo rs [] ll) := Lib.hid (by
    have h1 : min rs.length 40 = ll := by
      have := congrArg List.length hLm
      unfold rise riseTo at this
      simp only [List.length_map, List.length_range] at this
      omega
    rw [hLm]
    unfold rise
    rw [h1])
  have HB3 := Lib.hid (HB1.out.trans (hb3.mono HB1.out.size))
  have HFL : Hid (Few (L.map (·.1))) := Lib.hid (by rw [hLm]; exact HF.out)
  have HFO := Lib.hid (D.fold _ L upto W3 hL HFL.out)
  have HL := Lib.hid hL
  clear hb3 hL hLm hll HRI
  go_wp2_with fail
  refine HFO.out.mono ?_
  rintro e W4 ⟨hb4, vf, rfl, hF⟩
  obtain ⟨NN, hNN⟩ : ∃ NN, min ll upto.toNat = NN := ⟨_, rfl⟩
  have hll64 : ll ≤ 64 := by have := HFL.out.1; rw [List.length_map, HLL.out] at this; exact this
  have hNl : NN ≤ ll := by rw [← hNN]; exact Nat.min_le_left _ _
  have HN : Hid (∀ j : Nat, j < NN ↔ j < ll ∧ (j : Int) < upto) := Lib.hid fun j => by rw [← hNN]; omega
  obtain ⟨fd, hfd⟩ : ∃ fd, Wd.fold (L.map (·.1)) upto = fd := ⟨_, rfl⟩
  rw [hfd] at hF
  have HFP : Hid (fd.Perm (((List.range NN).filter (selB rs NN)).map (xa rs))) := Lib.hid (by rw [← hfd, HLM.out]; exact fold_perm rs [] ll NN upto HN.out)
  have HSR : Hid (Wd.Srt fd) := Lib.hid (by rw [← hfd]; exact ((Wd.lasts_spec _).1).filter _)
  obtain ⟨af, cf', rfl⟩ := hF.slice
  obtain ⟨fl, hfl⟩ : ∃ n, fd.length = n := ⟨_, rfl⟩
  have hfl4 : fl ≤ 4096 := by rw [← hfl, ← hfd]; exact Nat.le_trans (Wd.fold_len _ _) HFL.out.rcs
  rw [hfl] at hF ⊢
  have HFN := Lib.hid hfl
  have HFD := Lib.hid hF
  have HL4 := Lib.hid (HL.out.below hb4)
  have HB4 := Lib.hid (HB3.out.trans (hb4.mono HB3.out.size))
  clear hb4 hF hfd hfl hNN HFO
  go_wp2_with fail
  go_loopw [7, 8] (fun nv iv wr => ∃ i : Nat, i ≤ NN ∧ nv = .int .i64 (cntB rs NN i) ∧ iv = .int .i64 i ∧ Below W4.heap.size W4 wr) (fun _ iv _ => NN - (intOf iv).toNat)
  case atStart => exact ⟨0, Nat.zero_le _, rfl, rfl, Below.refl _ _⟩
  case round =>
    obtain ⟨i, hi, rfl, rfl, hbw⟩ := hrel
    have HBW := Lib.hid hbw
    clear hbw
    by_cases hlt : i < NN
    · obtain ⟨hl1, hl2⟩ := (HN.out i).1 hlt
      have hd1 : decide ((i : Int) < (ll : Int)) = true := by simp; omega
      have hd2 : decide ((i : Int) < upto) = true := by simpa using hl2
      obtain ⟨b, o, cap, b3, o3, c3, e1, k4, k5, d0, d1, d2, d3⟩ := rise_cells (HL4.out.below HBW.out) HLM.out hl1
      rw [HLL.out] at e1
      obtain rfl : al = some ⟨b, o, none⟩ := by injection e1
      have i0 : (0 : Int) ≤ (i : Int) := by omega
      have i1 : (i : Int) < (ll : Int) := by omega
      obtain ⟨x, hx⟩ : ∃ x, xa rs i = x := ⟨_, rfl⟩
      have HX := Lib.hid hx
      rw [hx] at d1 d2 d3
      obtain ⟨W5, hW5⟩ : ∃ W5, wr.alloc (.cells #[.int .i64 i, .string ⟨x.key.toArray⟩, .string ⟨x.val.toArray⟩, .bool x.gone] 44) = W5 := ⟨_, rfl⟩
      have HK5 : Hid (Blk W5 wr.heap.size #[.int .i64 i, .string ⟨x.key.toArray⟩, .string ⟨x.val.toArray⟩, .bool x.gone] 44) := Lib.hid (by rw [← hW5]; exact Blk.new _ _ _)
      have hb5 : Below wr.heap.size wr W5 := by rw [← hW5]; exact (Below.refl _ _).alloc (Nat.le_refl _) _
      have HB5 := Lib.hid (HBW.out.trans (hb5.mono HBW.out.size))
      have HW5 := Lib.hid hW5
      obtain ⟨N5, hN5⟩ : ∃ N5, wr.heap.size = N5 := ⟨_, rfl⟩
      have HN5 := Lib.hid hN5
      obtain ⟨off, key, val, gone⟩ := x
      clear e1 hx hl1 hl2 hW5 hb5 hN5 k4
      go_upto_region 12 with fail
      rw [HW5.out, HN5.out]
      rw [HN5.out] at HK5
      have x0 : W5.cell? ⟨N5, 0, none⟩ = some (.int .i64 i) := HK5.out.cell rfl
      have x1 : W5.cell? ⟨N5, 1, none⟩ = some (.string ⟨key.toArray⟩) := HK5.out.cell rfl
      have x2 : W5.cell? ⟨N5, 2, none⟩ = some (.string ⟨val.toArray⟩) := HK5.out.cell rfl
      have x3 : W5.cell? ⟨N5, 3, none⟩ = some (.bool gone) := HK5.out.cell rfl
      clear d0 d1 d2 d3 k5
      have HST : Hid (lastTo rs i (i + 1) = !key.isEmpty) := Lib.hid (by rw [lastTo_start, HX.out]; cases key <;> rfl)
      have HKY : Hid ((xa rs i).key = key) := Lib.hid (by rw [HX.out])
      clear x0 x1 x2 x3
      have x1 : W5.cell? ⟨N5, 1, none⟩ = some (.string ⟨key.toArray⟩) := HK5.out.cell rfl
      go_wp2_with fail
      go_loopw [10, 11] (fun lv kv wz => ∃ k : Nat, i + 1 ≤ k ∧ k ≤ NN ∧ lv = .bool (lastTo rs i k) ∧ kv = .int .i64 k ∧ Below W5.heap.size W5 wz) (fun _ kv _ => NN - (intOf kv).toNat)
      case atStart => exact ⟨i + 1, Nat.le_refl _, by omega, by rw [HST.out], by go_num, Below.refl _ _⟩
      case round =>
        obtain ⟨k, hik, hkN, rfl, rfl, hbz⟩ := hrel
        have HBZ := Lib.hid hbz
        clear hbz x1
        obtain ⟨lt, hlt2⟩ : ∃ q, lastTo rs i k = q := ⟨_, rfl⟩
        have HLT := Lib.hid hlt2
        rw [hlt2]
        clear hlt2
        by_cases hkn : k < NN
        · obtain ⟨hl1, hl2⟩ := (HN.out k).1 hkn
          have hd3 : decide ((k : Int) < (ll : Int)) = true := by simp; omega
          have hd4 : decide ((k : Int) < upto) = true := by simpa using hl2
          obtain ⟨b', o', cap', b4, o4, c4, e1, -, k5, d0, d1, d2, d3⟩ := rise_cells (HL4.out.below (HB5.out.trans (HBZ.out.mono HB5.out.size))) HLM.out hl1
          rw [HLL.out] at e1
          have e2 : (some ⟨b, o, none⟩ : Option Addr) = some ⟨b', o', none⟩ := by injection e1
          obtain ⟨rfl, rfl⟩ : b = b' ∧ o = o' := by injection e2 with e2; injection e2 with e3 e4; exact ⟨e3, e4⟩
          have x1 : wr.cell? ⟨N5, 1, none⟩ = some (.string ⟨key.toArray⟩) := (HK5.out.below HBZ.out).cell rfl
          have kk0 : (0 : Int) ≤ (k : Int) := by omega
          have kk1 : (k : Int) < (ll : Int) := by omega
          obtain ⟨ky, hky⟩ : ∃ y, (xa rs k).key = y := ⟨_, rfl⟩
          rw [hky] at d1
          have HNX : Hid (lastTo rs i (k + 1) = (lt && !decide (ky = key))) := Lib.hid (by rw [lastTo_next rs (by omega), HLT.out, hky, HKY.out])
          clear e1 e2 hl1 hl2 d0 d2 d3 hky
          cases lt with
          | false =>
            go_wp2_with fail
            go_quiet (fail)
            go_wp2_with fail
            go_roundw
            case rel => exact ⟨k + 1, by omega, by omega, by rw [HNX.out]; rfl, by go_num, HBZ.out.trans (below_drewN _ _)⟩
            case measure => simp [intOf]; omega
          | true =>
            by_cases hek : ky = key
            · subst hek
              have hbe : (ky == ky) = true := by simp
              go_wp2_with fail
              go_quiet (fail)
              go_wp2_with fail
              go_roundw
              case rel => exact ⟨k + 1, by omega, by omega, by rw [HNX.out]; simp, by go_num, HBZ.out.trans (below_drewN _ _)⟩
              case measure => simp [intOf]; omega
            · have hbe : (ky == key) = false := by simpa using hek
              have HE : Hid (lastTo rs i (k + 1) = true) := Lib.hid (by rw [HNX.out]; simp [hek])
              clear hek
              go_wp2_with fail
              go_quiet (fail)
              go_wp2_with fail
              go_roundw
              case rel => exact ⟨k + 1, by omega, by omega, by rw [HE.out], by go_num, HBZ.out.trans (below_drewN _ _)⟩
              case measure => simp [intOf]; omega
        · obtain rfl : k = NN := by omega
          have HNO : Hid (¬ (k < ll ∧ (k : Int) < upto)) := Lib.hid fun h => Nat.lt_irrefl _ ((HN.out k).2 h)
          have HSEL : Hid (selB rs k i = (lt && !gone)) := Lib.hid (by unfold selB; rw [HLT.out, HX.out])
          have HCN : Hid (cntB rs k (i + 1) = cntB rs k i + if (lt && !gone) then 1 else 0) := Lib.hid (by rw [cntB_next, HSEL.out])
          have x0 : wr.cell? ⟨N5, 0, none⟩ = some (.int .i64 i) := (HK5.out.below HBZ.out).cell rfl
          have x1 : wr.cell? ⟨N5, 1, none⟩ = some (.string ⟨key.toArray⟩) := (HK5.out.below HBZ.out).cell rfl
          have x2 : wr.cell? ⟨N5, 2, none⟩ = some (.string ⟨val.toArray⟩) := (HK5.out.below HBZ.out).cell rfl
          have x3 : wr.cell? ⟨N5, 3, none⟩ = some (.bool gone) := (HK5.out.below HBZ.out).cell rfl
          have HBR := Lib.hid (HB5.out.trans (HBZ.out.mono HB5.out.size))
          cases lt with
          | false =>
            have HCN2 : Hid (cntB rs k (i + 1) = cntB rs k i) := Lib.hid (by rw [HCN.out]; simp)
            by_cases hc : k < ll
            · have hd3 : decide ((k : Int) < (ll : Int)) = true := by simp; omega
              have hd4 : decide ((k : Int) < upto) = false := by have := HNO.out; simp; omega
              go_wp2_with fail
              go_roundw
              case rel => exact ⟨i + 1, by omega, by rw [HCN2.out], by go_num, HBR.out⟩
              case measure => simp [intOf]; omega
            · have hd3 : decide ((k : Int) < (ll : Int)) = false := by simp; omega
              go_wp2_with fail
              go_roundw
              case rel => exact ⟨i + 1, by omega, by rw [HCN2.out], by go_num, HBR.out⟩
              case measure => simp [intOf]; omega
          | true =>
            cases gone with
            | true =>
              have HCN2 : Hid (cntB rs k (i + 1) = cntB rs k i) := Lib.hid (by rw [HCN.out]; simp)
              by_cases hc : k < ll
              · have hd3 : decide ((k : Int) < (ll : Int)) = true := by simp; omega
                have hd4 : decide ((k : Int) < upto) = false := by have := HNO.out; simp; omega
                go_wp2_with fail
                go_roundw
                case rel => exact ⟨i + 1, by omega, by rw [HCN2.out], by go_num, HBR.out⟩
                case measure => simp [intOf]; omega
              · have hd3 : decide ((k : Int) < (ll : Int)) = false := by simp; omega
                go_wp2_with fail
                go_roundw
                case rel => exact ⟨i + 1, by omega, by rw [HCN2.out], by go_num, HBR.out⟩
                case measure => simp [intOf]; omega
            | false =>
              have HCN2 : Hid (cntB rs k (i + 1) = cntB rs k i + 1) := Lib.hid (by rw [HCN.out]; simp)
              have hcl : cntB rs k i ≤ 64 := by
                have : cntB rs k i ≤ i := Nat.le_trans (List.length_filter_le _ _) (by rw [List.length_range]; exact Nat.le_refl _)
                omega
              have HIS : Hid (isB fd ⟨i, key, val, false⟩ fl = true) := Lib.hid (by
                refine isB_all (by rw [HFN.out]; exact Nat.le_refl _) ?_
                have h1 : xa rs i ∈ fd := HFP.out.mem_iff.2 (List.mem_map.2 ⟨i, List.mem_filter.2 ⟨List.mem_range.2 hlt, by rw [HSEL.out]; rfl⟩, rfl⟩)
                rw [HX.out] at h1
                have h2 : off = (i : Int) := by have := congrArg Pl.Rc.off HX.out; exact this.symm
                rw [← h2]
                exact h1)
              by_cases hc : k < ll
              · have hd3 : decide ((k : Int) < (ll : Int)) = true := by simp; omega
                have hd4 : decide ((k : Int) < upto) = false := by have := HNO.out; simp; omega
                go_wp2_with fail
                go_loopw [12, 13] (fun sv jv wz => ∃ j : Nat, j ≤ fl ∧ sv = .bool (isB fd ⟨i, key, val, false⟩ j) ∧ jv = .int .i64 j ∧ Below wr.heap.size wr wz) (fun _ jv _ => fl - (intOf jv).toNat)
                case atStart => exact ⟨0, Nat.zero_le _, rfl, rfl, Below.refl _ _⟩
                case round =>
                  obtain ⟨j, hj, rfl, rfl, hby⟩ := hrel
                  have HBY := Lib.hid hby
                  clear hby x0 x1 x2 x3
                  obtain ⟨ib, hib⟩ : ∃ q, isB fd ⟨i, key, val, false⟩ j = q := ⟨_, rfl⟩
                  have HIB := Lib.hid hib
                  rw [hib]
                  clear hib
                  by_cases hjf : j < fl
                  · have hd5 : decide ((j : Int) < (fl : Int)) = true := by simp; omega
                    obtain ⟨y, hy⟩ : ∃ y, fd[j]? = some y := ⟨_, List.getElem?_eq_getElem (by rw [HFN.out]; exact hjf)⟩
                    obtain ⟨a5, c5, e5, hrc5⟩ := RcIn.recs (HFD.out.below (HBR.out.trans (HBY.out.mono HBR.out.size)))
                    rw [HFN.out] at e5
                    have e6 : af = a5 := by injection e5
                    subst e6
                    obtain ⟨b5, o5, rfl, -, y0, y1, y2, y3⟩ := hrc5 j _ hy
                    have hk := HK5.out.below HBZ.out
                    have z0 : wr.cell? ⟨N5, 0, none⟩ = some (.int .i64 i) := (hk.below HBY.out).cell rfl
                    have z1 : wr.cell? ⟨N5, 1, none⟩ = some (.string ⟨key.toArray⟩) := (hk.below HBY.out).cell rfl
                    have z2 : wr.cell? ⟨N5, 2, none⟩ = some (.string ⟨val.toArray⟩) := (hk.below HBY.out).cell rfl
                    have z3 : wr.cell? ⟨N5, 3, none⟩ = some (.bool false) := (hk.below HBY.out).cell rfl
                    have jj0 : (0 : Int) ≤ (j : Int) := by omega
                    have jj1 : (j : Int) < (fl : Int) := by omega
                    obtain ⟨q, hq⟩ : ∃ q, decide (y = ⟨i, key, val, false⟩) = q := ⟨_, rfl⟩
                    have HNX : Hid (isB fd ⟨i, key, val, false⟩ (j + 1) = (ib || q)) := Lib.hid (by rw [isB_next hy, HIB.out, hq])
                    have hgu := rec_guard
                    have hne : ∀ wx, (binOp .eql 44 (.agg #[.int .i64 y.off, .string ⟨y.key.toArray⟩, .string ⟨y.val.toArray⟩, .bool y.gone]) (.agg #[.int .i64 i, .string ⟨key.toArray⟩, .string ⟨val.toArray⟩, .bool false])).run Try.prog wx = .ok (.bool q) wx := fun wx => by
                      have := rec_eql y.off i ⟨y.key.toArray⟩ ⟨key.toArray⟩ ⟨y.val.toArray⟩ ⟨val.toArray⟩ y.gone false wx
                      rw [rec_same y ⟨i, key, val, false⟩, hq] at this
                      exact this
                    clear e5 hrc5 hy hk hq
                    cases ib with
                    | true =>
                      go_wp2_with fail
                      go_quiet (fail)
                      go_wp2_with fail
                      go_roundw
                      case rel => exact ⟨j + 1, by omega, by rw [HNX.out]; rfl, by go_num, HBY.out.trans (below_drewN _ _)⟩
                      case measure => simp [intOf]; omega
                    | false =>
                      go_wp2_with fail
                      go_quiet (fail)
                      go_wp2_with fail
                      go_roundw
                      case rel => exact ⟨j + 1, by omega, by rw [HNX.out]; rfl, by go_num, HBY.out.trans (below_drewN _ _)⟩
                      case measure => simp [intOf]; omega
                  · obtain rfl : j = fl := by omega
                    have hd5 : decide ((j : Int) < (j : Int)) = false := by simp
                    have hit : ib = true := by rw [← HIB.out]; exact HIS.out
                    subst hit
                    have HBN := Lib.hid (HBR.out.trans (HBY.out.mono HBR.out.size))
                    go_wp2_with fail
                    go_roundw
                    case rel => exact ⟨i + 1, by omega, by rw [HCN2.out]; go_num, by go_num, HBN.out⟩
                    case measure => simp [intOf]; omega
              · have hd3 : decide ((k : Int) < (ll : Int)) = false := by simp; omega
                go_wp2_with fail
                go_loopw [12, 13] (fun sv jv wz => ∃ j : Nat, j ≤ fl ∧ sv = .bool (isB fd ⟨i, key, val, false⟩ j) ∧ jv = .int .i64 j ∧ Below wr.heap.size wr wz) (fun _ jv _ => fl - (intOf jv).toNat)
                case atStart => exact ⟨0, Nat.zero_le _, rfl, rfl, Below.refl _ _⟩
                case round =>
                  obtain ⟨j, hj, rfl, rfl, hby⟩ := hrel
                  have HBY := Lib.hid hby
                  clear hby x0 x1 x2 x3
                  obtain ⟨ib, hib⟩ : ∃ q, isB fd ⟨i, key, val, false⟩ j = q := ⟨_, rfl⟩
                  have HIB := Lib.hid hib
                  rw [hib]
                  clear hib
                  by_cases hjf : j < fl
                  · have hd5 : decide ((j : Int) < (fl : Int)) = true := by simp; omega
                    obtain ⟨y, hy⟩ : ∃ y, fd[j]? = some y := ⟨_, List.getElem?_eq_getElem (by rw [HFN.out]; exact hjf)⟩
                    obtain ⟨a5, c5, e5, hrc5⟩ := RcIn.recs (HFD.out.below (HBR.out.trans (HBY.out.mono HBR.out.size)))
                    rw [HFN.out] at e5
                    have e6 : af = a5 := by injection e5
                    subst e6
                    obtain ⟨b5, o5, rfl, -, y0, y1, y2, y3⟩ := hrc5 j _ hy
                    have hk := HK5.out.below HBZ.out
                    have z0 : wr.cell? ⟨N5, 0, none⟩ = some (.int .i64 i) := (hk.below HBY.out).cell rfl
                    have z1 : wr.cell? ⟨N5, 1, none⟩ = some (.string ⟨key.toArray⟩) := (hk.below HBY.out).cell rfl
                    have z2 : wr.cell? ⟨N5, 2, none⟩ = some (.string ⟨val.toArray⟩) := (hk.below HBY.out).cell rfl
                    have z3 : wr.cell? ⟨N5, 3, none⟩ = some (.bool false) := (hk.below HBY.out).cell rfl
                    have jj0 : (0 : Int) ≤ (j : Int) := by omega
                    have jj1 : (j : Int) < (fl : Int) := by omega
                    obtain ⟨q, hq⟩ : ∃ q, decide (y = ⟨i, key, val, false⟩) = q := ⟨_, rfl⟩
                    have HNX : Hid (isB fd ⟨i, key, val, false⟩ (j + 1) = (ib || q)) := Lib.hid (by rw [isB_next hy, HIB.out, hq])
                    have hgu := rec_guard
                    have hne : ∀ wx, (binOp .eql 44 (.agg #[.int .i64 y.off, .string ⟨y.key.toArray⟩, .string ⟨y.val.toArray⟩, .bool y.gone]) (.agg #[.int .i64 i, .string ⟨key.toArray⟩, .string ⟨val.toArray⟩, .bool false])).run Try.prog wx = .ok (.bool q) wx := fun wx => by
                      have := rec_eql y.off i ⟨y.key.toArray⟩ ⟨key.toArray⟩ ⟨y.val.toArray⟩ ⟨val.toArray⟩ y.gone false wx
                      rw [rec_same y ⟨i, key, val, false⟩, hq] at this
                      exact this
                    clear e5 hrc5 hy hk hq
                    cases ib with
                    | true =>
                      go_wp2_with fail
                      go_quiet (fail)
                      go_wp2_with fail
                      go_roundw
                      case rel => exact ⟨j + 1, by omega, by rw [HNX.out]; rfl, by go_num, HBY.out.trans (below_drewN _ _)⟩
                      case measure => simp [intOf]; omega
                    | false =>
                      go_wp2_with fail
                      go_quiet (fail)
                      go_wp2_with fail
                      go_roundw
                      case rel => exact ⟨j + 1, by omega, by rw [HNX.out]; rfl, by go_num, HBY.out.trans (below_drewN _ _)⟩
                      case measure => simp [intOf]; omega
                  · obtain rfl : j = fl := by omega
                    have hd5 : decide ((j : Int) < (j : Int)) = false := by simp
                    have hit : ib = true := by rw [← HIB.out]; exact HIS.out
                    subst hit
                    have HBN := Lib.hid (HBR.out.trans (HBY.out.mono HBR.out.size))
                    go_wp2_with fail
                    go_roundw
                    case rel => exact ⟨i + 1, by omega, by rw [HCN2.out]; go_num, by go_num, HBN.out⟩
                    case measure => simp [intOf]; omega
    · obtain rfl : i = NN := by omega
      have HNO : Hid (¬ (i < ll ∧ (i : Int) < upto)) := Lib.hid fun h => Nat.lt_irrefl _ ((HN.out i).2 h)
      have HCE : Hid (cntB rs i i = fl) := Lib.hid (by
        have := HFP.out.length_eq
        rw [List.length_map, HFN.out] at this
        exact this.symm)
      by_cases hc : i < ll
      · have hd3 : decide ((i : Int) < (ll : Int)) = true := by simp; omega
        have hd4 : decide ((i : Int) < upto) = false := by have := HNO.out; simp; omega
        go_wp2_with fail
        go_loopw [14] (fun jv wz => ∃ j : Nat, (j + 1 ≤ fl ∨ j = 0) ∧ jv = .int .i64 ((j : Int) + 1) ∧ Below wr.heap.size wr wz) (fun jv _ => fl - (intOf jv).toNat)
        case atStart => exact ⟨0, .inr rfl, rfl, Below.refl _ _⟩
        case round =>
          obtain ⟨j, hj, rfl, hby⟩ := hrel
          have HBY := Lib.hid hby
          clear hby
          by_cases hjf : j + 1 < fl
          · obtain ⟨y, hy⟩ : ∃ y, fd[j]? = some y := ⟨_, List.getElem?_eq_getElem (by rw [HFN.out]; omega)⟩
            obtain ⟨z, hz⟩ : ∃ y, fd[j + 1]? = some y := ⟨_, List.getElem?_eq_getElem (by rw [HFN.out]; exact hjf)⟩
            obtain ⟨a5, c5, e5, hrc5⟩ := RcIn.recs (HFD.out.below (HBW.out.trans (HBY.out.mono HBW.out.size)))
            rw [HFN.out] at e5
            have e6 : af = a5 := by injection e5
            subst e6
            obtain ⟨b5, o5, rfl, -, y0, y1, y2, y3⟩ := hrc5 j _ hy
            obtain ⟨b6, o6, e7, -, z0, z1, z2, z3⟩ := hrc5 (j + 1) _ hz
            have e8 : b5 = b6 ∧ o5 = o6 := by injection e7 with e7; injection e7 with e7 e9; exact ⟨e7, e9⟩
            obtain ⟨rfl, rfl⟩ := e8
            have hbl : Op.bytesLess y.key z.key = true := by
              rw [bytesLess_eq]
              have := List.pairwise_iff_getElem.1 HSR.out j (j + 1) (List.getElem?_eq_some_iff.1 hy).1 (List.getElem?_eq_some_iff.1 hz).1 (by omega)
              rw [(List.getElem?_eq_some_iff.1 hy).2, (List.getElem?_eq_some_iff.1 hz).2] at this
              exact decide_eq_true this
            have jj0 : (0 : Int) ≤ (j : Int) := by omega
            have jj1 : (j : Int) < (fl : Int) := by omega
            have jj2 : (j : Int) + 1 < (fl : Int) := by omega
            have jj3 : (0 : Int) ≤ (j : Int) + 1 := by omega
            have hd6 : decide ((j : Int) + 1 < (fl : Int)) = true := by simp; omega
            clear e5 hrc5 hy hz e7 y0 y2 y3 z0 z2 z3
            go_wp2_with fail
            go_quiet (fail)
            go_wp2_with fail
            go_roundw
            case rel => exact ⟨j + 1, .inl (by omega), by go_num, HBY.out.trans (below_drewN _ _)⟩
            case measure => simp [intOf]; omega
          · have hd6 : decide ((j : Int) + 1 < (fl : Int)) = false := by simp; omega
            have hce := HCE.out
            have HBN := Lib.hid (HB4.out.trans ((HBW.out.trans (HBY.out.mono HBW.out.size)).mono HB4.out.size))
            rw [hce]
            clear hce
            go_wp2_with fail
            go_ret
            exact ⟨rfl, HBN.out⟩
      · have hd3 : decide ((i : Int) < (ll : Int)) = false := by simp; omega
        go_wp2_with fail
        go_loopw [14] (fun jv wz => ∃ j : Nat, (j + 1 ≤ fl ∨ j = 0) ∧ jv = .int .i64 ((j : Int) + 1) ∧ Below wr.heap.size wr wz) (fun jv _ => fl - (intOf jv).toNat)
        case atStart => exact ⟨0, .inr rfl, rfl, Below.refl _ _⟩
        case round =>
          obtain ⟨j, hj, rfl, hby⟩ := hrel
          have HBY := Lib.hid hby
          clear hby
          by_cases hjf : j + 1 < fl
          · obtain ⟨y, hy⟩ : ∃ y, fd[j]? = some y := ⟨_, List.getElem?_eq_getElem (by rw [HFN.out]; omega)⟩
            obtain ⟨z, hz⟩ : ∃ y, fd[j + 1]? = some y := ⟨_, List.getElem?_eq_getElem (by rw [HFN.out]; exact hjf)⟩
            obtain ⟨a5, c5, e5, hrc5⟩ := RcIn.recs (HFD.out.below (HBW.out.trans (HBY.out.mono HBW.out.size)))
            rw [HFN.out] at e5
            have e6 : af = a5 := by injection e5
            subst e6
            obtain ⟨b5, o5, rfl, -, y0, y1, y2, y3⟩ := hrc5 j _ hy
            obtain ⟨b6, o6, e7, -, z0, z1, z2, z3⟩ := hrc5 (j + 1) _ hz
            have e8 : b5 = b6 ∧ o5 = o6 := by injection e7 with e7; injection e7 with e7 e9; exact ⟨e7, e9⟩
            obtain ⟨rfl, rfl⟩ := e8
            have hbl : Op.bytesLess y.key z.key = true := by
              rw [bytesLess_eq]
              have := List.pairwise_iff_getElem.1 HSR.out j (j + 1) (List.getElem?_eq_some_iff.1 hy).1 (List.getElem?_eq_some_iff.1 hz).1 (by omega)
              rw [(List.getElem?_eq_some_iff.1 hy).2, (List.getElem?_eq_some_iff.1 hz).2] at this
              exact decide_eq_true this
            have jj0 : (0 : Int) ≤ (j : Int) := by omega
            have jj1 : (j : Int) < (fl : Int) := by omega
            have jj2 : (j : Int) + 1 < (fl : Int) := by omega
            have jj3 : (0 : Int) ≤ (j : Int) + 1 := by omega
            have hd6 : decide ((j : Int) + 1 < (fl : Int)) = true := by simp; omega
            clear e5 hrc5 hy hz e7 y0 y2 y3 z0 z2 z3
            go_wp2_with fail
            go_quiet (fail)
            go_wp2_with fail
            go_roundw
            case rel => exact ⟨j + 1, .inl (by omega), by go_num, HBY.out.trans (below_drewN _ _)⟩
            case measure => simp [intOf]; omega
          · have hd6 : decide ((j : Int) + 1 < (fl : Int)) = false := by simp; omega
            have hce := HCE.out
            have HBN := Lib.hid (HB4.out.trans ((HBW.out.trans (HBY.out.mono HBW.out.size)).mono HB4.out.size))
            rw [hce]
            clear hce
            go_wp2_with fail
            go_ret
            exact ⟨rfl, HBN.out⟩
end Go.Proofs.Ytfapigccdbpepaa
