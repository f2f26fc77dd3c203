/- THE CONTRACT OF the document's useless. -/
import Derived.Test.YtfapigccdbpepaaWPlain
import Derived.Test.YtfapigccdbpepaaSRecs
namespace Go.Proofs.Ytfapigccdbpepaa
open Go.RowKit

/-- A later record of its key. -/
def Wd.laterB (x : Pl.Rc) (high : Int) (y : Pl.Rc) : Bool := decide (y.key = x.key) && decide (x.off < y.off) && decide (y.off < high)
theorem Wd.later_from {L : List Pl.Bt} {f : Pl.Rc → Bool} {i k : Nat} {b : Pl.Bt} {x : Pl.Rc} (_hi : L[i]? = some b) (hk : b.recs[k]? = some x) : ((b.recs.drop k).any f || (Wd.rcs (L.drop (i + 1))).any f) = (f x || ((b.recs.drop (k + 1)).any f || (Wd.rcs (L.drop (i + 1))).any f)) := by
  have hl := (List.getElem?_eq_some_iff.1 hk).1
  rw [List.drop_eq_getElem_cons hl, (List.getElem?_eq_some_iff.1 hk).2, List.any_cons, Bool.or_assoc]
theorem Wd.later_next {L : List Pl.Bt} {f : Pl.Rc → Bool} {i : Nat} {b : Pl.Bt} (hi : L[i]? = some b) : (Wd.rcs (L.drop i)).any f = (b.recs.any f || (Wd.rcs (L.drop (i + 1))).any f) := by
  have hl := (List.getElem?_eq_some_iff.1 hi).1
  rw [List.drop_eq_getElem_cons hl, (List.getElem?_eq_some_iff.1 hi).2, Wd.rcs, List.flatMap_cons, List.any_append]
  rfl

set_option maxHeartbeats 4000000 in
set_option maxRecDepth 100000 in
theorem ruse {A : Nat → Prop} (v : Value) (L : List (Pl.Bt × Value)) (p : Pl.Bt × Value) (x : Pl.Rc) (high now hor : Int) (w : World) (hv : BtIn A w v L) (hok : Wd.okB now hor = true) (hl : L.length ≤ 1099511627776) (hr : ∀ q ∈ L, q.1.recs.length ≤ 1099511627776) :
    Calls Try.prog 28 #[v, bv p, rv4 x, .int .i64 high, .int .i64 now, .int .i64 hor] w fun e w' => e = .returned (.bool (Wd.uselessB (L.map (·.1)) p.1 x high now hor)) ∧ Below w.heap.size w w' := by
  obtain ⟨⟨base, count, prod, seq, time, recs⟩, rv⟩ := p
  obtain ⟨off, key, val, gone⟩ := x
  obtain ⟨a1, cap1, rfl⟩ := hv.1.form
  obtain ⟨m, hm⟩ : ∃ m, L.length = m := ⟨_, rfl⟩
  rw [hm] at hl ⊢
  have HV := Lib.hid hv
  have HM := Lib.hid hm
  have HR := Lib.hid hr
  clear hv hm hr
  have hsub : wrap64 (now - hor) = now - hor := by
    simp only [Wd.okB, decide_eq_true_eq] at hok
    unfold wrap64
    omega
  have HS := Lib.hid hsub
  by_cases h1 : key = []
  · subst h1
    rw [show Wd.uselessB (L.map (·.1)) ⟨base, count, prod, seq, time, recs⟩ ⟨off, [], val, gone⟩ high now hor = false by simp [Wd.uselessB]]
    clear hok hl hsub HS
    go_enter Try.func28, Try.ntmps28
    go_wp2_with fail
    go_ret
    exact ⟨rfl, ((Below.refl _ _).alloc (Nat.le_refl _) _).alloc (by simp) _⟩
  have hne : key.isEmpty = false := by cases key with
    | nil => exact absurd rfl h1
    | cons => rfl
  by_cases h2 : ¬ off < high
  · rw [show Wd.uselessB (L.map (·.1)) ⟨base, count, prod, seq, time, recs⟩ ⟨off, key, val, gone⟩ high now hor = false by simp [Wd.uselessB, h2]]
    have hd : decide (high ≤ off) = true := by simp; omega
    clear hok hl hsub HS
    go_enter Try.func28, Try.ntmps28
    go_wp2_with fail
    go_ret
    exact ⟨rfl, ((Below.refl _ _).alloc (Nat.le_refl _) _).alloc (by simp) _⟩
  have h2 : off < high := Classical.not_not.1 h2
  have hd : decide (high ≤ off) = false := by simp; omega
  by_cases h3 : gone = true ∧ time ≤ now - hor
  · obtain ⟨rfl, h4⟩ := h3
    rw [show Wd.uselessB (L.map (·.1)) ⟨base, count, prod, seq, time, recs⟩ ⟨off, key, val, true⟩ high now hor = true by simp [Wd.uselessB, h1, h2, h4]]
    have hd2 : decide (time ≤ wrap64 (now - hor)) = true := by rw [hsub]; simp; omega
    clear hok hl hsub
    go_enter Try.func28, Try.ntmps28
    go_wp2_with fail
    go_ret
    exact ⟨rfl, ((Below.refl _ _).alloc (Nat.le_refl _) _).alloc (by simp) _⟩
  have hd2 : gone = true → decide (time ≤ wrap64 (now - hor)) = false := fun h => by rw [hsub, decide_eq_false_iff_not]; exact fun h5 => h3 ⟨h, h5⟩
  obtain ⟨f, hf⟩ : ∃ f, Wd.laterB ⟨off, key, val, gone⟩ high = f := ⟨_, rfl⟩
  have hfy : ∀ y : Pl.Rc, f y = (decide (y.key = key) && decide (off < y.off) && decide (y.off < high)) := fun y => by rw [← hf]; rfl
  obtain ⟨r, hr⟩ : ∃ r, (Wd.rcs (L.map (·.1))).any f = r := ⟨_, rfl⟩
  have hus : Wd.uselessB (L.map (·.1)) ⟨base, count, prod, seq, time, recs⟩ ⟨off, key, val, gone⟩ high now hor = r := by
    rw [← hr, ← hf]
    unfold Wd.uselessB
    rw [show (gone && decide (time ≤ now - hor)) = false by rw [← Bool.not_eq_true, Bool.and_eq_true, decide_eq_true_eq]; exact h3]
    simp only [decide_eq_true h1, decide_eq_true h2, Bool.true_and, Bool.false_or]
    rfl
  rw [show Wd.uselessB (L.map (·.1)) ((⟨base, count, prod, seq, time, recs⟩, rv) : Pl.Bt × Value).1 ⟨off, key, val, gone⟩ high now hor = r from hus]
  have HRR := Lib.hid hr
  have HF := Lib.hid hfy
  clear hr hus h3 hsub hok hf hfy
  go_enter Try.func28, Try.ntmps28
  cases gone
  case' true => have hd3 := hd2 rfl; obtain ⟨g0, HG0⟩ : ∃ g0, Hid (true = g0) := ⟨_, Lib.hid rfl⟩
  case' false => obtain ⟨g0, HG0⟩ : ∃ g0, Hid (false = g0) := ⟨_, Lib.hid rfl⟩
  all_goals
    clear hd2
    go_wp2_with fail
    obtain ⟨W1, hW1⟩ : ∃ W1, w.alloc (.cells #[.int .i64 base, .int .i64 count, .int .i64 prod, .int .i64 seq, .int .i64 time, rv] 42) = W1 := ⟨_, rfl⟩
    have b1 : Below w.heap.size w W1 := by rw [← hW1]; exact (Below.refl _ _).alloc (Nat.le_refl _) _
    have s1 : W1.heap.size = w.heap.size + 1 := by rw [← hW1]; simp
    rw [hW1, ← s1]
    obtain ⟨W2, hW2⟩ : ∃ W2, W1.alloc (.cells #[.int .i64 off, .string ⟨key.toArray⟩, .string ⟨val.toArray⟩, .bool g0] 44) = W2 := ⟨_, rfl⟩
    obtain ⟨y0, y1, -, -⟩ := cells_four W1 (.int .i64 off) (.string ⟨key.toArray⟩) (.string ⟨val.toArray⟩) (.bool g0) 44
    have b2 : Below W1.heap.size W1 W2 := by rw [← hW2]; exact (Below.refl _ _).alloc (Nat.le_refl _) _
    have s2 : W2.heap.size = W1.heap.size + 1 := by rw [← hW2]; simp
    rw [hW2] at y0 y1
    rw [← HG0.out] at hW2
    rw [hW2]
    obtain ⟨N, hN⟩ : ∃ N, W1.heap.size = N := ⟨_, rfl⟩
    have hNlt : N < W2.heap.size := by omega
    rw [hN] at y0 y1 ⊢
    have hB : Below w.heap.size w W2 := b1.trans (b2.mono (by omega))
    have HB := Lib.hid hB
    have HV2 := Lib.hid (HV.out.below hB)
    have Y0 := fun (wx : World) (hx : Below W2.heap.size W2 wx) => (hx.cell (p := ⟨N, 0, none⟩) hNlt).trans y0
    have Y1 := fun (wx : World) (hx : Below W2.heap.size W2 wx) => (hx.cell (p := ⟨N, 1, none⟩) hNlt).trans y1
    have HY0 := Lib.hid Y0
    have HY1 := Lib.hid Y1
    have HH2 := Lib.hid h2
    clear b1 b2 s1 s2 y0 y1 HG0 hW1 hW2 hB Y0 Y1 HV hN hNlt hne hd h2 h1
    go_loopw [13] (fun iv wr => ∃ i : Nat, i ≤ m ∧ iv = .int .i64 i ∧ Below W2.heap.size W2 wr ∧ (Wd.rcs ((L.map (·.1)).drop i)).any f = r) (fun iv _ => m - (intOf iv).toNat)
    case atStart => exact ⟨0, Nat.zero_le _, rfl, Below.refl _ _, HRR.out⟩
    case round =>
      obtain ⟨i, hi, rfl, hbw, hany⟩ := hrel
      have HBW := Lib.hid hbw
      have HA := Lib.hid hany
      by_cases hlt : i < m
      · obtain ⟨⟨⟨tb, tc, tp, ts, tt, ls⟩, sv⟩, hg⟩ : ∃ q, L[i]? = some q := ⟨_, List.getElem?_eq_getElem (by rw [HM.out]; exact hlt)⟩
        have hgm : (L.map (·.1))[i]? = some ⟨tb, tc, tp, ts, tt, ls⟩ := by rw [List.getElem?_map, hg]; rfl
        have HN := Lib.hid ((Wd.later_next (f := f) hgm).symm.trans hany)
        have HGM := Lib.hid hgm
        have hls := HR.out _ (List.mem_of_getElem? hg)
        obtain ⟨a2, cap2, rfl⟩ : ∃ a c, sv = .slice a ls.length c := (HV2.out.2 _ (List.mem_of_getElem? hg)).slice
        obtain ⟨n, hn⟩ : ∃ n, ls.length = n := ⟨_, rfl⟩
        have hln : n ≤ 1099511627776 := by rw [← hn]; exact hls
        have HNN := Lib.hid hn
        have HG := Lib.hid hg
        clear hls hn hany hgm hg
        go_wp2_with fail
        go_loopw [14] (fun kv wz => ∃ k : Nat, k ≤ n ∧ kv = .int .i64 k ∧ Below W2.heap.size W2 wz ∧ ((ls.drop k).any f || (Wd.rcs ((L.map (·.1)).drop (i + 1))).any f) = r) (fun kv _ => n - (intOf kv).toNat)
        case atStart => exact ⟨0, Nat.zero_le _, rfl, hbw, HN.out⟩
        case round =>
          obtain ⟨k, hk, rfl, hbz, hank⟩ := hrel
          have HBZ := Lib.hid hbz
          have HK := Lib.hid hank
          obtain ⟨b1, o1, cp1, e1, -, -, -, -, -, -, -, c5, hr1⟩ := (HV2.out.below hbz).get HG.out
          obtain rfl : a1 = some ⟨b1, o1, none⟩ := by injection e1
          obtain ⟨a3, cap3, e3, hrc⟩ := hr1.recs
          obtain rfl : a2 = a3 := by injection e3
          rw [HNN.out] at c5
          clear hr1 e1 e3 hbw hbz hank
          by_cases hkn : k < n
          · obtain ⟨⟨yo, yk, yv, yg⟩, hy⟩ : ∃ y, ls[k]? = some y := ⟨_, List.getElem?_eq_getElem (by rw [HNN.out]; exact hkn)⟩
            obtain ⟨b3, o3, rfl, hbl3, d0, d1, d2, d3⟩ := hrc k _ hy
            have z0 : ∀ o, (wr.alloc o).cell? ⟨N, 0, none⟩ = some (.int .i64 off) := fun o => HY0.out _ (HBZ.out.alloc HBZ.out.size o)
            have z1 : ∀ o, (wr.alloc o).cell? ⟨N, 1, none⟩ = some (.string ⟨key.toArray⟩) := fun o => HY1.out _ (HBZ.out.alloc HBZ.out.size o)
            have HST := Lib.hid ((Wd.later_from (f := f) HGM.out hy).symm.trans HK.out)
            have HFY := Lib.hid (HF.out ⟨yo, yk, yv, yg⟩)
            clear hrc hy
            go_wp2_with fail
            · have hf1 : f ⟨yo, yk, yv, yg⟩ = true := by rw [HFY.out]; simp [*]
              have h := HST.out
              rw [hf1, Bool.true_or] at h
              subst h
              go_ret
              exact ⟨rfl, HB.out.trans ((HBZ.out.alloc HBZ.out.size _).mono HB.out.size)⟩
            all_goals
              have hf1 : f ⟨yo, yk, yv, yg⟩ = false := by rw [HFY.out]; simp [*]
              have h := HST.out
              rw [hf1, Bool.false_or] at h
              have HST2 := Lib.hid h
              clear h hf1
              go_roundw
              case rel => exact ⟨k + 1, by omega, by go_num, HBZ.out.alloc HBZ.out.size _, HST2.out⟩
              case measure => simp [intOf]; omega
          · have h := HK.out
            rw [List.drop_of_length_le (by rw [HNN.out]; omega), List.any_nil, Bool.false_or] at h
            have HST2 := Lib.hid h
            clear h hrc
            go_wp2_with fail
            go_roundw
            case rel => exact ⟨i + 1, by omega, by go_num, HBZ.out, HST2.out⟩
            case measure => simp [intOf]; omega
      · have h := HA.out
        rw [List.drop_of_length_le (by rw [List.length_map, HM.out]; omega), Wd.rcs, List.flatMap_nil, List.any_nil] at h
        subst h
        clear hany
        go_wp2_with fail
        go_ret
        exact ⟨rfl, HB.out.trans (HBW.out.mono HB.out.size)⟩
end Go.Proofs.Ytfapigccdbpepaa
