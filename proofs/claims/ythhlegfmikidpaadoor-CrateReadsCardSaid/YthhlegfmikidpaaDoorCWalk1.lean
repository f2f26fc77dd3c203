/- THE CONTRACTS OF the document's num, rec, Fits. -/
import Derived.Test.YthhlegfmikidpaaDoorCDec
import Derived.Test.YthhlegfmikidpaaDoorCRecs
import Derived.Deep.RegionHeld3
namespace Go.Proofs.YthhlegfmikidpaaDoor
open Go.RowKit

set_option maxHeartbeats 400000 in
theorem rnum (n : Int) (w : World) :
    Calls Tryd.prog 34 #[.int .i64 n] w fun e w' => e = .returned (.bool (Pl.numB n)) ∧ w = w' := by
  by_cases h0 : 0 ≤ n
  · by_cases h1 : n ≤ 1099511627776
    · rw [show Pl.numB n = true from Pl.numB_iff.2 ⟨h0, h1⟩]
      go_enter Tryd.func34, Tryd.ntmps34
      go_wp2
      go_ret
      exact ⟨rfl, rfl⟩
    · rw [show Pl.numB n = false from Bool.eq_false_iff.2 fun h => h1 (Pl.numB_iff.1 h).2]
      have h2 : decide (n ≤ 1099511627776) = false := decide_eq_false h1
      go_enter Tryd.func34, Tryd.ntmps34
      go_wp2
      go_ret
      exact ⟨rfl, rfl⟩
  · rw [show Pl.numB n = false from Bool.eq_false_iff.2 fun h => h0 (Pl.numB_iff.1 h).1]
    have h2 : decide (0 ≤ n) = false := decide_eq_false h0
    go_enter Tryd.func34, Tryd.ntmps34
    go_wp2
    go_ret
    exact ⟨rfl, rfl⟩

set_option maxHeartbeats 400000 in
theorem rrec (x : Pl.Rc) (w : World) :
    Calls Tryd.prog 35 #[.agg #[.int .i64 x.off, .string ⟨x.key.toArray⟩, .string ⟨x.val.toArray⟩, .bool x.gone]] w fun e w' => e = .returned (.bool (Pl.recB x)) ∧ Below w.heap.size w w' := by
  obtain ⟨o, k, v, g⟩ := x
  obtain ⟨K, hK⟩ : ∃ K : ByteArray, (⟨k.toArray⟩ : ByteArray) = K := ⟨_, rfl⟩
  obtain ⟨V, hV⟩ : ∃ V : ByteArray, (⟨v.toArray⟩ : ByteArray) = V := ⟨_, rfl⟩
  show Calls _ _ #[.agg #[.int .i64 o, .string ⟨k.toArray⟩, .string ⟨v.toArray⟩, .bool g]] w _
  rw [hK, hV]
  have hks : k.length = K.size := by rw [← hK]; show _ = k.toArray.size; simp
  have hvs : v.length = V.size := by rw [← hV]; show _ = v.toArray.size; simp
  have hve : v.isEmpty = V.toList.isEmpty := by rw [ByteArray.toList_eq, ← hV]
  obtain ⟨r, hr⟩ : ∃ r, Pl.recB ⟨o, k, v, g⟩ = r := ⟨_, rfl⟩
  rw [hr]
  have hr2 : r = (decide (K.size ≤ 16 ∧ V.size ≤ 64) && (!g || V.toList.isEmpty)) := by rw [← hr, ← hks, ← hvs, ← hve]; rfl
  rw [hr2]
  clear hr hr2 hks hvs hve hK hV
  by_cases h1 : K.size ≤ 16
  · by_cases h2 : V.size ≤ 64
    · cases g with
      | false =>
        go_enter Tryd.func35, Tryd.ntmps35
        go_wp2
        go_ret
        exact ⟨congrArg (fun b => Ending.returned (.bool b)) (by simp [h1, h2]), (Below.refl _ _).alloc (Nat.le_refl _) _⟩
      | true =>
        go_enter Tryd.func35, Tryd.ntmps35
        go_wp2
        go_ret
        exact ⟨congrArg (fun b => Ending.returned (.bool b)) (by simp [h1, h2]), (Below.refl _ _).alloc (Nat.le_refl _) _⟩
    · have h3 : decide (V.size ≤ 64) = false := decide_eq_false h2
      go_enter Tryd.func35, Tryd.ntmps35
      go_wp2
      go_ret
      exact ⟨congrArg (fun b => Ending.returned (.bool b)) (by simp), (Below.refl _ _).alloc (Nat.le_refl _) _⟩
  · have h3 : decide (K.size ≤ 16) = false := decide_eq_false h1
    go_enter Tryd.func35, Tryd.ntmps35
    go_wp2
    go_ret
    exact ⟨congrArg (fun b => Ending.returned (.bool b)) (by simp), (Below.refl _ _).alloc (Nat.le_refl _) _⟩

set_option maxHeartbeats 400000 in
theorem rfits (v : Value) (ls : List Pl.Rc) (w : World) (h : Recs v ls w) (hl : ls.length ≤ 1099511627776) :
    Calls Tryd.prog 18 #[v] w fun e w' => e = .returned (.bool (Pl.fitsB ls)) ∧ Below w.heap.size w w' := by
  obtain ⟨a, cap, rfl, hc⟩ := h
  obtain ⟨m, hm⟩ : ∃ m, ls.length = m := ⟨_, rfl⟩
  obtain ⟨r, hr⟩ : ∃ r, Pl.fitsB ls = r := ⟨_, rfl⟩
  have HR : Hid ((decide (1 ≤ m ∧ m ≤ 8) && ls.all Pl.recB) = r) := by rw [← hr, ← hm]; rfl
  rw [hm] at hl ⊢
  rw [hr]
  have HM := Lib.hid hm
  have HC := Lib.hid hc
  clear hm hr hc
  by_cases h1 : m < 1
  · go_enter Tryd.func18, Tryd.ntmps18
    go_wp2_with fail
    go_ret
    exact ⟨congrArg (fun b => Ending.returned (.bool b)) (by rw [← HR.out, decide_eq_false (by omega)]; rfl), Below.refl _ _⟩
  · by_cases h2 : 8 < m
    · go_enter Tryd.func18, Tryd.ntmps18
      go_wp2_with fail
      go_ret
      exact ⟨congrArg (fun b => Ending.returned (.bool b)) (by rw [← HR.out, decide_eq_false (by omega)]; rfl), Below.refl _ _⟩
    · go_enter Tryd.func18, Tryd.ntmps18
      go_wp2_with fail
      go_loopw [3] (fun iv wr => ∃ k : Nat, k ≤ m ∧ iv = .int .i64 k ∧ (∀ x ∈ ls.take k, Pl.recB x = true) ∧ Below w.heap.size w wr) (fun iv _ => m - (intOf iv).toNat)
      case atStart => exact ⟨0, Nat.zero_le _, rfl, by simp, Below.refl _ _⟩
      case round =>
        obtain ⟨k, hk, rfl, hall, hb⟩ := hrel
        have HA := Lib.hid hall
        have HB := Lib.hid hb
        clear hall hb
        by_cases hlt : k < m
        · obtain ⟨x, hg⟩ : ∃ x, ls[k]? = some x := ⟨_, List.getElem?_eq_getElem (by rw [HM.out]; exact hlt)⟩
          obtain ⟨b, off, rfl, hbl, c0, c1, c2, c3⟩ := HC.out k x hg
          have e : ∀ o, wr.cell? ⟨b, o, none⟩ = w.cell? ⟨b, o, none⟩ := fun o => HB.out.cell (p := ⟨b, o, none⟩) hbl
          rw [← e] at c0 c1 c2 c3
          have HG := Lib.hid hg
          have HRR := Lib.hid (rrec x wr)
          clear e hg hbl
          have hbw := HB.out.size
          cases hx : Pl.recB x with
          | true =>
            rw [hx] at HRR
            have HX := Lib.hid hx
            clear hx
            go_wp2_with fail
            refine HRR.out.mono ?_
            rintro e w1 ⟨rfl, b1⟩
            have HB1 := Lib.hid (HB.out.trans (b1.mono hbw))
            clear b1
            go_wp2_with fail
            go_roundw
            case rel => exact ⟨k + 1, by omega, by go_num, by
              intro y hy
              rw [List.take_add_one, HG.out] at hy
              rcases List.mem_append.1 hy with hy | hy
              · exact HA.out y hy
              · obtain rfl := List.mem_singleton.1 hy
                exact HX.out, HB1.out⟩
            case measure => simp [intOf]; omega
          | false =>
            rw [hx] at HRR
            have HX := Lib.hid hx
            clear hx
            go_wp2_with fail
            refine HRR.out.mono ?_
            rintro e w1 ⟨rfl, b1⟩
            have HB1 := Lib.hid (HB.out.trans (b1.mono hbw))
            clear b1
            go_wp2_with fail
            go_ret
            refine ⟨congrArg (fun b => Ending.returned (.bool b)) (Eq.symm ?_), HB1.out⟩
            rw [← HR.out, Bool.and_eq_false_iff]
            right
            rw [List.all_eq_false]
            exact ⟨x, List.mem_of_getElem? HG.out, by rw [HX.out]; decide⟩
        · go_wp2_with fail
          go_ret
          exact ⟨congrArg (fun b => Ending.returned (.bool b)) (by rw [← HR.out, decide_eq_true (by omega), Bool.true_and]; exact (List.all_eq_true.2 (by have h := HA.out; rw [List.take_of_length_le (by rw [HM.out]; omega)] at h; exact h)).symm), HB.out⟩
end Go.Proofs.YthhlegfmikidpaaDoor
