/- THE CONTRACTS OF tape's cut and kept. -/
import Derived.Test.YtnenpcbofbcllaaWalk3
import Derived.BigQuiet
namespace Go.Proofs.Ytnenpcbofbcllaa
open Go.RowKit Go.Maps

set_option maxHeartbeats 1000000 in
theorem cut_any (w : World) (j g cap safe n : Nat) (L : List UInt8) (hb : Blk w j #[.slice (some ⟨g, 0, none⟩) L.length cap, .int .i64 safe] 55) (hrow : w.ownsRow 0 5 1 (.slice (some ⟨g, 0, none⟩) L.length cap) L.length (bcells L))
    (hn : n ≤ L.length) (hL : L.length ≤ 4194304) (hs : safe ≤ n) :
    Calls Try.prog 26 #[.pointer (some ⟨j, 0, none⟩), .int .i64 n] w fun e w' => (∃ v, e = .returned v) ∧
      ∃ v, Blk w' j #[v, .int .i64 safe] 55 ∧ w'.ownsRow 0 5 1 v n (bcells (L.take n)) ∧ (∀ k, v.ownBlock = some k → w.heap.size ≤ k) ∧ Moved (fun b => b = j) (fun b => b = j) w w' := by
  have d0 : w.cell? ⟨j, 0, none⟩ = some (.slice (some ⟨g, 0, none⟩) L.length cap) := hb.cell rfl
  have hcap : L.length ≤ cap ∧ cap ≤ 9223372036854775807 := by
    rcases hrow.2 with ⟨h, _⟩ | ⟨g', cap', cur, h, _, _, h1, h2, _⟩
    · cases h
    · injection h with _ _ h3
      subst h3
      unfold maxLen at h2
      omega
  have hlt := (hrow.lt g rfl).2
  have hcl := clone_any w g n cap (L.take n) (by rw [List.length_take]; omega) (fun j u hj => by
    have hj2 : (bcells L)[j]? = some u := by
      have : bcells (L.take n) = (bcells L).take n := by unfold bcells; rw [List.map_take]
      rw [this, List.getElem?_take] at hj
      split at hj
      · exact hj
      · cases hj
    exact hrow.cells (g := g) rfl j u hj2) (fun k hk => hk ▸ hlt) (by omega)
  have hmin : min (safe : Int) n = safe := by omega
  have HC := Lib.hid hcl
  have HB := Lib.hid hb
  obtain ⟨N, hN⟩ : ∃ N, L.length = N := ⟨_, rfl⟩
  rw [hN] at d0 HB hcap hn
  clear hcl hb hrow hlt hN
  go_enter Try.func26, Try.ntmps26
  go_wp2_with fail
  refine HC.out.mono ?_
  rintro e w1 ⟨v, rfl, hown, hbl⟩
  obtain ⟨ao, cap', n2, rfl⟩ : ∃ ao cap n, v = .slice ao n cap := let ⟨a, b, h⟩ := ownsRow_make hown; ⟨a, b, _, h⟩
  have hb1 := HB.out.below hbl
  have d0' : w1.cell? ⟨j, 0, none⟩ = some (.slice (some ⟨g, 0, none⟩) N cap) := hb1.cell rfl
  have g0 := hb1.free (i := 0)
  have b2 := hb1.set (i := 0) (.slice ao n2 cap')
  have d1 : (w1.setCell ⟨j, 0, none⟩ (.slice ao n2 cap')).cell? ⟨j, 1, none⟩ = some (.int .i64 safe) := b2.cell rfl
  have g1 := b2.free (i := 1)
  have HO := Lib.hid hown
  have HBL := Lib.hid hbl
  have HB1 := Lib.hid hb1
  have HB2 := Lib.hid b2
  clear hown hbl hb1 b2
  go_wp2_with fail
  all_goals go_end0
  · have hfr : ∀ k, Value.ownBlock (.slice ao n2 cap') = some k → w.heap.size ≤ k := fun k hk => (HO.out.lt k hk).1
    have hj := HB.out.lt
    have hm : Kt j w ((w1.setCell ⟨j, 0, none⟩ (.slice ao n2 cap')).setCell ⟨j, 1, none⟩ (.int .i64 safe)) := (Moved.trans (Moved.of_below HBL.out) (Kt.set j 0 _ _)).trans (Kt.set j 1 _ _)
    refine ⟨⟨_, rfl⟩, _, ?_, ?_, hfr, hm⟩
    · have := HB2.out.set (i := 1) (.int .i64 safe)
      simpa using this
    · have h1 : w1.ownsRow 0 5 1 (.slice ao n2 cap') n (bcells (L.take n)) := by
        refine ⟨HO.out.1, ?_⟩
        rcases HO.out.2 with h | ⟨g, c, cur, h, _, rest⟩
        · exact .inl h
        · exact .inr ⟨g, c, cur, h, Nat.zero_le _, rest⟩
      refine ownsRow_same (w := w1.setCell ⟨j, 0, none⟩ (.slice ao n2 cap')) (ownsRow_same h1 fun k hk => ?_) fun k hk => ?_
      · exact Below.heap_setCell _ _ _ _ (by rintro rfl; have := hfr _ hk; omega)
      · exact Below.heap_setCell _ _ _ _ (by rintro rfl; have := hfr _ hk; omega)

/-- Whole numbers that lie in a slice. -/
def Nums (w : World) (v : Value) (zs : List Int) : Prop :=
  ∃ a cap, v = .slice a zs.length cap ∧ ∀ j z, zs[j]? = some z → ∃ b off, a = some ⟨b, off, none⟩ ∧ w.cell? ⟨b, off + j, none⟩ = some (.int .i64 z)
theorem Nums.keep {w w' : World} {v : Value} {zs : List Int} (h : Nums w v zs) (hs : 0 < zs.length → ∀ k x, w.cell? k = some x → (∃ a c d, v = .slice (some ⟨k.block, a, none⟩) c d) → w'.cell? k = some x) : Nums w' v zs := by
  obtain ⟨a, cap, rfl, hc⟩ := h
  refine ⟨a, cap, rfl, fun j z hj => ?_⟩
  obtain ⟨b, off, rfl, h1⟩ := hc j z hj
  exact ⟨b, off, rfl, hs (Nat.lt_of_le_of_lt (Nat.zero_le _) (List.getElem?_eq_some_iff.1 hj).1) _ _ h1 ⟨off, _, _, rfl⟩⟩
/-- How much a fate leaves of so many others. -/
def KeptOk (zs : List Int) (others r : Nat) : Prop := r ≤ others ∧ (zs = [1] → 1 ≤ others → r = 1)
theorem rem_small (z : Int) (q : Nat) (hq : q ≤ 4194304) : -(q : Int) ≤ z.tmod ((q : Int) + 1) ∧ z.tmod ((q : Int) + 1) ≤ q := by
  have h1 := Int.tmod_lt_of_pos z (b := (q : Int) + 1) (by omega)
  have h2 := Int.lt_tmod_of_pos z (b := (q : Int) + 1) (by omega)
  omega
def keptV (zs : List Int) (at_ q : Nat) : Nat := if zs.length = 0 then 0 else
  let r := (zs.getD (at_ % zs.length) 0).tmod ((q : Int) + 1)
  (if r < 0 then r + ((q : Int) + 1) else r).toNat
theorem keptV_ok (zs : List Int) (at_ q : Nat) (hq : q ≤ 4194304) : KeptOk zs q (keptV zs at_ q) := by
  unfold keptV
  split
  · rename_i h
    exact ⟨Nat.zero_le _, fun h1 => by rw [h1] at h; cases h⟩
  · rename_i h
    have hb := rem_small (zs.getD (at_ % zs.length) 0) q hq
    refine ⟨?_, fun h1 h2 => ?_⟩
    · dsimp only
      split <;> omega
    · subst h1
      have e : at_ % [(1 : Int)].length = 0 := Nat.mod_one _
      rw [e]
      have e2 : ([(1 : Int)].getD 0 0) = 1 := rfl
      rw [e2, Int.tmod_eq_of_lt (by omega) (by omega)]
      rfl
set_option maxHeartbeats 1000000 in
theorem kept_any (w : World) (v : Value) (zs : List Int) (at_ q : Nat) (h : Nums w v zs) (ha : at_ ≤ 4194304) (hq : q ≤ 4194304) :
    Calls Try.prog 27 #[v, .int .i64 at_, .int .i64 q] w fun e w' => e = .returned (.int .i64 (keptV zs at_ q)) ∧ RowKit.Below w.heap.size w w' := by
  obtain ⟨a, cap, rfl, hc⟩ := h
  rcases Nat.eq_zero_or_pos zs.length with h0 | hpos
  · have hv : keptV zs at_ q = 0 := by unfold keptV; rw [if_pos h0]
    rw [h0, hv]
    clear hc h0 hv
    go_enter Try.func27, Try.ntmps27
    go_wp2_with fail
    go_ret
    exact ⟨rfl, Below.refl _ _⟩
  · obtain ⟨z, hzz⟩ : ∃ z, zs[at_ % zs.length]? = some z := ⟨_, List.getElem?_eq_getElem (Nat.mod_lt _ hpos)⟩
    obtain ⟨b, off, rfl, hcell⟩ := hc _ z hzz
    obtain ⟨h1, h2⟩ := rem_small z q hq
    have hv : keptV zs at_ q = (if z.tmod ((q : Int) + 1) < 0 then z.tmod ((q : Int) + 1) + ((q : Int) + 1) else z.tmod ((q : Int) + 1)).toNat := by
      unfold keptV
      rw [if_neg (by omega), List.getD_eq_getElem?_getD, hzz]
      rfl
    obtain ⟨N, hN⟩ : ∃ N, zs.length = N := ⟨_, rfl⟩
    rw [hN] at hpos hzz hcell ⊢
    have hidx : (at_ : Int).tmod N = ((at_ % N : Nat) : Int) := by
      rw [Int.tmod_eq_emod_of_nonneg (by omega)]
      rfl
    obtain ⟨i, hi⟩ : ∃ i, at_ % N = i := ⟨_, rfl⟩
    have hil : i < N := by rw [← hi]; exact Nat.mod_lt _ hpos
    rw [hi] at hidx hcell
    obtain ⟨r0, hr0⟩ : ∃ r0, z.tmod ((q : Int) + 1) = r0 := ⟨_, rfl⟩
    rw [hr0] at h1 h2 hv
    have hne : ((N : Int) == 0) = false := by simp; omega
    have hne2 : (((q : Int) + 1) == 0) = false := by simp; omega
    have HV := Lib.hid hv
    rw [hv]
    clear hc hzz hN hi hv
    by_cases hneg : r0 < 0
    · rw [if_pos hneg]
      go_enter Try.func27, Try.ntmps27
      go_wp2_with fail
      go_ret
      exact ⟨by go_num, Below.refl _ _⟩
    · rw [if_neg hneg]
      go_enter Try.func27, Try.ntmps27
      go_wp2_with fail
      go_ret
      exact ⟨by go_num, Below.refl _ _⟩
end Go.Proofs.Ytnenpcbofbcllaa
