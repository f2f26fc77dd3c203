/- 'filled' makes a row of the pairs that it is given, 60 at most. -/
import Derived.Test.YtdkngocinimjdaaAwake
import Derived.Deep.RegionWith
import Derived.BigQuiet
import Derived.Deep.QuietTactic
namespace Go.Proofs.Ytdkngocinimjdaa
open Go.RowKit
attribute [local go_sem] run_store_complex

/-- A slice of pairs, as it lies below block B. -/
structure Pairs (w : World) (B : Nat) (v : Value) (zs : List P2) : Prop where
  lies : ∃ a cap, v = .slice a zs.length cap ∧ ∀ (i : Nat) (p : P2), zs[i]? = some p → ∃ b off, a = some ⟨b, off, none⟩ ∧ b < B ∧ w.cell? ⟨b, off + i * 2, none⟩ = some (.int .i64 p.1) ∧ w.cell? ⟨b, off + i * 2 + 1, none⟩ = some (.int .i64 p.2)
theorem Pairs.below {w w' : World} {B : Nat} {v : Value} {zs : List P2} (h : Pairs w B v zs) (hb : Below B w w') : Pairs w' B v zs := by
  obtain ⟨a, cap, hv, hc⟩ := h.lies
  refine ⟨a, cap, hv, fun i p hp => ?_⟩
  obtain ⟨b, off, ha, hlt, h1, h2⟩ := hc i p hp
  exact ⟨b, off, ha, hlt, (hb.cell (p := ⟨b, _, none⟩) hlt).trans h1, (hb.cell (p := ⟨b, _, none⟩) hlt).trans h2⟩

def szOf (z : P2) : P2 := (z.1 % 1048576, z.2 % 1048576)
def rowOf (zs : List P2) : List P2 := (zs.take 60).map szOf

theorem u_mod (z : Int) : (IntKind.u64.wrap z).tmod 1048576 = z % 1048576 := by
  rw [IntKind.wrap_u64, Int.tmod_eq_emod_of_nonneg (by omega), Int.emod_emod_of_dvd z (by decide)]
theorem u_word (z : Int) : Fl.part (floatOfInt .f64 ((IntKind.u64.wrap z).tmod 1048576)) = some (z % 1048576).toNat := by
  rw [u_mod]
  exact Fl.is_part (Fl.ofInt_is (by omega)) (by omega) (by omega)
theorem rowOf_succ {zs : List P2} {k : Nat} {z : P2} (h : zs[k]? = some z) : (zs.take k).map szOf ++ [(((z.1 % 1048576).toNat : Int), ((z.2 % 1048576).toNat : Int))] = (zs.take (k + 1)).map szOf := by
  rw [List.take_add_one, h, List.map_append]
  congr 1
  simp only [Option.toList_some, List.map_cons, List.map_nil, szOf]
  rw [Int.toNat_of_nonneg (by omega), Int.toNat_of_nonneg (by omega)]

set_option maxHeartbeats 2000000 in
theorem filled_any (v : Value) (zs : List P2) (w : World) (h : Pairs w w.heap.size v zs) :
    Calls Try.prog 26 #[v] w fun e w' => ∃ g gb, e = .returned (.pointer (some ⟨g, 0, none⟩)) ∧ Mine w.heap.size w w' g gb (rowOf zs) := by
  obtain ⟨a, cap, rfl, hc⟩ := h.lies
  obtain ⟨n, hn⟩ : ∃ n, zs.length = n := ⟨_, rfl⟩
  rw [hn]
  have HN := Lib.hid hn
  have HC := Lib.hid hc
  clear h hc hn
  go_enter Try.func26, Try.ntmps26
  go_wp2_with fail
  refine (my_new _).mono ?_
  rintro e w1 ⟨rfl, M⟩
  have M1 := Lib.hid M
  clear M
  obtain ⟨g, hg⟩ : ∃ g, w.heap.size = g := ⟨_, rfl⟩
  rw [hg] at M1 HC ⊢
  have HG := Lib.hid hg
  clear hg
  go_wp2_with fail
  go_loopw [4] (fun iv wr => ∃ k gb, k ≤ min n 60 ∧ iv = .int .i64 (k : Nat) ∧ Mine g w wr g gb ((zs.take k).map szOf)) (fun iv _ => min n 60 - (intOf iv).toNat)
  case atStart => exact ⟨0, none, Nat.zero_le _, rfl, M1.out⟩
  case round =>
    obtain ⟨k, gb, hk, rfl, hM⟩ := hrel
    have HM := Lib.hid hM
    clear hM
    by_cases hlt : k < min n 60
    · have h1 : k < n := by omega
      have h2 : k < 60 := by omega
      have h3 : (k : Int) < 60 := by omega
      obtain ⟨z, hz⟩ : ∃ z, zs[k]? = some z := ⟨_, List.getElem?_eq_getElem (by rw [HN.out]; exact h1)⟩
      obtain ⟨b, off, rfl, hbl, c1, c2⟩ := HC.out k z hz
      have c1' : wr.cell? ⟨b, off + k * 2, none⟩ = some (.int .i64 z.1) := (HM.out.low.cell (p := ⟨b, _, none⟩) hbl).trans c1
      have c2' : wr.cell? ⟨b, off + k * 2 + 1, none⟩ = some (.int .i64 z.2) := (HM.out.low.cell (p := ⟨b, _, none⟩) hbl).trans c2
      clear c1 c2
      have hlen : ((zs.take k).map szOf).length < 4096 := by rw [List.length_map, List.length_take]; omega
      have CP := my_push (HM.out.step (Below.refl _ _).drew) _ _ _ _ (u_word z.1) (u_word z.2) hlen
      rw [rowOf_succ hz] at CP
      have HCP := Lib.hid CP
      clear CP hlen hz hbl
      go_wp2_with fail
      go_region_with (go_at_call 11; refine HCP.out.mono ?_; rintro e w2 ⟨rfl, gb2, M⟩; have M2 := Lib.hid M; clear M)
      all_goals
        go_wp2_with fail
        go_roundw
        case rel => exact ⟨k + 1, gb2, by omega, by go_num, M2.out⟩
        case measure => simp [intOf]; omega
    · obtain rfl : k = min n 60 := by omega
      have hfin : Mine w.heap.size w wr g gb (rowOf zs) := by
        have h := HM.out
        rw [show zs.take (min n 60) = zs.take 60 by rw [← HN.out, Nat.min_comm, ← List.take_eq_take_min]] at h
        rw [HG.out]; exact h
      have HF := Lib.hid hfin
      clear hfin
      by_cases h60 : n ≤ 60
      · have e1 : min n 60 = n := by omega
        rw [e1] at *
        go_wp2_with fail
        all_goals
          go_ret
          first | exact ⟨g, rfl, gb, HF.out⟩ | exact ⟨g, gb, rfl, HF.out⟩
      · have e1 : min n 60 = 60 := by omega
        rw [e1] at *
        go_wp2_with fail
        all_goals
          go_ret
          first | exact ⟨g, rfl, gb, HF.out⟩ | exact ⟨g, gb, rfl, HF.out⟩
end Go.Proofs.Ytdkngocinimjdaa
