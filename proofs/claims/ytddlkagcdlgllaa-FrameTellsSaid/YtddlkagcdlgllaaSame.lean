/- THE CONTRACT OF Same at two lists that are the same. -/
import Derived.Test.YtddlkagcdlgllaaRScan
namespace Go.Proofs.Ytddlkagcdlgllaa
open Go.RowKit

/-- A slice that reads as these texts. -/
def Readable (v : Value) (ls : List (List UInt8)) (w : World) : Prop :=
  ∃ a cap, v = .slice a ls.length cap ∧ ∀ j l, ls[j]? = some l → ∃ b off, a = some ⟨b, off, none⟩ ∧ b < w.heap.size ∧ w.cell? ⟨b, off + j, none⟩ = some (.string ⟨l.toArray⟩)
theorem Readable.below {v : Value} {ls : List (List UInt8)} {w w' : World} (h : Readable v ls w) (hb : Below w.heap.size w w') : Readable v ls w' := by
  obtain ⟨a, cap, rfl, hc⟩ := h
  refine ⟨a, cap, rfl, fun j l hj => ?_⟩
  obtain ⟨b, off, rfl, hlt, hcell⟩ := hc j l hj
  exact ⟨b, off, rfl, Nat.lt_of_lt_of_le hlt hb.size, (hb.cell (p := ⟨b, off + j, none⟩) hlt).trans hcell⟩
theorem readable_own {v : Value} {ls : List (List UInt8)} {w : World} {base : Nat} {T : TypeId} (h : w.ownsRow base T 1 v ls.length (strs ls)) : Readable v ls w := by
  obtain ⟨-, ⟨rfl, hn⟩ | ⟨g, cap, cur, rfl, hb, hg, hn, hm, hsz, htk⟩⟩ := h
  · obtain rfl : ls = [] := List.length_eq_zero_iff.1 hn
    exact ⟨none, 0, rfl, fun j l hj => by simp at hj⟩
  · refine ⟨_, cap, rfl, fun j l hj => ⟨g, 0, rfl, lt_of_block hg, ?_⟩⟩
    rw [Nat.mul_one] at htk hsz
    have hjl : j < ls.length := (List.getElem?_eq_some_iff.1 hj).1
    have e : (cur.toList.take ls.length)[j]? = some (.string ⟨l.toArray⟩) := by
      rw [htk, strs, List.getElem?_map, hj]
      rfl
    rw [List.getElem?_take_of_lt hjl, Array.getElem?_toList] at e
    unfold World.cell?
    rw [hg]
    simp only [Nat.zero_add]
    exact e

set_option maxHeartbeats 1000000 in
theorem same_true (v1 v2 : Value) (ls : List (List UInt8)) (w : World) (h1 : Readable v1 ls w) (h2 : Readable v2 ls w) (hl : ls.length ≤ 1099511627776) :
    Calls Try.prog 19 #[v1, v2] w fun e w' => e = .returned (.bool true) ∧ Below w.heap.size w w' := by
  obtain ⟨a1, cap1, rfl, hc1⟩ := h1
  obtain ⟨a2, cap2, rfl, hc2⟩ := h2
  have H1 := Lib.hid hc1
  have H2 := Lib.hid hc2
  clear hc1 hc2
  obtain ⟨m, hm⟩ : ∃ m, ls.length = m := ⟨_, rfl⟩
  rw [hm] at hl ⊢
  have HM := Lib.hid hm
  clear hm
  go_enter Try.func19, Try.ntmps19
  go_wp2_with fail
  go_loopw [5] (fun i wr => ∃ k n : Nat, k ≤ m ∧ i = .int .i64 k ∧ wr = w.drewN n) (fun i _ => m - (intOf i).toNat)
  case atStart => exact ⟨0, 0, Nat.zero_le _, rfl, rfl⟩
  case round =>
    obtain ⟨k, n, hk, rfl, rfl⟩ := hrel
    by_cases hlt : k < m
    · obtain ⟨l, hg⟩ : ∃ l, ls[k]? = some l := ⟨_, List.getElem?_eq_getElem (by rw [HM.out]; exact hlt)⟩
      obtain ⟨b1, o1, rfl, -, g1⟩ := H1.out k l hg
      obtain ⟨b2, o2, rfl, -, g2⟩ := H2.out k l hg
      have HG := Lib.hid hg
      clear hg
      go_wp2_with fail
      go_quiet (fail)
      go_wp2_with fail
      go_roundw
      case rel => exact ⟨k + 1, n + nq, by omega, by go_num, rfl⟩
      case measure => simp [intOf]; omega
    · go_wp2_with fail
      go_ret
      exact ⟨rfl, below_drewN _ _⟩
end Go.Proofs.Ytddlkagcdlgllaa
