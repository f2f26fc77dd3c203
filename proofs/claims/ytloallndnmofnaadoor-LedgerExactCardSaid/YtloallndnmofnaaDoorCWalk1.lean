/- THE CONTRACTS OF the document's num, rec, Fits. -/
import Derived.Test.YtloallndnmofnaaDoorDWalk1
import Derived.Test.YtloallndnmofnaaDoorCRecs
import Derived.Deep.RegionHeld3
namespace Go.Proofs.YtloallndnmofnaaDoor
open Go.RowKit

set_option maxHeartbeats 400000 in
theorem rnum (n : Int) (w : World) :
    Calls Tryd.prog 44 #[.int .i64 n] w fun e w' => e = .returned (.bool (Pl.numB n)) ∧ w = w' := by
  by_cases h0 : 0 ≤ n
  · by_cases h1 : n ≤ 1099511627776
    · rw [show Pl.numB n = true from Pl.numB_iff.2 ⟨h0, h1⟩]
      go_enter Tryd.func44, Tryd.ntmps44
      go_wp2
      go_ret
      exact ⟨rfl, rfl⟩
    · rw [show Pl.numB n = false from Bool.eq_false_iff.2 fun h => h1 (Pl.numB_iff.1 h).2]
      have h2 : decide (n ≤ 1099511627776) = false := decide_eq_false h1
      go_enter Tryd.func44, Tryd.ntmps44
      go_wp2
      go_ret
      exact ⟨rfl, rfl⟩
  · rw [show Pl.numB n = false from Bool.eq_false_iff.2 fun h => h0 (Pl.numB_iff.1 h).1]
    have h2 : decide (0 ≤ n) = false := decide_eq_false h0
    go_enter Tryd.func44, Tryd.ntmps44
    go_wp2
    go_ret
    exact ⟨rfl, rfl⟩

set_option maxHeartbeats 400000 in
theorem rrec (x : Pl.Rc) (w : World) :
    Calls Tryd.prog 45 #[.agg #[.int .i64 x.off, .string ⟨x.key.toArray⟩, .string ⟨x.val.toArray⟩, .bool x.gone]] w fun e w' => e = .returned (.bool (Pl.recB x)) ∧ Below w.heap.size w w' := by
  obtain ⟨o, k, v, g⟩ := x
  obtain ⟨K, hK⟩ : ∃ K : ByteArray, (⟨k.toArray⟩ : ByteArray) = K := ⟨_, rfl⟩
  obtain ⟨V, hV⟩ : ∃ V : ByteArray, (⟨v.toArray⟩ : ByteArray) = V := ⟨_, rfl⟩
  show Calls _ _ #[.agg #[.int .i64 o, .string ⟨k.toArray⟩, .string ⟨v.toArray⟩, .bool g]] w _
  rw [hK, hV]
  have hks : k.length = K.size := by rw [← hK]; show _ = k.toArray.size; simp
  have hvs : v.length = V.size := by rw [← hV]; show _ = v.toArray.size; simp
  have hve : v.isEmpty = V.toList.isEmpty := by rw [ByteArray.toList_eq, ← hV]
  obtain ⟨r, hr⟩ : ∃ r, Pl.recB ⟨o, k, v, g⟩ = r := ⟨_, rfl⟩
  rw [hr]
  have hr2 : r = (decide (K.size ≤ 16 ∧ V.size ≤ 64) && (!g || V.toList.isEmpty)) := by rw [← hr, ← hks, ← hvs, ← hve]; rfl
  rw [hr2]
  clear hr hr2 hks hvs hve hK hV
  by_cases h1 : K.size ≤ 16
  · by_cases h2 : V.size ≤ 64
    · cases g with
      | false =>
        go_enter Tryd.func45, Tryd.ntmps45
        go_wp2
        go_ret
        exact ⟨congrArg (fun b => Ending.returned (.bool b)) (by simp [h1, h2]), (Below.refl _ _).alloc (Nat.le_refl _) _⟩
      | true =>
        go_enter Tryd.func45, Tryd.ntmps45
        go_wp2
        go_ret
        exact ⟨congrArg (fun b => Ending.returned (.bool b)) (by simp [h1, h2]), (Below.refl _ _).alloc (Nat.le_refl _) _⟩
    · have h3 : decide (V.size ≤ 64) = false := decide_eq_false h2
      go_enter Tryd.func45, Tryd.ntmps45
      go_wp2
      go_ret
      exact ⟨congrArg (fun b => Ending.returned (.bool b)) (by simp), (Below.refl _ _).alloc (Nat.le_refl _) _⟩
  · have h3 : decide (K.size ≤ 16) = false := decide_eq_false h1
    go_enter Tryd.func45, Tryd.ntmps45
    go_wp2
    go_ret
    exact ⟨congrArg (fun b => Ending.returned (.bool b)) (by simp), (Below.refl _ _).alloc (Nat.le_refl _) _⟩

end Go.Proofs.YtloallndnmofnaaDoor
