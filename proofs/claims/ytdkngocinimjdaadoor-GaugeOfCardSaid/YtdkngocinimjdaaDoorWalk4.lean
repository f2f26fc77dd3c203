/- bead.Int, bead.Text, bead.List. -/
import Derived.Test.YtdkngocinimjdaaDoorWalk1
import Derived.Room.Shelf.Join48
import Derived.Lib.Join
namespace Go.Proofs.YtdkngocinimjdaaDoor
open Go.RowKit

theorem wText_eq (s : ByteArray) : (⟨(Lib.itoa s.size).toArray⟩ : ByteArray) ++ ⟨#[58]⟩ ++ s = ⟨(Pl.wText s.data.toList).toArray⟩ := by
  obtain ⟨l, rfl⟩ : ∃ l : List UInt8, s = ⟨l.toArray⟩ := ⟨_, ofList_eq s _ rfl⟩
  rw [Lib.size_eq]
  refine (congrArg (· ++ _) (app_mk _ [58])).trans ((app_mk _ _).trans ?_)
  simp [Pl.wText]
theorem size_le {l : List UInt8} {k : Nat} (h : l.length ≤ k) : (⟨l.toArray⟩ : ByteArray).size ≤ k := by show l.toArray.size ≤ k; simpa using h
set_option maxHeartbeats 400000 in
theorem bead_int (n : Int) (hn : Pl.I64 n) (w : World) (hl : Lb w) :
    Calls Tryd.prog 20 #[.int .i64 n] w fun e w' => e = .returned (.string ⟨(Pl.wInt n).toArray⟩) ∧ Below w.heap.size w w' := by
  go_enter Tryd.func20, Tryd.ntmps20
  go_wp2_with fail
  refine (itoa_any n hn _ hl).mono ?_
  rintro e w1 ⟨rfl, h1⟩
  have hlen := Lib.itoa_length_le n hn.1 hn.2
  go_wp2_with fail
  all_goals first | (exfalso; omega) | skip
  go_ret
  exact ⟨congrArg (fun x => Ending.returned (.string x)) ((congrArg (· ++ _) (app_mk [105] _)).trans (app_mk _ [101])), h1⟩

set_option maxHeartbeats 400000 in
theorem bead_text (s : ByteArray) (hs : s.size ≤ 281474976710656) (w : World) (hl : Lb w) :
    Calls Tryd.prog 33 #[.string s] w fun e w' => e = .returned (.string ⟨(Pl.wText s.data.toList).toArray⟩) ∧ Below w.heap.size w w' := by
  go_enter Tryd.func33, Tryd.ntmps33
  go_wp2_with fail
  refine (itoa_any s.size (by unfold Pl.I64; omega) _ hl).mono ?_
  rintro e w1 ⟨rfl, h1⟩
  have hlen := Lib.itoa_length_le s.size (by omega) (by omega)
  go_wp2_with fail
  all_goals first | (exfalso; omega) | skip
  go_ret
  refine ⟨congrArg (fun x => Ending.returned (.string x)) ?_, h1⟩
  exact wText_eq s

theorem join_flat (xs : List (List UInt8)) : Lib.join xs [] = xs.flatten := by
  cases xs with
  | nil => rfl
  | cons x r =>
    rw [Lib.join_cons]
    simp [Lib.joinTail]

set_option maxHeartbeats 400000 in
theorem bead_list (bk o c : Nat) (xs : List ByteArray) (w : World) (hcells : ∀ (j : Nat) x, xs[j]? = some x → w.cell? ⟨bk, o + j, none⟩ = some (.string x)) (hbk : bk < w.heap.size) (hN : xs.length ≤ 140737488355328) (hcap : xs.length ≤ c)
    (hlen : (xs.map (·.data.toList)).flatten.length ≤ 281474976710656) :
    Calls Tryd.prog 22 #[.slice (some ⟨bk, o, none⟩) xs.length c] w fun e w' => e = .returned (.string ⟨(108 :: ((xs.map (·.data.toList)).flatten ++ [101])).toArray⟩) ∧ Below w.heap.size w w' := by
  have C := Any.strings_Join_48 Tryd.lays156 Tryd.Builder_Extra_156 bk o c xs ⟨#[]⟩ w hcells hbk hN hcap (by rw [join_flat]; exact hlen)
  rw [join_flat] at C
  have C := Lib.hid C
  have HC := Lib.hid hcells
  obtain ⟨l, hl⟩ : ∃ l, l = (xs.map (·.data.toList)).flatten := ⟨_, rfl⟩
  rw [← hl] at C hlen ⊢
  have HL := Lib.hid hl
  clear hcells hl
  go_enter Tryd.func22, Tryd.ntmps22
  go_wp2_with fail
  refine C.out.mono ?_
  rintro e w1 ⟨rfl, h1⟩
  go_wp2_with fail
  all_goals first | (exfalso; omega) | skip
  go_ret
  exact ⟨congrArg (fun x => Ending.returned (.string x)) ((congrArg (· ++ _) (app_mk [108] _)).trans (app_mk _ [101])), h1⟩
end Go.Proofs.YtdkngocinimjdaaDoor
