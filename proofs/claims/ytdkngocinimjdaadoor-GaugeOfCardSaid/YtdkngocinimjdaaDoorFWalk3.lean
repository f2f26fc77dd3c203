/- THE CONTRACTS OF Put, the program's and the document's. -/
import Derived.Test.YtdkngocinimjdaaDoorFWalk2
import Derived.WalkSmall
import Derived.Lib.SmallJoins
namespace Go.Proofs.YtdkngocinimjdaaDoor.Fr
open Go.RowKit


theorem ofList_eq (s : ByteArray) (l : List UInt8) (h : l = s.data.toList) : s = ⟨l.toArray⟩ := by
  obtain ⟨⟨k⟩⟩ := s
  simp at h
  rw [h]
theorem frame_eq (s : ByteArray) (v : BitVec 32) (hs : s.size ≤ 16384) (hv : Pl.sum s.data.toList = v) : (⟨#[UInt8.ofNat (s.size % 256), UInt8.ofNat (s.size / 256 % 256), UInt8.ofNat (s.size / 65536 % 256), UInt8.ofNat (s.size / 16777216 % 256)]⟩ ++ ⟨#[UInt8.ofNat (U v % 256).toNat, UInt8.ofNat (U v / 256 % 256).toNat, UInt8.ofNat (U v / 65536 % 256).toNat, UInt8.ofNat (U v / 16777216 % 256).toNat]⟩ ++ s : ByteArray) = ⟨(Pl.frame s.data.toList).toArray⟩ := by
  rw [le_of_U]
  apply ofList_eq
  rw [Joins.data_append, Joins.data_append]
  have hl : s.data.toList.length = s.size := (Lib.size_eq s).symm
  have e : (UInt8.ofNat (s.size % 256) :: UInt8.ofNat (s.size / 256 % 256) :: UInt8.ofNat (s.size / 65536 % 256) :: UInt8.ofNat (s.size / 16777216 % 256) :: []) = Pl.le (BitVec.ofNat 32 s.data.toList.length) := by
    rw [hl]
    unfold Pl.le
    rw [BitVec.toNat_ofNat, Nat.mod_eq_of_lt (show s.size < 2 ^ 32 by omega)]
  rw [Pl.frame, ← e, hv]
set_option maxHeartbeats 1000000 in
theorem put_fits (s : ByteArray) (w : World) (hs : s.size ≤ 16384) :
    Calls Tryd.prog 15 #[.string s] w fun e w' => e = .returned (.tuple #[.string ⟨(Pl.frame s.data.toList).toArray⟩, .int .i64 0]) ∧ Below w.heap.size w w' := by
  have u0 := U_nonneg (Pl.sum s.data.toList)
  obtain ⟨v, hv⟩ : ∃ v, Pl.sum s.data.toList = v := ⟨_, rfl⟩
  have HV := Lib.hid hv
  have C1 := fun w => sum_any s w (by omega)
  rw [hv] at C1 u0
  clear hv
  go_enter Tryd.func15, Tryd.ntmps15
  go_wp2_with fail
  refine (split_any _ (by omega) _).mono ?_
  rintro e w1 ⟨rfl, b1⟩
  go_wp2_with fail
  refine (C1 _).mono ?_
  rintro e w' ⟨rfl, rfl⟩
  go_wp2_with fail
  refine (split_any _ u0 _).mono ?_
  rintro e w2 ⟨rfl, b2⟩
  go_wp2_with fail
  have b12 := b1.trans (b2.mono b1.size)
  obtain ⟨c0, c1, c2, c3⟩ := cells_four w2 (.int .u8 ((s.size : Int) % 256)) (.int .u8 ((s.size : Int) / 256 % 256)) (.int .u8 ((s.size : Int) / 65536 % 256)) (.int .u8 ((s.size : Int) / 16777216 % 256)) 60
  obtain ⟨d0, d1, d2, d3⟩ := cells_four (w2.alloc (.cells #[.int .u8 ((s.size : Int) % 256), .int .u8 ((s.size : Int) / 256 % 256), .int .u8 ((s.size : Int) / 65536 % 256), .int .u8 ((s.size : Int) / 16777216 % 256)] 60)) (.int .u8 (U v % 256)) (.int .u8 (U v / 256 % 256)) (.int .u8 (U v / 65536 % 256)) (.int .u8 (U v / 16777216 % 256)) 60
  have b3 : Below w2.heap.size w2 (w2.alloc (.cells #[.int .u8 ((s.size : Int) % 256), .int .u8 ((s.size : Int) / 256 % 256), .int .u8 ((s.size : Int) / 65536 % 256), .int .u8 ((s.size : Int) / 16777216 % 256)] 60)) := (Below.refl _ _).alloc (Nat.le_refl _) _
  have e3 : (w2.alloc (.cells #[.int .u8 ((s.size : Int) % 256), .int .u8 ((s.size : Int) / 256 % 256), .int .u8 ((s.size : Int) / 65536 % 256), .int .u8 ((s.size : Int) / 16777216 % 256)] 60)).heap.size = w2.heap.size + 1 := by simp
  generalize w2.alloc (.cells #[.int .u8 ((s.size : Int) % 256), .int .u8 ((s.size : Int) / 256 % 256), .int .u8 ((s.size : Int) / 65536 % 256), .int .u8 ((s.size : Int) / 16777216 % 256)] 60) = w3 at *
  have b4 : Below w3.heap.size w3 (w3.alloc (.cells #[.int .u8 (U v % 256), .int .u8 (U v / 256 % 256), .int .u8 (U v / 65536 % 256), .int .u8 (U v / 16777216 % 256)] 60)) := (Below.refl _ _).alloc (Nat.le_refl _) _
  generalize w3.alloc (.cells #[.int .u8 (U v % 256), .int .u8 (U v / 256 % 256), .int .u8 (U v / 65536 % 256), .int .u8 (U v / 16777216 % 256)] 60) = w4 at *
  rw [e3] at d0 d1 d2 d3
  have lat : ∀ o x, w3.cell? ⟨w2.heap.size, o, none⟩ = some x → w4.cell? ⟨w2.heap.size, o, none⟩ = some x := fun o x h => by
    rw [b4.cell (p := ⟨w2.heap.size, o, none⟩) (by show w2.heap.size < w3.heap.size; omega)]
    exact h
  have q1 := fun n => conv4 (w4.drewN n) w2.heap.size _ _ _ _ (lat _ _ c0) (lat _ _ c1) (lat _ _ c2) (lat _ _ c3)
  have q2 := fun n => conv4 (w4.drewN n) (w2.heap.size + 1) _ _ _ _ d0 d1 d2 d3
  have b14 : Below w.heap.size w w4 := b12.trans ((b3.mono b12.size).trans (b4.mono (Nat.le_trans b12.size b3.size)))
  clear c0 c1 c2 c3 d0 d1 d2 d3 lat b1 b2 b12 b3 b4 e3 C1
  go_quiet (fail)
  go_wp2
  go_ret2
  exact ⟨congrArg (fun x => Ending.returned (.tuple #[.string x, .int .i64 0])) (frame_eq s v hs HV.out), b14.trans (below_drewN _ _)⟩
end Go.Proofs.YtdkngocinimjdaaDoor.Fr
