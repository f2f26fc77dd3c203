/- THE CONTRACTS OF THE NUMBERS OF FOUR BYTES: split, first, number; four, read. -/
import Derived.Test.YtdkngocinimjdaaDoorFWalk1
import Derived.Below
import Derived.Deep.QuietTactic
import Derived.BigQuiet
import Derived.RegionTactic
import Derived.BigRegion
import Derived.Laws.BytesString
namespace Go.Proofs.YtdkngocinimjdaaDoor.Fr
open Go.RowKit

theorem below_drewN {B : Nat} (w : World) (n : Nat) : Below B w (w.drewN n) := ⟨rfl, rfl, rfl, Nat.le_refl _, fun _ _ => rfl⟩

/-- A slice over four bytes as a text. -/
theorem conv4 (wx : World) (b : Nat) (n0 n1 n2 n3 : Int) (h0 : wx.cell? ⟨b, 0, none⟩ = some (.int .u8 n0)) (h1 : wx.cell? ⟨b, 1, none⟩ = some (.int .u8 n1)) (h2 : wx.cell? ⟨b, 2, none⟩ = some (.int .u8 n2)) (h3 : wx.cell? ⟨b, 3, none⟩ = some (.int .u8 n3)) :
    (convert 64 9 (.slice (some ⟨b, 0, none⟩) 4 4)).run Tryd.prog wx = .ok (.string ⟨#[UInt8.ofNat n0.toNat, UInt8.ofNat n1.toNat, UInt8.ofNat n2.toNat, UInt8.ofNat n3.toNat]⟩) wx := by
  rw [run_convert_bytes_string wx _ _ 5 _ _ _ Tryd.underlying64 Tryd.underlying5 Tryd.underlying9,
    run_bytesToString wx ⟨b, 0, none⟩ 4 4 [n0, n1, n2, n3] (run_loadCells_list wx ⟨b, 0, none⟩ [.int .u8 n0, .int .u8 n1, .int .u8 n2, .int .u8 n3] (fun j v hv => by
      match j, hv with
      | 0, hv => obtain rfl := Option.some.inj hv; exact h0
      | 1, hv => obtain rfl := Option.some.inj hv; exact h1
      | 2, hv => obtain rfl := Option.some.inj hv; exact h2
      | 3, hv => obtain rfl := Option.some.inj hv; exact h3
      | j + 4, hv => simp at hv))]
  rfl
theorem cells_four (w : World) (x0 x1 x2 x3 : Value) (T : TypeId) : (w.alloc (.cells #[x0, x1, x2, x3] T)).cell? ⟨w.heap.size, 0, none⟩ = some x0 ∧ (w.alloc (.cells #[x0, x1, x2, x3] T)).cell? ⟨w.heap.size, 1, none⟩ = some x1 ∧ (w.alloc (.cells #[x0, x1, x2, x3] T)).cell? ⟨w.heap.size, 2, none⟩ = some x2 ∧ (w.alloc (.cells #[x0, x1, x2, x3] T)).cell? ⟨w.heap.size, 3, none⟩ = some x3 := by
  have h := heap_alloc_new w (.cells #[x0, x1, x2, x3] T)
  refine ⟨?_, ?_, ?_, ?_⟩ <;> (unfold World.cell?; rw [h]; rfl)
theorem le_of_U (v : BitVec 32) : (⟨#[UInt8.ofNat (U v % 256).toNat, UInt8.ofNat (U v / 256 % 256).toNat, UInt8.ofNat (U v / 65536 % 256).toNat, UInt8.ofNat (U v / 16777216 % 256).toNat]⟩ : ByteArray) = ⟨(Pl.le v).toArray⟩ := by
  unfold Pl.le U
  rw [show ((v.toNat : Int) % 256).toNat = v.toNat % 256 by omega, show ((v.toNat : Int) / 256 % 256).toNat = v.toNat / 256 % 256 by omega, show ((v.toNat : Int) / 65536 % 256).toNat = v.toNat / 65536 % 256 by omega, show ((v.toNat : Int) / 16777216 % 256).toNat = v.toNat / 16777216 % 256 by omega]
theorem num_or (a b c d : UInt8) : bits BinOp.or IntKind.u32 (bits BinOp.or IntKind.u32 (bits BinOp.or IntKind.u32 ((a.toNat : Int) % 4294967296) ((b.toNat : Int) % 4294967296 * 256 % 4294967296)) ((c.toNat : Int) % 4294967296 * 65536 % 4294967296)) ((d.toNat : Int) % 4294967296 * 16777216 % 4294967296) = U (BitVec.ofNat 32 (Pl.num a.toNat b.toNat c.toNat d.toNat)) := by
  have ha : a.toNat < 256 := a.toNat_lt
  have hb : b.toNat < 256 := b.toNat_lt
  have hc : c.toNat < 256 := c.toNat_lt
  have hd : d.toNat < 256 := d.toNat_lt
  rw [show (a.toNat : Int) % 4294967296 = (a.toNat : Int) by omega, show (b.toNat : Int) % 4294967296 * 256 % 4294967296 = ((b.toNat * 256 : Nat) : Int) by omega, show (c.toNat : Int) % 4294967296 * 65536 % 4294967296 = ((c.toNat * 65536 : Nat) : Int) by omega, show (d.toNat : Int) % 4294967296 * 16777216 % 4294967296 = ((d.toNat * 16777216 : Nat) : Int) by omega]
  rw [u32_or_nat _ _ (by omega) (by omega), Nat.or_comm, nat_join 8 _ _ (by omega) (by omega)]
  rw [u32_or_nat _ _ (by omega) (by omega), Nat.or_comm, nat_join 16 _ _ (by omega) (by omega)]
  rw [u32_or_nat _ _ (by omega) (by omega), Nat.or_comm, nat_join 24 _ _ (by omega) (by omega)]
  rw [show d.toNat * 16777216 + (c.toNat * 65536 + (b.toNat * 256 + a.toNat)) = Pl.num a.toNat b.toNat c.toNat d.toNat by unfold Pl.num; omega]
  exact U_of _ (by unfold Pl.num; omega)
theorem num_sum (a b c d : UInt8) : (((a.toNat : Int) + (b.toNat : Int) % 4294967296 * 256 + (c.toNat : Int) % 4294967296 * 65536) % 4294967296 + (d.toNat : Int) % 4294967296 * 16777216 % 4294967296) % 4294967296 = U (BitVec.ofNat 32 (Pl.num a.toNat b.toNat c.toNat d.toNat)) := by
  have ha : a.toNat < 256 := a.toNat_lt
  have hb : b.toNat < 256 := b.toNat_lt
  have hc : c.toNat < 256 := c.toNat_lt
  have hd : d.toNat < 256 := d.toNat_lt
  rw [← U_of _ (by unfold Pl.num; omega)]
  unfold Pl.num
  omega

set_option maxHeartbeats 1000000 in
theorem split_any (z : Int) (_u0 : 0 ≤ z) (w : World) :
    Calls Tryd.prog 23 #[.int .u32 z] w fun e w' => e = .returned (.agg #[.int .u8 (z % 256), .int .u8 (z / 256 % 256), .int .u8 (z / 65536 % 256), .int .u8 (z / 16777216 % 256)]) ∧ Below w.heap.size w w' := by
  go_enter Tryd.func23, Tryd.ntmps23
  go_wp2
  exact bodyPost_ret (v := .agg #[.int .u8 (z % 256), .int .u8 (z / 256 % 256), .int .u8 (z / 65536 % 256), .int .u8 (z / 16777216 % 256)]) (by simp [results, Tryd.results23, go_sem]) rfl ⟨rfl, (Below.refl _ _).alloc (Nat.le_refl _) _⟩

end Go.Proofs.YtdkngocinimjdaaDoor.Fr
