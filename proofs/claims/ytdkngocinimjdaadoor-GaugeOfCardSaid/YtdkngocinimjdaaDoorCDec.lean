/- Numbers that fit. -/
import Derived.Test.YtdkngocinimjdaaDoorCPlain
import Derived.Test.YtdkngocinimjdaaDoorWalk4
import Derived.Test.YtdkngocinimjdaaDoorDWalk1
namespace Go.Proofs.YtdkngocinimjdaaDoor
open Go.RowKit
theorem goneN_64 (g : Bool) : Pl.I64 (Pl.goneN g) := by unfold Pl.I64 Pl.goneN; cases g <;> simp
theorem num_64 {n : Int} (h0 : 0 ≤ n) (h1 : n ≤ 1099511627776) : Pl.I64 n := ⟨by omega, by omega⟩
theorem five_at (b k : Nat) (h : k < 5) : (five b)[k]? = some (.pointer (some ⟨b, k, none⟩)) := by
  match k, h with
  | 0, _ => rfl
  | 1, _ => rfl
  | 2, _ => rfl
  | 3, _ => rfl
  | 4, _ => rfl
theorem nums_cell {w : World} {b : Nat} {base count prod seq time : Int} {ls : List Pl.Rc} {v : Value} {T : TypeId} (h : Blk w b #[.int .i64 base, .int .i64 count, .int .i64 prod, .int .i64 seq, .int .i64 time, v] T) : ∀ k z, (Pl.nums ⟨base, count, prod, seq, time, ls⟩)[k]? = some z → w.cell? ⟨b, k, none⟩ = some (.int .i64 z) := by
  intro k z hz
  refine h.cell ?_
  match k, hz with
  | 0, hz => obtain rfl := Option.some.inj hz; rfl
  | 1, hz => obtain rfl := Option.some.inj hz; rfl
  | 2, hz => obtain rfl := Option.some.inj hz; rfl
  | 3, hz => obtain rfl := Option.some.inj hz; rfl
  | 4, hz => obtain rfl := Option.some.inj hz; rfl
  | k + 5, hz => simp [Pl.nums] at hz
end Go.Proofs.YtdkngocinimjdaaDoor
