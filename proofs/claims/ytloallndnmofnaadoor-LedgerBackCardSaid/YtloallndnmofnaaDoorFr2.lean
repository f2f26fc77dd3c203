/- THE CONTRACT OF ledger.From. -/
import Derived.Test.YtloallndnmofnaaDoorFrom
namespace Go.Proofs.YtloallndnmofnaaDoor
open Go.RowKit

/-- A ledger of T, all in new blocks. -/
def Fromd (w : World) (T : Ld.Tb) (x : Ending) (w' : World) : Prop :=
  ∃ rb B, x = .returned (.tuple #[.pointer (some ⟨rb, 0, none⟩), .int .i64 0]) ∧ Lgr w' rb B T ∧ (∀ k, B k → w.heap.size ≤ k) ∧ RowKit.Below w.heap.size w w'
set_option maxHeartbeats 1000000 in
theorem dfrom_no (v : Value) (T : Ld.Tb) (w : World) (h : TabAt (fun _ => True) v T w) (hl : T.length ≤ 1000) (hL : ∀ x ∈ T, x.2.length ≤ 1000) (hG : Ld.goodB T = false) :
    Calls Tryd.prog 10 #[v] w fun e w' => e = .returned (.tuple #[.pointer none, .int .i64 1]) ∧ RowKit.Below w.heap.size w w' := by
  have HG := Lib.hid (dgoodT _ v T w h hl hL)
  rw [hG] at HG
  clear h hl hL hG
  go_enter Tryd.func10, Tryd.ntmps10
  go_wp2_with fail
  refine HG.out.mono ?_
  rintro e w1 ⟨rfl, hb⟩
  have HB := Lib.hid hb
  clear hb
  go_wp2_with fail
  go_ret2
  exact ⟨rfl, HB.out⟩
set_option maxHeartbeats 1000000 in
theorem dfrom_ok (v : Value) (T : Ld.Tb) (w : World) (h : TabAt (fun _ => True) v T w) (hG : Ld.goodB T = true) :
    Calls Tryd.prog 10 #[v] w (Fromd w T) := by
  obtain ⟨hl, hL⟩ := good_short hG
  have HG := Lib.hid (dgoodT _ v T w h hl hL)
  rw [hG] at HG
  have HC := Lib.hid (fun w1 (hb : RowKit.Below w.heap.size w w1) => dcloned v T w1 (h.below hb) hl hL)
  clear h hl hL hG
  go_enter Tryd.func10, Tryd.ntmps10
  go_wp2_with fail
  refine HG.out.mono ?_
  rintro e w1 ⟨rfl, hb⟩
  have HC1 := Lib.hid (HC.out w1 hb)
  have HB := Lib.hid hb
  clear hb
  go_wp2_with fail
  refine HC1.out.mono ?_
  rintro e w2 ⟨tv, tb, E, rfl, hown, hE, hf, hb2⟩
  have hal : RowKit.Below w2.heap.size w2 (w2.alloc (.cells #[tv] 65)) := (Below.refl _ _).alloc (Nat.le_refl _) _
  have hs1 := HB.out.size
  have hs2 := hb2.size
  have HF : Hid (Fromd w T (.returned (.tuple #[.pointer (some ⟨w2.heap.size, 0, none⟩), .int .i64 0])) (w2.alloc (.cells #[tv] 65))) := by
    refine ⟨w2.heap.size, fun k => k = w2.heap.size ∨ foot tb E k, rfl, ⟨⟨tv, tb, E, Blk.new w2 _ _, hown.below hal, hE, fun k hk => .inr hk, fun hk => ?_⟩, .inl rfl, fun k hk => ?_⟩, fun k hk => ?_, ?_⟩
    · have := hown.lt hk; omega
    · have hsz : (w2.alloc (.cells #[tv] 65)).heap.size = w2.heap.size + 1 := by simp
      rcases hk with rfl | hk
      · omega
      · have := hown.lt hk; omega
    · rcases hk with rfl | hk
      · omega
      · have := hf k hk; omega
    · exact HB.out.trans ((hb2.trans (hal.mono hs2)).mono hs1)
  obtain ⟨ao, cap, rfl, -⟩ := hown.row.make
  clear hown hE hf hb2 hal
  go_wp2_with fail
  go_ret2
  exact HF.out
end Go.Proofs.YtloallndnmofnaaDoor
