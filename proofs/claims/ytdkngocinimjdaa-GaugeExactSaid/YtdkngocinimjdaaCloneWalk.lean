/- slices.Clone of a row's sizes: another block, the same values. -/
import Derived.Test.YtdkngocinimjdaaWalk4
namespace Go.Proofs.Ytdkngocinimjdaa
open Go.RowKit
attribute [local go_sem] run_store_complex

theorem run_append_zero (w : World) (t ty e : TypeId) (P : Program) (i : TypeInfo) (ht : P.underlying t = some (.slice e)) (hi : P.info? e = some i) (b a : Addr) (c : Nat) :
    (Builtin.append_ #[t, t] ty #[.slice (some b) 0 0, .slice (some a) 0 c]).run P w = .ok (.slice (some b) 0 0) w := by
  simp [Builtin.append_, run_underlying ht, sizeOf, typeInfo, hi, Builtin.lenOf, Builtin.firstCells, loadCells, loadCellsFrom, storeCells]

theorem run_eql_slice_nil {P : Program} (w : World) (t e : TypeId) (a : Option Addr) (l c : Nat) (h : P.underlying t = some (.slice e)) : (binOp .eql t (.slice a l c) (.slice none 0 0)).run P w = .ok (.bool a.isNone) w := by
  simp only [binOp]
  simp [run_equal_slice_nil w t e a l c h]

set_option maxHeartbeats 1000000 in
theorem clone_any (w : World) (v : Value) (gb : Option Nat) (n : Nat) (xs : List Value) (h : Sl w v gb 33 1 n xs) (h1 : ∀ x ∈ xs, x.oneCell' = true) (hn : n ≤ 4096) :
    Calls Try.prog 30 #[v] w fun e w' => (∃ ao cap, e = .returned (.slice ao n cap) ∧ (0 < n → ∃ cb q, ao = some ⟨cb, q, none⟩ ∧ w.heap.size ≤ cb ∧ (∃ cs, Blk w' cb cs 33) ∧ ∀ (j : Nat) (x : Value), xs[j]? = some x → w'.cell? ⟨cb, q + j, none⟩ = some x)) ∧ Below w.heap.size w w' := by
  have hs := h.2
  have hnil := fun (w : World) a l c => run_eql_slice_nil w 62 33 a l c Try.underlying62
  rcases hs with ⟨rfl, rfl, rfl⟩ | ⟨g, p, cap, cur, rfl, rfl, hg, hnc, hcs, ht⟩
  · clear h h1
    go_enter Try.func30, Try.ntmps30
    go_wp2_with fail
    go_ret
    exact ⟨⟨none, 0, rfl, fun h => absurd h (by omega)⟩, Below.refl _ _⟩
  · obtain ⟨i0, hi, hz0, hz1, hz2⟩ := infoC
    rcases Nat.eq_zero_or_pos n with h0 | hpos
    · subst h0
      have hap := fun w b a c => run_append_zero w 62 62 33 Try.prog i0 Try.underlying62 hi b a c
      clear h h1 hg ht
      go_enter Try.func30, Try.ntmps30
      go_wp2_with fail
      go_ret
      exact ⟨⟨_, _, rfl, fun h => absurd h (by omega)⟩, (Below.refl _ _).alloc (Nat.le_refl _) _⟩
    · have HS := Lib.hid h
      have H1 := Lib.hid h1
      have hnews : ∀ j u, xs[j]? = some u → (w.alloc (.cells #[] 33)).cell? ((⟨g, p, none⟩ : Addr).add j) = some u := fun j u hj => by
        rw [Addr.add_lit]; exact (h.alloc _).cell rfl j u hj
      have hnew : Sl (w.alloc (.cells #[] 33)) (.slice (some ⟨w.heap.size, 0, none⟩) 0 0) (some w.heap.size) 33 1 0 [] := ⟨rfl, .inr ⟨w.heap.size, 0, 0, #[], rfl, rfl, Blk.new _ _ _, Nat.le_refl _, Nat.le_refl _, rfl⟩⟩
      have HNEWS := Lib.hid hnews
      have HNEW := Lib.hid hnew
      clear h h1 hg ht hnews hnew
      go_enter Try.func30, Try.ntmps30
      go_wp2_with (at_builtin; refine wpList_append_sl _ rfl _ _ 62 rfl 33 i0 (.complex .f64 0 0) 1 16 Try.underlying62 hi hz0 hz1 hz2 rfl _ (some w.heap.size) 0 [] rfl HNEW.out ⟨g, p, none⟩ n cap xs rfl HS.out.1 HNEWS.out H1.out hpos (by omega) (by omega) ?_)
      intro g1 p1 cap1 w1 gb' hown hgrow hgb hnw
      have HO := Lib.hid hown
      have HG := Lib.hid hgrow
      have HB := Lib.hid hgb
      have HN := Lib.hid hnw
      clear hown hgrow hgb hnw
      go_wp2_with fail
      go_ret
      have hle : w.heap.size ≤ g1 := by
        rcases HN.out with e | e
        · rw [HB.out] at e; cases e; exact Nat.le_refl _
        · omega
      have hblk : ∃ cs, Blk w1 g1 cs 33 := by
        rcases HO.out.2 with ⟨hv, _⟩ | ⟨g', p', cap', cur, hg', hv, hc, _⟩
        · cases hv
        · cases hv; exact ⟨cur, hc⟩
      exact ⟨⟨_, _, rfl, fun _ => ⟨g1, p1, rfl, hle, hblk, fun j x hj => HO.out.cell rfl j x hj⟩⟩, ((Below.refl _ w).alloc (Nat.le_refl _) _).grown HG.out (by simp) (fun k e => by cases e; exact Nat.le_refl _)⟩
end Go.Proofs.Ytdkngocinimjdaa
