/- THE CONTRACTS OF ledger.ending, slots. -/
import Derived.Test.YtloallndnmofnaaGreatDoorFind
import Derived.Laws.ResultCell
import Derived.OneCell
namespace Go.Proofs.YtloallndnmofnaaGreatDoor
open Go.RowKit

theorem bcell6 {W w1 : World} (hb : RowKit.Below W.heap.size W w1) {b o : Nat} {v : Value} (h : W.cell? ⟨b, o, none⟩ = some v) : w1.cell? ⟨b, o, none⟩ = some v :=
  (hb.cell (p := ⟨b, o, none⟩) (World.block_lt_of_cell? W ⟨b, o, none⟩ h)).trans h
theorem dending_nil (k : Nat) (w : World) (hk : k ≤ 1000) : Calls Tryz.prog 33 #[.slice none 0 0, .int .i64 k] w fun e w' => e = .returned (.slice none 0 0) ∧ w = w' := by
  have h1 : (0 : Int) - (k : Int) ≤ 0 := by omega
  go_enter Tryz.func33, Tryz.ntmps33
  go_wp2_with fail
  all_goals
    go_ret
    exact ⟨rfl, rfl⟩
theorem dending_all (b off n cap k : Nat) (w : World) (hn : n ≤ k) (_hc : n ≤ cap) (hk : k ≤ 1000) : Calls Tryz.prog 33 #[.slice (some ⟨b, off, none⟩) n cap, .int .i64 k] w fun e w' => e = .returned (.slice (some ⟨b, off, none⟩) n cap) ∧ w = w' := by
  have h1 : (n : Int) - (k : Int) ≤ 0 := by omega
  go_enter Tryz.func33, Tryz.ntmps33
  go_wp2_with fail
  all_goals
    go_ret
    exact ⟨rfl, rfl⟩
theorem dending_cut (b off n cap k : Nat) (w : World) (hn : k < n) (h0 : 0 < k) (hc : n ≤ cap) (hk : n ≤ 1099511627776) : Calls Tryz.prog 33 #[.slice (some ⟨b, off, none⟩) n cap, .int .i64 k] w fun e w' => e = .returned (.slice (some ⟨b, off + (n - k) * 3, none⟩) k (cap - (n - k))) ∧ w = w' := by
  obtain ⟨d, hd⟩ : ∃ d, n = k + d := ⟨n - k, by omega⟩
  subst hd
  have e1 : ((k + d : Nat) : Int) - (k : Int) = (d : Int) := by omega
  have e2 : k + d - k = d := by omega
  rw [e2]
  have hd0 : 0 < d := by omega
  have h1 : ¬ ((d : Int) ≤ 0) := by omega
  have hcd : ¬ cap = d := by omega
  have E1 := Lib.hid e1
  clear e1 e2 hn
  go_enter Tryz.func33, Tryz.ntmps33
  go_wp2_with fail
  go_ret
  exact ⟨rfl, rfl⟩

def slV (s : Ld.Sl) : Value := .agg #[.int .i64 s.seq, .int .i64 s.base, .int .i64 s.fin]

theorem undSl : (Tryz.prog.underlying 40).map (fun d => match d with | .struct _ | .array _ _ => true | _ => false) = some true := by kernel_rfl
theorem sizeSl : (Tryz.prog.info? 40).map (·.size) = some 3 := by kernel_rfl
theorem load_slot {W : World} {rb : Nat} {a0 a1 a2 : Value} (hb : Blk W rb #[a0, a1, a2] 40) : (loadVar 40 ⟨rb, 0, none⟩).run Tryz.prog W = .ok (.agg #[a0, a1, a2]) W := by
  obtain ⟨d, hd, hs⟩ : ∃ d, Tryz.prog.underlying 40 = some d ∧ (match d with | .struct _ | .array _ _ => true | _ => false) = true := by
    have h := undSl
    cases hd : Tryz.prog.underlying 40 with
    | none => rw [hd] at h; cases h
    | some d => rw [hd] at h; exact ⟨d, rfl, Option.some.inj h⟩
  exact run_loadVar_row (P := Tryz.prog) W rb 40 40 #[a0, a1, a2] (0, 0) d hb hd (by cases d <;> exact hs) sizeSl

theorem dslots_none (P : Nat → Prop) (rb : Nat) (v : Value) (T : Ld.Tb) (n : Int) (w : World) (hb : Blk w rb #[v] 59) (h : TabAt P v T w) (hG : Ld.goodB T = true) (ha : Ld.at_ T n = none) :
    Calls Tryz.prog 34 #[.pointer (some ⟨rb, 0, none⟩), .int .i64 n] w fun e w' => e = .returned (.slice none 0 0) ∧ RowKit.Below w.heap.size w w' := by
  have hf := dfind P rb v T n w hb h hG
  rw [ha] at hf
  have HF := Lib.hid hf
  clear hf hb h hG ha
  go_enter Tryz.func34, Tryz.ntmps34
  go_wp2_with fail
  refine HF.out.mono ?_
  rintro e w' ⟨rfl, hb'⟩
  have HB := Lib.hid hb'
  clear hb'
  go_wp2_with fail
  go_ret
  exact ⟨rfl, HB.out⟩
theorem dslots_some (P : Nat → Prop) (rb b off m cap i : Nat) (sv : Value) (T : Ld.Tb) (n : Int) (w : World) (hb : Blk w rb #[.slice (some ⟨b, off, none⟩) m cap] 59) (h : TabAt P (.slice (some ⟨b, off, none⟩) m cap) T w) (hG : Ld.goodB T = true) (ha : Ld.at_ T n = some i)
    (c1 : w.cell? ⟨b, off + i * 2 + 1, none⟩ = some sv) :
    Calls Tryz.prog 34 #[.pointer (some ⟨rb, 0, none⟩), .int .i64 n] w fun e w' => e = .returned sv ∧ RowKit.Below w.heap.size w w' := by
  have hf := dfind P rb _ T n w hb h hG
  have hi := at_lt ha
  have h64 := (Ld.good_iff.1 hG).1
  have hp := Ld.pos_some (Ld.good_iff.1 hG).2.2 ha
  rw [ha, hp] at hf
  obtain ⟨a, cap', hv, -⟩ := h
  have hm : m = T.length := by injection hv
  rw [← hm] at hi h64
  clear hv
  have HF := Lib.hid hf
  have HBK := Lib.hid hb
  have HC1 := Lib.hid c1
  clear hf hb hG ha hp hm c1
  go_enter Tryz.func34, Tryz.ntmps34
  go_wp2_with fail
  refine HF.out.mono ?_
  rintro e w' ⟨rfl, hb'⟩
  have c0 := (HBK.out.below hb').cell (i := 0) rfl
  have c1 := bcell6 hb' HC1.out
  have HB := Lib.hid hb'
  clear hb'
  go_wp2_with fail
  go_ret
  exact ⟨rfl, HB.out⟩
end Go.Proofs.YtloallndnmofnaaGreatDoor
