/- All: going over a row's sizes: the contract of the iterator. -/
import Derived.Test.YtdkngocinimjdaaCloneWalk
import Derived.RangeFuncNested
import Derived.RangeFuncBound
import Derived.RangeFuncCalls
import Derived.RangeFuncLeaves
import Derived.Shelf.Abstract
import Derived.Shelf.RegionOpen
import Derived.OwnWalkIn
import Derived.TacticsInMore
import Derived.LoopNIn
import Derived.LoopIn
namespace Go.Proofs.Ytdkngocinimjdaa
open Go.RowKit Go.Shelf
attribute [local go_sem] run_store_complex Oper.semAt_some

theorem run_equalIn_func_nil {P : Program} (w : World) (d : Nat) (t : TypeId) {a : Array TypeId} {b : Array TypeId} {c : Bool} (fn : Fn) (x y : Array Value) (h : P.underlying t = some (.func a b c)) : (Op.equalIn (d + 1) t (.func fn x y) .nilFunc).run P w = .ok false w := by
  simp [Op.equalIn, run_underlying h]
theorem run_eql_func_nil {P : Program} (w : World) (t : TypeId) {a : Array TypeId} {b : Array TypeId} {c : Bool} (fn : Fn) (x y : Array Value) (h : P.underlying t = some (.func a b c)) : (binOp .eql t (.func fn x y) .nilFunc).run P w = .ok (.bool false) w := by
  have e : (Op.equal t (.func fn x y) .nilFunc).run P w = .ok false w := run_equalIn_func_nil w 9999 t fn x y h
  simp only [binOp]
  simp [e]

theorem all_made (g : Nat) (w : World) :
    Calls Try.prog 27 #[.pointer (some ⟨g, 0, none⟩)] w fun e w' => e = .returned (.func (.func 29) #[] #[.pointer (some ⟨w.heap.size, 0, none⟩)]) ∧ w' = w.alloc (.cells #[.pointer (some ⟨g, 0, none⟩)] 24) := by
  go_enter Try.func27, Try.ntmps27
  go_wp2_with fail
  go_ret
  exact ⟨rfl, rfl⟩

/-- The words of the sums, one by one. -/
def sums (cs : Nat → Nat × Nat) : Nat → Nat × Nat
  | 0 => (0, 0)
  | k + 1 => ((Ieee.double.add (sums cs k).1 (cs k).1).getD 0, (Ieee.double.add (sums cs k).2 (cs k).2).getD 0)

/-- The words cs are the sizes L; behind its end they are nought. -/
def Words (cs : Nat → Nat × Nat) (L : List P2) : Prop := ∀ k, Fl.Is (cs k).1 (L[k]?.getD (0, 0)).1 ∧ Fl.Is (cs k).2 (L[k]?.getD (0, 0)).2

theorem tot_take_any (L : List P2) (k : Nat) : tot (L.take (k + 1)) = add2 (tot (L.take k)) (L[k]?.getD (0, 0)) := by
  rcases h : L[k]? with _ | p
  · have hk : L.length ≤ k := List.getElem?_eq_none_iff.1 h
    rw [List.take_of_length_le hk, List.take_of_length_le (by omega)]
    simp [add2]
  · exact tot_take_succ h

theorem sums_is {cs : Nat → Nat × Nat} {L : List P2} (h : Words cs L) (hok : ∀ p ∈ L, Ok p) (hl : L.length ≤ 4096) (k : Nat) : Fl.Is (sums cs k).1 (tot (L.take k)).1 ∧ Fl.Is (sums cs k).2 (tot (L.take k)).2 := by
  induction k with
  | zero => exact ⟨is_zero, is_zero⟩
  | succ k ih =>
    have hb := tot_take_le L (k + 1) hok hl
    rw [tot_take_any] at hb ⊢
    simp only [add2] at hb ⊢
    obtain ⟨r, hr, ir⟩ := Fl.add_is ih.1 (h k).1 (by omega)
    obtain ⟨s, hs, is⟩ := Fl.add_is ih.2 (h k).2 (by omega)
    simp only [sums, hr, hs, Option.getD_some]
    exact ⟨ir, is⟩
theorem sums_add {cs : Nat → Nat × Nat} {L : List P2} (h : Words cs L) (hok : ∀ p ∈ L, Ok p) (hl : L.length ≤ 4096) (k : Nat) (w : World) :
    (binOp .add 33 (.complex .f64 (sums cs k).1 (sums cs k).2) (.complex .f64 (cs k).1 (cs k).2)).run Try.prog w = .ok (.complex .f64 (sums cs (k + 1)).1 (sums cs (k + 1)).2) w := by
  have hb := tot_take_le L (k + 1) hok hl
  rw [tot_take_any] at hb
  simp only [add2] at hb
  have ih := sums_is h hok hl k
  obtain ⟨r, hr, ir⟩ := Fl.add_is ih.1 (h k).1 (by omega)
  obtain ⟨s, hs, is⟩ := Fl.add_is ih.2 (h k).2 (by omega)
  exact run_complex_sum w .add (.inl rfl) _ _ _ _ _ _ _ _ (by unfold cSumBits; simp only [floatBits, sums]; rw [show FloatKind.f64.format = Ieee.double from rfl, hr, hs]; rfl)

/-- The block in which the row in block g keeps its sizes. -/
def bk (w : World) (g : Nat) : Option Nat :=
  match w.cell? ⟨g, 0, none⟩ with
  | some (.slice (some a) _ _) => some a.block
  | _ => none
theorem Rw.bk_is {w : World} {g : Nat} {gb : Option Nat} {L : List P2} (h : Rw w g gb L) : bk w g = gb := by
  obtain ⟨v, a, b, xs, h1, h2, -⟩ := h.lies
  have c0 : w.cell? ⟨g, 0, none⟩ = some v := h1.cell (i := 0) rfl
  unfold bk
  rw [c0]
  rcases h2.2 with ⟨rfl, rfl, -⟩ | ⟨k, p, cap, cur, rfl, rfl, -⟩
  · rfl
  · rfl

/-- What a round keeps: cells, but for the row's own and those that Ex names; the row's block of sizes stays or is a new one. -/
structure Kp (g : Nat) (Ex : Nat → Prop) (W W' : World) : Prop where
  size : W.heap.size ≤ W'.heap.size
  own : bk W' g = bk W g ∨ ∃ k, bk W' g = some k ∧ W.heap.size ≤ k
  same : ∀ (b : Nat) (c : Array Value) (t : TypeId), W.heap[b]? = some (.cells c t (0, 0)) → ¬ Ex b → b ≠ g → some b ≠ bk W g → W'.heap[b]? = some (.cells c t (0, 0))
theorem Kp.trans {g : Nat} {Ex : Nat → Prop} {A B C : World} (h : Kp g Ex A B) (k : Kp g Ex B C) : Kp g Ex A C := by
  refine ⟨Nat.le_trans h.size k.size, ?_, fun b c t hb h1 h2 h3 => ?_⟩
  · rcases k.own with e | ⟨j, e, hj⟩
    · rw [e]; exact h.own
    · exact .inr ⟨j, e, Nat.le_trans h.size hj⟩
  · refine k.same b c t (h.same b c t hb h1 h2 h3) h1 h2 ?_
    rcases h.own with e | ⟨j, e, hj⟩
    · rw [e]; exact h3
    · rw [e]; intro e'; cases e'; have := lt_of_block hb; omega
theorem Kp.book {g : Nat} {Ex : Nat → Prop} {n : Nat} (hg : g < n) (W : World) (l : Nat) (o o' : Obj) (hl : n ≤ l) (h : W.heap[l]? = some o) (hc : o.isCells = false) (_ : o.isWalk = false) : Kp g Ex W (W.putObj l o') := by
  refine ⟨by simp, .inl ?_, fun b c t hb _ _ _ => ?_⟩
  · unfold bk
    rw [World.cell?_of_block (w := W) (World.putObj_heap_other (by show g ≠ l; omega))]
  · rw [World.putObj_heap_other]
    · exact hb
    · rintro rfl; rw [h] at hb; cases hb; cases hc

set_option maxRecDepth 100000 in
set_option maxHeartbeats 2000000 in
theorem all_goes (n : Nat) (hn : 1 ≤ n) (l Bx g : Nat) (gb : Option Nat) (L : List P2) (cs : Nat → Nat × Nat) (Ex : Nat → Prop) (J Jx : List Nat → World → Prop)
    (hY : ∀ pre x W, J pre W → pre.length < L.length → YieldAt Fence.wide (n - 1) Try.prog l #[.complex .f64 (cs x).1 (cs x).2, .complex .f64 (sums cs (x + 1)).1 (sums cs (x + 1)).2] W fun e W' =>
      (e = .returned (.bool true) ∧ J (pre ++ [x]) W' ∧ Kp g Ex W W') ∨ (e = .returned (.bool false) ∧ Jx (pre ++ [x]) W'))
    (W : World) (hJ : AbidesFrom W.heap.size J) (hEx : ∀ b, Ex b → b < W.heap.size) (hBx : W.cell? ⟨Bx, 0, none⟩ = some (.pointer (some ⟨g, 0, none⟩))) (hR : Rw W g gb L) (hcs : Words cs L)
    (hw : ∀ (v : Value) (a b : Nat) (xs : List Value), Blk W g #[v, .complex .f64 a b] 64 → Sl W v gb 33 1 L.length xs → ∀ j, j < L.length → xs[j]? = some (.complex .f64 (cs j).1 (cs j).2)) (h0 : J [] W) :
    CallsIn Fence.wide n Try.prog 29 #[.func (.yield l) #[] #[], .pointer (some ⟨Bx, 0, none⟩)] W fun e W' => (∃ v, e = .returned v) ∧
      ((∃ ys, ys = List.range L.length ∧ J ys W') ∨ (∃ pre, (∃ k, k ≤ L.length ∧ pre = List.range k) ∧ Jx pre W')) := by
  obtain ⟨v, a, b, xs, h1, h2, -⟩ := hR.lies
  have hx := hw v a b xs h1 h2
  have c0 : W.cell? ⟨g, 0, none⟩ = some v := h1.cell (i := 0) rfl
  have hone : ∀ x ∈ xs, x.oneCell' = true := by
    intro x hxm
    obtain ⟨j, hj⟩ := List.mem_iff_getElem?.1 hxm
    have hl := h2.1
    have hjl : j < L.length := by have := (List.getElem?_eq_some_iff.1 hj).1; omega
    rw [hx j hjl] at hj
    cases hj
    rfl
  have HC := Lib.hid (clone_any W v gb L.length xs h2 hone hR.few)
  obtain ⟨N, hN⟩ : ∃ N, L.length = N := ⟨_, rfl⟩
  have HW := Lib.hid hR
  have HX := Lib.hid hx
  have hfew := hR.few
  rw [hN] at HC HX hfew hY
  have HN := Lib.hid hN
  have HA := Lib.hid (fun k w => sums_add hcs hR.ok hR.few k w)
  have HY := Lib.hid hY
  have HEX := Lib.hid hEx
  have HJ := Lib.hid hJ
  clear hx hone h1 h2 hw hcs hR hN hY hEx hJ
  rw [HN.out]
  refine callsIn_of_wp Try.func29 rfl trivial ?_ rfl
  simp only [Try.ntmps29, List.size_toArray, List.length_cons, List.length_nil, Nat.reduceAdd, Nat.reduceSub, Array.replicate_succ, Array.replicate_zero, List.push_toArray, List.append_toArray, List.nil_append, List.cons_append]
  gi_wp2_with fail
  refine ⟨trivial, (callsIn_wide.2 HC.out).mono ?_⟩
  rintro e w1 ⟨⟨ao, cap, rfl, hcl⟩, hb⟩
  have hJ1 : J [] w1 := HJ.out [] W w1 none h0 ⟨hb.os, hb.tape, hb.output, hb.size, fun k hk _ => hb.block k hk⟩ (fun r e => by cases e)
  rcases Nat.eq_zero_or_pos N with hz | hpos
  · subst hz
    have HJ1 := Lib.hid hJ1
    clear hcl hb hJ1 h0
    gi_wp2_with fail
    gi_loopw [3, 14] (fun sv iv wr => iv = .int .i64 0 ∧ J [] wr) (fun _ _ _ => 0)
    case atStart => exact ⟨rfl, HJ1.out⟩
    case round =>
      obtain ⟨rfl, hJs⟩ := hrel
      have HJS := Lib.hid hJs
      clear hJs
      gi_wp2_with fail
      go_end0
      exact ⟨⟨_, rfl⟩, .inl ⟨_, rfl, HJS.out⟩⟩
  · obtain ⟨cb, q, rfl, hcbW, ⟨cs0, hblk⟩, hcells⟩ := hcl hpos
    have hbk0 : some cb ≠ bk w1 g := by
      rw [(HW.out.below hb).bk_is]
      intro e
      have := HW.out.ltb cb e.symm
      omega
    have hcg : cb ≠ g := by have := HW.out.lt; omega
    have hcE : ¬ Ex cb := fun h => by have := HEX.out cb h; omega
    have HCL := Lib.hid (fun j hj => hcells j _ (HX.out j hj))
    have HB1 := Lib.hid (And.intro hblk hbk0)
    have HJ1 := Lib.hid hJ1
    have HCE := Lib.hid hcE
    clear hcl hb hJ1 h0 hblk hcells hbk0 hcE
    gi_wp2_with fail
    gi_loopw [3, 14] (fun sv iv wr => ∃ k : Nat, k ≤ N ∧ iv = .int .i64 k ∧ sv = .complex .f64 (sums cs k).1 (sums cs k).2 ∧ J (List.range k) wr ∧ Blk wr cb cs0 33 ∧ some cb ≠ bk wr g) (fun _ iv _ => N - (intOf iv).toNat)
    case atStart => exact ⟨0, Nat.zero_le _, rfl, rfl, HJ1.out, HB1.out.1, HB1.out.2⟩
    case round =>
      obtain ⟨k, hk, rfl, rfl, hJs, hbl, hbk⟩ := hrel
      by_cases hlt : k < N
      · have hc0 : wr.cell? ⟨cb, q + k, none⟩ = some (.complex .f64 (cs k).1 (cs k).2) := (World.cell?_of_block (w := w1) (by show wr.heap[cb]? = w1.heap[cb]?; rw [show wr.heap[cb]? = _ from hbl, show w1.heap[cb]? = _ from HB1.out.1])).trans (HCL.out k hlt)
        have hadd := HA.out k
        obtain ⟨fn, tmps, assign, body, hy, hR⟩ := HY.out (List.range k) k wr hJs (by rw [List.length_range]; exact hlt)
        have HBL := Lib.hid hbl
        have HBK := Lib.hid hbk
        clear hJs hbl hbk
        obtain ⟨s1, hs1⟩ : ∃ s, (sums cs (k + 1)).1 = s := ⟨_, rfl⟩
        obtain ⟨s2, hs2⟩ : ∃ s, (sums cs (k + 1)).2 = s := ⟨_, rfl⟩
        rw [hs1, hs2] at hadd hy
        have HS12 := Lib.hid (And.intro hs1 hs2)
        clear hs1 hs2
        gi_wp2_with fail
        refine hR.mono ?_
        rintro e W3 (⟨rfl, hJ3, hk3⟩ | ⟨rfl, hJx3⟩)
        · have hbl3 : Blk W3 cb cs0 33 := hk3.same cb cs0 _ HBL.out HCE.out hcg HBK.out
          have hbk3 : some cb ≠ bk W3 g := by
            rcases hk3.own with e | ⟨j, e, hj⟩
            · rw [e]; exact HBK.out
            · rw [e]; intro e'; cases e'; have := HBL.out.lt; omega
          have HF := Lib.hid (And.intro hJ3 (And.intro hbl3 hbk3))
          clear hJ3 hk3 hbl3 hbk3
          gi_wp2_with fail
          go_roundw
          case rel => exact ⟨k + 1, by omega, by go_num, by rw [HS12.out.1, HS12.out.2], by rw [List.range_succ]; exact HF.out.1, HF.out.2⟩
          case measure => simp [intOf]; omega
        · have HF := Lib.hid hJx3
          clear hJx3
          gi_wp2_with fail
          refine bodyPost_ret (results_none rfl _ _ _) rfl ?_
          exact ⟨⟨_, rfl⟩, .inr ⟨_, ⟨k + 1, by omega, List.range_succ.symm⟩, HF.out⟩⟩
      · obtain rfl : k = N := by omega
        have HJS := Lib.hid hJs
        clear hJs hbl hbk
        gi_wp2_with fail
        go_end0
        exact ⟨⟨_, rfl⟩, .inl ⟨_, rfl, HJS.out⟩⟩

theorem Sl.unique {w : World} {v : Value} {gb gb' : Option Nat} {e size n : Nat} {xs xs' : List Value} (h : Sl w v gb e size n xs) (h' : Sl w v gb' e size n xs') : xs = xs' := by
  rcases h.2 with ⟨hv, _, hn⟩ | ⟨g, p, cap, cur, _, hv, hc, _, _, ht⟩
  · have h1 := h.1
    have h2 := h'.1
    rw [hn, Nat.zero_mul] at h1 h2
    rw [List.length_eq_zero_iff.1 h1, List.length_eq_zero_iff.1 h2]
  · rcases h'.2 with ⟨hv', _, _⟩ | ⟨g', p', cap', cur', _, hv', hc', _, _, ht'⟩
    · rw [hv] at hv'; cases hv'
    · rw [hv] at hv'; cases hv'
      rw [hc] at hc'; cases hc'
      rw [← ht, ← ht']

/-- The words of a row's sizes. -/
def wordsOf (xs : List Value) (j : Nat) : Nat × Nat :=
  match xs[j]? with
  | some (.complex .f64 a b) => (a, b)
  | _ => (0, 0)

abbrev encs (cs : Nat → Nat × Nat) (x : Nat) : Array Value := #[.complex .f64 (cs x).1 (cs x).2, .complex .f64 (sums cs (x + 1)).1 (sums cs (x + 1)).2]

/-- **The iterator's contract.** -/
theorem all_stops (n : Nat) (hn : 1 ≤ n) (Bx g : Nat) (gb : Option Nat) (L : List P2) (Ex : Nat → Prop) (w : World) (hlt : Bx < w.heap.size) (hEx : ∀ b, Ex b → b < w.heap.size) (hBx : w.cell? ⟨Bx, 0, none⟩ = some (.pointer (some ⟨g, 0, none⟩))) (hR : Rw w g gb L) :
    ∃ cs, Words cs L ∧ ∀ w0 : World, Below w.heap.size w w0 → SeqStopsK Fence.wide n Try.prog 29 #[.pointer (some ⟨Bx, 0, none⟩)] (encs cs) (Kp g Ex) (fun xs => xs = List.range L.length) (fun pre => ∃ k, k ≤ L.length ∧ pre = List.range k) L.length w0 := by
  obtain ⟨v, a, b, xs, h1, h2, h3, h4, h5⟩ := hR.lies
  refine ⟨wordsOf xs, fun k => ?_, fun w0 hw0 l J Jx W hW hJ _ hY h0 => ?_⟩
  · unfold wordsOf
    rcases hk : L[k]? with _ | p
    · have hx : xs[k]? = none := by
        rw [List.getElem?_eq_none_iff] at hk ⊢
        have := h2.1
        omega
      rw [hx]
      exact ⟨is_zero, is_zero⟩
    · obtain ⟨x, hx, c, d, rfl, hc, hd⟩ := h5 k p hk
      rw [hx]
      exact ⟨hc, hd⟩
  · have hb : Below w.heap.size w W := hw0.trans (hW.mono hw0.size)
    have hs : w.heap.size ≤ W.heap.size := hb.size
    refine all_goes n hn l Bx g gb L (wordsOf xs) Ex J Jx hY W hJ (fun b hb => Nat.lt_of_lt_of_le (hEx b hb) hs) ((hb.cell (p := ⟨Bx, 0, none⟩) hlt).trans hBx) (hR.below hb) ?_ ?_ h0
    · intro k
      unfold wordsOf
      rcases hk : L[k]? with _ | p
      · have hx : xs[k]? = none := by
          rw [List.getElem?_eq_none_iff] at hk ⊢
          have := h2.1
          omega
        rw [hx]
        exact ⟨is_zero, is_zero⟩
      · obtain ⟨x, hx, c, d, rfl, hc, hd⟩ := h5 k p hk
        rw [hx]
        exact ⟨hc, hd⟩
    · intro v' a' b' xs' h1' h2' j hj
      have e1 : W.heap[g]? = w.heap[g]? := hb.block g h1.lt
      unfold Blk at h1 h1'
      rw [e1, h1] at h1'
      cases h1'
      have h2w : Sl W v gb 33 1 L.length xs := h2.same (fun k hk => hb.block k (h2.lt k hk))
      rw [← h2w.unique h2']
      obtain ⟨p, hp⟩ : ∃ p, L[j]? = some p := ⟨_, List.getElem?_eq_getElem hj⟩
      obtain ⟨x, hx, c, d, rfl, -, -⟩ := h5 j p hp
      unfold wordsOf
      rw [hx]
end Go.Proofs.Ytdkngocinimjdaa
