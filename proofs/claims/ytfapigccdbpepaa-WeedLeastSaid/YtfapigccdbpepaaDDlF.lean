/- THE CONTRACT of slices.DeleteFunc over records, with the closure of Thin: in place, in a slice of the call's own. -/
import Derived.Test.YtfapigccdbpepaaDIxF
import Derived.Test.YtfapigccdbpepaaGTot
import Derived.Lib.SliceRun
import Derived.Deep.RegionLaw
namespace Go.Proofs.Ytfapigccdbpepaa
open Go.RowKit

/-- clear of a slice in such a block: only its own cells are others. -/
theorem run_clear_sl {P : Program} (w : World) (t e ty : TypeId) (z : Value) (size : Nat) (ht : P.underlying t = some (.slice e)) (hv : ∀ w, (zeroValue e).run P w = .ok z w) (hz : z.cells.size = size) (hs0 : 0 < size) (h1 : ∀ u ∈ z.cells.toList, u.oneCell' = true)
    (g q n c : Nat) (cur : Array Value) (hg : w.heap[g]? = some (.cells cur e (0, 0))) (hfit : q + n * size ≤ cur.size) :
    ∃ w', (Builtin.clear_ #[t] ty #[.slice (some ⟨g, q, none⟩) n c]).run P w = .ok (.tuple #[]) w' ∧ w.grownBy w' (some g) ∧ ∃ cur', w'.heap[g]? = some (.cells cur' e (0, 0)) ∧ cur'.size = cur.size ∧ cur'.toList.take q = cur.toList.take q := by
  rcases Nat.eq_zero_or_pos n with rfl | hn
  · refine ⟨w, ?_, ⟨rfl, rfl, rfl, Nat.le_refl _, fun _ _ _ => rfl⟩, cur, hg, rfl, rfl⟩
    simp [Builtin.clear_, run_underlying ht]
  · have hzl : (Builtin.zeroCells z.cells n).toList.length = n * size := by
      rw [Array.length_toList, size_zeroCells, hz]
    have hz1 : ∀ u ∈ (Builtin.zeroCells z.cells n).toList, u.oneCell' = true := fun u hu => by
      unfold Builtin.zeroCells at hu
      rw [Array.mem_toList_iff, Array.mem_map] at hu
      obtain ⟨j, -, rfl⟩ := hu
      refine h1 _ ?_
      rw [getElem!_pos z.cells (j % z.cells.size) (Nat.mod_lt _ (by rw [hz]; exact hs0)), Array.mem_toList_iff]
      exact Array.getElem_mem _
    have hst := run_storeCells_at P g q e (Builtin.zeroCells z.cells n).toList 0 cur w hg (by rw [hzl]; simpa using hfit) hz1
    simp only [Nat.add_zero] at hst
    obtain ⟨zs, hzs⟩ : ∃ zs, (Builtin.zeroCells z.cells n).toList = zs := ⟨_, rfl⟩
    rw [hzs] at hzl hst
    obtain ⟨m, rfl⟩ : ∃ m, n = m + 1 := ⟨n - 1, by omega⟩
    refine ⟨w.setRow g (cur.toList.take q ++ zs ++ cur.toList.drop (q + zs.length)).toArray, ?_, ⟨rfl, rfl, rfl, by simp [World.setRow], fun j _ hj => setRow_other w g j _ (fun e => hj (by simp [e]))⟩, _, setRow_heap w g cur _ e _ hg, ?_, ?_⟩
    · simp [Builtin.clear_, run_underlying ht, hv, hzs, hst]
    · simp only [List.size_toArray, List.length_append, List.length_take, List.length_drop, Array.length_toList]
      omega
    · show List.take q (cur.toList.take q ++ zs ++ cur.toList.drop (q + zs.length)) = _
      have hq : (cur.toList.take q).length = q := by rw [List.length_take, Array.length_toList]; omega
      rw [List.append_assoc, List.take_append_of_le_length (by omega), List.take_take, Nat.min_self]
theorem take_nxt {α : Type} {l : List α} {i : Nat} {x : α} (h : l[i]? = some x) : l.take (i + 1) = l.take i ++ [x] := by rw [List.take_add_one, h]; rfl
theorem drop_nxt {α : Type} {l : List α} {i : Nat} {x : α} (h : l[i]? = some x) : l.drop i = x :: l.drop (i + 1) := by
  obtain ⟨hl, rfl⟩ := List.getElem?_eq_some_iff.1 h
  exact List.drop_eq_getElem_cons hl
theorem set4 (A C : List Value) (a0 a1 a2 a3 u0 u1 u2 u3 : Value) :
    ((((A ++ [a0, a1, a2, a3] ++ C).set A.length u0).set (A.length + 1) u1).set (A.length + 2) u2).set (A.length + 3) u3 = A ++ [u0, u1, u2, u3] ++ C := by
  simp
theorem Sl.set4 {w : World} {g p cap e n k : Nat} {A C : List Value} {a0 a1 a2 a3 : Value} (h : Sl w (.slice (some ⟨g, p, none⟩) n cap) (some g) e 4 n (A ++ [a0, a1, a2, a3] ++ C)) (hA : A.length = k * 4) (u0 u1 u2 u3 : Value) :
    Sl ((((w.setCell ⟨g, p + k * 4, none⟩ u0).setCell ⟨g, p + k * 4 + 1, none⟩ u1).setCell ⟨g, p + k * 4 + 2, none⟩ u2).setCell ⟨g, p + k * 4 + 3, none⟩ u3)
      (.slice (some ⟨g, p, none⟩) n cap) (some g) e 4 n (A ++ [u0, u1, u2, u3] ++ C) := by
  have hl := h.1
  simp only [List.length_append, List.length_cons, List.length_nil] at hl
  have := (((h.set (j := k * 4) (by omega) u0).set (j := k * 4 + 1) (by omega) u1).set (j := k * 4 + 2) (by omega) u2).set (j := k * 4 + 3) (by omega) u3
  rw [← hA, Go.Proofs.Ytfapigccdbpepaa.set4, hA] at this
  simp only [← Nat.add_assoc] at this
  exact this
theorem Sl.cur {w : World} {g p cap e size n : Nat} {xs : List Value} (h : Sl w (.slice (some ⟨g, p, none⟩) n cap) (some g) e size n xs) :
    ∃ cur : Array Value, w.heap[g]? = some (.cells cur e (0, 0)) ∧ n ≤ cap ∧ p + cap * size ≤ cur.size ∧ (cur.toList.drop p).take (n * size) = xs := by
  rcases h.2 with ⟨e1, _⟩ | ⟨g', p', cap', cur, e1, e2, hg, hc, hcs, ht⟩
  · cases e1
  · cases e1
    injection e2 with e3 e4 e5
    injection e3 with e3
    injection e3 with e6 e7
    subst e7 e5
    exact ⟨cur, hg, hc, hcs, ht⟩
theorem grown_below {w w1 w2 : World} {r : Option Nat} (h : w.grownBy w1 r) (b : Below w1.heap.size w1 w2) : w.grownBy w2 r :=
  ⟨b.os.trans h.os, b.tape.trans h.tape, b.output.trans h.output, Nat.le_trans h.size b.size, fun k hk hn => (b.block k (Nat.lt_of_lt_of_le hk h.size)).trans (h.block k hk hn)⟩
theorem grown_set {w w1 : World} {g i : Nat} (h : w.grownBy w1 (some g)) (v : Value) : w.grownBy (w1.setCell ⟨g, i, none⟩ v) (some g) :=
  ⟨h.os, h.tape, h.output, by have := h.size; simpa [World.setCell] using this, fun k hk hn => (Below.heap_setCell _ _ _ _ (fun e => hn (by rw [e]))).trans (h.block k hk hn)⟩
theorem grown_trans {w w1 w2 : World} {r : Option Nat} (h : w.grownBy w1 r) (b : w1.grownBy w2 r) : w.grownBy w2 r :=
  ⟨b.os.trans h.os, b.tape.trans h.tape, b.output.trans h.output, Nat.le_trans h.size b.size, fun k hk hn => (b.block k (Nat.lt_of_lt_of_le hk h.size) hn).trans (h.block k hk hn)⟩
theorem zeroRc (w : World) : (zeroValue 44).run Try.prog w = .ok (.agg zeroR) w := by kernel_rfl
/-- How far DeleteFunc is. -/
structure DlF (kp : Pl.Rc → Bool) (L : List Pl.Rc) (w : World) (g p cap : Nat) (n m : Nat) (wr : World) : Prop where
  lt : n < m
  le : m ≤ L.length
  cnt : ((L.take m).filter fun x => kp x).length = n
  sl : ∃ M : List Value, M.length = (m - n) * 4 ∧ Sl wr (.slice (some ⟨g, p, none⟩) L.length cap) (some g) 44 4 L.length (((L.take m).filter fun x => kp x).flatMap cells4 ++ M ++ (L.drop m).flatMap cells4)
  gr : w.grownBy wr (some g)
section
variable {kp : Pl.Rc → Bool} {L : List Pl.Rc} {w wr w2 : World} {g p cap n m : Nat} {y : Pl.Rc}
theorem DlF.cell (h : DlF kp L w g p cap n m wr) (hy : L[m]? = some y) {i : Nat} {u : Value} (hi : i < 4) (hu : (cells4 y)[i]? = some u) : wr.cell? ⟨g, p + m * 4 + i, none⟩ = some u := by
  obtain ⟨M, hM, hs⟩ := h.sl
  have h1 := h.lt
  have h2 := hs.cell rfl (m * 4 + i) u (by
    have e : (((L.take m).filter fun x => kp x).flatMap cells4 ++ M).length = m * 4 := by rw [List.length_append, flat4_len, h.cnt, hM]; omega
    rw [List.getElem?_append_right (by omega), e, Nat.add_sub_cancel_left, drop_nxt hy, List.flatMap_cons, List.getElem?_append_left (by show i < 4; exact hi)]
    exact hu)
  rw [← Nat.add_assoc] at h2
  exact h2
theorem DlF.old (h : DlF kp L w g p cap n m wr) (i : Nat) (hi : i < 4) : ∃ u, wr.cell? ⟨g, p + n * 4 + i, none⟩ = some u := by
  obtain ⟨M, hM, hs⟩ := h.sl
  have h1 := h.lt
  have h2 := h.le
  have hl := hs.1
  have h3 := hs.cell rfl (n * 4 + i) _ (List.getElem?_eq_getElem (by omega))
  rw [← Nat.add_assoc] at h3
  exact ⟨_, h3⟩
theorem DlF.skip (h : DlF kp L w g p cap n m wr) (hy : L[m]? = some y) (hn : kp y = false) (b : Below wr.heap.size wr w2) : DlF kp L w g p cap n (m + 1) w2 := by
  obtain ⟨M, hM, hs⟩ := h.sl
  have hm := (List.getElem?_eq_some_iff.1 hy).1
  have h1 := h.lt
  have e : (L.take (m + 1)).filter (fun x => kp x) = (L.take m).filter (fun x => kp x) := by
    rw [take_nxt hy, List.filter_append, List.filter_cons, if_neg (by simpa using hn), List.filter_nil, List.append_nil]
  refine ⟨by omega, hm, by rw [e]; exact h.cnt, ⟨M ++ cells4 y, by rw [List.length_append, hM]; show _ + 4 = _; omega, ?_⟩, grown_below h.gr b⟩
  rw [e]
  rw [drop_nxt hy, List.flatMap_cons] at hs
  have := hs.below b
  simpa [List.append_assoc] using this
theorem DlF.keep (h : DlF kp L w g p cap n m wr) (hy : L[m]? = some y) (hn : kp y = true) (b : Below wr.heap.size wr w2) :
    DlF kp L w g p cap (n + 1) (m + 1) ((((w2.setCell ⟨g, p + n * 4, none⟩ (.int .i64 y.off)).setCell ⟨g, p + n * 4 + 1, none⟩ (.string ⟨y.key.toArray⟩)).setCell ⟨g, p + n * 4 + 2, none⟩ (.string ⟨y.val.toArray⟩)).setCell ⟨g, p + n * 4 + 3, none⟩ (.bool y.gone)) := by
  obtain ⟨M, hM, hs⟩ := h.sl
  have hm := (List.getElem?_eq_some_iff.1 hy).1
  have h1 := h.lt
  have e : (L.take (m + 1)).filter (fun x => kp x) = (L.take m).filter (fun x => kp x) ++ [y] := by
    rw [take_nxt hy, List.filter_append, List.filter_cons, if_pos (by simpa using hn), List.filter_nil]
  have hMl : 4 ≤ M.length := by rw [hM]; omega
  obtain ⟨a0, a1, a2, a3, M', rfl⟩ : ∃ a0 a1 a2 a3 M', M = a0 :: a1 :: a2 :: a3 :: M' := by
    match M, hMl with
    | a0 :: a1 :: a2 :: a3 :: M', _ => exact ⟨a0, a1, a2, a3, M', rfl⟩
  refine ⟨by omega, hm, by rw [e, List.length_append, h.cnt]; rfl, ⟨M' ++ cells4 y, by rw [List.length_append]; simp only [List.length_cons] at hM; show _ + 4 = _; omega, ?_⟩, grown_set (grown_set (grown_set (grown_set (grown_below h.gr b) _) _) _) _⟩
  rw [e]
  rw [drop_nxt hy, List.flatMap_cons] at hs
  have hs2 := hs.below b
  rw [show (List.filter (fun x => kp x) (L.take m)).flatMap cells4 ++ (a0 :: a1 :: a2 :: a3 :: M') ++ (cells4 y ++ (L.drop (m + 1)).flatMap cells4) = (List.filter (fun x => kp x) (L.take m)).flatMap cells4 ++ [a0, a1, a2, a3] ++ (M' ++ (cells4 y ++ (L.drop (m + 1)).flatMap cells4)) by simp] at hs2
  have := hs2.set4 (k := n) (by rw [flat4_len, h.cnt]) (.int .i64 y.off) (.string ⟨y.key.toArray⟩) (.string ⟨y.val.toArray⟩) (.bool y.gone)
  rw [List.flatMap_append]
  simpa [List.append_assoc, cells4] using this
theorem DlF.done (h : DlF kp L w g p cap n L.length wr) {cur' : Array Value} {cur : Array Value} (hcu : wr.heap[g]? = some (.cells cur 44 (0, 0))) (hg : wr.grownBy w2 (some g)) (h5 : w2.heap[g]? = some (.cells cur' 44 (0, 0))) (_h6 : cur'.size = cur.size) (h7 : cur'.toList.take (p + n * 4) = cur.toList.take (p + n * 4)) :
    RcIn (fun b => b = g) w2 (.slice (some ⟨g, p, none⟩) n cap) (L.filter fun x => kp x) ∧ w.grownBy w2 (some g) := by
  obtain ⟨M, hM, hs⟩ := h.sl
  have hcnt := h.cnt
  rw [List.take_length] at hs hcnt
  refine ⟨⟨by rw [flat4_len], .inr ⟨_, cap, by rw [hcnt], fun _ => ⟨g, p, rfl, rfl, ?_, fun j x hj => ?_⟩⟩⟩, grown_trans h.gr hg⟩
  · exact (Array.getElem?_eq_some_iff.1 h5).1
  · obtain ⟨cur0, hg0, hc, hcs, ht⟩ := hs.cur
    rw [hg0] at hcu
    injection hcu with hcu
    injection hcu with hcu
    subst hcu
    have hjl := (List.getElem?_eq_some_iff.1 hj).1
    rw [flat4_len, hcnt] at hjl
    rw [cell_of_row _ _ _ _ _ _ h5]
    have e1 : cur'.toList[p + j]? = cur0.toList[p + j]? := by
      have := congrArg (fun t : List Value => t[p + j]?) h7
      simpa [List.getElem?_take, show p + j < p + n * 4 by omega] using this
    have e2 : cur0.toList[p + j]? = some x := by
      have := congrArg (fun t : List Value => t[j]?) ht
      have hL := h.lt
      simp only [List.getElem?_take, List.getElem?_drop, if_pos (show j < L.length * 4 by omega)] at this
      rw [this, List.append_assoc, List.getElem?_append_left (by rw [flat4_len, hcnt]; omega)]
      exact hj
    rw [← Array.getElem?_toList, e1, e2]
end
set_option maxHeartbeats 2000000 in
set_option maxRecDepth 100000 in
theorem delF_any (bh bm bt : Nat) (v : Value) (gb : Option Nat) (kp : Pl.Rc → Bool) (L : List Pl.Rc) (w : World) (hcl : ∀ x ∈ L, ∀ wx, w.grownBy wx gb → Calls Try.prog 27 #[.agg #[.int .i64 x.off, .string ⟨x.key.toArray⟩, .string ⟨x.val.toArray⟩, .bool x.gone], .pointer (some ⟨bh, 0, none⟩), .pointer (some ⟨bm, 0, none⟩), .pointer (some ⟨bt, 0, none⟩)] wx fun e w' => e = .returned (.bool (!kp x)) ∧ Below wx.heap.size wx w') (hv : Sl w v gb 44 4 L.length (L.flatMap cells4)) (hL : L.length ≤ 1048576) :
    Calls Try.prog 26 #[v, .func (.func 27) #[] #[.pointer (some ⟨bh, 0, none⟩), .pointer (some ⟨bm, 0, none⟩), .pointer (some ⟨bt, 0, none⟩)]] w fun e w' => ∃ v', e = .returned v' ∧ RcIn (fun b => gb = some b) w' v' (L.filter fun x => kp x) ∧ w.grownBy w' gb := by
  have HIX := Lib.hid (indexF_any bh bm bt v kp L w (fun x hx wx hb => hcl x hx wx (grown_below (World.grownBy.refl _ _) hb)) (Rds.of_sl hv (A := fun _ => True) fun _ _ => trivial) hL)
  have HMI := Lib.hid hcl
  obtain ⟨va, vc, rfl⟩ := hv.form
  obtain ⟨N, hN⟩ : ∃ n, L.length = n := ⟨_, rfl⟩
  have HN := Lib.hid hN
  have HV := Lib.hid hv
  rw [hN] at hL HIX ⊢
  clear hcl hv hN
  go_enter Try.func26, Try.ntmps26
  go_wp2_with fail
  refine HIX.out.mono ?_
  rintro e w1 ⟨i, rfl, hfo, hb1⟩
  have HB1 := Lib.hid hb1
  clear hb1 HIX
  rcases hfo with ⟨rfl, hall⟩ | ⟨k, rfl, hk, hbef, hat⟩
  · have HF : Hid (RcIn (fun b => gb = some b) w1 (.slice va N vc) (L.filter fun x => kp x) ∧ w.grownBy w1 gb) := Lib.hid ⟨by
      rw [List.filter_eq_self.2 fun x hx => by simpa using hall x hx]
      have := (Rds.of_sl (A := fun b => gb = some b) (HV.out.below HB1.out) fun _ h => h)
      rw [← HN.out]
      exact this, grown_below (World.grownBy.refl _ _) HB1.out⟩
    clear hall
    go_wp2_with fail
    go_ret
    exact ⟨_, rfl, HF.out⟩
  · rw [HN.out] at hk
    obtain ⟨y0, hy0⟩ : ∃ y, L[k]? = some y := ⟨_, List.getElem?_eq_getElem (by rw [HN.out]; exact hk)⟩
    obtain ⟨g, p, rfl, rfl⟩ : ∃ g p, va = some ⟨g, p, none⟩ ∧ gb = some g := by
      rcases HV.out.2 with ⟨-, -, h⟩ | ⟨g, p, c, cur, e1, e2, -⟩
      · rw [HN.out] at h; omega
      · injection e2 with e3
        exact ⟨g, p, e3, e1⟩
    have hneg : ((k : Int) == (-1 : Int)) = false := beq_eq_false_iff_ne.2 (by omega)
    have HST : Hid (DlF kp L w g p vc k (k + 1) w1) := Lib.hid (by
      have e : (L.take (k + 1)).filter (fun x => kp x) = L.take k := by
        rw [take_nxt hy0, List.filter_append, List.filter_cons, if_neg (by simpa using hat y0 hy0), List.filter_nil, List.append_nil]
        refine List.filter_eq_self.2 fun x hx => ?_
        obtain ⟨j, hj⟩ := List.getElem?_of_mem hx
        have hjl := (List.getElem?_eq_some_iff.1 hj).1
        rw [List.length_take] at hjl
        rw [List.getElem?_take_of_lt (by omega)] at hj
        simpa using hbef j x (by omega) hj
      refine ⟨by omega, by rw [HN.out]; omega, by rw [e, List.length_take, HN.out]; omega, ⟨cells4 y0, by rw [show (cells4 y0).length = 4 from rfl]; omega, ?_⟩, grown_below (World.grownBy.refl _ _) HB1.out⟩
      rw [e]
      have h2 : L.flatMap cells4 = (L.take k).flatMap cells4 ++ cells4 y0 ++ (L.drop (k + 1)).flatMap cells4 := by
        conv => lhs; rw [← List.take_append_drop k L, drop_nxt hy0]
        simp
      have h3 := HV.out.below HB1.out
      rw [h2] at h3
      exact h3)
    clear hbef hat hy0
    go_wp2_with fail
    go_loopw [5, 6] (fun iv jv wr => ∃ n m : Nat, iv = .int .i64 n ∧ jv = .int .i64 m ∧ DlF kp L w g p vc n m wr) (fun _ jv _ => N - (intOf jv).toNat)
    case atStart => exact ⟨k, k + 1, rfl, by go_num, HST.out⟩
    case round =>
      obtain ⟨n, m, rfl, rfl, hd⟩ := hrel
      have HD := Lib.hid hd
      clear hd HST
      have hnm := HD.out.lt
      have hmN : m ≤ N := by have := HD.out.le; rwa [HN.out] at this
      by_cases hlt : m < N
      · have hdk : decide ((m : Int) < (N : Int)) = true := by simp; omega
        obtain ⟨y, hy⟩ : ∃ y, L[m]? = some y := ⟨_, List.getElem?_eq_getElem (by rw [HN.out]; exact hlt)⟩
        have c0 : wr.cell? ⟨g, p + m * 4, none⟩ = some (.int .i64 y.off) := HD.out.cell hy (i := 0) (by decide) rfl
        have c1 : wr.cell? ⟨g, p + m * 4 + 1, none⟩ = some (.string ⟨y.key.toArray⟩) := HD.out.cell hy (i := 1) (by decide) rfl
        have c2 : wr.cell? ⟨g, p + m * 4 + 2, none⟩ = some (.string ⟨y.val.toArray⟩) := HD.out.cell hy (i := 2) (by decide) rfl
        have c3 : wr.cell? ⟨g, p + m * 4 + 3, none⟩ = some (.bool y.gone) := HD.out.cell hy (i := 3) (by decide) rfl
        have m0 : (0 : Int) ≤ (m : Int) := by omega
        have m1 : (m : Int) < (N : Int) := by omega
        have n0 : (0 : Int) ≤ (n : Int) := by omega
        have n1 : (n : Int) < (N : Int) := by omega
        have HY := Lib.hid hy
        obtain ⟨M0, -, hs0⟩ := HD.out.sl
        have hz0 : ∀ o, wr.frozen? ⟨g, o, none⟩ = false := fun o => hs0.frozen rfl o
        have HZ0 := Lib.hid (And.intro hz0 (hs0.lt g rfl))
        obtain ⟨o0, ho0⟩ := HD.out.old 0 (by decide)
        obtain ⟨o1, ho1⟩ := HD.out.old 1 (by decide)
        obtain ⟨o2, ho2⟩ := HD.out.old 2 (by decide)
        obtain ⟨o3, ho3⟩ := HD.out.old 3 (by decide)
        have HO := Lib.hid (And.intro ho0 (And.intro ho1 (And.intro ho2 ho3)))
        clear hz0 hs0 ho0 ho1 ho2 ho3
        obtain ⟨W1, hW1⟩ : ∃ V, wr.alloc (.cells #[.int .i64 y.off, .string ⟨y.key.toArray⟩, .string ⟨y.val.toArray⟩, .bool y.gone] 44) = V := ⟨_, rfl⟩
        have hb1 : Below wr.heap.size wr W1 := by rw [← hW1]; exact (Below.refl _ _).alloc (Nat.le_refl _) _
        have hk1 : Blk W1 wr.heap.size #[.int .i64 y.off, .string ⟨y.key.toArray⟩, .string ⟨y.val.toArray⟩, .bool y.gone] 44 := by rw [← hW1]; exact Blk.new _ _ _
        have x0 : W1.cell? ⟨wr.heap.size, 0, none⟩ = some (.int .i64 y.off) := hk1.cell rfl
        have x1 : W1.cell? ⟨wr.heap.size, 1, none⟩ = some (.string ⟨y.key.toArray⟩) := hk1.cell rfl
        have x2 : W1.cell? ⟨wr.heap.size, 2, none⟩ = some (.string ⟨y.val.toArray⟩) := hk1.cell rfl
        have x3 : W1.cell? ⟨wr.heap.size, 3, none⟩ = some (.bool y.gone) := hk1.cell rfl
        have HCM := Lib.hid (HMI.out y (List.mem_of_getElem? HY.out) W1 (grown_below HD.out.gr hb1))
        have HBB := Lib.hid hb1
        have HK1 := Lib.hid hk1
        have HW1 := Lib.hid hW1
        obtain ⟨q, hq⟩ : ∃ q, (!kp y) = q := ⟨_, rfl⟩
        have HQ := Lib.hid hq
        rw [hq] at HCM
        clear hb1 hk1 hW1 hy hq
        go_wp2_with fail
        rw [HW1.out]
        go_wp2_with fail
        refine HCM.out.mono ?_
        rintro e w2 ⟨rfl, hb2⟩
        have HB2 := Lib.hid (HBB.out.trans (hb2.mono HBB.out.size))
        have hk2 := HK1.out.below hb2
        have z0 : w2.cell? ⟨wr.heap.size, 0, none⟩ = some (.int .i64 y.off) := hk2.cell rfl
        have z1 : w2.cell? ⟨wr.heap.size, 1, none⟩ = some (.string ⟨y.key.toArray⟩) := hk2.cell rfl
        have z2 : w2.cell? ⟨wr.heap.size, 2, none⟩ = some (.string ⟨y.val.toArray⟩) := hk2.cell rfl
        have z3 : w2.cell? ⟨wr.heap.size, 3, none⟩ = some (.bool y.gone) := hk2.cell rfl
        have fz : ∀ o, w2.frozen? ⟨g, o, none⟩ = false := fun o => (HB2.out.frozen (p := ⟨g, o, none⟩) HZ0.out.2).trans (HZ0.out.1 o)
        have r0 : w2.cell? ⟨g, p + n * 4, none⟩ = some o0 := (HB2.out.cell (p := ⟨g, _, none⟩) HZ0.out.2).trans HO.out.1
        have r1 : w2.cell? ⟨g, p + n * 4 + 1, none⟩ = some o1 := (HB2.out.cell (p := ⟨g, _, none⟩) HZ0.out.2).trans HO.out.2.1
        have r2 : w2.cell? ⟨g, p + n * 4 + 2, none⟩ = some o2 := (HB2.out.cell (p := ⟨g, _, none⟩) HZ0.out.2).trans HO.out.2.2.1
        have r3 : w2.cell? ⟨g, p + n * 4 + 3, none⟩ = some o3 := (HB2.out.cell (p := ⟨g, _, none⟩) HZ0.out.2).trans HO.out.2.2.2
        clear hb2 hk2
        cases q with
        | true =>
          have he : kp y = false := by have := HQ.out; simpa using this
          have HF := Lib.hid (HD.out.skip HY.out he HB2.out)
          clear he
          go_wp2_with fail
          go_roundw
          case rel => exact ⟨n, m + 1, rfl, by go_num, HF.out⟩
          case measure => simp [intOf]; omega
        | false =>
          have he : kp y = true := by have := HQ.out; simpa using this
          have HF := Lib.hid (HD.out.keep HY.out he HB2.out)
          clear he
          go_wp2_with fail
          go_roundw
          case rel => exact ⟨n + 1, m + 1, by go_num, by go_num, HF.out⟩
          case measure => simp [intOf]; omega
      · have hdk : decide ((m : Int) < (N : Int)) = false := by simp; omega
        obtain rfl : m = N := by omega
        obtain ⟨M, -, hs⟩ := HD.out.sl
        obtain ⟨cur, hcu, hNc, hcs, -⟩ := hs.cur
        rw [HN.out] at hNc
        have hnm' : n ≤ m := by omega
        have hnc : n ≤ vc := by omega
        obtain ⟨w2, hcl, hg2, cur', hcu2, hcs2, hct2⟩ := run_clear_sl (P := Try.prog) wr 30 44 0 (.agg zeroR) 4 Try.underlying30 zeroRc rfl (by decide) (by simp [Value.oneCell', Value.cells, zeroR]) g (p + n * 4) (m - n) (vc - n) cur hcu (by omega)
        have HRES : Hid (RcIn (fun b => some g = some b) w2 (.slice (some ⟨g, p, none⟩) n vc) (L.filter fun x => kp x) ∧ w.grownBy w2 (some g)) := Lib.hid (by
          have hd := HD.out
          rw [← HN.out] at hd
          obtain ⟨h1, h2⟩ := hd.done hcu hg2 hcu2 hcs2 hct2
          exact ⟨Rds.mono h1 fun b hb => by rw [hb], h2⟩)
        clear hg2 hcu2 hcs2 hct2 hs hcu hcs
        go_wp2_with fail
        go_ret
        exact ⟨_, rfl, HRES.out⟩
end Go.Proofs.Ytfapigccdbpepaa
