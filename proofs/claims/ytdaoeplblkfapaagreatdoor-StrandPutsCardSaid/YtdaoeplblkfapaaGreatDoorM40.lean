import Derived.Test.YtdaoeplblkfapaaGreatDoorM39
import Derived.Test.YtdaoeplblkfapaaGreatDoorM17
import Derived.Test.YtdaoeplblkfapaaGreatDoorM31

/- THE CONTRACT of slices.DeleteFunc over records, with the closure of lessened: in place, in a slice of the call's own. -/
namespace Go.Proofs.YtdaoeplblkfapaaGreatDoor
open Go.RowKit

theorem take_nxt {α : Type} {l : List α} {i : Nat} {x : α} (h : l[i]? = some x) : l.take (i + 1) = l.take i ++ [x] := by rw [List.take_add_one, h]; rfl
theorem drop_nxt {α : Type} {l : List α} {i : Nat} {x : α} (h : l[i]? = some x) : l.drop i = x :: l.drop (i + 1) := by
  obtain ⟨hl, rfl⟩ := List.getElem?_eq_some_iff.1 h
  exact List.drop_eq_getElem_cons hl
theorem set4 (A C : List Value) (a0 a1 a2 a3 u0 u1 u2 u3 : Value) :
    ((((A ++ [a0, a1, a2, a3] ++ C).set A.length u0).set (A.length + 1) u1).set (A.length + 2) u2).set (A.length + 3) u3 = A ++ [u0, u1, u2, u3] ++ C := by
  simp
theorem Sl.set4 {w : World} {g p cap e n k : Nat} {A C : List Value} {a0 a1 a2 a3 : Value} (h : Sl w (.slice (some ⟨g, p, none⟩) n cap) (some g) e 4 n (A ++ [a0, a1, a2, a3] ++ C)) (hA : A.length = k * 4) (u0 u1 u2 u3 : Value) :
    Sl ((((w.setCell ⟨g, p + k * 4, none⟩ u0).setCell ⟨g, p + k * 4 + 1, none⟩ u1).setCell ⟨g, p + k * 4 + 2, none⟩ u2).setCell ⟨g, p + k * 4 + 3, none⟩ u3)
      (.slice (some ⟨g, p, none⟩) n cap) (some g) e 4 n (A ++ [u0, u1, u2, u3] ++ C) := by
  have hl := h.1
  simp only [List.length_append, List.length_cons, List.length_nil] at hl
  have := (((h.set (j := k * 4) (by omega) u0).set (j := k * 4 + 1) (by omega) u1).set (j := k * 4 + 2) (by omega) u2).set (j := k * 4 + 3) (by omega) u3
  rw [← hA, Go.Proofs.YtdaoeplblkfapaaGreatDoor.set4, hA] at this
  simp only [← Nat.add_assoc] at this
  exact this
theorem Sl.cur {w : World} {g p cap e size n : Nat} {xs : List Value} (h : Sl w (.slice (some ⟨g, p, none⟩) n cap) (some g) e size n xs) :
    ∃ cur : Array Value, w.heap[g]? = some (.cells cur e (0, 0)) ∧ n ≤ cap ∧ p + cap * size ≤ cur.size ∧ (cur.toList.drop p).take (n * size) = xs := by
  rcases h.2 with ⟨e1, _⟩ | ⟨g', p', cap', cur, e1, e2, hg, hc, hcs, ht⟩
  · cases e1
  · cases e1
    injection e2 with e3 e4 e5
    injection e3 with e3
    injection e3 with e6 e7
    subst e7 e5
    exact ⟨cur, hg, hc, hcs, ht⟩
theorem grown_below {w w1 w2 : World} {r : Option Nat} (h : w.grownBy w1 r) (b : Below w1.heap.size w1 w2) : w.grownBy w2 r :=
  ⟨b.os.trans h.os, b.tape.trans h.tape, b.output.trans h.output, Nat.le_trans h.size b.size, fun k hk hn => (b.block k (Nat.lt_of_lt_of_le hk h.size)).trans (h.block k hk hn)⟩
theorem grown_set {w w1 : World} {g i : Nat} (h : w.grownBy w1 (some g)) (v : Value) : w.grownBy (w1.setCell ⟨g, i, none⟩ v) (some g) :=
  ⟨h.os, h.tape, h.output, by have := h.size; simpa [World.setCell] using this, fun k hk hn => (Below.heap_setCell _ _ _ _ (fun e => hn (by rw [e]))).trans (h.block k hk hn)⟩
theorem grown_trans {w w1 w2 : World} {r : Option Nat} (h : w.grownBy w1 r) (b : w1.grownBy w2 r) : w.grownBy w2 r :=
  ⟨b.os.trans h.os, b.tape.trans h.tape, b.output.trans h.output, Nat.le_trans h.size b.size, fun k hk hn => (b.block k (Nat.lt_of_lt_of_le hk h.size) hn).trans (h.block k hk hn)⟩
theorem zeroRc (w : World) : (zeroValue 75).run Tryz.prog w = .ok (.agg zeroR) w := by kernel_rfl
/-- How far DeleteFunc is. -/
structure DlF (l L : List Pl.Rc) (w : World) (g p cap : Nat) (n m : Nat) (wr : World) : Prop where
  lt : n < m
  le : m ≤ L.length
  cnt : ((L.take m).filter fun x => decide (x ∈ l)).length = n
  sl : ∃ M : List Value, M.length = (m - n) * 4 ∧ Sl wr (.slice (some ⟨g, p, none⟩) L.length cap) (some g) 75 4 L.length (((L.take m).filter fun x => decide (x ∈ l)).flatMap cells4 ++ M ++ (L.drop m).flatMap cells4)
  gr : w.grownBy wr (some g)
section
variable {l L : List Pl.Rc} {w wr w2 : World} {g p cap n m : Nat} {y : Pl.Rc}
theorem DlF.cell (h : DlF l L w g p cap n m wr) (hy : L[m]? = some y) {i : Nat} {u : Value} (hi : i < 4) (hu : (cells4 y)[i]? = some u) : wr.cell? ⟨g, p + m * 4 + i, none⟩ = some u := by
  obtain ⟨M, hM, hs⟩ := h.sl
  have h1 := h.lt
  have h2 := hs.cell rfl (m * 4 + i) u (by
    have e : (((L.take m).filter fun x => decide (x ∈ l)).flatMap cells4 ++ M).length = m * 4 := by rw [List.length_append, flat4_len, h.cnt, hM]; omega
    rw [List.getElem?_append_right (by omega), e, Nat.add_sub_cancel_left, drop_nxt hy, List.flatMap_cons, List.getElem?_append_left (by show i < 4; exact hi)]
    exact hu)
  rw [← Nat.add_assoc] at h2
  exact h2
theorem DlF.old (h : DlF l L w g p cap n m wr) (i : Nat) (hi : i < 4) : ∃ u, wr.cell? ⟨g, p + n * 4 + i, none⟩ = some u := by
  obtain ⟨M, hM, hs⟩ := h.sl
  have h1 := h.lt
  have h2 := h.le
  have hl := hs.1
  have h3 := hs.cell rfl (n * 4 + i) _ (List.getElem?_eq_getElem (by omega))
  rw [← Nat.add_assoc] at h3
  exact ⟨_, h3⟩
theorem DlF.skip (h : DlF l L w g p cap n m wr) (hy : L[m]? = some y) (hn : y ∉ l) (b : Below wr.heap.size wr w2) : DlF l L w g p cap n (m + 1) w2 := by
  obtain ⟨M, hM, hs⟩ := h.sl
  have hm := (List.getElem?_eq_some_iff.1 hy).1
  have h1 := h.lt
  have e : (L.take (m + 1)).filter (fun x => decide (x ∈ l)) = (L.take m).filter (fun x => decide (x ∈ l)) := by
    rw [take_nxt hy, List.filter_append, List.filter_cons, if_neg (by simpa using hn), List.filter_nil, List.append_nil]
  refine ⟨by omega, hm, by rw [e]; exact h.cnt, ⟨M ++ cells4 y, by rw [List.length_append, hM]; show _ + 4 = _; omega, ?_⟩, grown_below h.gr b⟩
  rw [e]
  rw [drop_nxt hy, List.flatMap_cons] at hs
  have := hs.below b
  simpa [List.append_assoc] using this
theorem DlF.keep (h : DlF l L w g p cap n m wr) (hy : L[m]? = some y) (hn : y ∈ l) (b : Below wr.heap.size wr w2) :
    DlF l L w g p cap (n + 1) (m + 1) ((((w2.setCell ⟨g, p + n * 4, none⟩ (.int .i64 y.off)).setCell ⟨g, p + n * 4 + 1, none⟩ (.string ⟨y.key.toArray⟩)).setCell ⟨g, p + n * 4 + 2, none⟩ (.string ⟨y.val.toArray⟩)).setCell ⟨g, p + n * 4 + 3, none⟩ (.bool y.gone)) := by
  obtain ⟨M, hM, hs⟩ := h.sl
  have hm := (List.getElem?_eq_some_iff.1 hy).1
  have h1 := h.lt
  have e : (L.take (m + 1)).filter (fun x => decide (x ∈ l)) = (L.take m).filter (fun x => decide (x ∈ l)) ++ [y] := by
    rw [take_nxt hy, List.filter_append, List.filter_cons, if_pos (by simpa using hn), List.filter_nil]
  have hMl : 4 ≤ M.length := by rw [hM]; omega
  obtain ⟨a0, a1, a2, a3, M', rfl⟩ : ∃ a0 a1 a2 a3 M', M = a0 :: a1 :: a2 :: a3 :: M' := by
    match M, hMl with
    | a0 :: a1 :: a2 :: a3 :: M', _ => exact ⟨a0, a1, a2, a3, M', rfl⟩
  refine ⟨by omega, hm, by rw [e, List.length_append, h.cnt]; rfl, ⟨M' ++ cells4 y, by rw [List.length_append]; simp only [List.length_cons] at hM; show _ + 4 = _; omega, ?_⟩, grown_set (grown_set (grown_set (grown_set (grown_below h.gr b) _) _) _) _⟩
  rw [e]
  rw [drop_nxt hy, List.flatMap_cons] at hs
  have hs2 := hs.below b
  rw [show (List.filter (fun x => decide (x ∈ l)) (L.take m)).flatMap cells4 ++ (a0 :: a1 :: a2 :: a3 :: M') ++ (cells4 y ++ (L.drop (m + 1)).flatMap cells4) = (List.filter (fun x => decide (x ∈ l)) (L.take m)).flatMap cells4 ++ [a0, a1, a2, a3] ++ (M' ++ (cells4 y ++ (L.drop (m + 1)).flatMap cells4)) by simp] at hs2
  have := hs2.set4 (k := n) (by rw [flat4_len, h.cnt]) (.int .i64 y.off) (.string ⟨y.key.toArray⟩) (.string ⟨y.val.toArray⟩) (.bool y.gone)
  rw [List.flatMap_append]
  simpa [List.append_assoc, cells4] using this
theorem DlF.done (h : DlF l L w g p cap n L.length wr) {cur' : Array Value} {cur : Array Value} (hcu : wr.heap[g]? = some (.cells cur 75 (0, 0))) (hg : wr.grownBy w2 (some g)) (h5 : w2.heap[g]? = some (.cells cur' 75 (0, 0))) (_h6 : cur'.size = cur.size) (h7 : cur'.toList.take (p + n * 4) = cur.toList.take (p + n * 4)) :
    RcIn (fun b => b = g) w2 (.slice (some ⟨g, p, none⟩) n cap) (L.filter fun x => decide (x ∈ l)) ∧ w.grownBy w2 (some g) := by
  obtain ⟨M, hM, hs⟩ := h.sl
  have hcnt := h.cnt
  rw [List.take_length] at hs hcnt
  refine ⟨⟨by rw [flat4_len], .inr ⟨_, cap, by rw [hcnt], fun _ => ⟨g, p, rfl, rfl, ?_, fun j x hj => ?_⟩⟩⟩, grown_trans h.gr hg⟩
  · exact (Array.getElem?_eq_some_iff.1 h5).1
  · obtain ⟨cur0, hg0, hc, hcs, ht⟩ := hs.cur
    rw [hg0] at hcu
    injection hcu with hcu
    injection hcu with hcu
    subst hcu
    have hjl := (List.getElem?_eq_some_iff.1 hj).1
    rw [flat4_len, hcnt] at hjl
    rw [cell_of_row _ _ _ _ _ _ h5]
    have e1 : cur'.toList[p + j]? = cur0.toList[p + j]? := by
      have := congrArg (fun t : List Value => t[p + j]?) h7
      simpa [List.getElem?_take, show p + j < p + n * 4 by omega] using this
    have e2 : cur0.toList[p + j]? = some x := by
      have := congrArg (fun t : List Value => t[j]?) ht
      have hL := h.lt
      simp only [List.getElem?_take, List.getElem?_drop, if_pos (show j < L.length * 4 by omega)] at this
      rw [this, List.append_assoc, List.getElem?_append_left (by rw [flat4_len, hcnt]; omega)]
      exact hj
    rw [← Array.getElem?_toList, e1, e2]
end
set_option maxHeartbeats 2000000 in
set_option maxRecDepth 100000 in
theorem delF_any {A : Nat → Prop} (bx : Nat) (base count prod seq time : Int) (u v : Value) (gb : Option Nat) (l L : List Pl.Rc) (w : World) (hb : Blk w bx #[.int .i64 base, .int .i64 count, .int .i64 prod, .int .i64 seq, .int .i64 time, u] 34) (hu : RcIn A w u l) (hl : l.length ≤ 1048576) (hv : Sl w v gb 75 4 L.length (L.flatMap cells4)) (hL : L.length ≤ 1048576) (hA : ∀ b, A b → gb ≠ some b) (hbx : gb ≠ some bx) :
    Calls Tryz.prog 133 #[v, .func (.func 131) #[] #[.pointer (some ⟨bx, 0, none⟩)]] w fun e w' => ∃ v', e = .returned v' ∧ RcIn (fun b => gb = some b) w' v' (L.filter fun x => decide (x ∈ l)) ∧ w.grownBy w' gb := by
  have HIX := Lib.hid (indexF_any bx base count prod seq time u v l L w hb hu hl (Rds.of_sl hv (A := fun _ => True) fun _ _ => trivial) hL)
  have HMI : Hid (∀ x wx, w.grownBy wx gb → Calls Tryz.prog 131 #[.agg #[.int .i64 x.off, .string ⟨x.key.toArray⟩, .string ⟨x.val.toArray⟩, .bool x.gone], .pointer (some ⟨bx, 0, none⟩)] wx fun e w' => e = .returned (.bool (!decide (x ∈ l))) ∧ Below wx.heap.size wx w') := Lib.hid fun x wx h => missing_any bx base count prod seq time u l x wx (hb.same (h.block bx hb.lt fun e => hbx e.symm)) (Rds.keep hu h.size fun b hb hl => ⟨h.block b hl fun e => hA b hb e.symm, hb⟩) hl
  obtain ⟨va, vc, rfl⟩ := hv.form
  obtain ⟨N, hN⟩ : ∃ n, L.length = n := ⟨_, rfl⟩
  have HN := Lib.hid hN
  have HV := Lib.hid hv
  rw [hN] at hL HIX ⊢
  clear hb hu hv hN hA hbx
  go_enter Tryz.func133, Tryz.ntmps133
  go_wp2_with fail
  refine HIX.out.mono ?_
  rintro e w1 ⟨i, rfl, hfo, hb1⟩
  have HB1 := Lib.hid hb1
  clear hb1 HIX
  rcases hfo with ⟨rfl, hall⟩ | ⟨k, rfl, hk, hbef, hat⟩
  · have HF : Hid (RcIn (fun b => gb = some b) w1 (.slice va N vc) (L.filter fun x => decide (x ∈ l)) ∧ w.grownBy w1 gb) := Lib.hid ⟨by
      rw [List.filter_eq_self.2 fun x hx => by simpa using hall x hx]
      have := (Rds.of_sl (A := fun b => gb = some b) (HV.out.below HB1.out) fun _ h => h)
      rw [← HN.out]
      exact this, grown_below (World.grownBy.refl _ _) HB1.out⟩
    clear hall
    go_wp2_with fail
    go_ret
    exact ⟨_, rfl, HF.out⟩
  · rw [HN.out] at hk
    obtain ⟨y0, hy0⟩ : ∃ y, L[k]? = some y := ⟨_, List.getElem?_eq_getElem (by rw [HN.out]; exact hk)⟩
    obtain ⟨g, p, rfl, rfl⟩ : ∃ g p, va = some ⟨g, p, none⟩ ∧ gb = some g := by
      rcases HV.out.2 with ⟨-, -, h⟩ | ⟨g, p, c, cur, e1, e2, -⟩
      · rw [HN.out] at h; omega
      · injection e2 with e3
        exact ⟨g, p, e3, e1⟩
    have hneg : ((k : Int) == (-1 : Int)) = false := beq_eq_false_iff_ne.2 (by omega)
    have HST : Hid (DlF l L w g p vc k (k + 1) w1) := Lib.hid (by
      have e : (L.take (k + 1)).filter (fun x => decide (x ∈ l)) = L.take k := by
        rw [take_nxt hy0, List.filter_append, List.filter_cons, if_neg (by simpa using hat y0 hy0), List.filter_nil, List.append_nil]
        refine List.filter_eq_self.2 fun x hx => ?_
        obtain ⟨j, hj⟩ := List.getElem?_of_mem hx
        have hjl := (List.getElem?_eq_some_iff.1 hj).1
        rw [List.length_take] at hjl
        rw [List.getElem?_take_of_lt (by omega)] at hj
        simpa using hbef j x (by omega) hj
      refine ⟨by omega, by rw [HN.out]; omega, by rw [e, List.length_take, HN.out]; omega, ⟨cells4 y0, by rw [show (cells4 y0).length = 4 from rfl]; omega, ?_⟩, grown_below (World.grownBy.refl _ _) HB1.out⟩
      rw [e]
      have h2 : L.flatMap cells4 = (L.take k).flatMap cells4 ++ cells4 y0 ++ (L.drop (k + 1)).flatMap cells4 := by
        conv => lhs; rw [← List.take_append_drop k L, drop_nxt hy0]
        simp
      have h3 := HV.out.below HB1.out
      rw [h2] at h3
      exact h3)
    clear hbef hat hy0
    go_wp2_with fail
    go_loopw [5, 6] (fun iv jv wr => ∃ n m : Nat, iv = .int .i64 n ∧ jv = .int .i64 m ∧ DlF l L w g p vc n m wr) (fun _ jv _ => N - (intOf jv).toNat)
    case atStart => exact ⟨k, k + 1, rfl, by go_num, HST.out⟩
    case round =>
      obtain ⟨n, m, rfl, rfl, hd⟩ := hrel
      have HD := Lib.hid hd
      clear hd HST
      have hnm := HD.out.lt
      have hmN : m ≤ N := by have := HD.out.le; rwa [HN.out] at this
      by_cases hlt : m < N
      · have hdk : decide ((m : Int) < (N : Int)) = true := by simp; omega
        obtain ⟨y, hy⟩ : ∃ y, L[m]? = some y := ⟨_, List.getElem?_eq_getElem (by rw [HN.out]; exact hlt)⟩
        have c0 : wr.cell? ⟨g, p + m * 4, none⟩ = some (.int .i64 y.off) := HD.out.cell hy (i := 0) (by decide) rfl
        have c1 : wr.cell? ⟨g, p + m * 4 + 1, none⟩ = some (.string ⟨y.key.toArray⟩) := HD.out.cell hy (i := 1) (by decide) rfl
        have c2 : wr.cell? ⟨g, p + m * 4 + 2, none⟩ = some (.string ⟨y.val.toArray⟩) := HD.out.cell hy (i := 2) (by decide) rfl
        have c3 : wr.cell? ⟨g, p + m * 4 + 3, none⟩ = some (.bool y.gone) := HD.out.cell hy (i := 3) (by decide) rfl
        have m0 : (0 : Int) ≤ (m : Int) := by omega
        have m1 : (m : Int) < (N : Int) := by omega
        have n0 : (0 : Int) ≤ (n : Int) := by omega
        have n1 : (n : Int) < (N : Int) := by omega
        have HY := Lib.hid hy
        obtain ⟨M0, -, hs0⟩ := HD.out.sl
        have hz0 : ∀ o, wr.frozen? ⟨g, o, none⟩ = false := fun o => hs0.frozen rfl o
        have HZ0 := Lib.hid (And.intro hz0 (hs0.lt g rfl))
        obtain ⟨o0, ho0⟩ := HD.out.old 0 (by decide)
        obtain ⟨o1, ho1⟩ := HD.out.old 1 (by decide)
        obtain ⟨o2, ho2⟩ := HD.out.old 2 (by decide)
        obtain ⟨o3, ho3⟩ := HD.out.old 3 (by decide)
        have HO := Lib.hid (And.intro ho0 (And.intro ho1 (And.intro ho2 ho3)))
        clear hz0 hs0 ho0 ho1 ho2 ho3
        obtain ⟨W1, hW1⟩ : ∃ V, wr.alloc (.cells #[.int .i64 y.off, .string ⟨y.key.toArray⟩, .string ⟨y.val.toArray⟩, .bool y.gone] 75) = V := ⟨_, rfl⟩
        have hb1 : Below wr.heap.size wr W1 := by rw [← hW1]; exact (Below.refl _ _).alloc (Nat.le_refl _) _
        have hk1 : Blk W1 wr.heap.size #[.int .i64 y.off, .string ⟨y.key.toArray⟩, .string ⟨y.val.toArray⟩, .bool y.gone] 75 := by rw [← hW1]; exact Blk.new _ _ _
        have x0 : W1.cell? ⟨wr.heap.size, 0, none⟩ = some (.int .i64 y.off) := hk1.cell rfl
        have x1 : W1.cell? ⟨wr.heap.size, 1, none⟩ = some (.string ⟨y.key.toArray⟩) := hk1.cell rfl
        have x2 : W1.cell? ⟨wr.heap.size, 2, none⟩ = some (.string ⟨y.val.toArray⟩) := hk1.cell rfl
        have x3 : W1.cell? ⟨wr.heap.size, 3, none⟩ = some (.bool y.gone) := hk1.cell rfl
        have HCM := Lib.hid (HMI.out y W1 (grown_below HD.out.gr hb1))
        have HBB := Lib.hid hb1
        have HK1 := Lib.hid hk1
        have HW1 := Lib.hid hW1
        obtain ⟨q, hq⟩ : ∃ q, (!decide (y ∈ l)) = q := ⟨_, rfl⟩
        have HQ := Lib.hid hq
        rw [hq] at HCM
        clear hb1 hk1 hW1 hy hq
        go_wp2_with fail
        rw [HW1.out]
        go_wp2_with fail
        refine HCM.out.mono ?_
        rintro e w2 ⟨rfl, hb2⟩
        have HB2 := Lib.hid (HBB.out.trans (hb2.mono HBB.out.size))
        have hk2 := HK1.out.below hb2
        have z0 : w2.cell? ⟨wr.heap.size, 0, none⟩ = some (.int .i64 y.off) := hk2.cell rfl
        have z1 : w2.cell? ⟨wr.heap.size, 1, none⟩ = some (.string ⟨y.key.toArray⟩) := hk2.cell rfl
        have z2 : w2.cell? ⟨wr.heap.size, 2, none⟩ = some (.string ⟨y.val.toArray⟩) := hk2.cell rfl
        have z3 : w2.cell? ⟨wr.heap.size, 3, none⟩ = some (.bool y.gone) := hk2.cell rfl
        have fz : ∀ o, w2.frozen? ⟨g, o, none⟩ = false := fun o => (HB2.out.frozen (p := ⟨g, o, none⟩) HZ0.out.2).trans (HZ0.out.1 o)
        have r0 : w2.cell? ⟨g, p + n * 4, none⟩ = some o0 := (HB2.out.cell (p := ⟨g, _, none⟩) HZ0.out.2).trans HO.out.1
        have r1 : w2.cell? ⟨g, p + n * 4 + 1, none⟩ = some o1 := (HB2.out.cell (p := ⟨g, _, none⟩) HZ0.out.2).trans HO.out.2.1
        have r2 : w2.cell? ⟨g, p + n * 4 + 2, none⟩ = some o2 := (HB2.out.cell (p := ⟨g, _, none⟩) HZ0.out.2).trans HO.out.2.2.1
        have r3 : w2.cell? ⟨g, p + n * 4 + 3, none⟩ = some o3 := (HB2.out.cell (p := ⟨g, _, none⟩) HZ0.out.2).trans HO.out.2.2.2
        clear hb2 hk2
        cases q with
        | true =>
          have he : y ∉ l := by have := HQ.out; simpa using this
          have HF := Lib.hid (HD.out.skip HY.out he HB2.out)
          clear he
          go_wp2_with fail
          go_roundw
          case rel => exact ⟨n, m + 1, rfl, by go_num, HF.out⟩
          case measure => simp [intOf]; omega
        | false =>
          have he : y ∈ l := by have := HQ.out; simpa using this
          have HF := Lib.hid (HD.out.keep HY.out he HB2.out)
          clear he
          go_wp2_with fail
          go_roundw
          case rel => exact ⟨n + 1, m + 1, by go_num, by go_num, HF.out⟩
          case measure => simp [intOf]; omega
      · have hdk : decide ((m : Int) < (N : Int)) = false := by simp; omega
        obtain rfl : m = N := by omega
        obtain ⟨M, -, hs⟩ := HD.out.sl
        obtain ⟨cur, hcu, hNc, hcs, -⟩ := hs.cur
        rw [HN.out] at hNc
        have hnm' : n ≤ m := by omega
        have hnc : n ≤ vc := by omega
        obtain ⟨w2, hcl, hg2, cur', hcu2, hcs2, hct2⟩ := run_clear_sl (P := Tryz.prog) wr 32 75 0 (.agg zeroR) 4 Tryz.underlying32 zeroRc rfl (by decide) (by simp [Value.oneCell', Value.cells, zeroR]) g (p + n * 4) (m - n) (vc - n) cur hcu (by omega)
        have HRES : Hid (RcIn (fun b => some g = some b) w2 (.slice (some ⟨g, p, none⟩) n vc) (L.filter fun x => decide (x ∈ l)) ∧ w.grownBy w2 (some g)) := Lib.hid (by
          have hd := HD.out
          rw [← HN.out] at hd
          obtain ⟨h1, h2⟩ := hd.done hcu hg2 hcu2 hcs2 hct2
          exact ⟨Rds.mono h1 fun b hb => by rw [hb], h2⟩)
        clear hg2 hcu2 hcs2 hct2 hs hcu hcs
        go_wp2_with fail
        go_ret
        exact ⟨_, rfl, HRES.out⟩
end Go.Proofs.YtdaoeplblkfapaaGreatDoor

/- PLAIN MATHEMATICS OF PUT: a segment's batches are others, as many, from the same first one to the same end. -/
namespace Go.Proofs.YtdaoeplblkfapaaGreatDoor

/-- As many, from x on, to the same end. -/
structure As (x : Int) (l l' : List Pl.Bt) : Prop where
  len : l'.length = l.length
  chain : Chain x l → Chain x l'
  lend : Chain x l → lend x l' = lend x l
theorem As.wo (less : List Int) (n : Nat) (x : Int) (l : List Pl.Bt) : As x l (woL less n l) := ⟨woL_length less l n, fun h => (woL_chain n h).1, fun h => (woL_chain n h).2⟩
theorem As.nil {x : Int} {l l' : List Pl.Bt} (h : As x l l') (hn : l ≠ []) : l' ≠ [] := fun e => hn (List.eq_nil_of_length_eq_zero (by rw [← h.len, e]; rfl))
theorem Lk.put {l : List Pl.Bt} : ∀ {G : List Sg} {x : Int} {i : Nat} {g : Sg}, Lk x G → G[i]? = some g → As g.first g.l l → Lk x (G.set i ⟨g.first, l⟩)
  | [], _, _, _, _, hi, _ => by simp at hi
  | y :: G, x, 0, g, h, hi, ha => by
    simp only [List.getElem?_cons_zero, Option.some.injEq] at hi
    subst hi
    obtain ⟨h1, h2, h3, h4⟩ := h
    subst h1
    exact ⟨rfl, ha.chain h2, fun hn => ha.nil (h3 hn), by rw [ha.lend h2]; exact h4⟩
  | y :: G, x, i + 1, g, h, hi, ha => by
    rw [List.getElem?_cons_succ] at hi
    obtain ⟨h1, h2, h3, h4⟩ := h
    refine ⟨h1, h2, fun hn => h3 fun e => ?_, h4.put hi ha⟩
    subst e
    simp at hi
theorem Log.put {G : List Sg} (h : Log G) {i : Nat} {g : Sg} (hi : G[i]? = some g) {l : List Pl.Bt} (ha : As g.first g.l l) : Log (G.set i ⟨g.first, l⟩) :=
  let ⟨_, hx, hk⟩ := h.get
  Log.of hx (hk.put hi ha)
theorem fla_put_length {G : List Sg} {i : Nat} {g : Sg} (hi : G[i]? = some g) {l : List Pl.Bt} (hl : l.length = g.l.length) : (fla (G.set i ⟨g.first, l⟩)).length = (fla G).length := by
  induction G generalizing i with
  | nil => simp at hi
  | cons y G ih =>
    cases i with
    | zero =>
      simp only [List.getElem?_cons_zero, Option.some.injEq] at hi
      subst hi
      show (l ++ fla G).length = (y.l ++ fla G).length
      rw [List.length_append, List.length_append, hl]
    | succ i =>
      rw [List.getElem?_cons_succ] at hi
      show (y.l ++ fla (G.set i ⟨g.first, l⟩)).length = (y.l ++ fla G).length
      rw [List.length_append, List.length_append, ih hi]
theorem firsts_put {G : List Sg} {i : Nat} {g : Sg} (hi : G[i]? = some g) {l : List Pl.Bt} : (G.set i ⟨g.first, l⟩).map Sg.first = G.map Sg.first := by
  induction G generalizing i with
  | nil => rfl
  | cons y G ih =>
    cases i with
    | zero =>
      simp only [List.getElem?_cons_zero, Option.some.injEq] at hi
      subst hi
      rfl
    | succ i =>
      rw [List.getElem?_cons_succ] at hi
      show y.first :: _ = y.first :: _
      rw [ih hi]
/-- The file beside is put in the segment's place. -/
theorem Fl.put {P : List UInt8} {f : Ta.View} {G : List Sg} {sf : Nat} (h : Fl P f G sf) (hg : Log G) {i : Nat} {g : Sg} (hi : G[i]? = some g) (hil : i + 1 < G.length) (l : List Pl.Bt) :
    Fl P (Ta.upd f (nm P g.first) (some (frs l, (frs l).length))) (G.set i ⟨g.first, l⟩) sf := by
  refine ⟨fun j y hy => ?_, fun k hk => ?_⟩
  · rw [List.length_set]
    by_cases hj : j = i
    · subst hj
      rw [List.getElem?_set_self (by omega)] at hy
      cases hy
      rw [Ta.upd_same, if_neg (by omega)]
    · rw [List.getElem?_set_ne (fun e => hj e.symm)] at hy
      rw [Ta.upd_other _ _ fun e => hj (hg.one hy hi (nm_inj (hg.firsts y (List.mem_of_getElem? hy)) (hg.firsts g (List.mem_of_getElem? hi)) e))]
      exact h.hold j y hy
  · have hgm : (⟨g.first, l⟩ : Sg) ∈ G.set i ⟨g.first, l⟩ := List.mem_of_getElem? (List.getElem?_set_self (by omega))
    rw [Ta.upd_other _ _ fun e => hk _ hgm e.symm]
    refine h.rest k fun y hy e => ?_
    have hf : y.first ∈ (G.set i ⟨g.first, l⟩).map Sg.first := by rw [firsts_put hi]; exact List.mem_map.2 ⟨y, hy, rfl⟩
    obtain ⟨z, hz, e2⟩ := List.mem_map.1 hf
    exact hk z hz (by rw [e2]; exact e)
/-- A name of no use is taken, and free again. -/
theorem upd_gone {f : Ta.View} {k a : List UInt8} {v v' : Option (List UInt8 × Nat)} (hk : f k = none) : Ta.upd (Ta.upd (Ta.upd f k v) k none) a v' = Ta.upd f a v' := by
  funext x
  unfold Ta.upd
  by_cases h1 : x = a
  · rw [if_pos h1, if_pos h1]
  · rw [if_neg h1, if_neg h1]
    by_cases h2 : x = k
    · rw [if_pos h2, h2, hk]
    · rw [if_neg h2, if_neg h2]
theorem Fl.noNew {P : List UInt8} {f : Ta.View} {G : List Sg} {sf : Nat} (h : Fl P f G sf) (hg : Log G) : f (nmNew P) = none := h.rest _ fun y hy => nm_not_new (hg.firsts y hy).1 (hg.firsts y hy).2
/-- The segment that is put: what it takes to pass. -/
theorem wo1_filter (less : List Int) (n : Nat) (l : List Pl.Rc) (hn : l.Nodup) : l.filter (fun x => decide (x ∈ wo1 less n l)) = wo1 less n l := filter_sub (wo1_sub less l n) hn
theorem woL_get {less : List Int} : ∀ {l : List Pl.Bt} {n j : Nat} {p q : Pl.Bt}, (woL less n l)[j]? = some p → l[j]? = some q → ∃ n', p = woB less n' q
  | [], _, _, _, _, _, h => by simp at h
  | b :: l, n, 0, p, q, hp, hq => by
    simp only [woL, List.getElem?_cons_zero, Option.some.injEq] at hp hq
    exact ⟨n, by rw [← hp, ← hq]⟩
  | b :: l, n, j + 1, p, q, hp, hq => by
    simp only [woL, List.getElem?_cons_succ] at hp hq
    exact woL_get hp hq
end Go.Proofs.YtdaoeplblkfapaaGreatDoor

/- THE CONTRACTS of lessened, and of slices.EqualFunc over batches with it. -/
namespace Go.Proofs.YtdaoeplblkfapaaGreatDoor
open Go.RowKit

/-- The batch, but that records may be missing. -/
def lesB (b c : Pl.Bt) : Bool := Pl.sameB b { c with recs := c.recs.filter fun x => decide (x ∈ b.recs) }
theorem les_wo {less : List Int} {n : Nat} {c : Pl.Bt} (h : Pl.goodB c = true) : lesB (woB less n c) c = true := by
  unfold lesB
  rw [Pl.sameB_iff]
  obtain ⟨base, count, prod, seq, time, recs⟩ := c
  rw [Pl.goodB_iff] at h
  have := wo1_filter less n recs (rise_nodup h.2.2.2.2.2.2)
  unfold woB
  simp only [this]
set_option maxHeartbeats 1000000 in
set_option maxRecDepth 100000 in
theorem les_any {A A' : Nat → Prop} (base count prod seq time base' count' prod' seq' time' : Int) (ls ms : List Pl.Rc) (pv qv : Value) (w : World) (hp : RcIn A w pv ls) (hq : RcIn A' w qv ms) (hl : ls.length ≤ 1048576) (hm : ms.length ≤ 1048576) :
    Calls Tryz.prog 89 #[.agg #[.int .i64 base, .int .i64 count, .int .i64 prod, .int .i64 seq, .int .i64 time, pv], .agg #[.int .i64 base', .int .i64 count', .int .i64 prod', .int .i64 seq', .int .i64 time', qv]] w
      fun e w' => e = .returned (.bool (lesB ⟨base, count, prod, seq, time, ls⟩ ⟨base', count', prod', seq', time', ms⟩)) ∧ Below w.heap.size w w' := by
  obtain ⟨z, hz⟩ : ∃ z, w.heap.size = z := ⟨_, rfl⟩
  obtain ⟨W1, hW1⟩ : ∃ V, w.alloc (.cells #[.int .i64 base, .int .i64 count, .int .i64 prod, .int .i64 seq, .int .i64 time, pv] 34) = V := ⟨_, rfl⟩
  obtain ⟨W2, hW2⟩ : ∃ V, W1.alloc (.cells #[.int .i64 base', .int .i64 count', .int .i64 prod', .int .i64 seq', .int .i64 time', qv] 34) = V := ⟨_, rfl⟩
  have s1 : W1.heap.size = z + 1 := by rw [← hW1, World.size_alloc, hz]
  have s2 : W2.heap.size = z + 2 := by rw [← hW2, World.size_alloc, s1]
  have b1 : Below w.heap.size w W1 := by rw [← hW1]; exact (Below.refl _ _).alloc (Nat.le_refl _) _
  have b2 : Below W1.heap.size W1 W2 := by rw [← hW2]; exact (Below.refl _ _).alloc (Nat.le_refl _) _
  have b3 : Below w.heap.size w W2 := b1.trans (b2.mono b1.size)
  have k1 : Blk W2 z #[.int .i64 base, .int .i64 count, .int .i64 prod, .int .i64 seq, .int .i64 time, pv] 34 := by
    have h : Blk W1 z #[.int .i64 base, .int .i64 count, .int .i64 prod, .int .i64 seq, .int .i64 time, pv] 34 := by rw [← hW1, ← hz]; exact Blk.new _ _ _
    exact h.below b2
  have k2 : Blk W2 (z + 1) #[.int .i64 base', .int .i64 count', .int .i64 prod', .int .i64 seq', .int .i64 time', qv] 34 := by rw [← hW2, ← s1]; exact Blk.new _ _ _
  have x5 : W2.cell? ⟨z + 1, 5, none⟩ = some qv := k2.cell rfl
  have HCL := Lib.hid (cloneRc qv ms.length _ W2 (Rds.below hq b3) (flat4_one _) hm)
  have HP : Hid (RcIn (fun b => b < z) W2 pv ls) := Lib.hid (Rds.keep hp b3.size fun b hb hlt => ⟨b3.block b hlt, by rw [← hz]; exact hlt⟩)
  have HK1 := Lib.hid k1
  have HK2 := Lib.hid k2
  have HW1 := Lib.hid hW1
  have HW2 := Lib.hid hW2
  have HS2 := Lib.hid s2
  have HB3 := Lib.hid b3
  have HZ := Lib.hid hz
  clear hW1 hW2 b1 b2 b3 k1 k2 hp hq
  go_enter Tryz.func89, Tryz.ntmps89
  go_upto_region 2 with fail
  rw [HW1.out, HW2.out]
  try simp only [HZ.out, s1]
  go_wp2_with fail
  refine HCL.out.mono ?_
  rintro e w3 ⟨v3, gb3, rfl, hs3, hn3, hb3⟩
  have hgz : ∀ b, b < W2.heap.size → gb3 ≠ some b := fun b hb e => by have := hn3 b e; omega
  have HDF := Lib.hid (delF_any z base count prod seq time pv v3 gb3 ls ms w3 (HK1.out.below hb3) (Rds.below HP.out hb3) hl hs3 hm (fun b hb => hgz b (by rw [HS2.out]; omega)) (hgz z (by rw [HS2.out]; omega)))
  have HGZ := Lib.hid hgz
  have HB4 := Lib.hid hb3
  have HS3 := Lib.hid hs3
  clear hs3 hn3 hb3 hgz HCL
  go_wp2_with fail
  refine HDF.out.mono ?_
  rintro e w4 ⟨v4, rfl, hr4, hg4⟩
  obtain ⟨va4, n4, vc4, hv4⟩ : ∃ a n c, v4 = .slice a n c := let ⟨a, c, h⟩ := Rds.form hr4; ⟨a, _, c, h⟩
  subst hv4
  obtain ⟨W5, hW5⟩ : ∃ V, w4.setCell ⟨z + 1, 5, none⟩ (.slice va4 n4 vc4) = V := ⟨_, rfl⟩
  have kk : ∀ b, b < W2.heap.size → w4.heap[b]? = W2.heap[b]? := fun b hb => (hg4.block b (Nat.lt_of_lt_of_le hb HB4.out.size) fun e => HGZ.out b hb e.symm).trans (HB4.out.block b hb)
  have hsz4 : W2.heap.size ≤ w4.heap.size := Nat.le_trans HB4.out.size hg4.size
  have k1 : Blk W5 z #[.int .i64 base, .int .i64 count, .int .i64 prod, .int .i64 seq, .int .i64 time, pv] 34 := by
    rw [← hW5]
    exact (HK1.out.same (kk z (by rw [HS2.out]; omega))).setAway ⟨z + 1, 5, none⟩ (.slice va4 n4 vc4) (by show z ≠ z + 1; omega)
  have k2 : Blk W5 (z + 1) #[.int .i64 base', .int .i64 count', .int .i64 prod', .int .i64 seq', .int .i64 time', .slice va4 n4 vc4] 34 := by
    rw [← hW5]
    exact (HK2.out.same (kk (z + 1) (by rw [HS2.out]; omega))).set (i := 5) (.slice va4 n4 vc4)
  have y0 : W5.cell? ⟨z, 0, none⟩ = some (.int .i64 base) := k1.cell rfl
  have y1 : W5.cell? ⟨z, 1, none⟩ = some (.int .i64 count) := k1.cell rfl
  have y2 : W5.cell? ⟨z, 2, none⟩ = some (.int .i64 prod) := k1.cell rfl
  have y3 : W5.cell? ⟨z, 3, none⟩ = some (.int .i64 seq) := k1.cell rfl
  have y4 : W5.cell? ⟨z, 4, none⟩ = some (.int .i64 time) := k1.cell rfl
  have y5 : W5.cell? ⟨z, 5, none⟩ = some pv := k1.cell rfl
  have u0 : W5.cell? ⟨z + 1, 0, none⟩ = some (.int .i64 base') := k2.cell rfl
  have u1 : W5.cell? ⟨z + 1, 1, none⟩ = some (.int .i64 count') := k2.cell rfl
  have u2 : W5.cell? ⟨z + 1, 2, none⟩ = some (.int .i64 prod') := k2.cell rfl
  have u3 : W5.cell? ⟨z + 1, 3, none⟩ = some (.int .i64 seq') := k2.cell rfl
  have u4 : W5.cell? ⟨z + 1, 4, none⟩ = some (.int .i64 time') := k2.cell rfl
  have u5 : W5.cell? ⟨z + 1, 5, none⟩ = some (.slice va4 n4 vc4) := k2.cell rfl
  have z5 : w4.cell? ⟨z + 1, 5, none⟩ = some qv := by
    have h : Blk w4 (z + 1) #[.int .i64 base', .int .i64 count', .int .i64 prod', .int .i64 seq', .int .i64 time', qv] 34 := HK2.out.same (kk (z + 1) (by rw [HS2.out]; omega))
    exact h.cell rfl
  have f5 : w4.frozen? ⟨z + 1, 5, none⟩ = false := by
    have h : Blk w4 (z + 1) #[.int .i64 base', .int .i64 count', .int .i64 prod', .int .i64 seq', .int .i64 time', qv] 34 := HK2.out.same (kk (z + 1) (by rw [HS2.out]; omega))
    exact h.free
  have key5 : ∀ b, b ≠ z + 1 → W5.heap[b]? = w4.heap[b]? := fun b hb => by rw [← hW5]; exact Below.heap_setCell _ _ _ _ hb
  have hsz5 : W5.heap.size = w4.heap.size := by rw [← hW5]; simp [World.setCell]
  have hr5 : RcIn (fun _ => True) W5 (.slice va4 n4 vc4) (ms.filter fun x => decide (x ∈ ls)) := Rds.keep hr4 (by omega) fun b hb hlt => ⟨key5 b fun e => HGZ.out b (by rw [HS2.out]; omega) hb, trivial⟩
  have hp5 : RcIn (fun _ => True) W5 pv ls := Rds.keep HP.out (by omega) fun b hb hlt => ⟨(key5 b (by omega)).trans (kk b hlt), trivial⟩
  have HSM := Lib.hid (dsame ⟨base, count, prod, seq, time, ls⟩ ⟨base', count', prod', seq', time', ms.filter fun x => decide (x ∈ ls)⟩ pv (.slice va4 n4 vc4) W5 hp5.recs hr5.recs (by show ls.length ≤ _; omega) (by have := List.length_filter_le (fun x => decide (x ∈ ls)) ms; show (List.filter _ ms).length ≤ _; omega))
  have HBL : Hid (Below w.heap.size w W5) := Lib.hid (HB3.out.trans ⟨by rw [← hW5]; exact hg4.os.trans HB4.out.os, by rw [← hW5]; exact hg4.tape.trans HB4.out.tape, by rw [← hW5]; exact hg4.output.trans HB4.out.output, by have := HB3.out.size; omega, fun b hb => by
    have hz' := HZ.out
    exact (key5 b (by omega)).trans (kk b (Nat.lt_of_lt_of_le hb HB3.out.size))⟩)
  have HW5 := Lib.hid hW5
  clear kk k1 k2 hr4 hg4 hsz4 hW5 key5 hsz5 hr5 hp5 HDF
  go_upto_region 3 with fail
  rw [HW5.out]
  go_wp2_with fail
  refine HSM.out.mono ?_
  rintro e w6 ⟨rfl, hb6⟩
  have HF := Lib.hid (HBL.out.trans (hb6.mono HBL.out.size))
  clear hb6
  go_wp2_with fail
  go_ret
  exact ⟨rfl, HF.out⟩
set_option maxHeartbeats 1000000 in
set_option maxRecDepth 100000 in
theorem eqlB_any {A A' : Nat → Prop} (u v : Value) (L M : List (Pl.Bt × Value)) (w : World) (hu : BtIn A w u L) (hv : BtIn A' w v M) (hlen : M.length = L.length) (hl : L.length ≤ 1048576) (hrl : ∀ p ∈ L, p.1.recs.length ≤ 1048576) (hrm : ∀ p ∈ M, p.1.recs.length ≤ 1048576) (hall : ∀ (j : Nat) (p q : Pl.Bt × Value), L[j]? = some p → M[j]? = some q → lesB p.1 q.1 = true) :
    Calls Tryz.prog 88 #[u, v, .func (.func 89) #[] #[]] w fun e w' => e = .returned (.bool true) ∧ Below w.heap.size w w' := by
  obtain ⟨ua, uc, rfl⟩ := hu.form
  obtain ⟨va, vc, rfl⟩ := hv.form
  obtain ⟨m, hm⟩ : ∃ m, L.length = m := ⟨_, rfl⟩
  rw [hm] at hlen hl
  have HL := Lib.hid hm
  have HM := Lib.hid hlen
  have HU := Lib.hid hu
  have HV := Lib.hid hv
  have HRL := Lib.hid hrl
  have HRM := Lib.hid hrm
  have HALL := Lib.hid hall
  rw [hm, hlen]
  clear hm hlen hu hv hrl hrm hall
  go_enter Tryz.func88, Tryz.ntmps88
  go_wp2_with fail
  go_loopw [17] (fun iv wr => ∃ k : Nat, k ≤ m ∧ iv = .int .i64 k ∧ Below w.heap.size w wr) (fun iv _ => m - (intOf iv).toNat)
  case atStart => exact ⟨0, Nat.zero_le _, rfl, Below.refl _ _⟩
  case round =>
    obtain ⟨k, hk, rfl, hbw⟩ := hrel
    have HB := Lib.hid hbw
    clear hbw
    by_cases hlt : k < m
    · have hdk : decide ((k : Int) < (m : Int)) = true := by simp; omega
      obtain ⟨⟨⟨base, count, prod, seq, time, ls⟩, pv⟩, hp⟩ : ∃ p, L[k]? = some p := ⟨_, List.getElem?_eq_getElem (by rw [HL.out]; exact hlt)⟩
      obtain ⟨⟨⟨base', count', prod', seq', time', ms⟩, qv⟩, hq⟩ : ∃ p, M[k]? = some p := ⟨_, List.getElem?_eq_getElem (by rw [HM.out]; exact hlt)⟩
      obtain ⟨b, o, c, e1, -, hbl, c0, c1, c2, c3, c4, c5, hrp⟩ := (HU.out.below HB.out).get hp
      obtain rfl : ua = some ⟨b, o, none⟩ := by injection e1
      obtain ⟨b', o', c', e2, -, hbl', d0, d1, d2, d3, d4, d5, hrq⟩ := (HV.out.below HB.out).get hq
      obtain rfl : va = some ⟨b', o', none⟩ := by injection e2
      obtain ⟨pa, pn, pc, hpv⟩ : ∃ a n c, pv = .slice a n c := let ⟨a, c, h⟩ := Rds.form hrp; ⟨a, _, c, h⟩
      obtain ⟨qa, qn, qc, hqv⟩ : ∃ a n c, qv = .slice a n c := let ⟨a, c, h⟩ := Rds.form hrq; ⟨a, _, c, h⟩
      subst hpv hqv
      have hle := HALL.out k _ _ hp hq
      obtain ⟨W1, hW1⟩ : ∃ V, wr.alloc (.cells #[.int .i64 base, .int .i64 count, .int .i64 prod, .int .i64 seq, .int .i64 time, .slice pa pn pc] 34) = V := ⟨_, rfl⟩
      obtain ⟨W2, hW2⟩ : ∃ V, W1.alloc (.cells #[.int .i64 base', .int .i64 count', .int .i64 prod', .int .i64 seq', .int .i64 time', .slice qa qn qc] 34) = V := ⟨_, rfl⟩
      obtain ⟨z, hz⟩ : ∃ z, wr.heap.size = z := ⟨_, rfl⟩
      have s1 : W1.heap.size = z + 1 := by rw [← hW1, World.size_alloc, hz]
      have b1 : Below wr.heap.size wr W1 := by rw [← hW1]; exact (Below.refl _ _).alloc (Nat.le_refl _) _
      have b2 : Below W1.heap.size W1 W2 := by rw [← hW2]; exact (Below.refl _ _).alloc (Nat.le_refl _) _
      have b3 : Below wr.heap.size wr W2 := b1.trans (b2.mono b1.size)
      have e0 : W1.cell? ⟨b', o' + k * 6, none⟩ = some (.int .i64 base') := (b1.cell (p := ⟨b', _, none⟩) hbl').trans d0
      have e1' : W1.cell? ⟨b', o' + k * 6 + 1, none⟩ = some (.int .i64 count') := (b1.cell (p := ⟨b', _, none⟩) hbl').trans d1
      have e2' : W1.cell? ⟨b', o' + k * 6 + 2, none⟩ = some (.int .i64 prod') := (b1.cell (p := ⟨b', _, none⟩) hbl').trans d2
      have e3' : W1.cell? ⟨b', o' + k * 6 + 3, none⟩ = some (.int .i64 seq') := (b1.cell (p := ⟨b', _, none⟩) hbl').trans d3
      have e4' : W1.cell? ⟨b', o' + k * 6 + 4, none⟩ = some (.int .i64 time') := (b1.cell (p := ⟨b', _, none⟩) hbl').trans d4
      have e5' : W1.cell? ⟨b', o' + k * 6 + 5, none⟩ = some (.slice qa qn qc) := (b1.cell (p := ⟨b', _, none⟩) hbl').trans d5
      have k1 : Blk W2 z #[.int .i64 base, .int .i64 count, .int .i64 prod, .int .i64 seq, .int .i64 time, .slice pa pn pc] 34 := by
        have h : Blk W1 z #[.int .i64 base, .int .i64 count, .int .i64 prod, .int .i64 seq, .int .i64 time, .slice pa pn pc] 34 := by rw [← hW1, ← hz]; exact Blk.new _ _ _
        exact h.below b2
      have k2 : Blk W2 (z + 1) #[.int .i64 base', .int .i64 count', .int .i64 prod', .int .i64 seq', .int .i64 time', .slice qa qn qc] 34 := by rw [← hW2, ← s1]; exact Blk.new _ _ _
      have y0 : W2.cell? ⟨z, 0, none⟩ = some (.int .i64 base) := k1.cell rfl
      have y1 : W2.cell? ⟨z, 1, none⟩ = some (.int .i64 count) := k1.cell rfl
      have y2 : W2.cell? ⟨z, 2, none⟩ = some (.int .i64 prod) := k1.cell rfl
      have y3 : W2.cell? ⟨z, 3, none⟩ = some (.int .i64 seq) := k1.cell rfl
      have y4 : W2.cell? ⟨z, 4, none⟩ = some (.int .i64 time) := k1.cell rfl
      have y5 : W2.cell? ⟨z, 5, none⟩ = some (.slice pa pn pc) := k1.cell rfl
      have u0 : W2.cell? ⟨z + 1, 0, none⟩ = some (.int .i64 base') := k2.cell rfl
      have u1 : W2.cell? ⟨z + 1, 1, none⟩ = some (.int .i64 count') := k2.cell rfl
      have u2 : W2.cell? ⟨z + 1, 2, none⟩ = some (.int .i64 prod') := k2.cell rfl
      have u3 : W2.cell? ⟨z + 1, 3, none⟩ = some (.int .i64 seq') := k2.cell rfl
      have u4 : W2.cell? ⟨z + 1, 4, none⟩ = some (.int .i64 time') := k2.cell rfl
      have u5 : W2.cell? ⟨z + 1, 5, none⟩ = some (.slice qa qn qc) := k2.cell rfl
      have HC := Lib.hid (les_any base count prod seq time base' count' prod' seq' time' ls ms (.slice pa pn pc) (.slice qa qn qc) W2 (Rds.below hrp b3) (Rds.below hrq b3) (HRL.out _ (List.mem_of_getElem? hp)) (HRM.out _ (List.mem_of_getElem? hq)))
      simp only at hle
      rw [hle] at HC
      have HB3 := Lib.hid (HB.out.trans (b3.mono HB.out.size))
      have HW1 := Lib.hid hW1
      have HW2 := Lib.hid hW2
      have HZ := Lib.hid hz
      have HS1 := Lib.hid s1
      have m0 : (0 : Int) ≤ (k : Int) := by omega
      have m1 : (k : Int) < (m : Int) := by omega
      clear b1 b2 b3 k1 k2 hW1 hW2 hp hq hrp hrq e1 e2 hle hbl hbl' hz s1
      go_upto_region 6 with fail
      rw [HW1.out]
      go_upto_region 7 with fail
      rw [HW2.out]
      try simp only [HZ.out, HS1.out]
      go_wp2_with fail
      refine HC.out.mono ?_
      rintro e w6 ⟨rfl, hb6⟩
      have HF := Lib.hid (HB3.out.trans (hb6.mono HB3.out.size))
      clear hb6
      go_wp2_with fail
      go_roundw
      case rel => exact ⟨k + 1, by omega, by go_num, HF.out⟩
      case measure => simp [intOf]; omega
    · have hdk : decide ((k : Int) < (m : Int)) = false := by simp; omega
      go_wp2_with fail
      go_ret
      exact ⟨rfl, HB.out⟩
end Go.Proofs.YtdaoeplblkfapaaGreatDoor

/- A strand's segment in the midst is put anew, in its place; its list is new. -/
namespace Go.Proofs.YtdaoeplblkfapaaGreatDoor
open Go.RowKit

theorem Sd.seat {w1 w3 w5 : World} {s : Nat} {h : Hs} {B : Nat → Prop} {f : Ta.View} {tot n : Nat} {c : Ta.Sc} {K : Kx} (k : Sd w1 s h B f tot n c K) (m1 : Below w1.heap.size w1 w3) (m2 : w3.grownBy w5 K.gb) (i : Nat) (x' : Sx)
    (hl : Sl w3 x'.lv x'.lb 34 6 x'.L.length (x'.L.flatMap bc6)) (hlb : ∀ g, x'.lb = some g → w1.heap.size ≤ g) (hr : All (fun b => w1.heap.size ≤ b ∧ x'.lb ≠ some b) w3 x'.L)
    (hs : Sl w5 K.v K.gb 119 3 K.X.length ((K.X.set i x').flatMap sc3)) :
    ∃ B', Sd w5 s h B' f tot n c ⟨K.X.set i x', K.v, K.gb, fun _ => True⟩ ∧ Moved B B' w1 w5 := by
  obtain ⟨T, k1, k2, k4, k5⟩ := k
  have hBl : ∀ b, B b → b < w1.heap.size := fun b hb => by
    rcases (k4 b).1 hb with h5 | h5
    · exact k1.lt b h5
    · exact k2.lt b h5
  have hTB : ∀ b, T b → B b := fun b hb => (k4 b).2 (.inl hb)
  have hsB : B s := (k4 s).2 (.inr (.inl rfl))
  have hgB : ∀ g, K.gb = some g → B g := fun g hg => (k4 g).2 (.inr (.inr (.inl hg)))
  have hxB : ∀ x ∈ K.X, ∀ g, x.lb = some g → B g := fun x hx g hg => (k4 g).2 (.inr (.inr (.inr ⟨x, hx, hg⟩)))
  have keep : ∀ b, b < w1.heap.size → K.gb ≠ some b → w5.heap[b]? = w1.heap[b]? := fun b hb hg => (m2.block b (Nat.lt_of_lt_of_le hb m1.size) fun e => hg e.symm).trans (m1.block b hb)
  have keep3 : ∀ b, b < w3.heap.size → K.gb ≠ some b → w5.heap[b]? = w3.heap[b]? := fun b hb hg => m2.block b hb fun e => hg e.symm
  have hmem : ∀ y ∈ K.X.set i x', y ∈ K.X ∨ y = x' := fun y hy => List.mem_or_eq_of_mem_set hy
  have hB' : ∀ b, (T b ∨ Os s K.gb (K.X.set i x') b) → B b ∨ x'.lb = some b := by
    rintro b (hb | rfl | hb | ⟨y, hy, hb⟩)
    · exact .inl (hTB b hb)
    · exact .inl hsB
    · exact .inl (hgB b hb)
    · rcases hmem y hy with hy | rfl
      · exact .inl (hxB y hy b hb)
      · exact .inr hb
  have hgn : ∀ g, x'.lb = some g → K.gb ≠ some g := fun g e e2 => by have := hlb g e; have := hBl g (hgB g e2); omega
  have hln : ∀ y ∈ K.X, ∀ g, y.lb = some g → x'.lb ≠ some g := fun y hy g e e2 => by have := hlb g e2; have := hBl g (hxB y hy g e); omega
  refine ⟨fun b => T b ∨ Os s K.gb (K.X.set i x') b, ⟨T, k1.same fun b hb => keep b (k1.lt b hb) fun e => k5 b hb (.inr (.inl e)), ?_, fun b => Iff.rfl, ?_⟩, ⟨m2.os.trans m1.os, m2.tape.trans m1.tape, m2.output.trans m1.output, Nat.le_trans m1.size m2.size, fun b hb hn => keep b hb fun e => hn (hgB b e), fun b hb => (hB' b hb).imp id (hlb b)⟩⟩
  · refine ⟨k2.head.same (keep s (hBl s hsB) k2.sg), ?_, fun y hy => ?_, fun y hy => ?_, k2.sg, fun y hy => ?_, ?_⟩
    · show Sl w5 K.v K.gb _ 3 (K.X.set i x').length _
      rw [List.length_set]
      exact hs
    · rcases hmem y hy with hy | rfl
      · exact (k2.lists y hy).same fun b hb => keep b (hBl b (hxB y hy b hb)) ((k2.sl y hy).2 b hb)
      · exact hl.same fun b hb => keep3 b (hl.lt b hb) (hgn b hb)
    · rcases hmem y hy with hy | rfl
      · refine (k2.recs y hy).keep (Nat.le_trans m1.size m2.size) fun b hb hl => ⟨keep b hl fun e => hb.1 (hgB b e), fun h => ?_, trivial⟩
        rcases hB' b h with h | h
        · exact hb.1 h
        · have := hlb b h; omega
      · refine hr.keep m2.size fun b hb hl => ⟨keep3 b hl fun e => by have := hBl b (hgB b e); omega, fun h => ?_, trivial⟩
        rcases hB' b h with h | h
        · have := hBl b h; omega
        · exact hb.2 h
    · rcases hmem y hy with hy | rfl
      · exact k2.sl y hy
      · exact ⟨fun e => by have := hlb s e; have := hBl s hsB; omega, hgn⟩
    · have hp := List.pairwise_iff_getElem.1 k2.apart
      rw [List.pairwise_iff_getElem]
      intro a b ha hb hab g
      rw [List.length_set] at ha hb
      rw [List.getElem_set, List.getElem_set]
      split
      · rw [if_neg (by omega)]
        intro e e2
        exact hln _ (List.getElem_mem hb) g e2 e
      · split
        · exact hln _ (List.getElem_mem ha) g
        · exact hp a b ha hb hab g
  · intro b hb h
    rcases h with rfl | h | ⟨y, hy, h⟩
    · exact k5 b hb (.inl rfl)
    · exact k5 b hb (.inr (.inl h))
    · rcases hmem y hy with hy | rfl
      · exact k5 b hb (.inr (.inr ⟨y, hy, h⟩))
      · have := hlb b h; have := k1.lt b hb; omega
/-- The segments with another one in a place. -/
theorem flat_set3 (X : List Sx) (i : Nat) (x x' : Sx) (h : X[i]? = some x) : X.flatMap sc3 = (X.take i).flatMap sc3 ++ sc3 x ++ (X.drop (i + 1)).flatMap sc3 ∧ (X.set i x').flatMap sc3 = (X.take i).flatMap sc3 ++ sc3 x' ++ (X.drop (i + 1)).flatMap sc3 ∧ ((X.take i).flatMap sc3).length = i * 3 := by
  have hl := (List.getElem?_eq_some_iff.1 h).1
  have e : X = X.take i ++ x :: X.drop (i + 1) := by
    conv => lhs; rw [← List.take_append_drop i X]
    rw [List.drop_eq_getElem_cons hl, (List.getElem?_eq_some_iff.1 h).2]
  have e2 : X.set i x' = X.take i ++ x' :: X.drop (i + 1) := by rw [List.set_eq_take_append_cons_drop, if_pos hl]
  refine ⟨?_, ?_, ?_⟩
  · conv => lhs; rw [e]
    simp
  · rw [e2]; simp
  · have : ∀ Y : List Sx, (Y.flatMap sc3).length = Y.length * 3 := fun Y => by
      induction Y with
      | nil => rfl
      | cons y Y ih => rw [List.flatMap_cons, List.length_append, ih, sc3_length, List.length_cons]; omega
    rw [this, List.length_take, Nat.min_eq_left (by omega)]
end Go.Proofs.YtdaoeplblkfapaaGreatDoor
