/- THE WALK of WeedLeast. -/
import Derived.Test.YtfapigccdbpepaaLPlain
import Derived.Test.YtfapigccdbpepaaLKit
namespace Go.Proofs.Ytfapigccdbpepaa
open Go.RowKit

theorem infoInt' : (Try.prog.info? 3).map (fun i => (i.zero, i.size, i.bytes)) = some (some (.int .i64 0), 1, 8) := by kernel_rfl
theorem infoInt : ∃ i, Try.prog.info? 3 = some i ∧ i.zero = some (.int .i64 0) ∧ i.size = 1 ∧ i.bytes = 8 := by
  have h := infoInt'
  cases hi : Try.prog.info? 3 with
  | none => rw [hi] at h; cases h
  | some i =>
    rw [hi] at h
    simp only [Option.map_some, Option.some.injEq, Prod.mk.injEq] at h
    exact ⟨i, rfl, h.1, h.2.1, h.2.2⟩
/-- Numbers in a slice of the call's own. -/
def Wn (z : Nat) (v : Value) (gb : Option Nat) (xs : List Int) (W : World) : Prop := Sl W v gb 3 1 xs.length (xs.map (Value.int .i64)) ∧ ∀ b, gb = some b → z ≤ b
section
variable {z : Nat} {v : Value} {gb : Option Nat} {xs : List Int} {W W' : World}
theorem Wn.empty (w : World) {z : Nat} (hz : z ≤ w.heap.size) : Wn z (.slice (some ⟨w.heap.size, 0, none⟩) 0 0) (some w.heap.size) [] (w.alloc (.cells #[] 3)) := ⟨Sl.empty w _ _, fun b e => by cases e; exact hz⟩
theorem Wn.below (h : Wn z v gb xs W) (b : Below W.heap.size W W') : Wn z v gb xs W' := ⟨h.1.below b, h.2⟩
theorem Wn.nm (h : Wn z v gb xs W) : Nm (fun b => z ≤ b) W v xs := Rds.of_sl h.1 h.2
theorem Wn.form (h : Wn z v gb xs W) : ∃ a cap, v = .slice a xs.length cap := h.1.form
theorem Wn.lt (h : Wn z v gb xs W) : ∀ b, gb = some b → z ≤ b ∧ b < W.heap.size := fun b e => ⟨h.2 b e, h.1.lt b e⟩
/-- Another slice has grown. -/
theorem Wn.grown {r : Option Nat} (h : Wn z v gb xs W) (k : W.grownBy W' r) (hr : ∀ b, gb = some b → r ≠ some b) : Wn z v gb xs W' := ⟨h.1.same fun c e => k.block c (h.1.lt c e) fun e2 => hr c e e2.symm, h.2⟩
end
section
variable {ops : Array Oper} {rest : List Oper} {o : Oper} {a : Act} {Q : Exit → Act → World → Prop} {w : World} {z : Nat} {v : Value} {gb : Option Nat}
/-- One number more. -/
theorem wp_add_num {xs : List Int} (hgd : o.guard = none) (s y : Operand) (ho : o.op = .call { callee := .builtin .append, args := #[s, y], argTypes := #[33, 33] })
    (hs : a.eval s = v) (h : Wn z v gb xs w) (ad : Addr) (c : Nat) (x : Int) (hx : a.eval y = .slice (some ad) 1 c) (hn : w.cell? ad = some (.int .i64 x)) (hl : xs.length ≤ 1048576) (hz : z ≤ w.heap.size)
    (k : ∀ v' gb' w', Wn z v' gb' (xs ++ [x]) w' → w.grownBy w' gb → (∀ b, gb' = some b → gb = some b ∨ w.heap.size ≤ b) → wpList Try.prog ops Q rest (a.put o.dst v') w') : wpList Try.prog ops Q (o :: rest) a w := by
  obtain ⟨i, hi, h1, h2, h3⟩ := infoInt
  refine wpList_append_sl w hgd s y 33 ho 3 i (.int .i64 0) 1 8 Try.underlying33 hi h1 h2 h3 rfl v gb xs.length (xs.map (Value.int .i64)) hs h.1 ad 1 c [.int .i64 x] hx rfl (fun j u hj => ?_) (by simp [Value.oneCell']) (by decide) (by omega) (by omega) ?_
  · rcases j with _ | j
    · cases hj
      show w.cell? (ad.add 0) = _
      unfold Addr.add
      simpa using hn
    · cases hj
  intro g p cap w' gb' k1 k2 k3 k4
  refine k _ gb' w' ⟨by rw [List.length_append, List.map_append]; simpa using k1, fun b e => ?_⟩ k2 fun b e => ?_
  · rcases k4 with k4 | k4
    · exact h.2 b (k4 ▸ e)
    · rw [k3] at e; cases e; omega
  · rcases k4 with k4 | k4
    · exact .inl (k4 ▸ e)
    · rw [k3] at e; cases e; exact .inr k4
end
def bz (zs : List Int) (i : Nat) : Int := wrap64 ((IntKind.u64.wrap (zs.getD i 0)).tmod 1048576)
def endsTo (k : Nat) : List Int := (List.range k).map fun i : Nat => (10 * ((i : Int) + 1) : Int)
def bytesTo (zs : List Int) (k : Nat) : List Int := (List.range k).map (bz zs)
def prs0 (l : List Int) : List P2 := l.map fun b => ((0, b) : P2)
def sumTo (zs : List Int) (k : Nat) : Int := (tot (prs0 (bytesTo zs k))).2
theorem bz_bounds (zs : List Int) (i : Nat) : 0 ≤ bz zs i ∧ bz zs i < 1048576 := by
  obtain ⟨H, h1, h2⟩ := modN (zs.getD i 0) 1048576 (by decide) (by decide)
  unfold bz
  rw [h2]
  omega
theorem endsTo_next (k : Nat) : endsTo (k + 1) = endsTo k ++ [10 * ((k : Int) + 1)] := by
  unfold endsTo
  rw [List.range_succ, List.map_append]
  rfl
theorem bytesTo_next (zs : List Int) (k : Nat) : bytesTo zs (k + 1) = bytesTo zs k ++ [bz zs k] := by
  unfold bytesTo
  rw [List.range_succ, List.map_append]
  rfl
theorem endsTo_len (k : Nat) : (endsTo k).length = k := by simp [endsTo]
theorem bytesTo_len (zs : List Int) (k : Nat) : (bytesTo zs k).length = k := by simp [bytesTo]
theorem sumTo_next (zs : List Int) (k : Nat) : sumTo zs (k + 1) = sumTo zs k + bz zs k := by
  unfold sumTo prs0
  rw [bytesTo_next, List.map_append]
  show (tot (_ ++ [((0, bz zs k) : P2)])).2 = _
  rw [tot_snoc]
  rfl
theorem sumTo_bounds (zs : List Int) : ∀ k, 0 ≤ sumTo zs k ∧ sumTo zs k ≤ 1048576 * k
  | 0 => by simp [sumTo, bytesTo, prs0, tot]
  | k + 1 => by
    have h1 := sumTo_bounds zs k
    have h2 := bz_bounds zs k
    rw [sumTo_next]
    omega
/-- What is left ahead of a place. -/
def leftTo (zs : List Int) (n k : Nat) : Int := (tot ((prs0 (bytesTo zs n)).drop k)).2
theorem leftTo_next {zs : List Int} {n k : Nat} (h : k < n) : leftTo zs n k = bz zs k + leftTo zs n (k + 1) := by
  have h1 : (prs0 (bytesTo zs n))[k]? = some (0, bz zs k) := by
    unfold prs0 bytesTo
    rw [List.getElem?_map, List.getElem?_map, List.getElem?_range h]
    rfl
  unfold leftTo
  rw [tot_drop h1]
  rfl
theorem leftTo_bounds (zs : List Int) (n : Nat) : ∀ d k, k + d = n → 0 ≤ leftTo zs n k ∧ leftTo zs n k ≤ 1048576 * d
  | 0, k, h => by
    have : (prs0 (bytesTo zs n)).drop k = [] := List.drop_of_length_le (by simp [prs0, bytesTo]; omega)
    unfold leftTo
    rw [this]
    simp [tot]
  | d + 1, k, h => by
    have h1 := leftTo_bounds zs n d (k + 1) (by omega)
    have h2 := bz_bounds zs k
    rw [leftTo_next (by omega)]
    omega

theorem endsTo_at {N j : Nat} (h : j < N) : (endsTo N)[j]? = some (10 * ((j : Int) + 1)) := by
  unfold endsTo
  rw [List.getElem?_map, List.getElem?_range h]
  rfl
theorem bytesTo_at {zs : List Int} {N j : Nat} (h : j < N) : (bytesTo zs N)[j]? = some (bz zs j) := by
  unfold bytesTo
  rw [List.getElem?_map, List.getElem?_range h]
  rfl
theorem leftTo_zero (zs : List Int) (N : Nat) : leftTo zs N 0 = sumTo zs N := rfl
/-- What the answer says of what was asked. -/
theorem old_facts {zs : List Int} {N : Nat} {high keep : Int} {k : Nat} (hN : N ≤ 60) (h : OldSays (endsTo N) (bytesTo zs N) high keep k) :
    (N = 0 → k = 0) ∧ (0 < N → k < N ∧ (leftTo zs N k ≤ keep ∨ k + 1 = N ∨ high < 10 * ((k : Int) + 1))) ∧ ∀ j, j < k → 10 * ((j : Int) + 1) ≤ high ∧ keep < leftTo zs N j := by
  have hnb : ¬ OldBad (endsTo N) (bytesTo zs N) := by
    rintro (h | h | ⟨b, hb, h⟩)
    · exact h (by rw [endsTo_len, bytesTo_len])
    · rw [endsTo_len] at h; omega
    · unfold bytesTo at hb
      obtain ⟨i, -, rfl⟩ := List.mem_map.1 hb
      have := bz_bounds zs i
      omega
  obtain ⟨n, ⟨o1, o2, o3⟩, hkn, hE, hF⟩ := h.good hnb
  have hlen : ((bytesTo zs N).map fun b => ((0, b) : P2)).length = N := by rw [List.length_map, bytesTo_len]
  have hnz : 0 < N → n < N ∧ ((tot (((bytesTo zs N).map fun b => ((0, b) : P2)).drop n)).2 ≤ keep ∨ n + 1 = N) := fun h0 => by
    have := o2 (fun e => by rw [e] at hlen; simp at hlen; omega)
    rwa [hlen] at this
  refine ⟨fun h0 => ?_, fun h0 => ?_, fun j hj => ?_⟩
  · have := o1 (List.eq_nil_of_length_eq_zero (hlen.trans h0))
    omega
  · obtain ⟨h1, h2⟩ := hnz h0
    refine ⟨by omega, ?_⟩
    rcases hF with rfl | ⟨e, he, hh⟩
    · rcases h2 with h2 | h2
      · exact .inl h2
      · exact .inr (.inl h2)
    · rw [endsTo_at (by omega)] at he
      cases he
      exact .inr (.inr hh)
  · have h0 : 0 < N := by
      rcases Nat.eq_zero_or_pos N with h0 | h0
      · have := o1 (List.eq_nil_of_length_eq_zero (hlen.trans h0)); omega
      · exact h0
    have h1 := (hnz h0).1
    exact ⟨hE j _ hj (endsTo_at (by omega)), o3 j (by omega)⟩
theorem Wn.apart {z : Nat} {v v' u : Value} {gE gB g9 g10 : Option Nat} {xs xs' ys : List Int} {w w9 : World} {n1 n2 : Nat} (_hE : Wn z v gE xs w) (hB : Wn z u gB ys w) (hne : ∀ b, gE = some b → gB ≠ some b) (h1 : w.heap.size ≤ n1) (h9 : Wn z v' g9 xs' w9)
    (n9 : ∀ b, g9 = some b → gE = some b ∨ n1 ≤ b) (h2 : w9.heap.size ≤ n2) (n10 : ∀ b, g10 = some b → gB = some b ∨ n2 ≤ b) : ∀ b, g9 = some b → g10 ≠ some b := by
  intro b e9 e10
  have l9 := (h9.lt b e9).2
  rcases n10 b e10 with e | e
  · rcases n9 b e9 with e' | e'
    · exact hne b e' e
    · have := (hB.lt b e).2; omega
  · omega
set_option maxHeartbeats 4000000 in
set_option maxRecDepth 100000 in
theorem least_law {A : Nat → Prop} (D : Devs) (v : Value) (zs : List Int) (high keep : Int) (w : World) (h : Nm A w v zs) :
    Calls Try.prog 7 #[v, .int .i64 high, .int .i64 keep] w fun e w' => e = .returned (.bool true) ∧ Below w.heap.size w w' := by
  have HAW := Lib.hid (awake8 D w)
  have HV := Lib.hid h
  obtain ⟨a1, c1, rfl⟩ := h.form
  obtain ⟨m, hm⟩ : ∃ m, zs.length = m := ⟨_, rfl⟩
  have HM := Lib.hid hm
  rw [hm] at HV ⊢
  clear h hm
  go_enter Try.func7, Try.ntmps7
  go_wp2_with fail
  refine HAW.out.mono ?_
  rintro e W1 ⟨rfl, hb1⟩
  have HB1 := Lib.hid hb1
  obtain ⟨Z, hZ⟩ : ∃ Z, W1.heap.size = Z := ⟨_, rfl⟩
  obtain ⟨W2, hW2⟩ : ∃ W2, W1.alloc (.cells #[] 3) = W2 := ⟨_, rfl⟩
  obtain ⟨W3, hW3⟩ : ∃ W3, W2.alloc (.cells #[] 3) = W3 := ⟨_, rfl⟩
  have hs2 : W2.heap.size = Z + 1 := by rw [← hW2, ← hZ]; simp
  have he : Wn Z (.slice (some ⟨Z, 0, none⟩) 0 0) (some Z) [] W2 := by rw [← hW2, ← hZ]; exact Wn.empty W1 (Nat.le_refl _)
  have hbt : Wn Z (.slice (some ⟨Z + 1, 0, none⟩) 0 0) (some (Z + 1)) [] W3 := by rw [← hW3, ← hs2]; exact Wn.empty W2 (by omega)
  have hb2 : Below Z W1 W2 := by rw [← hW2, ← hZ]; exact (Below.refl _ _).alloc (Nat.le_refl _) _
  have hb23 : Below W2.heap.size W2 W3 := by rw [← hW3]; exact (Below.refl _ _).alloc (Nat.le_refl _) _
  have H0 : Hid (Wn Z (.slice (some ⟨Z, 0, none⟩) 0 0) (some Z) (endsTo 0) W3 ∧ Wn Z (.slice (some ⟨Z + 1, 0, none⟩) 0 0) (some (Z + 1)) (bytesTo zs 0) W3 ∧ Below Z W1 W3) := Lib.hid ⟨he.below hb23, hbt, hb2.trans (hb23.mono (by omega))⟩
  have HZW : Hid (w.heap.size ≤ Z) := Lib.hid (by have := hb1.size; rw [hZ] at this; exact this)
  have HZ := Lib.hid hZ
  have HW2 := Lib.hid hW2
  have HW3 := Lib.hid hW3
  have HS2 := Lib.hid hs2
  clear hb1 HAW hZ hW2 hW3 hs2 he hbt hb2 hb23
  go_upto_region 5 with fail
  rw [HZ.out, HW2.out]
  first | rw [HW3.out, HS2.out] | rw [HW3.out]
  obtain ⟨N, hN⟩ : ∃ N, min m 60 = N := ⟨_, rfl⟩
  have HN := Lib.hid hN
  have HSZ : Hid (sumTo zs 0 = 0) := Lib.hid rfl
  clear hN
  go_upto_block 0 with fail
  go_cut [7, 8, 9, 10] from 18 to 49 (fun ev bv sv iv wx => ∃ gE gB, sv = .int .i64 (sumTo zs N) ∧ Wn Z ev gE (endsTo N) wx ∧ Wn Z bv gB (bytesTo zs N) wx ∧ Below Z W1 wx)
  case first =>
    go_wp2_with fail
    go_loopw [7, 8, 9, 10] (fun ev bv sv iv wr => ∃ (i : Nat) (gE gB : Option Nat), i ≤ m ∧ i ≤ 60 ∧ sv = .int .i64 (sumTo zs i) ∧ iv = .int .i64 i ∧ Wn Z ev gE (endsTo i) wr ∧ Wn Z bv gB (bytesTo zs i) wr ∧ (∀ b, gE = some b → gB ≠ some b) ∧ Below Z W1 wr) (fun _ _ _ iv _ => 60 - (intOf iv).toNat)
    case atStart => exact ⟨0, some Z, some (Z + 1), Nat.zero_le _, by omega, rfl, rfl, H0.out.1, H0.out.2.1, fun b e e2 => by (injection e with e; injection e2 with e2; omega), H0.out.2.2⟩
    case round =>
      obtain ⟨i, gE, gB, hi, hi60, rfl, rfl, hE, hB, hne, hbw⟩ := hrel
      have HE := Lib.hid hE
      have HB := Lib.hid hB
      have HNE := Lib.hid hne
      have HBW := Lib.hid hbw
      have HZ1 : Hid (Z ≤ wr.heap.size) := Lib.hid (by have := hbw.size; rw [HZ.out] at this; exact this)
      obtain ⟨S, hS⟩ : ∃ S, sumTo zs i = S := ⟨_, rfl⟩
      have hsb := sumTo_bounds zs i
      rw [hS] at hsb ⊢
      have s0 : 0 ≤ S := hsb.1
      have s1 : S ≤ 62914560 := by omega
      have HS := Lib.hid hS
      clear hE hB hne hbw hsb hS H0
      by_cases hc : i < m ∧ i < 60
      · obtain ⟨hlm, hl6⟩ := hc
        obtain ⟨x, hx⟩ : ∃ x, zs[i]? = some x := ⟨_, List.getElem?_eq_getElem (by rw [HM.out]; exact hlm)⟩
        obtain ⟨b, o, cap, e, -⟩ := HV.out.at hx
        obtain rfl : a1 = some ⟨b, o, none⟩ := by injection e
        have HX := Lib.hid hx
        have HBA := Lib.hid (HB1.out.trans (HBW.out.mono HZW.out))
        have HXD : Hid (bz zs i = wrap64 ((IntKind.u64.wrap x).tmod 1048576)) := Lib.hid (by unfold bz; rw [List.getD_eq_getElem?_getD, hx]; rfl)
        have i0 : (0 : Int) ≤ (i : Int) := by omega
        have i1 : (i : Int) < (m : Int) := by omega
        have hd1 : decide ((i : Int) < (m : Int)) = true := by simp; omega
        have hd2 : decide ((i : Int) < 60) = true := by simp; omega
        clear e hx
        go_upto_region 9 with fail
        have HE1 := Lib.hid (HE.out.below ((Below.refl wr.heap.size wr).alloc (Nat.le_refl _) (.cells #[.int .i64 (10 * ((i : Int) + 1))] 3)))
        have HB1' := Lib.hid (HB.out.below ((Below.refl wr.heap.size wr).alloc (Nat.le_refl _) (.cells #[.int .i64 (10 * ((i : Int) + 1))] 3)))
        have HBW1 := Lib.hid (HBW.out.alloc HZ1.out (.cells #[.int .i64 (10 * ((i : Int) + 1))] 3))
        have HC1 : Hid ((wr.alloc (.cells #[.int .i64 (10 * ((i : Int) + 1))] 3)).cell? ⟨wr.heap.size, 0, none⟩ = some (.int .i64 (10 * ((i : Int) + 1)))) := Lib.hid ((Blk.new wr _ _).cell rfl)
        have HLE : Hid ((endsTo i).length ≤ 1048576) := Lib.hid (by rw [endsTo_len]; omega)
        have HZ2 : Hid (Z ≤ (wr.alloc (.cells #[.int .i64 (10 * ((i : Int) + 1))] 3)).heap.size) := Lib.hid (Nat.le_trans HZ1.out (by simp))
        go_wp2_with (at_builtin; refine wp_add_num (by rfl) _ _ (by rfl) (by rfl) HE1.out ⟨wr.heap.size, 0, none⟩ 1 (10 * ((i : Int) + 1)) (by rfl) HC1.out HLE.out HZ2.out ?_)
        intro v9 g9 w9 hw9 hg9 hn9
        have HB9 := Lib.hid (HB1'.out.grown hg9 fun b e1 e2 => HNE.out b e2 e1)
        have HW9 : Hid (Wn Z v9 g9 (endsTo (i + 1)) w9) := Lib.hid (by rw [endsTo_next]; exact hw9)
        have HBW9 := Lib.hid (Below.appended HBW1.out hg9 HE1.out.2 HZ2.out)
        have HBA9 := Lib.hid (HB1.out.trans (HBW9.out.mono HZW.out))
        have c0 : w9.cell? ⟨b, o + i, none⟩ = some (.int .i64 x) := by
          obtain ⟨b', o', cap', e, c0⟩ := (HV.out.below HBA9.out).at HX.out
          have e2 : (some ⟨b, o, none⟩ : Option Addr) = some ⟨b', o', none⟩ := by injection e
          injection e2 with e3
          injection e3 with e4 e5
          subst e4 e5
          exact c0
        have HN9 := Lib.hid hn9
        have HZ9 : Hid (Z ≤ w9.heap.size) := Lib.hid (by have := HBW9.out.size; rw [HZ.out] at this; exact this)
        clear hw9 hg9 hn9
        go_upto_region 10 with fail
        have HB2 := Lib.hid (HB9.out.below ((Below.refl w9.heap.size w9).alloc (Nat.le_refl _) (.cells #[.int .i64 (wrap64 ((IntKind.u64.wrap x).tmod 1048576))] 3)))
        have HE2 := Lib.hid (HW9.out.below ((Below.refl w9.heap.size w9).alloc (Nat.le_refl _) (.cells #[.int .i64 (wrap64 ((IntKind.u64.wrap x).tmod 1048576))] 3)))
        have HBW2 := Lib.hid (HBW9.out.alloc HZ9.out (.cells #[.int .i64 (wrap64 ((IntKind.u64.wrap x).tmod 1048576))] 3))
        have HC2 : Hid ((w9.alloc (.cells #[.int .i64 (wrap64 ((IntKind.u64.wrap x).tmod 1048576))] 3)).cell? ⟨w9.heap.size, 0, none⟩ = some (.int .i64 (wrap64 ((IntKind.u64.wrap x).tmod 1048576)))) := Lib.hid ((Blk.new w9 _ _).cell rfl)
        have HLB : Hid ((bytesTo zs i).length ≤ 1048576) := Lib.hid (by rw [bytesTo_len]; omega)
        have HZ3 : Hid (Z ≤ (w9.alloc (.cells #[.int .i64 (wrap64 ((IntKind.u64.wrap x).tmod 1048576))] 3)).heap.size) := Lib.hid (Nat.le_trans HZ9.out (by simp))
        go_wp2_with (at_builtin; refine wp_add_num (by rfl) _ _ (by rfl) (by rfl) HB2.out ⟨w9.heap.size, 0, none⟩ 1 (wrap64 ((IntKind.u64.wrap x).tmod 1048576)) (by rfl) HC2.out HLB.out HZ3.out ?_)
        intro v10 g10 w10 hw10 hg10 hn10
        have HW10 : Hid (Wn Z v10 g10 (bytesTo zs (i + 1)) w10) := Lib.hid (by rw [bytesTo_next, HXD.out]; exact hw10)
        have HAP := Lib.hid (Wn.apart HE.out HB.out HNE.out (by omega) HW9.out HN9.out (by omega) hn10)
        have HE10 := Lib.hid (HE2.out.grown hg10 fun b e1 e2 => by
          rcases HN9.out b e1 with h | h
          · exact HNE.out b h e2
          · have h1 := (HB.out.lt b e2).2
            have h2 : wr.heap.size ≤ (wr.alloc (.cells #[.int .i64 (10 * ((i : Int) + 1))] 3)).heap.size := by simp
            omega)
        have HBW10 := Lib.hid (Below.appended HBW2.out hg10 HB2.out.2 HZ3.out)
        obtain ⟨q, hq⟩ : ∃ q, i + 1 = q := ⟨_, rfl⟩
        obtain ⟨B, hB⟩ : ∃ B, bz zs i = B := ⟨_, rfl⟩
        obtain ⟨b2, o2, cap2, rfl, c2⟩ := (HW10.out.nm).at (bytesTo_at (zs := zs) (N := i + 1) (j := i) (by omega))
        rw [hB] at c2
        rw [bytesTo_len, hq] at HW10 ⊢
        rw [hq] at HE10
        have HSN : Hid (sumTo zs q = S + B) := Lib.hid (by rw [← hq, sumTo_next, HS.out, hB])
        have hbb := bz_bounds zs i
        rw [hB] at hbb
        have b0 := hbb.1
        have b1 := hbb.2
        have i2 : (i : Int) < (q : Int) := by omega
        have hq6 : q ≤ 60 := by omega
        have hqm : q ≤ m := by omega
        have HQ := Lib.hid hq
        clear hw10 hg10 hn10 c0 hbb hB hq
        go_upto_region 11 with fail
        go_wp2_with fail
        go_roundw
        case rel => exact ⟨q, g9, g10, hqm, hq6, by rw [HSN.out], by rw [← HQ.out]; go_num, HE10.out, HW10.out, HAP.out, HBW10.out⟩
        case measure => have := HQ.out; simp [intOf]; omega
      · have HNI : Hid (i = N) := Lib.hid (by rw [← HN.out]; omega)
        have HSI : Hid (S = sumTo zs N) := Lib.hid (by rw [← HS.out, HNI.out])
        by_cases hlm : i < m
        · have hl6 : ¬ i < 60 := fun h => hc ⟨hlm, h⟩
          have hd1 : decide ((i : Int) < (m : Int)) = true := by simp; omega
          have hd2 : decide ((i : Int) < 60) = false := by simp; omega
          clear hc
          go_wp2_with fail
          go_meet
          case rel => exact ⟨gE, gB, by rw [HSI.out], by rw [← HNI.out]; exact HE.out, by rw [← HNI.out]; exact HB.out, HBW.out⟩
        · have hd1 : decide ((i : Int) < (m : Int)) = false := by simp; omega
          clear hc
          go_wp2_with fail
          go_meet
          case rel => exact ⟨gE, gB, by rw [HSI.out], by rw [← HNI.out]; exact HE.out, by rw [← HNI.out]; exact HB.out, HBW.out⟩
  case rest =>
  obtain ⟨gE, gB, rfl, hE, hB, hbw⟩ := hcut
  have hNm : N ≤ 60 := by have := HN.out; omega
  have HBA := Lib.hid (HB1.out.trans (hbw.mono HZW.out))
  have HO := Lib.hid (D.old u7 u8 (endsTo N) (bytesTo zs N) high keep wc hE.nm hB.nm (by rw [endsTo_len]; omega) (by rw [bytesTo_len]; omega))
  have HE := Lib.hid hE
  have HB := Lib.hid hB
  clear hbw hE hB HSZ
  go_wp2_with fail
  refine HO.out.mono ?_
  rintro e W4 ⟨k, rfl, hk, hb4⟩
  obtain ⟨f1, f2, f3⟩ := old_facts hNm hk
  have HE4 := Lib.hid (HE.out.below hb4)
  have HB4 := Lib.hid (HB.out.below hb4)
  have HBA4 := Lib.hid (HBA.out.trans (hb4.mono HBA.out.size))
  obtain ⟨ae, ce, rfl⟩ := HE.out.form
  obtain ⟨ab, cb, rfl⟩ := HB.out.form
  rw [endsTo_len] at HE4 ⊢
  rw [bytesTo_len] at HB4 ⊢
  have HF1 := Lib.hid f1
  have HF2 := Lib.hid f2
  have HF3 := Lib.hid f3
  clear f1 f2 f3 hk hb4 HO
  by_cases h0 : N = 0
  · have hd : ((N : Int) == 0) = true := by simp; omega
    have hk0 : ((k : Int) == 0) = true := by have := HF1.out h0; simp; omega
    clear h0
    go_wp2_with fail
    go_ret
    exact ⟨rfl, HBA4.out⟩
  have hN0 : 0 < N := by omega
  have hkN : k < N := (HF2.out hN0).1
  have hd : ((N : Int) == 0) = false := by simp; omega
  have hkl : decide ((k : Int) < 0) = false := by simp
  have hkg : decide ((N : Int) ≤ (k : Int)) = false := by simp; omega
  go_upto_region 17 with fail
  clear hd hkl hkg
  obtain ⟨LL, hLL⟩ : ∃ L, sumTo zs N = L := ⟨_, rfl⟩
  have HL0 : Hid (leftTo zs N 0 = LL) := Lib.hid hLL
  rw [hLL]
  clear hLL
  go_wp2_with fail
  go_loopw [12, 13] (fun lv iv wr => ∃ i : Nat, i ≤ k ∧ lv = .int .i64 (leftTo zs N i) ∧ iv = .int .i64 i ∧ W4 = wr) (fun _ iv _ => k - (intOf iv).toNat)
  case atStart => exact ⟨0, Nat.zero_le _, by rw [HL0.out], rfl, rfl⟩
  case round =>
    obtain ⟨i, hik, rfl, rfl, rfl⟩ := hrel
    by_cases hlt : i < k
    · obtain ⟨be, oe, cape, e1, c0⟩ := (HE4.out.nm).at (endsTo_at (N := N) (j := i) (by omega))
      obtain ⟨bb, ob, capb, e2, c1'⟩ := (HB4.out.nm).at (bytesTo_at (zs := zs) (N := N) (j := i) (by omega))
      obtain rfl : ae = some ⟨be, oe, none⟩ := by injection e1
      obtain rfl : ab = some ⟨bb, ob, none⟩ := by injection e2
      obtain ⟨g1, g2⟩ := HF3.out i hlt
      have hnx := leftTo_next (zs := zs) (n := N) (k := i) (by omega)
      obtain ⟨L, hL⟩ : ∃ L, leftTo zs N i = L := ⟨_, rfl⟩
      obtain ⟨B, hB⟩ : ∃ B, bz zs i = B := ⟨_, rfl⟩
      have hlb := leftTo_bounds zs N (N - i) i (by omega)
      have hbb := bz_bounds zs i
      rw [hL] at g2 hnx hlb ⊢
      rw [hB] at c1' hnx hbb
      have l0 : 0 ≤ L := hlb.1
      have l1 : L ≤ 62914560 := by omega
      have b0 := hbb.1
      have b1 := hbb.2
      have HNX : Hid (leftTo zs N (i + 1) = L - B) := Lib.hid (by omega)
      have q1 : decide (high < 10 * ((i : Int) + 1)) = false := by simp; omega
      have q2 : decide (L ≤ keep) = false := by simp; omega
      have i0 : (0 : Int) ≤ (i : Int) := by omega
      have i1 : (i : Int) < (N : Int) := by omega
      have hd1 : decide ((i : Int) < (k : Int)) = true := by simp; omega
      clear e1 e2 g1 g2 hL hB hlb hbb hnx
      go_wp2_with fail
      go_roundw
      case rel => exact ⟨i + 1, by omega, by rw [HNX.out], by go_num, trivial⟩
      case measure => simp [intOf]; omega
    · have hik2 : i = k := by omega
      subst hik2
      obtain ⟨L, hL⟩ : ∃ L, leftTo zs N i = L := ⟨_, rfl⟩
      have hgood := (HF2.out hN0).2
      rw [hL] at hgood ⊢
      obtain ⟨be, oe, cape, e1, c0⟩ := (HE4.out.nm).at (endsTo_at (N := N) (j := i) (by omega))
      obtain rfl : ae = some ⟨be, oe, none⟩ := by injection e1
      have i0 : (0 : Int) ≤ (i : Int) := by omega
      have i1 : (i : Int) < (N : Int) := by omega
      have hd1 : decide ((i : Int) < (i : Int)) = false := by simp
      clear e1 hL
      by_cases q1 : L ≤ keep
      · have q2 : decide (L ≤ keep) = true := by simpa using q1
        clear hgood
        go_wp2_with fail
        go_ret
        exact ⟨rfl, HBA4.out⟩
      · have q2 : decide (L ≤ keep) = false := by simpa using q1
        by_cases q3 : i + 1 = N
        · have q4 : ((i : Int) == (N : Int) - 1) = true := by simp; omega
          clear hgood
          go_wp2_with fail
          go_ret
          exact ⟨rfl, HBA4.out⟩
        · have q4 : ((i : Int) == (N : Int) - 1) = false := by simp; omega
          have q5 : high < 10 * ((i : Int) + 1) := by rcases hgood with h | h | h; exact absurd h q1; exact absurd h q3; exact h
          have q6 : decide (high < 10 * ((i : Int) + 1)) = true := by simpa using q5
          clear hgood q1 q3 q5
          go_wp2_with fail
          go_ret
          exact ⟨rfl, HBA4.out⟩
end Go.Proofs.Ytfapigccdbpepaa
