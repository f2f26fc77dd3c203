/- THE CONTRACT OF slices.Delete AT A NUMBER. -/
import Derived.Test.YtmkinnheoejphaaGreatDoorPnL
import Derived.Deep.RegionLaw
import Derived.Lib.SliceRun
namespace Go.Proofs.YtmkinnheoejphaaGreatDoor
open Go.RowKit

/-- A row of cells in block g from p on: an append in its place, that has room. -/
theorem run_append_room_sl {P : Program} (w : World) (t ty e : TypeId) (i : TypeInfo) (size : Nat) (ht : P.underlying t = some (.slice e)) (hi : P.info? e = some i) (hsz : i.size = size)
    (g p n k cap : Nat) (xs news : List Value) (hk : k ≤ n) (hs : Sl w (.slice (some ⟨g, p, none⟩) n cap) (some g) e size n xs) (a : Addr) (m c : Nat) (hl : news.length = m * size) (hnews : ∀ j u, news[j]? = some u → w.cell? (a.add j) = some u) (h1 : ∀ u ∈ news, u.oneCell' = true) (hroom : k + m ≤ n) :
    ∃ w', (Builtin.append_ #[t, t] ty #[.slice (some ⟨g, p, none⟩) k cap, .slice (some a) m c]).run P w = .ok (.slice (some ⟨g, p, none⟩) (k + m) cap) w' ∧ w.grownBy w' (some g) ∧
      ∃ cur, w'.heap[g]? = some (.cells cur e (0, 0)) ∧ p + n * size ≤ cur.size ∧ p + cap * size ≤ cur.size ∧ (cur.toList.drop p).take ((k + m) * size) = xs.take (k * size) ++ news := by
  subst hsz
  obtain ⟨hx, h2⟩ := hs
  rcases h2 with ⟨e1, _⟩ | ⟨g', p', cap', cur, e1, e2, hg, hc, hcs, ht'⟩
  · cases e1
  · cases e1
    injection e2 with e3 e4 e5
    injection e3 with e3
    injection e3 with e6 e7
    subst e7 e5
    have hkn : k * i.size ≤ n * i.size := Nat.mul_le_mul_right _ hk
    have hnc : n * i.size ≤ cap * i.size := Nat.mul_le_mul_right _ hc
    have hkm : (k + m) * i.size ≤ n * i.size := Nat.mul_le_mul_right _ hroom
    rw [Nat.add_mul] at hkm
    have hfit : p + k * i.size + news.length ≤ cur.size := by rw [hl]; omega
    have hr := run_append_room_at (P := P) w t ty e i ht hi g p k cap cur hg a m c news hl hnews h1 (by omega) hfit
    refine ⟨_, hr, ⟨rfl, rfl, rfl, by simp, fun j _ hj => setRow_other w g j _ (fun e => hj (by simp [e]))⟩, _, setRow_heap w g cur _ e _ hg, ?_, ?_, ?_⟩
    · simp only [List.size_toArray, List.length_append, List.length_take, List.length_drop, Array.length_toList]; omega
    · simp only [List.size_toArray, List.length_append, List.length_take, List.length_drop, Array.length_toList]; omega
    · show List.take ((k + m) * i.size) (List.drop p (cur.toList.take (p + k * i.size) ++ news ++ cur.toList.drop (p + k * i.size + news.length))) = _
      have hp : p ≤ (cur.toList.take (p + k * i.size)).length := by rw [List.length_take, Array.length_toList]; omega
      have e1 : xs.take (k * i.size) = (cur.toList.drop p).take (k * i.size) := by rw [← ht', List.take_take, Nat.min_eq_left hkn]
      have e2 : ((cur.toList.drop p).take (k * i.size) ++ news).length = (k + m) * i.size := by
        rw [List.length_append, List.length_take, List.length_drop, Array.length_toList, hl, Nat.add_mul]; omega
      rw [List.append_assoc, List.drop_append_of_le_length hp, List.drop_take, Nat.add_sub_cancel_left, ← List.append_assoc, e1, ← e2]
      exact List.take_left
/-- clear of a slice in such a block: only its own cells are others. -/
theorem run_clear_sl {P : Program} (w : World) (t e ty : TypeId) (z : Value) (size : Nat) (ht : P.underlying t = some (.slice e)) (hv : ∀ w, (zeroValue e).run P w = .ok z w) (hz : z.cells.size = size) (hs0 : 0 < size) (h1 : ∀ u ∈ z.cells.toList, u.oneCell' = true)
    (g q n c : Nat) (cur : Array Value) (hg : w.heap[g]? = some (.cells cur e (0, 0))) (hfit : q + n * size ≤ cur.size) :
    ∃ w', (Builtin.clear_ #[t] ty #[.slice (some ⟨g, q, none⟩) n c]).run P w = .ok (.tuple #[]) w' ∧ w.grownBy w' (some g) ∧ ∃ cur', w'.heap[g]? = some (.cells cur' e (0, 0)) ∧ cur'.size = cur.size ∧ cur'.toList.take q = cur.toList.take q := by
  rcases Nat.eq_zero_or_pos n with rfl | hn
  · refine ⟨w, ?_, ⟨rfl, rfl, rfl, Nat.le_refl _, fun _ _ _ => rfl⟩, cur, hg, rfl, rfl⟩
    simp [Builtin.clear_, run_underlying ht]
  · have hzl : (Builtin.zeroCells z.cells n).toList.length = n * size := by
      rw [Array.length_toList, size_zeroCells, hz]
    have hz1 : ∀ u ∈ (Builtin.zeroCells z.cells n).toList, u.oneCell' = true := fun u hu => by
      unfold Builtin.zeroCells at hu
      rw [Array.mem_toList_iff, Array.mem_map] at hu
      obtain ⟨j, -, rfl⟩ := hu
      refine h1 _ ?_
      rw [getElem!_pos z.cells (j % z.cells.size) (Nat.mod_lt _ (by rw [hz]; exact hs0)), Array.mem_toList_iff]
      exact Array.getElem_mem _
    have hst := run_storeCells_at P g q e (Builtin.zeroCells z.cells n).toList 0 cur w hg (by rw [hzl]; simpa using hfit) hz1
    simp only [Nat.add_zero] at hst
    obtain ⟨zs, hzs⟩ : ∃ zs, (Builtin.zeroCells z.cells n).toList = zs := ⟨_, rfl⟩
    rw [hzs] at hzl hst
    obtain ⟨m, rfl⟩ : ∃ m, n = m + 1 := ⟨n - 1, by omega⟩
    refine ⟨w.setRow g (cur.toList.take q ++ zs ++ cur.toList.drop (q + zs.length)).toArray, ?_, ⟨rfl, rfl, rfl, by simp [World.setRow], fun j _ hj => setRow_other w g j _ (fun e => hj (by simp [e]))⟩, _, setRow_heap w g cur _ e _ hg, ?_, ?_⟩
    · simp [Builtin.clear_, run_underlying ht, hv, hzs, hst]
    · simp only [List.size_toArray, List.length_append, List.length_take, List.length_drop, Array.length_toList]
      omega
    · show List.take q (cur.toList.take q ++ zs ++ cur.toList.drop (q + zs.length)) = _
      have hq : (cur.toList.take q).length = q := by rw [List.length_take, Array.length_toList]; omega
      rw [List.append_assoc, List.take_append_of_le_length (by omega), List.take_take, Nat.min_self]
section
variable {P : Program} (w : World)
/-- .. at a step of a region that draws its order. -/
theorem step_append_room_sl {ops : Array Oper} {o : Oper} {a : Act} {K : Act → World → Prop} {Q : Exit → Act → World → Prop} {E : Prop} (hgd : o.guard = none) (s x : Operand) (t : TypeId)
    (ho : o.op = .call { callee := .builtin .append, args := #[s, x], argTypes := #[t, t] })
    (e : TypeId) (i : TypeInfo) (size : Nat) (ht : P.underlying t = some (.slice e)) (hi : P.info? e = some i) (hsz : i.size = size)
    (g p n k cap : Nat) (xs news : List Value) (hk : k ≤ n) (hs : a.eval s = .slice (some ⟨g, p, none⟩) k cap) (hown : Sl w (.slice (some ⟨g, p, none⟩) n cap) (some g) e size n xs)
    (ad : Addr) (m c : Nat) (hx : a.eval x = .slice (some ad) m c) (hl : news.length = m * size) (hnews : ∀ j u, news[j]? = some u → w.cell? (ad.add j) = some u) (h1 : ∀ u ∈ news, u.oneCell' = true) (hroom : k + m ≤ n)
    (h : ∀ w', w.grownBy w' (some g) → (∃ cur, w'.heap[g]? = some (.cells cur e (0, 0)) ∧ p + n * size ≤ cur.size ∧ p + cap * size ≤ cur.size ∧ (cur.toList.drop p).take ((k + m) * size) = xs.take (k * size) ++ news) → K (a.put o.dst (.slice (some ⟨g, p, none⟩) (k + m) cap)) w') :
    if Region.wanted o (yielded ops a.tmps) = true then Oper.wp P o a w K Q else E := by
  have hw : Region.wanted o (yielded ops a.tmps) = true := by simp [Region.wanted, hgd]
  rw [if_pos hw]
  obtain ⟨w', hr, h2, h3⟩ := run_append_room_sl (P := P) w t o.type e i size ht hi hsz g p n k cap xs news hk hown ad m c hl hnews h1 hroom
  unfold Oper.wp execOp
  simp only [ho, resolve, invoke, builtin, Sem.run_bind, Sem.run_pure, Result.andThen_ok, List.map_toArray, List.map_cons, List.map_nil, hs, hx, hr]
  exact h w' h2 h3
theorem wpList_clear_sl {ops : Array Oper} {rest : List Oper} {o : Oper} {a : Act} {Q : Exit → Act → World → Prop} (hgd : o.guard = none) (s : Operand) (t : TypeId)
    (ho : o.op = .call { callee := .builtin .clear, args := #[s], argTypes := #[t] }) (e : TypeId) (z : Value) (size : Nat) (ht : P.underlying t = some (.slice e)) (hv : ∀ w, (zeroValue e).run P w = .ok z w) (hz : z.cells.size = size) (hs0 : 0 < size) (h1 : ∀ u ∈ z.cells.toList, u.oneCell' = true)
    (g q n c : Nat) (hs : a.eval s = .slice (some ⟨g, q, none⟩) n c) (cur : Array Value) (hg : w.heap[g]? = some (.cells cur e (0, 0))) (hfit : q + n * size ≤ cur.size)
    (h : ∀ w', w.grownBy w' (some g) → (∃ cur', w'.heap[g]? = some (.cells cur' e (0, 0)) ∧ cur'.size = cur.size ∧ cur'.toList.take q = cur.toList.take q) → wpList P ops Q rest (a.put o.dst (.tuple #[])) w') : wpList P ops Q (o :: rest) a w := by
  refine wpList_plain hgd fun K hK => ?_
  obtain ⟨w', hr, h2, h3⟩ := run_clear_sl (P := P) w t e o.type z size ht hv hz hs0 h1 g q n c cur hg hfit
  unfold Oper.wp execOp
  simp only [ho, resolve, invoke, builtin, Sem.run_bind, Sem.run_pure, Result.andThen_ok, List.map_toArray, List.map_cons, List.map_nil, hs, hr]
  exact hK _ _ (h w' h2 h3)
end
theorem zeroI (w : World) : (zeroValue 3).run Tryz.prog w = .ok (.int .i64 0) w := by kernel_rfl
set_option maxHeartbeats 2000000 in
set_option maxRecDepth 100000 in
theorem delete_less {w : World} {g p N cap : Nat} {xs : List Value} (h : Sl w (.slice (some ⟨g, p, none⟩) N cap) (some g) 3 1 N xs) (hc : N ≤ cap) (i j : Nat) (hij : i < j) (hj : j ≤ N) (hN : N ≤ 1048576) (h1 : ∀ u ∈ xs, u.oneCell' = true) :
    Calls Tryz.prog 63 #[.slice (some ⟨g, p, none⟩) N cap, .int .i64 i, .int .i64 j] w fun e w' => e = .returned (.slice (some ⟨g, p, none⟩) (N - (j - i)) cap) ∧
      Sl w' (.slice (some ⟨g, p, none⟩) (N - (j - i)) cap) (some g) 3 1 (N - (j - i)) (xs.take (i) ++ xs.drop (j)) ∧ w.grownBy w' (some g) := by
  obtain ⟨m, hm⟩ : ∃ m, N - j = m := ⟨_, rfl⟩
  have hkN : i + m < N := by omega
  have hke : N - (j - i) = i + m := by omega
  rw [hke]
  have hnews : Hid (∀ (A : Addr), (0 < m → A = ⟨g, p + j, none⟩) → ∀ (t : Nat) u, (xs.drop (j))[t]? = some u → w.drew.cell? (A.add t) = some u) := Lib.hid fun A hA t u hu => by
    have ht := (List.getElem?_eq_some_iff.1 hu).1
    rw [List.length_drop, h.1] at ht
    rw [hA (by omega), Addr.add_lit, Nat.add_assoc]
    rw [List.getElem?_drop] at hu
    exact h.cell rfl _ u hu
  have hnl : Hid ((xs.drop (j)).length = m * 1) := Lib.hid (by rw [List.length_drop, h.1]; omega)
  have hn1 : Hid (∀ u ∈ xs.drop (j), u.oneCell' = true) := Lib.hid fun u hu => h1 u (List.mem_of_mem_drop hu)
  have HSL : Hid (Sl w.drew (.slice (some ⟨g, p, none⟩) N cap) (some g) 3 1 N xs) := Lib.hid (h.same fun _ _ => rfl)
  have hne : ((i : Int) == (j : Int)) = false := by simp; omega
  have hic : i ≤ cap := by omega
  have hjc : j ≤ cap := by omega
  have hkc : i + m < cap := by omega
  have hiN : i ≤ N := by omega
  have HFIN : Hid (∀ w1 w2, w.drew.grownBy w1 (some g) → w1.grownBy w2 (some g) → ∀ cur cur', w1.heap[g]? = some (.cells cur 3 (0, 0)) → p + cap ≤ cur.size → (cur.toList.drop p).take ((i + m)) = xs.take (i) ++ xs.drop (j) → w2.heap[g]? = some (.cells cur' 3 (0, 0)) → cur'.size = cur.size → cur'.toList.take (p + (i + m)) = cur.toList.take (p + (i + m)) →
      Sl w2 (.slice (some ⟨g, p, none⟩) (i + m) cap) (some g) 3 1 (i + m) (xs.take (i) ++ xs.drop (j)) ∧ w.grownBy w2 (some g)) := Lib.hid fun w1 w2 g1 g2 cur cur' h2 h3 h4 h5 h6 h7 => by
    refine ⟨⟨by rw [← h4, List.length_take, List.length_drop, Array.length_toList]; omega, .inr ⟨g, p, cap, cur', rfl, rfl, h5, by omega, by omega, ?_⟩⟩, ⟨g2.os.trans g1.os, g2.tape.trans g1.tape, g2.output.trans g1.output, Nat.le_trans g1.size g2.size, fun b hb hn => (g2.block b (Nat.lt_of_lt_of_le hb g1.size) hn).trans (g1.block b hb hn)⟩⟩
    simp only [Nat.mul_one]
    have key : ∀ l : List Value, (l.drop p).take ((i + m)) = (l.take (p + (i + m))).drop p := fun l => by rw [List.drop_take, Nat.add_sub_cancel_left]
    rw [← h4, key, key, h7]
  obtain ⟨i0, hi0, hz0, hz1, -, hz2⟩ := infoInt
  have hv := zeroI
  clear h h1 hke
  go_enter Tryz.func63, Tryz.ntmps63
  by_cases hcj : cap = j
  · subst hcj
    obtain rfl : m = 0 := by omega
    obtain ⟨cur, hcu, hcs, hct⟩ : ∃ cur, w.drew.heap[g]? = some (.cells cur 3 (0, 0)) ∧ p + cap ≤ cur.size ∧ (cur.toList.drop p).take ((i + 0)) = xs.take (i) ++ xs.drop (cap) := by
      have hsl := HSL.out
      have hx := hsl.1
      rcases hsl.2 with ⟨e1, _⟩ | ⟨g', p', cap', cur, e1, e2, hg, hc', hcs, ht'⟩
      · cases e1
      · cases e1
        injection e2 with e3 e4 e5
        injection e3 with e3
        injection e3 with e6 e7
        subst e7 e5
        simp only [Nat.mul_one] at hcs ht'
        refine ⟨cur, hg, hcs, ?_⟩
        rw [show xs.drop (cap) = [] from List.drop_of_length_le (by rw [hx]; omega), List.append_nil, Nat.add_zero, ← ht', List.take_take, Nat.min_eq_left (by omega)]
    have HCU := Lib.hid hcu
    have HCS := Lib.hid hcs
    have HCT := Lib.hid hct
    clear hcu hcs hct
    go_upto_region 5 with fail
    go_region_law (first | fail)
    obtain ⟨w2, hcl, hg2, cur', hcu2, hcs2, hct2⟩ := run_clear_sl (P := Tryz.prog) w.drew 32 3 0 (.int .i64 0) 1 Tryz.underlying32 hv rfl (by decide) (by simp [Value.oneCell', Value.cells]) g (p + i) (N - i) (cap - i) cur HCU.out (by have := HCS.out; omega)
    have HRES := Lib.hid (HFIN.out w.drew w2 (World.grownBy.refl _ _) hg2 cur cur' HCU.out HCS.out HCT.out hcu2 hcs2 hct2)
    clear hg2 hcu2 hcs2 hct2
    go_wp2_with fail
    go_ret
    exact ⟨rfl, HRES.out⟩
  · have hcj' : ((cap - j == 0)) = false := by simp; omega
    have hcj2 : ¬ cap - j = 0 := by omega
    go_upto_region 5 with fail
    go_region_law (first
      | (refine step_append_room_sl _ (by rfl) _ _ _ (by rfl) 3 i0 1 Tryz.underlying32 hi0 hz1 g p N i cap xs (xs.drop (j)) hiN (by rfl) HSL.out (⟨g, p + j, none⟩) m (cap - j) (by rfl) hnl.out (hnews.out _ (fun _ => rfl)) hn1.out (by omega) ?_; intro w1 hg1 hcur1)
      | fail)
    obtain ⟨cur, hcu, -, hcs, hct⟩ := hcur1
    simp only [Nat.mul_one] at hcs hct
    have HCU := Lib.hid hcu
    have HCS := Lib.hid hcs
    have HCT := Lib.hid hct
    have HG1 := Lib.hid hg1
    clear hcu hcs hct hg1
    obtain ⟨w2, hcl, hg2, cur', hcu2, hcs2, hct2⟩ := run_clear_sl (P := Tryz.prog) w1 32 3 0 (.int .i64 0) 1 Tryz.underlying32 hv rfl (by decide) (by simp [Value.oneCell', Value.cells]) g (p + (i + m)) (N - (i + m)) (cap - (i + m)) cur HCU.out (by have := HCS.out; omega)
    have HRES := Lib.hid (HFIN.out w1 w2 HG1.out hg2 cur cur' HCU.out HCS.out HCT.out hcu2 hcs2 hct2)
    clear hg2 hcu2 hcs2 hct2
    go_wp2_with fail
    go_ret
    exact ⟨rfl, HRES.out⟩
end Go.Proofs.YtmkinnheoejphaaGreatDoor
