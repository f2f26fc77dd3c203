import Derived.Test.YtdaoeplblkfapaaGreatDoorM16
import Derived.Deep.RegionLaw
import Derived.Lib.SliceRun
import Derived.Test.YtdaoeplblkfapaaGreatDoorM15

/- THE CONTRACT OF slices.Delete AT THE SEGMENT (three cells). -/
namespace Go.Proofs.YtdaoeplblkfapaaGreatDoor
open Go.RowKit

/-- A row of cells in block g from p on: an append in its place, that has room. -/
theorem run_append_room_sl {P : Program} (w : World) (t ty e : TypeId) (i : TypeInfo) (size : Nat) (ht : P.underlying t = some (.slice e)) (hi : P.info? e = some i) (hsz : i.size = size)
    (g p n k cap : Nat) (xs news : List Value) (hk : k ≤ n) (hs : Sl w (.slice (some ⟨g, p, none⟩) n cap) (some g) e size n xs) (a : Addr) (m c : Nat) (hl : news.length = m * size) (hnews : ∀ j u, news[j]? = some u → w.cell? (a.add j) = some u) (h1 : ∀ u ∈ news, u.oneCell' = true) (hroom : k + m ≤ n) :
    ∃ w', (Builtin.append_ #[t, t] ty #[.slice (some ⟨g, p, none⟩) k cap, .slice (some a) m c]).run P w = .ok (.slice (some ⟨g, p, none⟩) (k + m) cap) w' ∧ w.grownBy w' (some g) ∧
      ∃ cur, w'.heap[g]? = some (.cells cur e (0, 0)) ∧ p + n * size ≤ cur.size ∧ p + cap * size ≤ cur.size ∧ (cur.toList.drop p).take ((k + m) * size) = xs.take (k * size) ++ news := by
  subst hsz
  obtain ⟨hx, h2⟩ := hs
  rcases h2 with ⟨e1, _⟩ | ⟨g', p', cap', cur, e1, e2, hg, hc, hcs, ht'⟩
  · cases e1
  · cases e1
    injection e2 with e3 e4 e5
    injection e3 with e3
    injection e3 with e6 e7
    subst e7 e5
    have hkn : k * i.size ≤ n * i.size := Nat.mul_le_mul_right _ hk
    have hnc : n * i.size ≤ cap * i.size := Nat.mul_le_mul_right _ hc
    have hkm : (k + m) * i.size ≤ n * i.size := Nat.mul_le_mul_right _ hroom
    rw [Nat.add_mul] at hkm
    have hfit : p + k * i.size + news.length ≤ cur.size := by rw [hl]; omega
    have hr := run_append_room_at (P := P) w t ty e i ht hi g p k cap cur hg a m c news hl hnews h1 (by omega) hfit
    refine ⟨_, hr, ⟨rfl, rfl, rfl, by simp, fun j _ hj => setRow_other w g j _ (fun e => hj (by simp [e]))⟩, _, setRow_heap w g cur _ e _ hg, ?_, ?_, ?_⟩
    · simp only [List.size_toArray, List.length_append, List.length_take, List.length_drop, Array.length_toList]; omega
    · simp only [List.size_toArray, List.length_append, List.length_take, List.length_drop, Array.length_toList]; omega
    · show List.take ((k + m) * i.size) (List.drop p (cur.toList.take (p + k * i.size) ++ news ++ cur.toList.drop (p + k * i.size + news.length))) = _
      have hp : p ≤ (cur.toList.take (p + k * i.size)).length := by rw [List.length_take, Array.length_toList]; omega
      have e1 : xs.take (k * i.size) = (cur.toList.drop p).take (k * i.size) := by rw [← ht', List.take_take, Nat.min_eq_left hkn]
      have e2 : ((cur.toList.drop p).take (k * i.size) ++ news).length = (k + m) * i.size := by
        rw [List.length_append, List.length_take, List.length_drop, Array.length_toList, hl, Nat.add_mul]; omega
      rw [List.append_assoc, List.drop_append_of_le_length hp, List.drop_take, Nat.add_sub_cancel_left, ← List.append_assoc, e1, ← e2]
      exact List.take_left
/-- clear of a slice in such a block: only its own cells are others. -/
theorem run_clear_sl {P : Program} (w : World) (t e ty : TypeId) (z : Value) (size : Nat) (ht : P.underlying t = some (.slice e)) (hv : ∀ w, (zeroValue e).run P w = .ok z w) (hz : z.cells.size = size) (hs0 : 0 < size) (h1 : ∀ u ∈ z.cells.toList, u.oneCell' = true)
    (g q n c : Nat) (cur : Array Value) (hg : w.heap[g]? = some (.cells cur e (0, 0))) (hfit : q + n * size ≤ cur.size) :
    ∃ w', (Builtin.clear_ #[t] ty #[.slice (some ⟨g, q, none⟩) n c]).run P w = .ok (.tuple #[]) w' ∧ w.grownBy w' (some g) ∧ ∃ cur', w'.heap[g]? = some (.cells cur' e (0, 0)) ∧ cur'.size = cur.size ∧ cur'.toList.take q = cur.toList.take q := by
  rcases Nat.eq_zero_or_pos n with rfl | hn
  · refine ⟨w, ?_, ⟨rfl, rfl, rfl, Nat.le_refl _, fun _ _ _ => rfl⟩, cur, hg, rfl, rfl⟩
    simp [Builtin.clear_, run_underlying ht]
  · have hzl : (Builtin.zeroCells z.cells n).toList.length = n * size := by
      rw [Array.length_toList, size_zeroCells, hz]
    have hz1 : ∀ u ∈ (Builtin.zeroCells z.cells n).toList, u.oneCell' = true := fun u hu => by
      unfold Builtin.zeroCells at hu
      rw [Array.mem_toList_iff, Array.mem_map] at hu
      obtain ⟨j, -, rfl⟩ := hu
      refine h1 _ ?_
      rw [getElem!_pos z.cells (j % z.cells.size) (Nat.mod_lt _ (by rw [hz]; exact hs0)), Array.mem_toList_iff]
      exact Array.getElem_mem _
    have hst := run_storeCells_at P g q e (Builtin.zeroCells z.cells n).toList 0 cur w hg (by rw [hzl]; simpa using hfit) hz1
    simp only [Nat.add_zero] at hst
    obtain ⟨zs, hzs⟩ : ∃ zs, (Builtin.zeroCells z.cells n).toList = zs := ⟨_, rfl⟩
    rw [hzs] at hzl hst
    obtain ⟨m, rfl⟩ : ∃ m, n = m + 1 := ⟨n - 1, by omega⟩
    refine ⟨w.setRow g (cur.toList.take q ++ zs ++ cur.toList.drop (q + zs.length)).toArray, ?_, ⟨rfl, rfl, rfl, by simp [World.setRow], fun j _ hj => setRow_other w g j _ (fun e => hj (by simp [e]))⟩, _, setRow_heap w g cur _ e _ hg, ?_, ?_⟩
    · simp [Builtin.clear_, run_underlying ht, hv, hzs, hst]
    · simp only [List.size_toArray, List.length_append, List.length_take, List.length_drop, Array.length_toList]
      omega
    · show List.take q (cur.toList.take q ++ zs ++ cur.toList.drop (q + zs.length)) = _
      have hq : (cur.toList.take q).length = q := by rw [List.length_take, Array.length_toList]; omega
      rw [List.append_assoc, List.take_append_of_le_length (by omega), List.take_take, Nat.min_self]
section
variable {P : Program} (w : World)
/-- .. at a step of a region that draws its order. -/
theorem step_append_room_sl {ops : Array Oper} {o : Oper} {a : Act} {K : Act → World → Prop} {Q : Exit → Act → World → Prop} {E : Prop} (hgd : o.guard = none) (s x : Operand) (t : TypeId)
    (ho : o.op = .call { callee := .builtin .append, args := #[s, x], argTypes := #[t, t] })
    (e : TypeId) (i : TypeInfo) (size : Nat) (ht : P.underlying t = some (.slice e)) (hi : P.info? e = some i) (hsz : i.size = size)
    (g p n k cap : Nat) (xs news : List Value) (hk : k ≤ n) (hs : a.eval s = .slice (some ⟨g, p, none⟩) k cap) (hown : Sl w (.slice (some ⟨g, p, none⟩) n cap) (some g) e size n xs)
    (ad : Addr) (m c : Nat) (hx : a.eval x = .slice (some ad) m c) (hl : news.length = m * size) (hnews : ∀ j u, news[j]? = some u → w.cell? (ad.add j) = some u) (h1 : ∀ u ∈ news, u.oneCell' = true) (hroom : k + m ≤ n)
    (h : ∀ w', w.grownBy w' (some g) → (∃ cur, w'.heap[g]? = some (.cells cur e (0, 0)) ∧ p + n * size ≤ cur.size ∧ p + cap * size ≤ cur.size ∧ (cur.toList.drop p).take ((k + m) * size) = xs.take (k * size) ++ news) → K (a.put o.dst (.slice (some ⟨g, p, none⟩) (k + m) cap)) w') :
    if Region.wanted o (yielded ops a.tmps) = true then Oper.wp P o a w K Q else E := by
  have hw : Region.wanted o (yielded ops a.tmps) = true := by simp [Region.wanted, hgd]
  rw [if_pos hw]
  obtain ⟨w', hr, h2, h3⟩ := run_append_room_sl (P := P) w t o.type e i size ht hi hsz g p n k cap xs news hk hown ad m c hl hnews h1 hroom
  unfold Oper.wp execOp
  simp only [ho, resolve, invoke, builtin, Sem.run_bind, Sem.run_pure, Result.andThen_ok, List.map_toArray, List.map_cons, List.map_nil, hs, hx, hr]
  exact h w' h2 h3
theorem wpList_clear_sl {ops : Array Oper} {rest : List Oper} {o : Oper} {a : Act} {Q : Exit → Act → World → Prop} (hgd : o.guard = none) (s : Operand) (t : TypeId)
    (ho : o.op = .call { callee := .builtin .clear, args := #[s], argTypes := #[t] }) (e : TypeId) (z : Value) (size : Nat) (ht : P.underlying t = some (.slice e)) (hv : ∀ w, (zeroValue e).run P w = .ok z w) (hz : z.cells.size = size) (hs0 : 0 < size) (h1 : ∀ u ∈ z.cells.toList, u.oneCell' = true)
    (g q n c : Nat) (hs : a.eval s = .slice (some ⟨g, q, none⟩) n c) (cur : Array Value) (hg : w.heap[g]? = some (.cells cur e (0, 0))) (hfit : q + n * size ≤ cur.size)
    (h : ∀ w', w.grownBy w' (some g) → (∃ cur', w'.heap[g]? = some (.cells cur' e (0, 0)) ∧ cur'.size = cur.size ∧ cur'.toList.take q = cur.toList.take q) → wpList P ops Q rest (a.put o.dst (.tuple #[])) w') : wpList P ops Q (o :: rest) a w := by
  refine wpList_plain hgd fun K hK => ?_
  obtain ⟨w', hr, h2, h3⟩ := run_clear_sl (P := P) w t e o.type z size ht hv hz hs0 h1 g q n c cur hg hfit
  unfold Oper.wp execOp
  simp only [ho, resolve, invoke, builtin, Sem.run_bind, Sem.run_pure, Result.andThen_ok, List.map_toArray, List.map_cons, List.map_nil, hs, hr]
  exact hK _ _ (h w' h2 h3)
end
theorem delete_nil (w : World) : Calls Tryz.prog 94 #[.slice none 0 0, .int .i64 0, .int .i64 0] w fun e w' => e = .returned (.slice none 0 0) ∧ w = w' := by
  go_enter Tryz.func94, Tryz.ntmps94
  go_wp2_with fail
  go_ret
  exact ⟨rfl, rfl⟩
theorem delete_same (w : World) (g p N cap i : Nat) (hi : i ≤ N) (hc : N ≤ cap) : Calls Tryz.prog 94 #[.slice (some ⟨g, p, none⟩) N cap, .int .i64 i, .int .i64 i] w fun e w' => e = .returned (.slice (some ⟨g, p, none⟩) N cap) ∧ w = w' := by
  go_enter Tryz.func94, Tryz.ntmps94
  go_wp2_with fail
  all_goals go_ret
  all_goals exact ⟨rfl, rfl⟩
theorem zeroSg (w : World) : (zeroValue 119).run Tryz.prog w = .ok (.agg #[.int .i64 0, .int .i64 0, .slice none 0 0]) w := by kernel_rfl
set_option maxHeartbeats 2000000 in
set_option maxRecDepth 100000 in
theorem delete_less {w : World} {g p N cap : Nat} {xs : List Value} (h : Sl w (.slice (some ⟨g, p, none⟩) N cap) (some g) 119 3 N xs) (hc : N ≤ cap) (i j : Nat) (hij : i < j) (hj : j ≤ N) (hN : N ≤ 1048576) (h1 : ∀ u ∈ xs, u.oneCell' = true) :
    Calls Tryz.prog 94 #[.slice (some ⟨g, p, none⟩) N cap, .int .i64 i, .int .i64 j] w fun e w' => e = .returned (.slice (some ⟨g, p, none⟩) (N - (j - i)) cap) ∧
      Sl w' (.slice (some ⟨g, p, none⟩) (N - (j - i)) cap) (some g) 119 3 (N - (j - i)) (xs.take (i * 3) ++ xs.drop (j * 3)) ∧ w.grownBy w' (some g) := by
  obtain ⟨m, hm⟩ : ∃ m, N - j = m := ⟨_, rfl⟩
  have hkN : i + m < N := by omega
  have hke : N - (j - i) = i + m := by omega
  rw [hke]
  have hnews : Hid (∀ (A : Addr), (0 < m → A = ⟨g, p + j * 3, none⟩) → ∀ (t : Nat) u, (xs.drop (j * 3))[t]? = some u → w.drew.cell? (A.add t) = some u) := Lib.hid fun A hA t u hu => by
    have ht := (List.getElem?_eq_some_iff.1 hu).1
    rw [List.length_drop, h.1] at ht
    rw [hA (by omega), Addr.add_lit, Nat.add_assoc]
    rw [List.getElem?_drop] at hu
    exact h.cell rfl _ u hu
  have hnl : Hid ((xs.drop (j * 3)).length = m * 3) := Lib.hid (by rw [List.length_drop, h.1]; omega)
  have hn1 : Hid (∀ u ∈ xs.drop (j * 3), u.oneCell' = true) := Lib.hid fun u hu => h1 u (List.mem_of_mem_drop hu)
  have HSL : Hid (Sl w.drew (.slice (some ⟨g, p, none⟩) N cap) (some g) 119 3 N xs) := Lib.hid (h.same fun _ _ => rfl)
  have hne : ((i : Int) == (j : Int)) = false := by simp; omega
  have hic : i ≤ cap := by omega
  have hjc : j ≤ cap := by omega
  have hkc : i + m < cap := by omega
  have hiN : i ≤ N := by omega
  have HFIN : Hid (∀ w1 w2, w.drew.grownBy w1 (some g) → w1.grownBy w2 (some g) → ∀ cur cur', w1.heap[g]? = some (.cells cur 119 (0, 0)) → p + cap * 3 ≤ cur.size → (cur.toList.drop p).take ((i + m) * 3) = xs.take (i * 3) ++ xs.drop (j * 3) → w2.heap[g]? = some (.cells cur' 119 (0, 0)) → cur'.size = cur.size → cur'.toList.take (p + (i + m) * 3) = cur.toList.take (p + (i + m) * 3) →
      Sl w2 (.slice (some ⟨g, p, none⟩) (i + m) cap) (some g) 119 3 (i + m) (xs.take (i * 3) ++ xs.drop (j * 3)) ∧ w.grownBy w2 (some g)) := Lib.hid fun w1 w2 g1 g2 cur cur' h2 h3 h4 h5 h6 h7 => by
    refine ⟨⟨by rw [← h4, List.length_take, List.length_drop, Array.length_toList]; omega, .inr ⟨g, p, cap, cur', rfl, rfl, h5, by omega, by omega, ?_⟩⟩, ⟨g2.os.trans g1.os, g2.tape.trans g1.tape, g2.output.trans g1.output, Nat.le_trans g1.size g2.size, fun b hb hn => (g2.block b (Nat.lt_of_lt_of_le hb g1.size) hn).trans (g1.block b hb hn)⟩⟩
    have key : ∀ l : List Value, (l.drop p).take ((i + m) * 3) = (l.take (p + (i + m) * 3)).drop p := fun l => by rw [List.drop_take, Nat.add_sub_cancel_left]
    rw [← h4, key, key, h7]
  obtain ⟨i0, hi0, hz0, hz1, hz2⟩ := infoSg
  have hv := zeroSg
  clear h h1 hke
  go_enter Tryz.func94, Tryz.ntmps94
  by_cases hcj : cap = j
  · subst hcj
    obtain rfl : m = 0 := by omega
    obtain ⟨cur, hcu, hcs, hct⟩ : ∃ cur, w.drew.heap[g]? = some (.cells cur 119 (0, 0)) ∧ p + cap * 3 ≤ cur.size ∧ (cur.toList.drop p).take ((i + 0) * 3) = xs.take (i * 3) ++ xs.drop (cap * 3) := by
      have hsl := HSL.out
      have hx := hsl.1
      rcases hsl.2 with ⟨e1, _⟩ | ⟨g', p', cap', cur, e1, e2, hg, hc', hcs, ht'⟩
      · cases e1
      · cases e1
        injection e2 with e3 e4 e5
        injection e3 with e3
        injection e3 with e6 e7
        subst e7 e5
        refine ⟨cur, hg, hcs, ?_⟩
        rw [show xs.drop (cap * 3) = [] from List.drop_of_length_le (by rw [hx]; omega), List.append_nil, Nat.add_zero, ← ht', List.take_take, Nat.min_eq_left (by omega)]
    have HCU := Lib.hid hcu
    have HCS := Lib.hid hcs
    have HCT := Lib.hid hct
    clear hcu hcs hct
    go_upto_region 5 with fail
    go_region_law (first | fail)
    obtain ⟨w2, hcl, hg2, cur', hcu2, hcs2, hct2⟩ := run_clear_sl (P := Tryz.prog) w.drew 97 119 0 (.agg #[.int .i64 0, .int .i64 0, .slice none 0 0]) 3 Tryz.underlying97 hv rfl (by decide) (by simp [Value.oneCell', Value.cells]) g (p + i * 3) (N - i) (cap - i) cur HCU.out (by have := HCS.out; omega)
    have HRES := Lib.hid (HFIN.out w.drew w2 (World.grownBy.refl _ _) hg2 cur cur' HCU.out HCS.out HCT.out hcu2 hcs2 hct2)
    clear hg2 hcu2 hcs2 hct2
    go_wp2_with fail
    go_ret
    exact ⟨rfl, HRES.out⟩
  · have hcj' : ((cap - j == 0)) = false := by simp; omega
    have hcj2 : ¬ cap - j = 0 := by omega
    go_upto_region 5 with fail
    go_region_law (first
      | (refine step_append_room_sl _ (by rfl) _ _ _ (by rfl) 119 i0 3 Tryz.underlying97 hi0 hz1 g p N i cap xs (xs.drop (j * 3)) hiN (by rfl) HSL.out (⟨g, p + j * 3, none⟩) m (cap - j) (by rfl) hnl.out (hnews.out _ (fun _ => rfl)) hn1.out (by omega) ?_; intro w1 hg1 hcur1)
      | fail)
    obtain ⟨cur, hcu, -, hcs, hct⟩ := hcur1
    have HCU := Lib.hid hcu
    have HCS := Lib.hid hcs
    have HCT := Lib.hid hct
    have HG1 := Lib.hid hg1
    clear hcu hcs hct hg1
    obtain ⟨w2, hcl, hg2, cur', hcu2, hcs2, hct2⟩ := run_clear_sl (P := Tryz.prog) w1 97 119 0 (.agg #[.int .i64 0, .int .i64 0, .slice none 0 0]) 3 Tryz.underlying97 hv rfl (by decide) (by simp [Value.oneCell', Value.cells]) g (p + (i + m) * 3) (N - (i + m)) (cap - (i + m)) cur HCU.out (by have := HCS.out; omega)
    have HRES := Lib.hid (HFIN.out w1 w2 HG1.out hg2 cur cur' HCU.out HCS.out HCT.out hcu2 hcs2 hct2)
    clear hg2 hcu2 hcs2 hct2
    go_wp2_with fail
    go_ret
    exact ⟨rfl, HRES.out⟩
end Go.Proofs.YtdaoeplblkfapaaGreatDoor

/- THE CONTRACT OF strand's Drop. -/
namespace Go.Proofs.YtdaoeplblkfapaaGreatDoor
open Go.RowKit

/-- The first segments are gone: what lies then. -/
theorem Sd.drop {w w1 : World} {s : Nat} {h : Hs} {B : Nat → Prop} {f : Ta.View} {tot n : Nat} {c : Ta.Sc} {K : Kx} (k : Sd w s h B f tot n c K) (i : Nat) (hg : w.grownBy w1 K.gb) (v' : Value) (hs : Sl w1 v' K.gb 119 3 (K.X.drop i).length ((K.X.drop i).flatMap sc3)) :
    (∃ B', Sd (w1.setCell ⟨s, 4, none⟩ v') s h B' f tot n c ⟨K.X.drop i, v', K.gb, K.A⟩ ∧ Moved B B' w (w1.setCell ⟨s, 4, none⟩ v')) ∧ w1.cell? ⟨s, 4, none⟩ = some K.v ∧ w1.frozen? ⟨s, 4, none⟩ = false := by
  obtain ⟨T, k1, k2, k4, k5⟩ := k
  have hsB : B s := (k4 s).2 (.inr (.inl rfl))
  have hgB : ∀ g, K.gb = some g → B g := fun g hg => (k4 g).2 (.inr (.inr (.inl hg)))
  have hxB : ∀ x ∈ K.X, ∀ g, x.lb = some g → B g := fun x hx g hg => (k4 g).2 (.inr (.inr (.inr ⟨x, hx, hg⟩)))
  have hdm : ∀ x ∈ K.X.drop i, x ∈ K.X := fun x hx => List.mem_of_mem_drop hx
  have hBl : ∀ b, B b → b < w.heap.size := fun b hb => by
    rcases (k4 b).1 hb with h5 | h5
    · exact k1.lt b h5
    · exact k2.lt b h5
  have keep : ∀ b, b < w.heap.size → K.gb ≠ some b → b ≠ s → (w1.setCell ⟨s, 4, none⟩ v').heap[b]? = w.heap[b]? := fun b hl h1 h2 =>
    (Below.heap_setCell _ _ _ _ h2).trans (hg.block b hl fun e => h1 e.symm)
  have hsub : ∀ b, (T b ∨ Os s K.gb (K.X.drop i) b) → B b := by
    rintro b (hb | rfl | hb | ⟨x, hx, hb⟩)
    · exact (k4 b).2 (.inl hb)
    · exact hsB
    · exact hgB b hb
    · exact hxB x (hdm x hx) b hb
  have hh : Blk w1 s (hcells h K.v) 99 := k2.head.same (hg.block s k2.head.lt fun e => k2.sg e.symm)
  refine ⟨⟨fun b => T b ∨ Os s K.gb (K.X.drop i) b, ⟨T, k1.same fun b hb => keep b (k1.lt b hb) (fun e => k5 b hb (.inr (.inl e))) (fun e => k5 b hb (.inl e)), ⟨hh.set (i := 4) v', hs.same fun b hb => Below.heap_setCell _ _ _ _ (by rintro rfl; exact k2.sg hb), fun x hx => ?_, fun x hx => ?_, k2.sg, fun x hx => k2.sl x (hdm x hx), k2.apart.sublist (List.drop_sublist _ _)⟩, fun b => Iff.rfl, fun b hb ho => ?_⟩, ?_⟩, hh.cell rfl, hh.free⟩
  · refine (k2.lists x (hdm x hx)).same fun b hb => ?_
    have hxl := k2.sl x (hdm x hx)
    exact keep b (hBl b (hxB x (hdm x hx) b hb)) (hxl.2 b hb) (by rintro rfl; exact hxl.1 hb)
  · refine (k2.recs x (hdm x hx)).keep (by have := hg.size; simp only [World.setCell, Array.size_modify]; omega) fun b hb hl => ⟨keep b hl (fun e => hb.1 (hgB b e)) (by rintro rfl; exact hb.1 hsB), fun h' => hb.1 (hsub b h'), hb.2⟩
  · rcases ho with h1 | h1 | ⟨x, hx, h1⟩
    · exact k5 b hb (.inl h1)
    · exact k5 b hb (.inr (.inl h1))
    · exact k5 b hb (.inr (.inr ⟨x, hdm x hx, h1⟩))
  · exact ⟨hg.os, hg.tape, hg.output, by have := hg.size; simp only [World.setCell, Array.size_modify]; omega, fun b hb hn => keep b hb (fun e => hn (hgB b e)) (by rintro rfl; exact hn hsB), fun b hb => .inl (hsub b hb)⟩
/-- The first files are gone: what the names hold of the others. -/
theorem Fl.drop {P : List UInt8} {f : Ta.View} {G : List Sg} {sf : Nat} (h : Fl P f G sf) (hg : Log G) {j : Nat} (hj : j ≤ G.length) : Fl P (fdrop P f ((G.map Sg.first).take j)) (G.drop j) sf := by
  refine ⟨fun i g hi => ?_, fun k hk => ?_⟩
  · rw [List.getElem?_drop] at hi
    have hl := (List.getElem?_eq_some_iff.1 hi).1
    rw [fdrop_other fun z hz e => ?_]
    · rw [h.hold (j + i) g hi, List.length_drop]
      congr 2
      by_cases hc : j + i + 1 = G.length
      · rw [if_pos hc, if_pos (by omega)]
      · rw [if_neg hc, if_neg (by omega)]
    · rw [← List.map_take] at hz
      obtain ⟨y, hy, rfl⟩ := List.mem_map.1 hz
      obtain ⟨a, ha⟩ := List.getElem?_of_mem hy
      rw [List.getElem?_take] at ha
      split at ha
      · rename_i haj
        have := hg.strict a (j + i) y g (by omega) ha hi
        have e2 := nm_inj (hg.firsts y (List.mem_of_getElem? ha)) (hg.firsts g (List.mem_of_getElem? hi)) e
        omega
      · cases ha
  · by_cases hk2 : ∃ y ∈ G.take j, nm P y.first = k
    · obtain ⟨y, hy, rfl⟩ := hk2
      rw [← List.map_take]
      exact fdrop_gone (List.mem_map.2 ⟨y, hy, rfl⟩)
    · rw [fdrop_other fun z hz e => ?_]
      · refine h.rest k fun g hg e => ?_
        rw [← List.take_append_drop j G] at hg
        rcases List.mem_append.1 hg with h1 | h1
        · exact hk2 ⟨g, h1, e⟩
        · exact hk g h1 e
      · rw [← List.map_take] at hz
        obtain ⟨y, hy, rfl⟩ := List.mem_map.1 hz
        exact hk2 ⟨y, hy, e⟩
/-- The first segments' cells are taken away. -/
theorem delete_first {w : World} {v : Value} {gb : Option Nat} {N : Nat} {xs : List Value} (h : Sl w v gb 119 3 N xs) (j : Nat) (hj : j ≤ N) (hN : N ≤ 1048576) (h1 : ∀ u ∈ xs, u.oneCell' = true) :
    Calls Tryz.prog 94 #[v, .int .i64 0, .int .i64 j] w fun e w' => ∃ a c, e = .returned (.slice a (N - j) c) ∧ Sl w' (.slice a (N - j) c) gb 119 3 (N - j) (xs.drop (j * 3)) ∧ w.grownBy w' gb := by
  have hs2 := h.2
  rcases hs2 with ⟨rfl, rfl, rfl⟩ | ⟨g, p, cap, cur, rfl, rfl, hg, hc, hcs, ht⟩
  · obtain rfl : j = 0 := by omega
    obtain rfl : xs = [] := List.eq_nil_of_length_eq_zero (by simpa using h.1)
    refine (delete_nil w).mono ?_
    rintro e w' ⟨rfl, rfl⟩
    exact ⟨none, 0, rfl, h, World.grownBy.refl _ _⟩
  · rcases Nat.eq_zero_or_pos j with rfl | hp
    · refine (delete_same w g p N cap 0 (Nat.zero_le _) hc).mono ?_
      rintro e w' ⟨rfl, rfl⟩
      exact ⟨_, cap, rfl, by simpa using h, World.grownBy.refl _ _⟩
    · refine (delete_less h hc 0 j hp hj hN h1).mono ?_
      rintro e w' ⟨rfl, hs, hg⟩
      simp only [Nat.zero_mul, List.take_zero, List.nil_append, Nat.sub_zero] at hs
      exact ⟨_, cap, by rw [Nat.sub_zero], hs, hg⟩
/-- What Drop leaves. -/
def DropSOut (w : World) (s : Nat) (h : Hs) (B : Nat → Prop) (tot n : Nat) (c : Ta.Sc) (G : List Sg) (nn sf a l : Nat) (e : Ending) (w' : World) : Prop :=
  ∃ (B' : Nat → Prop) (f' : Ta.View) (tot' n' : Nat) (c' : Ta.Sc) (K' : Kx) (er : Int), e = .returned (.int .i64 er) ∧ Moved B B' w w' ∧ Sd w' s h B' f' tot' n' c' K' ∧ tot' ≤ tot ∧ n' ≤ n ∧ c'.room = c.room ∧
    ((er = 0 ∧ K'.G = G.drop nn ∧ Fl h.P f' (G.drop nn) sf ∧ Run c' (a + nn) l ∧ (c.armed = 0 → c'.armed = 0)) ∨ (er = 10 ∧ K'.G = G ∧ (∃ j, j ≤ nn ∧ Fl h.P f' (G.drop j) sf) ∧ Gone c' (a + nn) l ∧ c.armed ≠ 0))
set_option maxHeartbeats 4000000 in
set_option maxRecDepth 100000 in
theorem dropS_any {w : World} {s : Nat} {h : Hs} {B : Nat → Prop} {f : Ta.View} {tot n : Nat} {c : Ta.Sc} {K : Kx} (kk : Sd w s h B f tot n c K) (lb : Lb w) (hB : ∀ b, B b → 8 ≤ b) (hP : h.P.length ≤ 1048576) (hlog : Log K.G) (hfit : Fit K.G)
    {a : Nat} (hlf : c.life = h.life) (q : Run c a h.life) (ha : a + K.X.length ≤ 1099511627776) (hl : h.life ≤ 1099511627776) {sf : Nat} (hfl : Fl h.P f K.G sf) (nn : Nat) (hnn : nn ≤ K.X.length - 1) :
    Calls Tryz.prog 41 #[.pointer (some ⟨s, 0, none⟩), .int .i64 nn] w (DropSOut w s h B tot n c K.G nn sf a h.life) := by
  have hX : K.X.length ≤ 1048576 := by have h1 := hfit.segs; simpa [Kx.G] using h1
  have HR := Lib.hid (readyS_ok kk hlf hl)
  have HBS := Lib.hid fun (wx : World) (hbx : Below w.heap.size w wx) => bases_of (kk.below hbx) hX
  have hzl : (firstsOf K).length = K.X.length := by simp [firstsOf, Kx.G]
  obtain ⟨ka, kc, hkv⟩ := kk.lies.segs.form
  have hks := kk.lies.head.lt
  obtain ⟨N, hN⟩ : ∃ N, K.X.length = N := ⟨_, rfl⟩
  rw [hN] at hkv hzl hX hnn ha
  have c4 : w.cell? ⟨s, 4, none⟩ = some (.slice ka N kc) := by rw [← hkv]; exact kk.lies.head.cell rfl
  have HKV := Lib.hid hkv
  have HN := Lib.hid hN
  have HZL := Lib.hid hzl
  have HKK := Lib.hid kk
  have HLB := Lib.hid lb
  have HLOG := Lib.hid hlog
  have HFL := Lib.hid hfl
  have HQ := Lib.hid q
  have HBL := Lib.hid (show ∀ b, B b → b < w.heap.size from kk.lt)
  clear kk lb hlog hfl q hfit hzl hN hkv
  go_enter Tryz.func41, Tryz.ntmps41
  go_wp2_with fail
  refine HR.out.mono ?_
  rintro e w1 ⟨rfl, b1⟩
  have d4 : w1.cell? ⟨s, 4, none⟩ = some (.slice ka N kc) := (b1.cell (p := ⟨s, 4, none⟩) hks).trans c4
  have HB1 := Lib.hid b1
  have hb0 : decide ((nn : Int) < 0) = false := by simp
  clear b1 c4
  go_upto_region 4 with fail
  go_cut [24] (fun s24 wx => s24 = .bool false ∧ wx = w1)
  case first =>
    by_cases hN0 : N = 0
    · subst hN0
      obtain rfl : nn = 0 := by omega
      go_wp2_with fail
      go_meet
      case rel => exact ⟨congrArg Value.bool (by decide), rfl⟩
    · have hw : IntKind.i64.wrap ((N : Int) - 1) = ((N - 1 : Nat) : Int) := by rw [show (N : Int) - 1 = ((N - 1 : Nat) : Int) by omega]; exact IntWalk.i64_in _ (by omega)
      go_wp2_with fail
      go_meet
      case rel => exact ⟨congrArg Value.bool (by simp; omega), rfl⟩
  case rest =>
    obtain ⟨rfl, hwc⟩ := hcut
    subst hwc
    clear hb0 d4
    go_wp2_with fail
    refine (HBS.out _ HB1.out).mono ?_
    rintro e w2 ⟨v, gb, rfl, hs2, hn2, hb2'⟩
    have hb2w := HB1.out.trans (hb2'.mono HB1.out.size)
    have hrd : Rds (fun b => ¬ B b) w2 v 1 (firstsOf K).length ((firstsOf K).map icell) := Rds.of_sl hs2 fun b hb hB' => by have := hn2 b hb; have := HBL.out b hB'; have := HB1.out.size; omega
    have hlbw := HLB.out.below HLB.out.size hb2w
    have hnN : nn ≤ N := by omega
    have hDR : ∀ v', Rds (fun b => ¬ B b) w2 v' 1 ((firstsOf K).take nn).length (((firstsOf K).take nn).map icell) → Calls Tryz.prog 93 #[.pointer (some ⟨s, 0, none⟩), v'] w2 (DropOut w2 s h B f tot n c K ((firstsOf K).take nn) a h.life) := fun v' hr' => drop_any (HKK.out.below hb2w) hlbw hB hP HQ.out v' ((firstsOf K).take nn) hr' (fun z hz => by
      obtain ⟨g, hg, rfl⟩ := List.mem_map.1 (List.mem_of_mem_take hz)
      exact HLOG.out.firsts g hg) (HLOG.out.nodup.sublist (List.take_sublist _ _)) (fun z hz => by
      obtain ⟨g, hg, rfl⟩ := List.mem_map.1 (List.mem_of_mem_take hz)
      obtain ⟨j, hj⟩ := List.getElem?_of_mem hg
      exact ⟨_, _, HFL.out.hold j g hj⟩) (by rw [List.length_take, HZL.out]; omega) hl (by rw [List.length_take, HZL.out]; omega)
    have htl : ((firstsOf K).take nn).length = nn := by rw [List.length_take, HZL.out]; omega
    have hcases : ∃ ba bc, v = .slice ba N bc ∧ ((ba = none ∧ nn = 0 ∧ N = 0 ∧ bc = 0) ∨ (∃ g p, ba = some ⟨g, p, none⟩ ∧ N ≤ bc)) ∧ ∀ ad, ba = some ad → Rds (fun b => ¬ B b) w2 (.slice (some ad) nn bc) 1 nn (((firstsOf K).take nn).map icell) := by
      rw [HZL.out] at hs2 hrd
      rcases hs2.2 with ⟨e1, e2, e3⟩ | ⟨g, p, cap, cur, e1, e2, e3, e4, e5⟩
      · exact ⟨none, 0, by rw [e1, e3], .inl ⟨rfl, by omega, e3, rfl⟩, fun ad e => by cases e⟩
      · refine ⟨_, cap, e2, .inr ⟨g, p, rfl, e4⟩, fun ad e => ?_⟩
        cases e
        have := Rds.prefix (e2 ▸ hrd) hnN cap
        rw [Nat.mul_one] at this
        rw [List.map_take]
        exact this
    obtain ⟨ba, bc, rfl, hba, hbr⟩ := hcases
    have HB2 := Lib.hid hb2w
    have HLBW := Lib.hid hlbw
    have HTL := Lib.hid htl
    have HFIN : Hid (∀ e w3, DropOut w2 s h B f tot n c K ((firstsOf K).take nn) a h.life e w3 → ∃ (B' : Nat → Prop) (f' : Ta.View) (tot' n' : Nat) (c' : Ta.Sc) (er : Int), e = .returned (.int .i64 er) ∧ Moved B B' w w3 ∧ Sd w3 s h B' f' tot' n' c' K ∧ tot' ≤ tot ∧ n' ≤ n ∧ c'.room = c.room ∧
        ((er = 0 ∧ Fl h.P f' (K.G.drop nn) sf ∧ Run c' (a + nn) h.life ∧ (c.armed = 0 → c'.armed = 0)) ∨ (er = 10 ∧ (∃ j, j ≤ nn ∧ Fl h.P f' (K.G.drop j) sf) ∧ Gone c' (a + nn) h.life ∧ c.armed ≠ 0))) := Lib.hid fun e w3 ⟨j, B3, tot3, n3, c3, er, hj, he, hSd, hmv, htot, hn', hroom, hor⟩ => by
      have hGl : K.G.length = N := by rw [← HN.out]; exact List.length_map _
      have hjn : j ≤ nn := by rw [HTL.out] at hj; exact hj
      have hfj : Fl h.P (fdrop h.P f (((firstsOf K).take nn).take j)) (K.G.drop j) sf := by
        rw [List.take_take, Nat.min_eq_left hjn]
        exact HFL.out.drop HLOG.out (by omega)
      refine ⟨B3, _, tot3, n3, c3, er, he, (Moved.of_below HB2.out).trans hmv, hSd, htot, hn', hroom, ?_⟩
      rcases hor with ⟨rfl, hje, hrun, harm⟩ | ⟨rfl, hgone, hna⟩
      · rw [HTL.out] at hje
        subst hje
        exact .inl ⟨rfl, hfj, hrun, harm⟩
      · exact .inr ⟨rfl, ⟨j, hjn, hfj⟩, hgone.more (by omega), hna⟩
    clear hs2 hn2 hb2' hb2w hlbw hrd HBS HR htl
    rcases hba with ⟨rfl, hn0, hN0, rfl⟩ | ⟨g, p, rfl, hNb⟩
    · subst hn0 hN0
      have HDR := Lib.hid (hDR (.slice none 0 0) (by rw [HTL.out, List.take_zero]; exact Rds.nil _ _ _))
      clear hDR hbr
      go_wp2_with fail
      refine HDR.out.mono ?_
      intro e w3 hd3
      obtain ⟨B3, f3, tot3, n3, c3, er, rfl, hmv3, hSd3, htot3, hn3, hroom3, hor⟩ := HFIN.out e w3 hd3
      rcases hor with ⟨rfl, hfl3, hrun3, harm3⟩ | ⟨rfl, hex, hgone3, hna⟩
      · have hsg := hSd3.lies.segs
        rw [HKV.out, HN.out] at hsg
        have HDL := Lib.hid (delete_first hsg 0 hnN hX (sc3_one hSd3.lies))
        have d4 : w3.cell? ⟨s, 4, none⟩ = some (.slice ka 0 kc) := by rw [← HKV.out]; exact hSd3.lies.head.cell rfl
        have HPUT : Hid (∀ (w4 : World) (a4 : Option Addr) (c4 : Nat), Sl w4 (.slice a4 (0 - 0) c4) K.gb 119 3 (0 - 0) ((K.X.flatMap sc3).drop (0 * 3)) → w3.grownBy w4 K.gb → DropSOut w s h B tot n c K.G 0 sf a h.life (.returned (.int .i64 0)) (w4.setCell ⟨s, 4, none⟩ (.slice a4 (0 - 0) c4)) ∧ w4.cell? ⟨s, 4, none⟩ = some (.slice ka 0 kc) ∧ w4.frozen? ⟨s, 4, none⟩ = false) := Lib.hid fun w4 a4 c4 h4 hg4 => by
          rw [flat_drop sc3 3 sc3_length] at h4
          obtain ⟨⟨B4, k1, k2⟩, k3, k4⟩ := hSd3.drop 0 hg4 (.slice a4 (0 - 0) c4) (by rw [List.length_drop, HN.out]; exact h4)
          refine ⟨⟨B4, f3, tot3, n3, c3, _, 0, rfl, hmv3.trans k2, k1, htot3, hn3, hroom3, .inl ⟨rfl, ?_, hfl3, hrun3, harm3⟩⟩, by rw [k3, HKV.out], k4⟩
          show (K.X.drop 0).map Sx.sg = (K.X.map Sx.sg).drop 0
          rw [List.map_drop]
        clear hsg hmv3 hSd3 htot3 hn3 hroom3 hfl3 hrun3 harm3 hd3 HDR HFIN
        go_wp2_with fail
        refine HDL.out.mono ?_
        rintro e w4 ⟨a4, c4, rfl, hs4, hg4⟩
        obtain ⟨hfin, k4, z4⟩ := HPUT.out w4 a4 c4 hs4 hg4
        have HRES := Lib.hid hfin
        clear hs4 hg4 hfin HPUT HDL
        go_wp2_with fail
        go_ret
        exact HRES.out
      · have hres : DropSOut w s h B tot n c K.G 0 sf a h.life (.returned (.int .i64 10)) w3 := ⟨B3, f3, tot3, n3, c3, K, 10, rfl, hmv3, hSd3, htot3, hn3, hroom3, .inr ⟨rfl, rfl, hex, hgone3, hna⟩⟩
        have HRES := Lib.hid hres
        clear hmv3 hSd3 htot3 hn3 hroom3 hex hgone3 hd3 HDR HFIN hres hna
        go_wp2_with fail
        go_ret
        exact HRES.out
    · have HDR := Lib.hid (hDR _ (by rw [HTL.out]; exact hbr _ rfl))
      have hnb : nn ≤ bc := by omega
      clear hDR hbr
      go_wp2_with fail
      refine HDR.out.mono ?_
      intro e w3 hd3
      obtain ⟨B3, f3, tot3, n3, c3, er, rfl, hmv3, hSd3, htot3, hn3, hroom3, hor⟩ := HFIN.out e w3 hd3
      rcases hor with ⟨rfl, hfl3, hrun3, harm3⟩ | ⟨rfl, hex, hgone3, hna⟩
      · have hsg := hSd3.lies.segs
        rw [HKV.out, HN.out] at hsg
        have HDL := Lib.hid (delete_first hsg nn hnN hX (sc3_one hSd3.lies))
        have d4 : w3.cell? ⟨s, 4, none⟩ = some (.slice ka N kc) := by rw [← HKV.out]; exact hSd3.lies.head.cell rfl
        have HPUT : Hid (∀ (w4 : World) (a4 : Option Addr) (c4 : Nat), Sl w4 (.slice a4 (N - nn) c4) K.gb 119 3 (N - nn) ((K.X.flatMap sc3).drop (nn * 3)) → w3.grownBy w4 K.gb → DropSOut w s h B tot n c K.G nn sf a h.life (.returned (.int .i64 0)) (w4.setCell ⟨s, 4, none⟩ (.slice a4 (N - nn) c4)) ∧ w4.cell? ⟨s, 4, none⟩ = some (.slice ka N kc) ∧ w4.frozen? ⟨s, 4, none⟩ = false) := Lib.hid fun w4 a4 c4 h4 hg4 => by
          rw [flat_drop sc3 3 sc3_length] at h4
          obtain ⟨⟨B4, k1, k2⟩, k3, k4⟩ := hSd3.drop nn hg4 (.slice a4 (N - nn) c4) (by rw [List.length_drop, HN.out]; exact h4)
          refine ⟨⟨B4, f3, tot3, n3, c3, _, 0, rfl, hmv3.trans k2, k1, htot3, hn3, hroom3, .inl ⟨rfl, ?_, hfl3, hrun3, harm3⟩⟩, by rw [k3, HKV.out], k4⟩
          show (K.X.drop nn).map Sx.sg = (K.X.map Sx.sg).drop nn
          rw [List.map_drop]
        clear hsg hmv3 hSd3 htot3 hn3 hroom3 hfl3 hrun3 harm3 hd3 HDR HFIN
        go_wp2_with fail
        refine HDL.out.mono ?_
        rintro e w4 ⟨a4, c4, rfl, hs4, hg4⟩
        obtain ⟨hfin, k4, z4⟩ := HPUT.out w4 a4 c4 hs4 hg4
        have HRES := Lib.hid hfin
        clear hs4 hg4 hfin HPUT HDL
        go_wp2_with fail
        go_ret
        exact HRES.out
      · have hres : DropSOut w s h B tot n c K.G nn sf a h.life (.returned (.int .i64 10)) w3 := ⟨B3, f3, tot3, n3, c3, K, 10, rfl, hmv3, hSd3, htot3, hn3, hroom3, .inr ⟨rfl, rfl, hex, hgone3, hna⟩⟩
        have HRES := Lib.hid hres
        clear hmv3 hSd3 htot3 hn3 hroom3 hex hgone3 hd3 HDR HFIN hres hna
        go_wp2_with fail
        go_ret
        exact HRES.out
set_option maxHeartbeats 1000000 in
set_option maxRecDepth 100000 in
theorem dropS_bad {w : World} {s : Nat} {h : Hs} {B : Nat → Prop} {f : Ta.View} {tot n : Nat} {c : Ta.Sc} {K : Kx} (kk : Sd w s h B f tot n c K) (hlf : c.life = h.life) (hl : h.life ≤ 1099511627776) (hX : K.X.length ≤ 1048576) (nn : Nat) (hnn : K.X.length - 1 < nn) :
    Calls Tryz.prog 41 #[.pointer (some ⟨s, 0, none⟩), .int .i64 nn] w fun e w' => e = .returned (.int .i64 1) ∧ Below w.heap.size w w' := by
  have HR := Lib.hid (readyS_ok kk hlf hl)
  obtain ⟨ka, kc, hkv⟩ := kk.lies.segs.form
  have hks := kk.lies.head.lt
  obtain ⟨N, hN⟩ : ∃ N, K.X.length = N := ⟨_, rfl⟩
  rw [hN] at hkv hX hnn
  have c4 : w.cell? ⟨s, 4, none⟩ = some (.slice ka N kc) := by rw [← hkv]; exact kk.lies.head.cell rfl
  clear kk hN hkv
  go_enter Tryz.func41, Tryz.ntmps41
  go_wp2_with fail
  refine HR.out.mono ?_
  rintro e w1 ⟨rfl, b1⟩
  have d4 : w1.cell? ⟨s, 4, none⟩ = some (.slice ka N kc) := (b1.cell (p := ⟨s, 4, none⟩) hks).trans c4
  have HB1 := Lib.hid b1
  have hb0 : decide ((nn : Int) < 0) = false := by simp
  clear b1 c4
  go_upto_region 4 with fail
  go_cut [24] (fun s24 wx => s24 = .bool true ∧ wx = w1)
  case first =>
    by_cases hN0 : N = 0
    · subst hN0
      have hmx : decide ((max (-1) 0 : Int) < (nn : Int)) = true := by simp; omega
      go_wp2_with fail
      go_meet
      case rel => exact ⟨rfl, rfl⟩
    · have hw : IntKind.i64.wrap ((N : Int) - 1) = ((N - 1 : Nat) : Int) := by rw [show (N : Int) - 1 = ((N - 1 : Nat) : Int) by omega]; exact IntWalk.i64_in _ (by omega)
      go_wp2_with fail
      go_meet
      case rel => exact ⟨congrArg Value.bool (by simp), rfl⟩
  case rest =>
    obtain ⟨rfl, hwc⟩ := hcut
    subst hwc
    go_wp2_with fail
    go_ret
    exact ⟨rfl, HB1.out⟩
end Go.Proofs.YtdaoeplblkfapaaGreatDoor

/- PLAIN MATHEMATICS OF A CUT: what the names hold of what stays. -/
namespace Go.Proofs.YtdaoeplblkfapaaGreatDoor

theorem frs_cut (l : List Pl.Bt) (m : Nat) : (frs l).take (frs (l.take m)).length = frs (l.take m) := by
  have h : frs l = frs (l.take m) ++ frs (l.drop m) := by rw [← frs_append, List.take_append_drop]
  rw [h]
  exact List.take_left
theorem take_snoc {G : List Sg} {i : Nat} {g : Sg} (h : G[i]? = some g) : G.take (i + 1) = G.take i ++ [g] := by
  have hl := (List.getElem?_eq_some_iff.1 h).1
  rw [List.take_succ_eq_append_getElem hl]
  rw [List.getElem?_eq_getElem hl] at h
  rw [Option.some.inj h]
/-- What is left of a log when a segment's end, and all segments behind it, are gone. -/
theorem Log.cut {G : List Sg} (h : Log G) {i : Nat} {g : Sg} (hi : G[i]? = some g) (m : Nat) : Log (G.take i ++ [⟨g.first, g.l.take m⟩]) := by
  have h1 : Log (G.take i ++ [g]) := by
    rw [← take_snoc hi]
    have := h
    rw [← List.take_append_drop (i + 1) G] at this
    exact this.left
  exact h1.last ((h.chs g (List.mem_of_getElem? hi)).take m)
theorem Fl.cut {P : List UInt8} {f : Ta.View} {G : List Sg} {sf : Nat} (h : Fl P f G sf) (hg : Log G) {i : Nat} {g : Sg} (hi : G[i]? = some g) (m : Nat) {s : Nat} (hs : s = if i + 1 = G.length then sf else (frs g.l).length) :
    fdrop P f ((G.map Sg.first).drop (i + 1)) (nm P g.first) = some (frs g.l, s) ∧
      Fl P (Ta.upd (fdrop P f ((G.map Sg.first).drop (i + 1))) (nm P g.first) (some (frs (g.l.take m), min s (frs (g.l.take m)).length))) (G.take i ++ [⟨g.first, g.l.take m⟩]) (min s (frs (g.l.take m)).length) := by
  have hil := (List.getElem?_eq_some_iff.1 hi).1
  -- the names behind are others
  have hoth : ∀ (a : Nat) (y : Sg), G[a]? = some y → a ≤ i → ∀ z ∈ (G.map Sg.first).drop (i + 1), nm P z ≠ nm P y.first := fun a y ha hai z hz e => by
    rw [← List.map_drop] at hz
    obtain ⟨u, hu, rfl⟩ := List.mem_map.1 hz
    obtain ⟨b, hb⟩ := List.getElem?_of_mem hu
    rw [List.getElem?_drop] at hb
    have := hg.strict a (i + 1 + b) y u (by omega) ha hb
    have e2 := nm_inj (hg.firsts u (List.mem_of_getElem? hb)) (hg.firsts y (List.mem_of_getElem? ha)) e
    omega
  have hG : fdrop P f ((G.map Sg.first).drop (i + 1)) (nm P g.first) = some (frs g.l, s) := by
    rw [fdrop_other (hoth i g hi (Nat.le_refl _)), h.hold i g hi, hs]
  refine ⟨hG, fun j y hy => ?_, fun k hk => ?_⟩
  · have hl : (G.take i ++ [(⟨g.first, g.l.take m⟩ : Sg)]).length = i + 1 := by simp; omega
    by_cases hj : j = i
    · subst hj
      rw [List.getElem?_append_right (by rw [List.length_take]; omega), List.length_take, Nat.min_eq_left (by omega), Nat.sub_self] at hy
      cases hy
      rw [Ta.upd_same, hl, if_pos rfl]
    · have hjl := (List.getElem?_eq_some_iff.1 hy).1
      rw [hl] at hjl
      have hji : j < i := by omega
      rw [List.getElem?_append_left (by rw [List.length_take]; omega), List.getElem?_take_of_lt hji] at hy
      rw [Ta.upd_other _ _ fun e => by
        have := hg.strict j i y g hji hy hi
        have e2 := nm_inj (hg.firsts y (List.mem_of_getElem? hy)) (hg.firsts g (List.mem_of_getElem? hi)) e
        omega]
      rw [fdrop_other (hoth j y hy (by omega)), h.hold j y hy, hl, if_neg (by omega), if_neg (by omega)]
  · rw [Ta.upd_other _ _ fun e => hk ⟨g.first, g.l.take m⟩ (by simp) e.symm]
    by_cases hk2 : ∃ y ∈ G.drop (i + 1), nm P y.first = k
    · obtain ⟨y, hy, rfl⟩ := hk2
      rw [← List.map_drop]
      exact fdrop_gone (List.mem_map.2 ⟨y, hy, rfl⟩)
    · rw [fdrop_other fun z hz e => ?_]
      · refine h.rest k fun y hy e => ?_
        rw [← List.take_append_drop (i + 1) G, take_snoc hi] at hy
        rcases List.mem_append.1 hy with h1 | h1
        · rcases List.mem_append.1 h1 with h2 | h2
          · exact hk y (by simp [h2]) e
          · rw [List.mem_singleton.1 h2] at e
            exact hk ⟨g.first, g.l.take m⟩ (by simp) e
        · exact hk2 ⟨y, h1, e⟩
      · rw [← List.map_drop] at hz
        obtain ⟨y, hy, rfl⟩ := List.mem_map.1 hz
        exact hk2 ⟨y, hy, e⟩
end Go.Proofs.YtdaoeplblkfapaaGreatDoor

/- PLAIN MATHEMATICS OF OPENING A LOG WHEN THE POWER IS BACK: what is found of it. -/
namespace Go.Proofs.YtdaoeplblkfapaaGreatDoor

theorem sorted_same : ∀ (l m : List Int), l.Pairwise (fun x y => x < y) → m.Pairwise (fun x y => x < y) → (∀ z, z ∈ l ↔ z ∈ m) → l = m
  | [], [], _, _, _ => rfl
  | [], b :: m, _, _, h => absurd ((h b).2 List.mem_cons_self) (by simp)
  | a :: l, [], _, _, h => absurd ((h a).1 List.mem_cons_self) (by simp)
  | a :: l, b :: m, hl, hm, h => by
    rw [List.pairwise_cons] at hl hm
    have e : a = b := by
      rcases List.mem_cons.1 ((h a).1 List.mem_cons_self) with e | h1
      · exact e
      · rcases List.mem_cons.1 ((h b).2 List.mem_cons_self) with e | h2
        · exact e.symm
        · have := hl.1 b h2
          have := hm.1 a h1
          omega
    subst e
    congr 1
    refine sorted_same l m hl.2 hm.2 fun z => ⟨fun hz => ?_, fun hz => ?_⟩
    · rcases List.mem_cons.1 ((h z).1 (List.mem_cons_of_mem _ hz)) with rfl | h1
      · exact absurd (hl.1 _ hz) (Int.lt_irrefl _)
      · exact h1
    · rcases List.mem_cons.1 ((h z).2 (List.mem_cons_of_mem _ hz)) with rfl | h1
      · exact absurd (hm.1 _ hz) (Int.lt_irrefl _)
      · exact h1
theorem Log.next {G R : List Sg} {y : Sg} (h : Log (G ++ y :: R)) : G = [] ∨ y.first = gsEnd G := by
  rcases snoc_or G with rfl | ⟨G, g, rfl⟩
  · exact .inl rfl
  · obtain ⟨x, -, hk⟩ := h.get
    obtain ⟨h1, -, h3⟩ := Lk.append.1 hk
    obtain ⟨-, -, h4⟩ := Lk.append.1 h1
    refine .inr ?_
    rw [h3.1, gsEnd_snoc, fla_append, lend_append, fla_one, h4.1]
theorem upd_self {f : Ta.View} {k : List UInt8} {v : Option (List UInt8 × Nat)} (h : f k = v) : Ta.upd f k v = f := by
  funext x
  unfold Ta.upd
  by_cases hx : x = k
  · rw [if_pos hx, hx, h]
  · rw [if_neg hx]
/-- What is found of a log's files, of whose last one the first x bytes are left. -/
theorem walk_rest {P : List UInt8} {f : Ta.View} {g : Sg} {x : Nat} (hx : x ≤ (frs g.l).length) (hfg : f (nm P g.first) = some ((frs g.l).take x, x)) :
    ∀ (R G : List Sg), Log (G ++ (R ++ [g])) → (∀ y ∈ R, f (nm P y.first) = some (frs y.l, (frs y.l).length)) →
      ∃ k, k ≤ g.l.length ∧ (∀ j, j ≤ g.l.length → (frs (g.l.take j)).length ≤ x → j ≤ k) ∧
        walkF P f ((R ++ [g]).map Sg.first) G = (Ta.upd f (nm P g.first) (some (frs (g.l.take k), (frs (g.l.take k)).length)), G ++ (R ++ [⟨g.first, g.l.take k⟩]))
  | [], G, hlog, _ => by
    have hc : Chain g.first g.l := hlog.chs g (by simp)
    obtain ⟨k, hk, hf, hle, hmax⟩ := found_take g.l g.first x hc
    have hn := Log.next (G := G) (R := []) hlog
    have hlen : ((frs g.l).take x).length = x := by rw [List.length_take]; omega
    refine ⟨k, hk, hmax, ?_⟩
    rw [List.nil_append, List.nil_append, List.map_cons, List.map_nil]
    by_cases hw : (frs (g.l.take k)).length = x
    · rw [walkF_whole hn hfg (by rw [hf, hlen]; exact hw), hf]
      have e : (frs g.l).take x = frs (g.l.take k) := by rw [← hw, frs_cut]
      rw [e] at hfg
      rw [hw, upd_self hfg]
      rfl
    · rw [walkF_part hn hfg (by rw [hf, hlen]; exact hw), hf, fdrop_nil]
      simp only
      rw [List.take_take, Nat.min_eq_left hle, Nat.min_eq_right hle, frs_cut]
  | y :: R, G, hlog, hR => by
    have hc : Chain y.first y.l := hlog.chs y (by simp)
    have hfy := hR y List.mem_cons_self
    have hn := Log.next (G := G) (R := R ++ [g]) hlog
    rw [List.cons_append, List.map_cons, walkF_whole hn hfy (by rw [found_all hc]), found_all hc]
    obtain ⟨k, h1, h2, h3⟩ := walk_rest hx hfg R (G ++ [y]) (by simpa using hlog) fun z hz => hR z (List.mem_cons_of_mem _ hz)
    refine ⟨k, h1, h2, ?_⟩
    show walkF P f ((R ++ [g]).map Sg.first) (G ++ [y]) = _
    rw [h3]
    simp
/-- What the names hold of a log, but for the file beside. -/
structure Fm (P : List UInt8) (f : Ta.View) (G : List Sg) (sf : Nat) : Prop where
  hold : ∀ (j : Nat) (g : Sg), G[j]? = some g → f (nm P g.first) = some (frs g.l, if j + 1 = G.length then sf else (frs g.l).length)
  rest : ∀ k, (∀ g ∈ G, nm P g.first ≠ k) → k ≠ nmNew P → f k = none
theorem Fl.fm {P : List UInt8} {f : Ta.View} {G : List Sg} {sf : Nat} (h : Fl P f G sf) : Fm P f G sf := ⟨h.hold, fun k hk _ => h.rest k hk⟩
section
variable {P : List UInt8} {f f' : Ta.View} {sf : Nat} {fates zs : List Int}
theorem Fm.firsts {G : List Sg} (h : Fm P f G sf) (hlog : Log G) (hl : Ta.Left fates f f') (hs : zs.Pairwise fun x y => x < y) (hz : ∀ z, z ∈ zs ↔ (0 ≤ z ∧ z ≤ 1099511627776) ∧ f' (nm P z) ≠ none) : zs = G.map Sg.first := by
  refine sorted_same _ _ hs hlog.sorted fun z => ?_
  rw [hz, List.mem_map]
  constructor
  · rintro ⟨hr, hne⟩
    refine Classical.byContradiction fun hno => hne ?_
    have h1 : f (nm P z) = none := h.rest _ (fun y hy e => hno ⟨y, hy, nm_inj (hlog.firsts y hy) hr e⟩) (nm_not_new hr.1 hr.2)
    have := hl (nm P z)
    rw [h1] at this
    exact this
  · rintro ⟨y, hy, rfl⟩
    obtain ⟨j, hj⟩ := List.getElem?_of_mem hy
    have h1 := h.hold j y hj
    have := hl (nm P y.first)
    rw [h1] at this
    obtain ⟨x, hx, -⟩ := this
    exact ⟨hlog.firsts y hy, by rw [hx]; simp⟩
theorem Fm.left_none (h : Fm P f [] sf) (hl : Ta.Left fates f f') (hs : zs.Pairwise fun x y => x < y) (hz : ∀ z, z ∈ zs ↔ (0 ≤ z ∧ z ≤ 1099511627776) ∧ f' (nm P z) ≠ none) :
    walkF P (Ta.upd f' (nmNew P) none) zs [] = (Ta.upd f' (nmNew P) none, []) ∧ Fl P (Ta.upd f' (nmNew P) none) [] 0 := by
  rw [h.firsts Log.nil hl hs hz]
  refine ⟨rfl, fun j g h => by simp at h, fun k _ => ?_⟩
  by_cases hk : k = nmNew P
  · rw [hk, Ta.upd_same]
  · rw [Ta.upd_other _ _ hk]
    have h1 : f k = none := h.rest k (fun g hg => by cases hg) hk
    have := hl k
    rw [h1] at this
    exact this
theorem Fm.left_some {G : List Sg} {g : Sg} (h : Fm P f (G ++ [g]) sf) (hlog : Log (G ++ [g])) (hl : Ta.Left fates f f') (hs : zs.Pairwise fun x y => x < y) (hz : ∀ z, z ∈ zs ↔ (0 ≤ z ∧ z ≤ 1099511627776) ∧ f' (nm P z) ≠ none) :
    ∃ k, k ≤ g.l.length ∧ (∀ j, j ≤ g.l.length → (frs (g.l.take j)).length ≤ sf → j ≤ k) ∧ (walkF P (Ta.upd f' (nmNew P) none) zs []).2 = G ++ [⟨g.first, g.l.take k⟩] ∧
      Fl P (walkF P (Ta.upd f' (nmNew P) none) zs []).1 (G ++ [⟨g.first, g.l.take k⟩]) (frs (g.l.take k)).length ∧ Log (G ++ [⟨g.first, g.l.take k⟩]) := by
  rw [h.firsts hlog hl hs hz]
  have hgl := h.hold G.length g (by simp)
  rw [if_pos (by simp)] at hgl
  have hll := hl (nm P g.first)
  rw [hgl] at hll
  obtain ⟨x, hx, hsx, hxl, -⟩ := hll
  have hnew : ∀ y ∈ G ++ [g], nm P y.first ≠ nmNew P := fun y hy => nm_not_new (hlog.firsts y hy).1 (hlog.firsts y hy).2
  have hG : ∀ (j : Nat) (y : Sg), G[j]? = some y → Ta.upd f' (nmNew P) none (nm P y.first) = some (frs y.l, (frs y.l).length) := fun j y hj => by
    have hjl := (List.getElem?_eq_some_iff.1 hj).1
    have h1 := h.hold j y (by rw [List.getElem?_append_left hjl]; exact hj)
    rw [if_neg (by simp; omega)] at h1
    rw [Ta.upd_other _ _ (hnew y (by simp [List.mem_of_getElem? hj]))]
    have h2 := hl (nm P y.first)
    rw [h1] at h2
    obtain ⟨z, hz, h3, h4, -⟩ := h2
    have : z = (frs y.l).length := by omega
    rw [hz, this, List.take_length]
  obtain ⟨k, hk, hmax, hw⟩ := walk_rest (P := P) (f := Ta.upd f' (nmNew P) none) (g := g) hxl (by rw [Ta.upd_other _ _ (hnew g (by simp))]; exact hx) G [] hlog fun y hy => by
    obtain ⟨j, hj⟩ := List.getElem?_of_mem hy
    exact hG j y hj
  refine ⟨k, hk, fun j hj hjs => hmax j hj (by omega), by rw [hw]; rfl, ?_, hlog.last ((hlog.chs g (by simp)).take k)⟩
  rw [hw]
  refine ⟨fun j y hy => ?_, fun q hq => ?_⟩
  · simp only [List.length_append, List.length_cons, List.length_nil]
    by_cases hj : j = G.length
    · subst hj
      rw [List.getElem?_append_right (Nat.le_refl _), Nat.sub_self] at hy
      cases hy
      rw [Ta.upd_same]
      simp
    · have hlt : j < G.length := by
        have := (List.getElem?_eq_some_iff.1 hy).1
        simp only [List.length_append, List.length_cons, List.length_nil] at this
        omega
      rw [List.getElem?_append_left hlt] at hy
      have hy' : (G ++ [g])[j]? = some y := by rw [List.getElem?_append_left hlt]; exact hy
      rw [if_neg (by omega), Ta.upd_other _ _ fun e => hj (hlog.one hy' (show (G ++ [g])[G.length]? = some g by simp) (nm_inj (hlog.firsts y (List.mem_of_getElem? hy')) (hlog.firsts g (by simp)) e)), hG j y hy]
  · show Ta.upd _ _ _ q = none
    rw [Ta.upd_other _ _ fun e => hq ⟨g.first, g.l.take k⟩ (by simp) e.symm]
    by_cases hn : q = nmNew P
    · rw [hn, Ta.upd_same]
    · rw [Ta.upd_other _ _ hn]
      have h1 : f q = none := h.rest q (fun y hy e => by
        rcases List.mem_append.1 hy with hy | hy
        · exact hq y (by simp [hy]) e
        · rw [List.mem_singleton.1 hy] at e
          exact hq ⟨g.first, g.l.take k⟩ (by simp) e) hn
      have := hl q
      rw [h1] at this
      exact this
end
end Go.Proofs.YtdaoeplblkfapaaGreatDoor
