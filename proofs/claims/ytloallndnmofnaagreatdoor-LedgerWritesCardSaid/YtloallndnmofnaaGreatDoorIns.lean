/- THE CONTRACT OF slices.Insert of one producer. -/
import Derived.Test.YtloallndnmofnaaGreatDoorOwn
import Derived.Lib.Overlaps
import Derived.Lib.AppendZerosOnto
import Derived.Deep.RegionLaw
import Derived.IntWalk
namespace Go.Proofs.YtloallndnmofnaaGreatDoor
open Go.RowKit

section
variable {P : Program}
theorem run_copy_w (w : World) (dT sT ty elem : TypeId) (size g o dLen dCap : Nat) (a : Addr) (sLen sCap : Nat) (cur : Array Value) (t : TypeId) (cs : List Value)
    (hu : P.underlying dT = some (.slice elem)) (hs : (P.info? elem).map (·.size) = some size)
    (hg : w.heap[g]? = some (.cells cur t (0, 0))) (hn : cs.length = Nat.min sLen dLen * size)
    (hsrc : ∀ j v, cs[j]? = some v → w.cell? (a.add j) = some v) (hfit : o + cs.length ≤ cur.size) (h1 : ∀ v ∈ cs, v.oneCell' = true) :
    (Builtin.copy_ #[dT, sT] ty #[.slice (some ⟨g, o, none⟩) dLen dCap, .slice (some a) sLen sCap]).run P w =
      .ok (goInt (Nat.min sLen dLen)) (w.setRow g (cur.toList.take o ++ cs ++ cur.toList.drop (o + cs.length)).toArray) := by
  have hst := run_storeCells_at P g o t cs 0 cur w hg (by simpa using hfit) h1
  simp only [Nat.add_zero] at hst
  cases hq : P.info? elem with
  | none => simp [hq] at hs
  | some i =>
    have hi : i.size = size := by simpa [hq] using hs
    subst hi
    have hf := run_firstCells_some (P := P) w i.size (Nat.min sLen dLen) a sLen sCap cs hn hsrc
    simp [Builtin.copy_, run_underlying hu, Builtin.lenOf, sizeOf, typeInfo, hq, hf, hst]
theorem wpList_copy_r (w : World) {ops : Array Oper} {rest : List Oper} {o : Oper} {a : Act} {Q : Exit → Act → World → Prop} (hgd : o.guard = none) (d s : Operand) (t t' : TypeId)
    (ho : o.op = .call { callee := .builtin .copy, args := #[d, s], argTypes := #[t, t'] }) (v u : Value) (hd : a.eval d = v) (hs : a.eval s = u) {v' : Value} {w' : World}
    (hr : (Builtin.copy_ #[t, t'] o.type #[v, u]).run P w = .ok v' w') (h : wpList P ops Q rest (a.put o.dst v') w') : wpList P ops Q (o :: rest) a w := by
  refine wpList_plain hgd fun K hK => ?_
  unfold Oper.wp execOp
  simp only [ho, resolve, invoke, builtin, Sem.run_bind, Sem.run_pure, Result.andThen_ok, List.map_toArray, List.map_cons, List.map_nil, hd, hs, hr]
  exact hK _ _ h
theorem step_copy_r {ops : Array Oper} {o : Oper} {a : Act} {w : World} {K : Act → World → Prop} {Q : Exit → Act → World → Prop} {E : Prop}
    (hg : o.guard = none) (d x : Operand) (dT sT : TypeId) (hop : o.op = Op.call { callee := Callee.builtin Builtin.copy, args := #[d, x], argTypes := #[dT, sT] })
    (v u : Value) (hd : a.eval d = v) (hx : a.eval x = u) {v' : Value} {w' : World} (hr : (Builtin.copy_ #[dT, sT] o.type #[v, u]).run P w = .ok v' w') (hK : K (a.put o.dst v') w') :
    if Region.wanted o (yielded ops a.tmps) = true then Oper.wp P o a w K Q else E := by
  have hw : Region.wanted o (yielded ops a.tmps) = true := by simp [Region.wanted, hg]
  rw [if_pos hw]
  unfold Oper.wp
  simp [execOp, hop, resolve, invoke, builtin, hd, hx, hr, Result.andThen]
  exact hK
end
theorem splice_mid {α : Type} (A B C cs : List α) (h : cs.length = B.length) : (A ++ (B ++ C)).take A.length ++ cs ++ (A ++ (B ++ C)).drop (A.length + cs.length) = A ++ (cs ++ C) := by
  rw [List.take_left, h, ← List.drop_drop, List.drop_left, List.drop_left, List.append_assoc]

theorem infoSeen' : (Tryz.prog.info? 46).map (fun i => (i.zero, i.size, i.bytes)) = some (some (.agg #[.int .i64 0, .slice none 0 0]), 2, 32) := by kernel_rfl
theorem infoSeen : ∃ i, Tryz.prog.info? 46 = some i ∧ i.zero = some (.agg #[.int .i64 0, .slice none 0 0]) ∧ i.size = 2 ∧ i.bytes = 32 := by
  obtain ⟨i, h⟩ := info_parts infoSeen'
  exact ⟨i, h⟩
theorem infoSlot' : (Tryz.prog.info? 40).map (fun i => (i.zero, i.size, i.bytes)) = some (some (.agg #[.int .i64 0, .int .i64 0, .int .i64 0]), 3, 24) := by kernel_rfl
theorem infoSlot : ∃ i, Tryz.prog.info? 40 = some i ∧ i.zero = some (.agg #[.int .i64 0, .int .i64 0, .int .i64 0]) ∧ i.size = 3 ∧ i.bytes = 24 := by
  obtain ⟨i, h⟩ := info_parts infoSlot'
  exact ⟨i, h⟩

/-- What Insert hands back: m producers, the cells ys, in the old block or a new one. -/
def Insd (w : World) (tb : Option Nat) (m : Nat) (ys : List Value) (e : Ending) (w' : World) : Prop :=
  ∃ g p cap, e = .returned (.slice (some ⟨g, p, none⟩) m cap) ∧ Sl w' (.slice (some ⟨g, p, none⟩) m cap) (some g) 46 2 m ys ∧ w.grownBy w' tb ∧ (tb = some g ∨ w.heap.size ≤ g)

set_option maxHeartbeats 1000000 in
set_option maxRecDepth 100000 in
theorem dins_end (tv : Value) (tb : Option Nat) (m vb : Nat) (xs : List Value) (n : Int) (w : World) (hs : Sl w tv tb 46 2 m xs) (hm : m ≤ 64) (hv : Blk w vb #[.int .i64 n, .slice none 0 0] 46) :
    Calls Tryz.prog 52 #[tv, .int .i64 m, .slice (some ⟨vb, 0, none⟩) 1 1] w (Insd w tb (m + 1) (xs ++ [.int .i64 n, .slice none 0 0])) := by
  obtain ⟨i0, hi, hz0, hz1, hz2⟩ := infoSeen
  have HNEWS : Hid (∀ j u, ([Value.int .i64 n, .slice none 0 0] : List Value)[j]? = some u → World.cell? w (Addr.add ⟨vb, 0, none⟩ j) = some u) := World.news_of_block (cs := #[.int .i64 n, .slice none 0 0]) (t := 46) (fr := (0, 0)) hv
  have HONE : Hid (∀ u ∈ ([Value.int .i64 n, .slice none 0 0] : List Value), u.oneCell' = true) := by
    intro u hu
    simp only [List.mem_cons, List.not_mem_nil, or_false] at hu
    rcases hu with rfl | rfl <;> rfl
  have HS := Lib.hid hs
  obtain ⟨ao, cap, rfl, hcap, -, hnil⟩ := hs.make
  have HNIL := Lib.hid hnil
  clear hs hv hnil
  have hmm : ¬ (m < m) := by omega
  go_enter Tryz.func52, Tryz.ntmps52
  go_wp2_with (at_builtin; refine wpList_append_sl _ (by rfl) _ _ _ (by rfl) 46 i0 (.agg #[.int .i64 0, .slice none 0 0]) 2 32 Tryz.underlying22 hi hz0 hz1 hz2 rfl (.slice ao m cap) tb m xs (by rfl) HS.out ⟨vb, 0, none⟩ 1 1 [.int .i64 n, .slice none 0 0] (by rfl) (by rfl) HNEWS.out HONE.out (by decide) (by omega) (by omega) ?_)
  all_goals
    intro g p cap1 w9 gb' hown hgrow hgb hnew
    have HF : Hid (Insd w tb (m + 1) (xs ++ [.int .i64 n, .slice none 0 0]) (.returned (.slice (some ⟨g, p, none⟩) (m + 1) cap1)) w9) := by
      subst hgb
      exact ⟨g, p, cap1, rfl, hown, hgrow, hnew.imp Eq.symm id⟩
    clear hown hgrow hgb hnew
    go_wp2_with fail
    go_ret
    exact HF.out

theorem Blk.shape {w : World} {b : Nat} {cs : Array Value} {T : TypeId} (h : Blk w b cs T) : w.shape? b = some (T, cs.size) := by
  unfold Blk at h
  unfold World.shape?
  rw [h]
theorem Blk.unfrozen {w : World} {b o : Nat} {cs : Array Value} {T : TypeId} (h : Blk w b cs T) : w.frozen? { block := b, off := o } = false := h.free
theorem splice_at {α : Type} {R A B C cs : List α} {k : Nat} (hR : R = A ++ (B ++ C)) (hk : k = A.length) (h : cs.length = B.length) : R.take k ++ cs ++ R.drop (k + cs.length) = A ++ (cs ++ C) := by
  subst hR hk
  exact splice_mid A B C cs h
/-- What lies in the block behind a shift. -/
theorem shift_row {A X1 X2 D Y R1 : List Value} {c : Nat} (hY : Y.length = c) (hD : c ≤ D.length)
    (h1 : R1 = (A ++ (X1 ++ (X2 ++ D))).take (A.length + X1.length + c) ++ X2 ++ (A ++ (X1 ++ (X2 ++ D))).drop (A.length + X1.length + c + X2.length)) :
    R1.length = (A ++ (X1 ++ (X2 ++ D))).length ∧ R1.take (A.length + X1.length) ++ Y ++ R1.drop (A.length + X1.length + Y.length) = A ++ (X1 ++ (Y ++ (X2 ++ D.drop c))) := by
  obtain ⟨M, N, hM, hN, hE⟩ : ∃ M N : List Value, M.length = c ∧ N.length = X2.length ∧ X2 ++ D = M ++ (N ++ D.drop c) := by
    refine ⟨(X2 ++ D).take c, ((X2 ++ D).drop c).take X2.length, by simp; omega, by simp; omega, ?_⟩
    have : D.drop c = ((X2 ++ D).drop c).drop X2.length := by
      rw [List.drop_drop, Nat.add_comm, ← List.drop_drop, List.drop_left]
    rw [this, List.take_append_drop, List.take_append_drop]
  have e1 : R1 = (A ++ X1) ++ (M ++ (X2 ++ D.drop c)) := by
    rw [h1, splice_at (A := A ++ (X1 ++ M)) (B := N) (C := D.drop c) (by rw [hE]; simp) (by simp; omega) hN.symm]
    simp
  refine ⟨?_, ?_⟩
  · rw [e1]; simp; omega
  · rw [splice_at (A := A ++ X1) (B := M) (C := X2 ++ D.drop c) e1 (by simp) (by omega)]
    simp
/-- .. behind two copies into a new row. -/
theorem fill_row {X1 Z X2 Y R1 E : List Value} {c : Nat} (hY : Y.length = c) (hZ : Z.length = c + X2.length)
    (h1 : R1 = (X1 ++ (Z ++ E)).take X1.length ++ Y ++ (X1 ++ (Z ++ E)).drop (X1.length + Y.length)) :
    R1.length = (X1 ++ (Z ++ E)).length ∧ R1.take (X1.length + c) ++ X2 ++ R1.drop (X1.length + c + X2.length) = X1 ++ (Y ++ (X2 ++ E)) := by
  have e1 : R1 = (X1 ++ Y) ++ (Z.drop c ++ E) := by
    rw [h1, splice_at (A := X1) (B := Z.take c) (C := Z.drop c ++ E) (by rw [← List.append_assoc (Z.take c), List.take_append_drop]) rfl (by simp; omega)]
    simp
  refine ⟨?_, ?_⟩
  · rw [e1]; simp; omega
  · rw [splice_at (A := X1 ++ Y) (B := Z.drop c) (C := E) e1 (by simp; omega) (by simp; omega)]
    simp

set_option maxHeartbeats 4000000 in
set_option maxRecDepth 100000 in
theorem dins_shift (g p cap m i vb : Nat) (xs : List Value) (n : Int) (w : World) (hs : Sl w (.slice (some ⟨g, p, none⟩) m cap) (some g) 46 2 m xs) (h1x : ∀ u ∈ xs, u.oneCell' = true) (hm : m ≤ 64) (hi : i < m) (hroom : m + 1 ≤ cap) (hv : Blk w vb #[.int .i64 n, .slice none 0 0] 46) (hne : vb ≠ g) :
    Calls Tryz.prog 52 #[.slice (some ⟨g, p, none⟩) m cap, .int .i64 i, .slice (some ⟨vb, 0, none⟩) 1 1] w (Insd w (some g) (m + 1) (xs.take (i * 2) ++ ([.int .i64 n, .slice none 0 0] ++ xs.drop (i * 2)))) := by
  obtain ⟨hxl, hh⟩ := hs
  rcases hh with ⟨h0, -⟩ | ⟨g', p', cap', cur, hg', hv', hg, hnc, hcs, htake⟩
  · cases h0
  cases hg'
  cases hv'
  have hinfo : (Tryz.prog.info? 46).map (·.size) = some 2 := by
    obtain ⟨i0, hi0, -, hz1, -⟩ := infoSeen
    rw [hi0]; simp [hz1]
  obtain ⟨X1, hX1⟩ : ∃ X1, xs.take (i * 2) = X1 := ⟨_, rfl⟩
  obtain ⟨X2, hX2⟩ : ∃ X2, xs.drop (i * 2) = X2 := ⟨_, rfl⟩
  obtain ⟨A, hA⟩ : ∃ A, cur.toList.take p = A := ⟨_, rfl⟩
  obtain ⟨D, hD⟩ : ∃ D, (cur.toList.drop p).drop (m * 2) = D := ⟨_, rfl⟩
  have hx : X1 ++ X2 = xs := by rw [← hX1, ← hX2, List.take_append_drop]
  have hcur : cur.toList = A ++ (X1 ++ (X2 ++ D)) := by
    rw [← List.append_assoc X1, hx, ← htake, ← hD, List.take_append_drop, ← hA, List.take_append_drop]
  have lA : A.length = p := by rw [← hA]; simp; omega
  have l1 : X1.length = i * 2 := by rw [← hX1]; simp; omega
  have l2 : X2.length = (m - i) * 2 := by rw [← hX2]; simp; omega
  have lD : 2 ≤ D.length := by rw [← hD]; simp; omega
  have h1X2 : ∀ u ∈ X2, u.oneCell' = true := fun u hu => h1x u (by rw [← hx]; exact List.mem_append_right _ hu)
  obtain ⟨Y, hY⟩ : ∃ Y : List Value, [Value.int .i64 n, .slice none 0 0] = Y := ⟨_, rfl⟩
  have lY : Y.length = 2 := by rw [← hY]; rfl
  have h1Y : ∀ u ∈ Y, u.oneCell' = true := by
    rw [← hY]
    intro u hu
    simp only [List.mem_cons, List.not_mem_nil, or_false] at hu
    rcases hu with rfl | rfl <;> rfl
  have hcsz : cur.size = (A ++ (X1 ++ (X2 ++ D))).length := by rw [← hcur, Array.length_toList]
  have hcsz2 : cur.size = p + i * 2 + (m - i) * 2 + D.length := by rw [hcsz]; simp; omega
  obtain ⟨R1, hR1⟩ : ∃ R1 : List Value, cur.toList.take (p + (i + 1) * 2) ++ X2 ++ cur.toList.drop (p + (i + 1) * 2 + X2.length) = R1 := ⟨_, rfl⟩
  have hrow := shift_row (A := A) (X1 := X1) (X2 := X2) (D := D) (Y := Y) (R1 := R1) (c := 2) lY lD (by
    rw [← hR1, hcur]
    have e : A.length + X1.length + 2 = p + (i + 1) * 2 := by omega
    rw [e])
  have cold : ∀ (j : Nat) (v : Value), X2[j]? = some v → w.drew.cell? ((⟨g, p + i * 2, none⟩ : Addr).add j) = some v := fun j v hj => by
    rw [Addr.add_lit]
    show w.cell? _ = _
    rw [cell_of_row w g (p + i * 2 + j) cur _ (0, 0) hg, ← Array.getElem?_toList, hcur, ← lA, ← l1, List.getElem?_append_right (by omega), List.getElem?_append_right (by omega), List.getElem?_append_left (by have := (List.getElem?_eq_some_iff.1 hj).1; omega)]
    rw [← hj]; congr 1; omega
  have hcp1 : ∀ ty dc sc, (Builtin.copy_ #[22, 22] ty #[.slice (some ⟨g, p + (i + 1) * 2, none⟩) (m - i) dc, .slice (some ⟨g, p + i * 2, none⟩) (m + 1 - i) sc]).run Tryz.prog w.drew = .ok (goInt (Nat.min (m + 1 - i) (m - i))) (w.drew.setRow g R1.toArray) := fun ty dc sc => by
    rw [run_copy_w w.drew _ _ ty 46 2 g (p + (i + 1) * 2) (m - i) dc ⟨g, p + i * 2, none⟩ (m + 1 - i) sc cur 46 X2 Tryz.underlying22 hinfo hg (by rw [l2]; congr 1; simp only [Nat.min_def]; split <;> omega) cold (by omega) h1X2, hR1]
  obtain ⟨W1, hW1⟩ : ∃ W1, W1 = w.drew.setRow g R1.toArray := ⟨_, rfl⟩
  rw [← hW1] at hcp1
  have hg1 : W1.heap[g]? = some (.cells R1.toArray 46 (0, 0)) := by rw [hW1]; exact setRow_heap w.drew g cur _ _ _ hg
  have hv1 : Blk W1 vb #[.int .i64 n, .slice none 0 0] 46 := by
    rw [hW1]
    unfold Blk at hv ⊢
    rw [setRow_other w.drew g vb _ hne]
    exact hv
  have hR1s : R1.toArray.size = cur.size := by rw [List.size_toArray, hrow.1, hcsz]
  have hcp2 : ∀ ty dc, (Builtin.copy_ #[22, 22] ty #[.slice (some ⟨g, p + i * 2, none⟩) (m + 1 - i) dc, .slice (some ⟨vb, 0, none⟩) 1 1]).run Tryz.prog W1 = .ok (goInt (Nat.min 1 (m + 1 - i))) (W1.setRow g (A ++ (X1 ++ (Y ++ (X2 ++ D.drop 2)))).toArray) := fun ty dc => by
    rw [run_copy_w W1 _ _ ty 46 2 g (p + i * 2) (m + 1 - i) dc ⟨vb, 0, none⟩ 1 1 R1.toArray 46 Y Tryz.underlying22 hinfo hg1 (by rw [lY]; simp only [Nat.min_def]; split <;> omega) (by
      rw [← hY]; exact World.news_of_block (cs := #[.int .i64 n, .slice none 0 0]) (t := 46) (fr := (0, 0)) hv1) (by rw [hR1s, lY]; omega) h1Y]
    have h2 := hrow.2
    rw [lA, l1] at h2
    dsimp only
    rw [h2]
  have HFIN : Hid (Insd w (some g) (m + 1) (X1 ++ (Y ++ X2)) (.returned (.slice (some ⟨g, p, none⟩) (m + 1) cap)) (W1.setRow g (A ++ (X1 ++ (Y ++ (X2 ++ D.drop 2)))).toArray)) := by
    refine ⟨g, p, cap, rfl, ⟨by simp; omega, .inr ⟨g, p, cap, _, rfl, rfl, setRow_heap W1 g _ _ _ _ hg1, hroom, ?_, ?_⟩⟩, ?_, .inl rfl⟩
    · rw [List.size_toArray]
      simp only [List.length_append, List.length_drop]
      omega
    · rw [List.toList_toArray, ← lA, List.drop_left, ← List.append_assoc Y, ← List.append_assoc X1, List.take_append_of_le_length (by simp; omega), List.take_of_length_le (by simp; omega)]
    · rw [hW1]
      refine ⟨rfl, rfl, rfl, by simp [World.setRow], fun k hk hkg => ?_⟩
      have hkg' : k ≠ g := fun e => hkg (by rw [e])
      rw [setRow_other _ g k _ hkg', setRow_other w.drew g k _ hkg']
      rfl
  have hov : ∀ lb cb, (callFunc 66 #[.slice (some ⟨vb, 0, none⟩) 1 1, .slice (some ⟨g, p + (i + 1) * 2, none⟩) lb cb]).run Tryz.prog w = .ok (.value (.bool false)) w := fun lb cb => by
    rw [run_callFunc_extern Tryz.func66 (by kernel_rfl) (by kernel_rfl) (by kernel_rfl) (e := Extern.SlicesOverlaps.overlaps #[22, 22] #[4]) (by kernel_rfl),
      Lib.run_overlaps_apart w 22 4 46 Tryz.underlying22 2 (by
        intro w
        obtain ⟨i0, hi0, -, hz1, -⟩ := infoSeen
        simp [sizeOf, typeInfo, hi0, hz1]) ⟨vb, 0, none⟩ ⟨g, p + (i + 1) * 2, none⟩ 1 1 lb cb hne 46 46 2 cur.size hv.shape (Blk.shape (cs := cur) (T := 46) hg) (by omega) hv.unfrozen hv.unfrozen]
    rfl
  rw [hX1, hX2, hY]
  have HCP1 := Lib.hid hcp1
  have HCP2 := Lib.hid hcp2
  clear hcp1 hcp2 hrow cold hcur hA hD hx hX1 hX2 hY hR1 hW1 hg1 hv1 hR1s htake hcsz hcsz2 h1X2 h1Y h1x hg hcs hxl lA l1 l2 lD lY hv hinfo
  have hz1 : ¬ ((i : Int) = (m : Int)) := by omega
  have him : i ≤ m := by omega
  have him1 : i ≤ m + 1 := by omega
  have hb2 : ¬ (cap = i + 1) := by omega
  have hb4 : ¬ (cap = i) := by omega
  have hb3 : (i : Int) ≤ (m : Int) + 1 := by omega
  have hw1 : IntKind.i64.wrap ((i : Int) + 1) = (i : Int) + 1 := by rw [IntKind.wrap_i64]; omega
  have htn : ((i : Int) + 1).toNat = i + 1 := by omega
  have hb1 : (0 : Int) ≤ (i : Int) + 1 := by omega
  go_enter Tryz.func52, Tryz.ntmps52
  go_wp2_with (simp only [hov])
  have hcp1 := HCP1.out
  go_region_law (refine step_copy_r rfl (.tmp 73) (.tmp 76) 22 22 rfl (.slice (some ⟨g, p + (i + 1) * 2, none⟩) (m - i) (cap - (i + 1))) (.slice (some ⟨g, p + i * 2, none⟩) (m + 1 - i) (cap - i)) (by simp [Act.eval, Act.put]) (by simp [Act.eval, Act.put]) (hcp1 _ _ _) ?_)
  clear hcp1
  go_wp2_with (refine wpList_copy_r _ rfl (.tmp 80) (.tmp 81) _ _ rfl (.slice (some ⟨g, p + i * 2, none⟩) (m + 1 - i) (cap - i)) (.slice (some ⟨vb, 0, none⟩) 1 1) rfl rfl (HCP2.out _ _) ?_)
  go_ret
  exact HFIN.out

end Go.Proofs.YtloallndnmofnaaGreatDoor
