/- Copies within a row; what lies there behind them. Nothing here knows the program. -/
import Derived.Test.YtmkinnheoejphaaGreatDoorAdd
import Derived.Lib.Overlaps
import Derived.Lib.AppendZerosOnto
import Derived.Deep.RegionLaw
import Derived.IntWalk
namespace Go.Proofs.YtmkinnheoejphaaGreatDoor
open Go.RowKit

section
variable {P : Program}
theorem run_copy_w (w : World) (dT sT ty elem : TypeId) (size g o dLen dCap : Nat) (a : Addr) (sLen sCap : Nat) (cur : Array Value) (t : TypeId) (cs : List Value)
    (hu : P.underlying dT = some (.slice elem)) (hs : (P.info? elem).map (·.size) = some size)
    (hg : w.heap[g]? = some (.cells cur t (0, 0))) (hn : cs.length = Nat.min sLen dLen * size)
    (hsrc : ∀ j v, cs[j]? = some v → w.cell? (a.add j) = some v) (hfit : o + cs.length ≤ cur.size) (h1 : ∀ v ∈ cs, v.oneCell' = true) :
    (Builtin.copy_ #[dT, sT] ty #[.slice (some ⟨g, o, none⟩) dLen dCap, .slice (some a) sLen sCap]).run P w =
      .ok (goInt (Nat.min sLen dLen)) (w.setRow g (cur.toList.take o ++ cs ++ cur.toList.drop (o + cs.length)).toArray) := by
  have hst := run_storeCells_at P g o t cs 0 cur w hg (by simpa using hfit) h1
  simp only [Nat.add_zero] at hst
  cases hq : P.info? elem with
  | none => simp [hq] at hs
  | some i =>
    have hi : i.size = size := by simpa [hq] using hs
    subst hi
    have hf := run_firstCells_some (P := P) w i.size (Nat.min sLen dLen) a sLen sCap cs hn hsrc
    simp [Builtin.copy_, run_underlying hu, Builtin.lenOf, sizeOf, typeInfo, hq, hf, hst]
theorem wpList_copy_r (w : World) {ops : Array Oper} {rest : List Oper} {o : Oper} {a : Act} {Q : Exit → Act → World → Prop} (hgd : o.guard = none) (d s : Operand) (t t' : TypeId)
    (ho : o.op = .call { callee := .builtin .copy, args := #[d, s], argTypes := #[t, t'] }) (v u : Value) (hd : a.eval d = v) (hs : a.eval s = u) {v' : Value} {w' : World}
    (hr : (Builtin.copy_ #[t, t'] o.type #[v, u]).run P w = .ok v' w') (h : wpList P ops Q rest (a.put o.dst v') w') : wpList P ops Q (o :: rest) a w := by
  refine wpList_plain hgd fun K hK => ?_
  unfold Oper.wp execOp
  simp only [ho, resolve, invoke, builtin, Sem.run_bind, Sem.run_pure, Result.andThen_ok, List.map_toArray, List.map_cons, List.map_nil, hd, hs, hr]
  exact hK _ _ h
theorem step_copy_r {ops : Array Oper} {o : Oper} {a : Act} {w : World} {K : Act → World → Prop} {Q : Exit → Act → World → Prop} {E : Prop}
    (hg : o.guard = none) (d x : Operand) (dT sT : TypeId) (hop : o.op = Op.call { callee := Callee.builtin Builtin.copy, args := #[d, x], argTypes := #[dT, sT] })
    (v u : Value) (hd : a.eval d = v) (hx : a.eval x = u) {v' : Value} {w' : World} (hr : (Builtin.copy_ #[dT, sT] o.type #[v, u]).run P w = .ok v' w') (hK : K (a.put o.dst v') w') :
    if Region.wanted o (yielded ops a.tmps) = true then Oper.wp P o a w K Q else E := by
  have hw : Region.wanted o (yielded ops a.tmps) = true := by simp [Region.wanted, hg]
  rw [if_pos hw]
  unfold Oper.wp
  simp [execOp, hop, resolve, invoke, builtin, hd, hx, hr, Result.andThen]
  exact hK
end
theorem splice_mid {α : Type} (A B C cs : List α) (h : cs.length = B.length) : (A ++ (B ++ C)).take A.length ++ cs ++ (A ++ (B ++ C)).drop (A.length + cs.length) = A ++ (cs ++ C) := by
  rw [List.take_left, h, ← List.drop_drop, List.drop_left, List.drop_left, List.append_assoc]

theorem Blk.shape {w : World} {b : Nat} {cs : Array Value} {T : TypeId} (h : Blk w b cs T) : w.shape? b = some (T, cs.size) := by
  unfold Blk at h
  unfold World.shape?
  rw [h]
theorem Blk.unfrozen {w : World} {b o : Nat} {cs : Array Value} {T : TypeId} (h : Blk w b cs T) : w.frozen? { block := b, off := o } = false := h.free
theorem splice_at {α : Type} {R A B C cs : List α} {k : Nat} (hR : R = A ++ (B ++ C)) (hk : k = A.length) (h : cs.length = B.length) : R.take k ++ cs ++ R.drop (k + cs.length) = A ++ (cs ++ C) := by
  subst hR hk
  exact splice_mid A B C cs h
/-- What lies in the block behind a shift. -/
theorem shift_row {A X1 X2 D Y R1 : List Value} {c : Nat} (hY : Y.length = c) (hD : c ≤ D.length)
    (h1 : R1 = (A ++ (X1 ++ (X2 ++ D))).take (A.length + X1.length + c) ++ X2 ++ (A ++ (X1 ++ (X2 ++ D))).drop (A.length + X1.length + c + X2.length)) :
    R1.length = (A ++ (X1 ++ (X2 ++ D))).length ∧ R1.take (A.length + X1.length) ++ Y ++ R1.drop (A.length + X1.length + Y.length) = A ++ (X1 ++ (Y ++ (X2 ++ D.drop c))) := by
  obtain ⟨M, N, hM, hN, hE⟩ : ∃ M N : List Value, M.length = c ∧ N.length = X2.length ∧ X2 ++ D = M ++ (N ++ D.drop c) := by
    refine ⟨(X2 ++ D).take c, ((X2 ++ D).drop c).take X2.length, by simp; omega, by simp; omega, ?_⟩
    have : D.drop c = ((X2 ++ D).drop c).drop X2.length := by
      rw [List.drop_drop, Nat.add_comm, ← List.drop_drop, List.drop_left]
    rw [this, List.take_append_drop, List.take_append_drop]
  have e1 : R1 = (A ++ X1) ++ (M ++ (X2 ++ D.drop c)) := by
    rw [h1, splice_at (A := A ++ (X1 ++ M)) (B := N) (C := D.drop c) (by rw [hE]; simp) (by simp; omega) hN.symm]
    simp
  refine ⟨?_, ?_⟩
  · rw [e1]; simp; omega
  · rw [splice_at (A := A ++ X1) (B := M) (C := X2 ++ D.drop c) e1 (by simp) (by omega)]
    simp
/-- .. behind two copies into a new row. -/
theorem fill_row {X1 Z X2 Y R1 E : List Value} {c : Nat} (hY : Y.length = c) (hZ : Z.length = c + X2.length)
    (h1 : R1 = (X1 ++ (Z ++ E)).take X1.length ++ Y ++ (X1 ++ (Z ++ E)).drop (X1.length + Y.length)) :
    R1.length = (X1 ++ (Z ++ E)).length ∧ R1.take (X1.length + c) ++ X2 ++ R1.drop (X1.length + c + X2.length) = X1 ++ (Y ++ (X2 ++ E)) := by
  have e1 : R1 = (X1 ++ Y) ++ (Z.drop c ++ E) := by
    rw [h1, splice_at (A := X1) (B := Z.take c) (C := Z.drop c ++ E) (by rw [← List.append_assoc (Z.take c), List.take_append_drop]) rfl (by simp; omega)]
    simp
  refine ⟨?_, ?_⟩
  · rw [e1]; simp; omega
  · rw [splice_at (A := X1 ++ Y) (B := Z.drop c) (C := E) e1 (by simp; omega) (by simp; omega)]
    simp

section
variable {w : World} {v : Value} {gb : Option Nat} {e size n : Nat} {xs : List Value}
theorem Sl.make (h : Sl w v gb e size n xs) : ∃ ao cap, v = .slice ao n cap ∧ n ≤ cap ∧ (0 < n → ∃ g p, ao = some ⟨g, p, none⟩ ∧ gb = some g) ∧ (ao = none → v = .slice none 0 0) := by
  rcases h.2 with ⟨rfl, rfl, rfl⟩ | ⟨g, p, cap, cur, rfl, rfl, _, hn, _⟩
  · exact ⟨none, 0, rfl, Nat.le_refl _, fun h => by omega, fun _ => rfl⟩
  · exact ⟨_, cap, rfl, hn, fun _ => ⟨g, p, rfl, rfl⟩, fun h => by cases h⟩
end
theorem news_of {w : World} {vb : Nat} {Y : List Value} {T : TypeId} (h : Blk w vb Y.toArray T) : ∀ j u, Y[j]? = some u → w.cell? ((⟨vb, 0, none⟩ : Addr).add j) = some u := by
  intro j u hu
  rw [Addr.add_lit, Nat.zero_add]
  exact h.cell (by rw [List.getElem?_toArray]; exact hu)
end Go.Proofs.YtmkinnheoejphaaGreatDoor
