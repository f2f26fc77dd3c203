/- What a loop over an iterator must keep, in few words. -/
import Derived.Test.YtdkngocinimjdaaAllWalk
import Derived.Test.YtdkngocinimjdaaOverWalk
namespace Go.Proofs.Ytdkngocinimjdaa
open Go.RowKit Go.Shelf

theorem Blk.kept {W W' : World} {b B : Nat} {row : Option Nat} {cs : Array Value} {T : TypeId} (h : Blk W b cs T) (hg : W.grownBy W' row) (hr : ∀ r, row = some r → B ≤ r ∧ ∃ o : Obj, W.heap[r]? = some o ∧ o.isCells = false) : Blk W' b cs T :=
  h.grown hg (by
    intro e
    obtain ⟨-, o, ho, hc⟩ := hr b e.symm
    unfold Blk at h
    rw [h] at ho
    cases ho
    cases hc)
theorem Rw.kept {W W' : World} {g B : Nat} {gb row : Option Nat} {L : List P2} (h : Rw W g gb L) (hg : W.grownBy W' row) (hr : ∀ r, row = some r → B ≤ r ∧ ∃ o : Obj, W.heap[r]? = some o ∧ o.isCells = false) : Rw W' g gb L := by
  obtain ⟨v, a, b, xs, h1, h2, h3⟩ := h.lies
  refine ⟨h.ok, h.few, h.ne, v, a, b, xs, h1.kept hg hr, h2.same fun k hk => ?_, h3⟩
  rcases h2.2 with ⟨_, h, _⟩ | ⟨k', p, cap, cur, hgb, _, hc, _⟩
  · rw [hk] at h; cases h
  · rw [hk] at hgb; cases hgb
    have hb : Blk W k cur 33 := hc
    rw [show W'.heap[k]? = _ from hb.kept hg hr, hc]
theorem low_kept {w W W' : World} {B : Nat} {row : Option Nat} (h : Below w.heap.size w W) (hB : w.heap.size ≤ B) (hg : W.grownBy W' row) (hr : ∀ r, row = some r → B ≤ r ∧ ∃ o : Obj, W.heap[r]? = some o ∧ o.isCells = false) : Below w.heap.size w W' :=
  h.grown hg h.size (fun k e => Nat.le_trans hB (hr k e).1)

theorem others_below {W W' : World} (h : Below W.heap.size W W') : KeepsOthers W W' := ⟨h.size, fun k o hk _ => by rw [h.block k (lt_of_block hk)]; exact hk⟩
theorem others_kb {W W' : World} {a b : Option Nat} (h : Kb2 a b W W') (ha : ∀ k, a = some k → ∃ cs T, Blk W k cs T) (hb : ∀ k, b = some k → ∃ cs T, Blk W k cs T) : KeepsOthers W W' := by
  refine ⟨h.size, fun k o hk ho => ?_⟩
  rw [h.block k (lt_of_block hk) (fun e => ?_) (fun e => ?_)]
  · exact hk
  · obtain ⟨cs, T, hc⟩ := ha k e.symm
    unfold Blk at hc; rw [hc] at hk; cases hk; cases ho
  · obtain ⟨cs, T, hc⟩ := hb k e.symm
    unfold Blk at hc; rw [hc] at hk; cases hk; cases ho

theorem Kp.of_below {g : Nat} {Ex : Nat → Prop} {W W' : World} (h : Below W.heap.size W W') (hg : g < W.heap.size) : Kp g Ex W W' :=
  ⟨h.size, .inl (by unfold bk; rw [h.cell (p := ⟨g, 0, none⟩) hg]), fun b c t hb _ _ _ => by rw [h.block b (lt_of_block hb)]; exact hb⟩
theorem Kp.setCell {g : Nat} {Ex : Nat → Prop} (W : World) (p : Addr) (v : Value) (h : Ex p.block) (hn : p.block ≠ g) : Kp g Ex W (W.setCell p v) := by
  refine ⟨by simp [World.setCell], .inl ?_, fun b c t hb h1 _ _ => ?_⟩
  · unfold bk
    rw [World.cell?_of_block (w := W) (Below.heap_setCell _ _ _ _ (Ne.symm hn))]
  · rw [Below.heap_setCell _ _ _ _ (by rintro rfl; exact h1 h)]
    exact hb
theorem Kp.of_kb {g : Nat} {gb : Option Nat} {Ex : Nat → Prop} {W W' : World} (h : Kb2 (some g) gb W W') (h1 : bk W g = gb) (h2 : bk W' g = gb ∨ ∃ k, bk W' g = some k ∧ W.heap.size ≤ k) : Kp g Ex W W' :=
  ⟨h.size, by rw [h1]; exact h2, fun b c t hb _ hn hk => by rw [h.block b (lt_of_block hb) (by simp [hn]) (by rw [← h1]; exact hk)]; exact hb⟩

def el (L : List P2) (k : Nat) : P2 := L[k]?.getD (0, 0)
/-- What has been added up of those that came from place a on. -/
def restOf (L : List P2) (a : Nat) (pre : List Nat) : P2 := tot ((pre.drop a).map (el L))
theorem restOf_in {L : List P2} {a : Nat} {pre : List Nat} {x : Nat} (h : a ≤ pre.length) : restOf L a (pre ++ [x]) = add2 (restOf L a pre) (el L x) := by
  unfold restOf
  rw [List.drop_append_of_le_length h, List.map_append]
  exact tot_snoc _ _
theorem restOf_out {L : List P2} {a : Nat} {pre : List Nat} {x : Nat} (h : pre.length < a) : restOf L a (pre ++ [x]) = restOf L a pre := by
  unfold restOf
  rw [List.drop_of_length_le (by rw [List.length_append]; simp; omega), List.drop_of_length_le (by omega)]
theorem range_el (L : List P2) : (List.range L.length).map (el L) = L := by
  apply List.ext_getElem
  · simp
  · intro i h1 h2
    simp [el, h2]
theorem restOf_range (L : List P2) (a : Nat) : restOf L a (List.range L.length) = tot (L.drop a) := by
  unfold restOf
  rw [List.map_drop, range_el]
theorem el_small (zs : List P2) (k : Nat) : 0 ≤ (el (rowOf zs) k).1 ∧ (el (rowOf zs) k).1 < 1048576 ∧ 0 ≤ (el (rowOf zs) k).2 ∧ (el (rowOf zs) k).2 < 1048576 := by
  unfold el
  rcases h : (rowOf zs)[k]? with _ | p
  · simp
  · simpa using rowOf_small zs p (List.mem_of_getElem? h)
theorem restOf_small (zs : List P2) (a : Nat) (pre : List Nat) (h : pre.length ≤ 60) : 0 ≤ (restOf (rowOf zs) a pre).1 ∧ (restOf (rowOf zs) a pre).1 ≤ 62914560 ∧ 0 ≤ (restOf (rowOf zs) a pre).2 ∧ (restOf (rowOf zs) a pre).2 ≤ 62914560 := by
  have := tot_small ((pre.drop a).map (el (rowOf zs))) (fun p hp => by obtain ⟨k, _, rfl⟩ := List.mem_map.1 hp; exact el_small zs k)
  rw [List.length_map, List.length_drop] at this
  unfold restOf
  omega
theorem range_snoc {pre : List Nat} {x : Nat} (h : pre ++ [x] = List.range (pre ++ [x]).length) : x = pre.length := by
  have := congrArg (fun l => l[pre.length]?) h
  simp at this
  exact this
end Go.Proofs.Ytdkngocinimjdaa
