/- Batches as they lie in memory. -/
import Derived.Test.YtfapigccdbpepaaRd
import Derived.Test.YtfapigccdbpepaaCEq
namespace Go.Proofs.Ytfapigccdbpepaa
open Go.RowKit

/-- A record as a value. -/
abbrev rv4 (x : Pl.Rc) : Value := .agg #[.int .i64 x.off, .string ⟨x.key.toArray⟩, .string ⟨x.val.toArray⟩, .bool x.gone]
/-- A batch's cells. -/
def bc6 (p : Pl.Bt × Value) : List Value := [.int .i64 p.1.base, .int .i64 p.1.count, .int .i64 p.1.prod, .int .i64 p.1.seq, .int .i64 p.1.time, p.2]
theorem bc6_length (p : Pl.Bt × Value) : (bc6 p).length = 6 := rfl
/-- A slice of records that is read. -/
def RcIn (A : Nat → Prop) (w : World) (v : Value) (ls : List Pl.Rc) : Prop := Rds A w v 4 ls.length (ls.flatMap cells4)
/-- A batch as a value. -/
abbrev bv (p : Pl.Bt × Value) : Value := .agg #[.int .i64 p.1.base, .int .i64 p.1.count, .int .i64 p.1.prod, .int .i64 p.1.seq, .int .i64 p.1.time, p.2]
/-- Each batch's records are read in blocks of which A holds. -/
def All (A : Nat → Prop) (w : World) (L : List (Pl.Bt × Value)) : Prop := ∀ p ∈ L, RcIn A w p.2 p.1.recs
/-- A slice of batches that is read. -/
def BtIn (A : Nat → Prop) (w : World) (v : Value) (L : List (Pl.Bt × Value)) : Prop := Rds A w v 6 L.length (L.flatMap bc6) ∧ All A w L
section
variable {A A' : Nat → Prop} {w w' : World} {v : Value} {ls : List Pl.Rc} {L M : List (Pl.Bt × Value)}
theorem RcIn.recs (h : RcIn A w v ls) : Recs v ls w := by
  obtain ⟨a, cap, rfl⟩ := Rds.form h
  refine ⟨a, cap, rfl, fun j x hj => ?_⟩
  have hl := (List.getElem?_eq_some_iff.1 hj).1
  obtain ⟨b, p, cap', e, _, hb, hc⟩ := Rds.at h (by omega)
  injection e with e1 _ _
  have key : ∀ i u, i < 4 → (cells4 x)[i]? = some u → w.cell? ⟨b, p + j * 4 + i, none⟩ = some u := fun i u hi hu => by
    have := hc (j * 4 + i) u (by rw [flat4 ls j x hj i hi]; exact hu)
    rw [← Nat.add_assoc] at this
    exact this
  exact ⟨b, p, e1, hb, key 0 _ (by decide) rfl, key 1 _ (by decide) rfl, key 2 _ (by decide) rfl, key 3 _ (by decide) rfl⟩
theorem RcIn.slice (h : RcIn A w v ls) : ∃ a cap, v = .slice a ls.length cap := Rds.form h
theorem All.mono (h : All A w L) (k : ∀ b, A b → A' b) : All A' w L := fun p hp => (h p hp).mono k
theorem All.below (h : All A w L) (hb : Below w.heap.size w w') : All A w' L := fun p hp => (h p hp).below hb
theorem All.moved {B B' : Nat → Prop} (h : All (fun b => ¬ B b) w L) (k : Moved B B' w w') : All (fun b => ¬ B' b) w' L := fun p hp => (h p hp).moved k
theorem All.append (h : All A w L) (k : All A w M) : All A w (L ++ M) := fun p hp => by
  rcases List.mem_append.1 hp with hp | hp
  · exact h p hp
  · exact k p hp
theorem All.sub (h : All A w L) (k : ∀ p ∈ M, p ∈ L) : All A w M := fun p hp => h p (k p hp)
theorem All.keep (h : All A w L) (hs : w.heap.size ≤ w'.heap.size) (k : ∀ b, A b → b < w.heap.size → w'.heap[b]? = w.heap[b]? ∧ A' b) : All A' w' L := fun p hp => (h p hp).keep hs k
theorem BtIn.below (h : BtIn A w v L) (hb : Below w.heap.size w w') : BtIn A w' v L := ⟨h.1.below hb, h.2.below hb⟩
theorem BtIn.moved {B B' : Nat → Prop} (h : BtIn (fun b => ¬ B b) w v L) (k : Moved B B' w w') : BtIn (fun b => ¬ B' b) w' v L := ⟨h.1.moved k, h.2.moved k⟩
theorem BtIn.mono (h : BtIn A w v L) (k : ∀ b, A b → A' b) : BtIn A' w v L := ⟨h.1.mono k, h.2.mono k⟩
theorem BtIn.form (h : BtIn A w v L) : ∃ a cap, v = .slice a L.length cap := h.1.form
/-- The cells of the batch at a place. -/
theorem BtIn.at (h : BtIn A w v L) {j : Nat} {p : Pl.Bt × Value} (hj : L[j]? = some p) : ∃ b o cap, v = .slice (some ⟨b, o, none⟩) L.length cap ∧ A b ∧ b < w.heap.size ∧
    (∀ i u, i < 6 → (bc6 p)[i]? = some u → w.cell? ⟨b, o + j * 6 + i, none⟩ = some u) ∧ RcIn A w p.2 p.1.recs := by
  have hl := (List.getElem?_eq_some_iff.1 hj).1
  obtain ⟨b, o, cap, e, ha, hb, hc⟩ := h.1.at (by omega)
  refine ⟨b, o, cap, e, ha, hb, fun i u hi hu => ?_, h.2 p (List.mem_of_getElem? hj)⟩
  have := hc (j * 6 + i) u (by rw [flat_at bc6 6 bc6_length L j p hj i hi]; exact hu)
  rw [← Nat.add_assoc] at this
  exact this
end

theorem BtIn.get {A : Nat → Prop} {w : World} {v : Value} {L : List (Pl.Bt × Value)} (h : BtIn A w v L) {j : Nat} {base count prod seq time : Int} {recs : List Pl.Rc} {rv : Value} (hj : L[j]? = some (⟨base, count, prod, seq, time, recs⟩, rv)) :
    ∃ b o cap, v = .slice (some ⟨b, o, none⟩) L.length cap ∧ A b ∧ b < w.heap.size ∧ w.cell? ⟨b, o + j * 6, none⟩ = some (.int .i64 base) ∧ w.cell? ⟨b, o + j * 6 + 1, none⟩ = some (.int .i64 count) ∧ w.cell? ⟨b, o + j * 6 + 2, none⟩ = some (.int .i64 prod) ∧
      w.cell? ⟨b, o + j * 6 + 3, none⟩ = some (.int .i64 seq) ∧ w.cell? ⟨b, o + j * 6 + 4, none⟩ = some (.int .i64 time) ∧ w.cell? ⟨b, o + j * 6 + 5, none⟩ = some rv ∧ RcIn A w rv recs := by
  obtain ⟨b, o, cap, e, ha, hb, hc, hr⟩ := h.at hj
  exact ⟨b, o, cap, e, ha, hb, hc 0 _ (by decide) rfl, hc 1 _ (by decide) rfl, hc 2 _ (by decide) rfl, hc 3 _ (by decide) rfl, hc 4 _ (by decide) rfl, hc 5 _ (by decide) rfl, hr⟩

end Go.Proofs.Ytfapigccdbpepaa
