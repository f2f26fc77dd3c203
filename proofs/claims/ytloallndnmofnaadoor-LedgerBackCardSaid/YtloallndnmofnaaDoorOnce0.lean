/- WHAT LedgerOnce HOLDS FROM ROUND TO ROUND; the pairs that come in. -/
import Derived.Test.YtloallndnmofnaaDoorAwake
import Derived.Test.YtloallndnmofnaaDoorHist
namespace Go.Proofs.YtloallndnmofnaaDoor
open Go.RowKit

abbrev P2 := Int × Int
/-- A slice of pairs, as it lies below block B. -/
structure Pairs (w : World) (B : Nat) (v : Value) (zs : List P2) : Prop where
  lies : ∃ a cap, v = .slice a zs.length cap ∧ ∀ (i : Nat) (p : P2), zs[i]? = some p → ∃ b off, a = some ⟨b, off, none⟩ ∧ b < B ∧ w.cell? ⟨b, off + i * 2, none⟩ = some (.int .i64 p.1) ∧ w.cell? ⟨b, off + i * 2 + 1, none⟩ = some (.int .i64 p.2)
theorem Pairs.below {w w' : World} {B : Nat} {v : Value} {zs : List P2} (h : Pairs w B v zs) (hb : RowKit.Below B w w') : Pairs w' B v zs := by
  obtain ⟨a, cap, hv, hc⟩ := h.lies
  refine ⟨a, cap, hv, fun i p hp => ?_⟩
  obtain ⟨b, off, ha, hlt, h1, h2⟩ := hc i p hp
  exact ⟨b, off, ha, hlt, (hb.cell (p := ⟨b, _, none⟩) hlt).trans h1, (hb.cell (p := ⟨b, _, none⟩) hlt).trans h2⟩
/-- 'int(uint(n) % uint(q))'. -/
theorem mod_nat (n q : Int) (hq : 0 < q) (hb : q ≤ 1099511627776) : ∃ K : Nat, wrap64 ((IntKind.u64.wrap n).tmod q) = K ∧ (K : Int) < q ∧ (IntKind.u64.wrap n).tmod q = K := by
  have h0 : 0 ≤ IntKind.u64.wrap n := by rw [IntKind.wrap_u64]; omega
  have h1 : (IntKind.u64.wrap n).tmod q = (IntKind.u64.wrap n) % q := Int.tmod_eq_emod_of_nonneg h0
  have h2 : 0 ≤ (IntKind.u64.wrap n) % q := Int.emod_nonneg _ (by omega)
  have h3 : (IntKind.u64.wrap n) % q < q := Int.emod_lt_of_pos _ hq
  rw [h1]
  refine ⟨((IntKind.u64.wrap n) % q).toNat, ?_, by omega, by omega⟩
  generalize (IntKind.u64.wrap n) % q = r at h2 h3
  unfold wrap64
  omega

def four (f : Nat → Value) : Array Value := #[f 0, f 1, f 2, f 3]
theorem four_at (f : Nat → Value) {p : Nat} (hp : p < 4) : (four f)[p]? = some (f p) := by
  match p, hp with
  | 0, _ => rfl
  | 1, _ => rfl
  | 2, _ => rfl
  | 3, _ => rfl
theorem four_set (f : Nat → Value) {p : Nat} (hp : p < 4) (v : Value) : (four f).setIfInBounds p v = four fun q => if q = p then v else f q := by
  match p, hp with
  | 0, _ => rfl
  | 1, _ => rfl
  | 2, _ => rfl
  | 3, _ => rfl
def ints (l : List Int) : List Value := l.map fun z => .int .i64 z
def cnt (hs : Nat → List Int) (p : Nat) : Value := .int .i64 ((hs p).length : Nat)
structure On (w0 w : World) (rb nb bb : Nat) (B : Nat → Prop) (T : Ld.Tb) (hs : Nat → List Int) (V : Nat → Value) (G : Nat → Option Nat) : Prop where
  ls : LS w0 w rb B T
  nx : Blk w nb (four (cnt hs)) 50
  bs : Blk w bb (four V) 52
  sl : ∀ p, p < 4 → Sl w (V p) (G p) 3 1 (hs p).length (ints (hs p))
  nB : nb ≠ bb ∧ ¬ B nb ∧ ¬ B bb ∧ w0.heap.size ≤ nb ∧ w0.heap.size ≤ bb
  gB : ∀ p k, p < 4 → G p = some k → ¬ B k ∧ k ≠ nb ∧ k ≠ bb ∧ w0.heap.size ≤ k
  apart : ∀ p q k, p < 4 → q < 4 → p ≠ q → G p = some k → G q ≠ some k
section
variable {w0 w w' : World} {rb nb bb : Nat} {B B' : Nat → Prop} {T T' : Ld.Tb} {hs : Nat → List Int} {V : Nat → Value} {G : Nat → Option Nat}
theorem On.below (h : On w0 w rb nb bb B T hs V G) (hb : RowKit.Below w.heap.size w w') : On w0 w' rb nb bb B T hs V G :=
  ⟨h.ls.below hb, h.nx.below hb, h.bs.below hb, fun p hp => (h.sl p hp).below hb, h.nB, h.gB, h.apart⟩
/-- The ledger's doing. -/
theorem On.ledger (h : On w0 w rb nb bb B T hs V G) (hl : LS w0 w' rb B' T') (hm : Moved B B' w w') : On w0 w' rb nb bb B' T' hs V G := by
  obtain ⟨n1, n2, n3, n4, n5⟩ := h.nB
  obtain ⟨a1, a2⟩ := h.nx.moved hm n2
  obtain ⟨b1, b2⟩ := h.bs.moved hm n3
  refine ⟨hl, a1, b1, fun p hp => (h.sl p hp).same fun k hk => ?_, ⟨n1, a2, b2, n4, n5⟩, fun p k hp hk => ?_, h.apart⟩
  · exact hm.block k ((h.sl p hp).lt k hk) (h.gB p k hp hk).1
  · obtain ⟨g1, g2, g3, g4⟩ := h.gB p k hp hk
    refine ⟨fun hb => ?_, g2, g3, g4⟩
    rcases hm.new k hb with h1 | h1
    · exact g1 h1
    · have := (h.sl p hp).lt k hk; omega
theorem infoInt' : (Tryd.prog.info? 3).map (fun i => (i.zero, i.size, i.bytes)) = some (some (.int .i64 0), 1, 8) := by kernel_rfl
theorem infoInt : ∃ i, Tryd.prog.info? 3 = some i ∧ i.zero = some (.int .i64 0) ∧ i.size = 1 ∧ i.bytes = 8 := by
  obtain ⟨i, h⟩ := info_parts infoInt'
  exact ⟨i, h⟩
/-- One base more, and the count. -/
theorem On.push (h : On w0 w rb nb bb B T hs V G) (h2 : 2 ≤ w0.heap.size) {w9 : World} {p : Nat} (hp : p < 4) {e : Int} {v : Value} {gb : Option Nat} {g1 : Nat} {W1 : World} (hal : RowKit.Below w.heap.size w W1) (hown : Sl w9 v gb 3 1 ((hs p).length + 1) (ints (hs p) ++ [.int .i64 e])) (hgr : W1.grownBy w9 (G p)) (hgb : gb = some g1) (hnew : gb = G p ∨ W1.heap.size ≤ g1) :
    On w0 ((w9.setCell ⟨bb, p, none⟩ v).setCell ⟨nb, p, none⟩ (.int .i64 (((hs p).length + 1 : Nat) : Int))) rb nb bb B T (Ld.upd hs p e) (fun q => if q = p then v else V q) (fun q => if q = p then gb else G q) ∧ w9.cell? ⟨bb, p, none⟩ = some (V p) ∧ w9.frozen? ⟨bb, p, none⟩ = false ∧ w9.cell? ⟨nb, p, none⟩ = some (cnt hs p) ∧ w9.frozen? ⟨nb, p, none⟩ = false := by
  have h1 := h.below hal
  obtain ⟨n1, n2, n3, n4, n5⟩ := h1.nB
  have hbb : some bb ≠ G p := fun e => (h1.gB p bb hp e.symm).2.2.1 rfl
  have hnb : some nb ≠ G p := fun e => (h1.gB p nb hp e.symm).2.1 rfl
  have b9 := h1.bs.grown hgr hbb
  have c9 := h1.nx.grown hgr hnb
  have hg1 : ∀ k, gb = some k → ¬ B k ∧ k ≠ nb ∧ k ≠ bb ∧ w0.heap.size ≤ k := by
    intro k hk
    rcases hnew with h2 | h2
    · exact h1.gB p k hp (by rw [← h2]; exact hk)
    · rw [hgb] at hk
      cases hk
      have i1 := h1.nx.lt
      have i2 := h1.bs.lt
      have i3 := h1.ls.low.size
      exact ⟨fun hb => by have := h1.ls.lgr.bnd _ hb; omega, by omega, by omega, by omega⟩
  have hmv : Moved (fun k => G p = some k ∨ k = bb ∨ k = nb) (fun k => k = bb) W1 ((w9.setCell ⟨bb, p, none⟩ v).setCell ⟨nb, p, none⟩ (.int .i64 (((hs p).length + 1 : Nat) : Int))) := by
    refine ⟨hgr.os, hgr.tape, hgr.output, by have := hgr.size; simpa [World.setCell] using this, fun k hk hn => ?_, fun k hk => .inl (.inr (.inl hk))⟩
    rw [Below.heap_setCell _ _ _ _ (fun e => hn (.inr (.inr e))), Below.heap_setCell _ _ _ _ (fun e => hn (.inr (.inl e))), hgr.block k hk (fun e => hn (.inl e.symm))]
  refine ⟨⟨?_, ?_, ?_, ?_, h1.nB, ?_, ?_⟩, b9.cell (four_at V hp), b9.free, c9.cell (four_at _ hp), c9.free⟩
  · refine (LS.moved h1.ls hmv (fun k hk hc => ?_) (fun k hk => ?_) h2).1
    · rcases hc with h3 | rfl | rfl
      · exact (h1.gB p k hp h3).1 hk
      · exact n3 hk
      · exact n2 hk
    · rcases hk with h3 | rfl | rfl
      · exact (h1.gB p k hp h3).2.2.2
      · exact n5
      · exact n4
  · have := (c9.setO ⟨bb, p, none⟩ v n1).set (i := p) (.int .i64 (((hs p).length + 1 : Nat) : Int))
    rw [four_set _ hp] at this
    have e : (fun q => if q = p then Value.int .i64 (((hs p).length + 1 : Nat) : Int) else cnt hs q) = cnt (Ld.upd hs p e) := by
      funext q
      unfold cnt Ld.upd
      split <;> simp
    rw [← e]
    exact this
  · have := (b9.set (i := p) v).setO ⟨nb, p, none⟩ (.int .i64 (((hs p).length + 1 : Nat) : Int)) (Ne.symm n1)
    rw [four_set _ hp] at this
    exact this
  · intro q hq
    by_cases hqp : q = p
    · subst hqp
      have e1 : (Ld.upd hs q e) q = hs q ++ [e] := by unfold Ld.upd; rw [if_pos rfl]
      rw [e1, if_pos rfl, if_pos rfl, List.length_append]
      have e2 : ints (hs q ++ [e]) = ints (hs q) ++ [.int .i64 e] := by simp [ints]
      rw [e2]
      refine (Sl.setCell (Sl.setCell hown _ _ (fun hh => ?_)) _ _ (fun hh => ?_))
      · exact (hg1 bb hh.symm).2.2.1 rfl
      · exact (hg1 nb hh.symm).2.1 rfl
    · have e1 : (Ld.upd hs p e) q = hs q := by unfold Ld.upd; rw [if_neg hqp]
      rw [e1, if_neg hqp, if_neg hqp]
      have hs9 := (h1.sl q hq).grown hgr (fun k hk hk' => h1.apart q p k hq hp hqp hk hk')
      refine (Sl.setCell (Sl.setCell hs9 _ _ (fun hh => ?_)) _ _ (fun hh => ?_))
      · exact (h1.gB q bb hq hh.symm).2.2.1 rfl
      · exact (h1.gB q nb hq hh.symm).2.1 rfl
  · intro q k hq hk
    by_cases hqp : q = p
    · rw [if_pos hqp] at hk
      exact hg1 k hk
    · rw [if_neg hqp] at hk
      exact h1.gB q k hq hk
  · intro q r k hq hr hqr hk hk2
    have hfar : ∀ s, s < 4 → s ≠ p → G s = some k → gb ≠ some k := by
      intro s hs' hsp hsk hgk
      rcases hnew with h2 | h2
      · exact h1.apart s p k hs' hp hsp hsk (by rw [← h2]; exact hgk)
      · rw [hgb] at hgk
        cases hgk
        have := (h1.sl s hs').lt _ hsk
        omega
    by_cases hqp : q = p
    · rw [if_pos hqp] at hk
      rw [if_neg (by omega)] at hk2
      exact hfar r hr (by omega) hk2 hk
    · rw [if_neg hqp] at hk
      by_cases hrp : r = p
      · rw [if_pos hrp] at hk2
        exact hfar q hq hqp hk hk2
      · rw [if_neg hrp] at hk2
        exact h1.apart q r k hq hr hqr hk hk2
end
end Go.Proofs.YtloallndnmofnaaDoor
