/- A TABLE THAT IS BUILT PRODUCER BY PRODUCER, its slots anywhere else (the document's Add). -/
import Derived.Test.YtloallndnmofnaaDoorCopy
import Derived.Test.YtloallndnmofnaaDoorRem
namespace Go.Proofs.YtloallndnmofnaaDoor
open Go.RowKit

/-- A table in a block of its own; its producers' slots lie in other blocks. -/
structure Tow (Z : Nat) (w : World) (v : Value) (gb : Option Nat) (F : List En) : Prop where
  row : Sl w v gb 63 2 F.length (F.flatMap En.cells)
  at_ : ∀ e ∈ F, SlotsAt (fun q => gb ≠ some q ∧ Z ≤ q) e.v e.L w
  low : ∀ q, gb = some q → Z ≤ q
section
variable {Z : Nat} {w w1 w2 : World} {v v' : Value} {gb gb' : Option Nat} {F : List En} {e : En}
theorem Tow.below (h : Tow Z w v gb F) (hb : RowKit.Below w.heap.size w w1) : Tow Z w1 v gb F := ⟨h.row.below hb, fun e he => (h.at_ e he).below hb, h.low⟩
theorem SlotsAt.grown {L : List Ld.Sl} {sv : Value} (h : SlotsAt (fun q => gb ≠ some q ∧ Z ≤ q) sv L w1) (hgr : w1.grownBy w2 gb) (hn : gb' = gb ∨ ∀ q, gb' = some q → w1.heap.size ≤ q) : SlotsAt (fun q => gb' ≠ some q ∧ Z ≤ q) sv L w2 := by
  have h1 := h.mono (Q := fun q => (gb ≠ some q ∧ Z ≤ q) ∧ q < w1.heap.size) (fun q h1 h2 => ⟨h1, h2⟩)
  have h2 := h1.same (w' := w2) fun q hq => hgr.block q hq.2 (fun e => hq.1.1 e.symm)
  refine h2.mono fun q hq _ => ⟨fun hg => ?_, hq.1.2⟩
  rcases hn with hn | hn
  · exact hq.1.1 (hn.symm.trans hg)
  · have := hn q hg; have := hq.2; omega
theorem Tow.push (h : Tow Z w v gb F) (hb : RowKit.Below w.heap.size w w1) (hz : Z ≤ w1.heap.size) (he : SlotsAt (fun q => gb ≠ some q ∧ Z ≤ q) e.v e.L w1) (hgr : w1.grownBy w2 gb) (hs : Sl w2 v' gb' 63 2 (F.length + 1) (F.flatMap En.cells ++ e.cells)) (hn : gb' = gb ∨ ∀ q, gb' = some q → w1.heap.size ≤ q) : Tow Z w2 v' gb' (F ++ [e]) := by
  refine ⟨?_, ?_, fun q hq => ?_⟩
  · rw [List.length_append, List.flatMap_append]
    simpa using hs
  · intro x hx
    rcases List.mem_append.1 hx with hx | hx
    · exact ((h.at_ x hx).below hb).grown hgr hn
    · rw [List.mem_singleton.1 hx]
      exact he.grown hgr hn
  · rcases hn with hn | hn
    · exact h.low q (hn.symm.trans hq)
    · have := hn q hq; omega
theorem Tow.tab (h : Tow Z w v gb F) : TabAt (fun q => Z ≤ q) v (tabOf F) w := by
  obtain ⟨ao, cap, hv, hc, hp, hn⟩ := h.row.make
  refine ⟨ao, cap, by rw [tab_len]; exact hv, fun j x hj => ?_⟩
  obtain ⟨e, he, rfl⟩ := tab_at hj
  have hlt := (List.getElem?_eq_some_iff.1 he).1
  obtain ⟨g, p, rfl, hg⟩ := hp (by omega)
  have key : ∀ i u, i < 2 → e.cells[i]? = some u → w.cell? ⟨g, p + (j * 2 + i), none⟩ = some u := fun i u hi hu =>
    h.row.cell hv (j * 2 + i) u (by rw [flat_at encells_len he i hi]; exact hu)
  exact ⟨g, p, e.v, rfl, h.low g hg, key 0 _ (by decide) rfl, key 1 _ (by decide) rfl, (h.at_ e (List.mem_of_getElem? he)).mono fun _ h _ => h.2⟩
end
/-- The first j producers of T', in a block made since W. -/
def Outs (Z : Nat) (W : World) (T' : Ld.Tb) (j : Nat) (ov : Value) (wr : World) : Prop :=
  ∃ gb F, Tow Z wr ov gb F ∧ (∀ q, gb = some q → W.heap.size ≤ q) ∧ RowKit.Below W.heap.size W wr ∧ tabOf F = T'.take j
theorem Outs.below {Z : Nat} {W wr w' : World} {T' : Ld.Tb} {j : Nat} {ov : Value} (h : Outs Z W T' j ov wr) (hb : RowKit.Below wr.heap.size wr w') : Outs Z W T' j ov w' := by
  obtain ⟨gb, F, h1, h2, h3, h4⟩ := h
  exact ⟨gb, F, h1.below hb, h2, h3.trans (hb.mono h3.size), h4⟩
theorem Outs.low {Z : Nat} {W wr : World} {T' : Ld.Tb} {j : Nat} {ov : Value} (h : Outs Z W T' j ov wr) : RowKit.Below W.heap.size W wr := by
  obtain ⟨gb, F, h1, h2, h3, h4⟩ := h
  exact h3
theorem Outs.zero (Z : Nat) (W : World) (T' : Ld.Tb) (hZ : Z ≤ W.heap.size) : Outs Z W T' 0 (.slice (some ⟨W.heap.size, 0, none⟩) 0 0) (W.alloc (.cells #[] 63)) := by
  have hal : RowKit.Below W.heap.size W (W.alloc (.cells #[] 63)) := (Below.refl _ _).alloc (Nat.le_refl _) _
  exact ⟨some W.heap.size, [], ⟨Sl.empty W 63 2, (fun _ h => by cases h), fun q hq => by cases hq; exact hZ⟩, (fun q hq => by cases hq; exact Nat.le_refl _), hal, rfl⟩
theorem Outs.fin {Z : Nat} {W wr : World} {T' : Ld.Tb} {ov : Value} (h : Outs Z W T' T'.length ov wr) : TabAt (fun q => Z ≤ q) ov T' wr ∧ RowKit.Below W.heap.size W wr := by
  obtain ⟨gb, F, h1, -, h3, h4⟩ := h
  rw [List.take_length] at h4
  rw [← h4]
  exact ⟨h1.tab, h3⟩
/-- One producer more: what the walk needs of the append, and what it leaves. -/
def OutStep (Z : Nat) (W W1 : World) (T' : Ld.Tb) (j : Nat) (ov : Value) (p : Int) (sv : Value) (nb : Nat) : Prop :=
  ∃ gb xs, Sl W1 ov gb 63 2 j xs ∧ (∀ i u, [Value.int .i64 p, sv][i]? = some u → W1.cell? (Addr.add ⟨nb, 0, none⟩ i) = some u) ∧
    ∀ w10 g2 p2 cap2 tb', Sl w10 (.slice (some ⟨g2, p2, none⟩) (j + 1) cap2) tb' 63 2 (j + 1) (xs ++ [.int .i64 p, sv]) → W1.grownBy w10 gb → tb' = some g2 → (tb' = gb ∨ W1.heap.size ≤ g2) → Outs Z W T' (j + 1) (.slice (some ⟨g2, p2, none⟩) (j + 1) cap2) w10
theorem Outs.step {Z : Nat} {W wr W0 : World} {T' : Ld.Tb} {j : Nat} {ov sv : Value} {p : Int} {L : List Ld.Sl} (h : Outs Z W T' j ov wr) (hx : T'[j]? = some (p, L)) (hb : RowKit.Below wr.heap.size wr W0) (hZ : Z ≤ W.heap.size) (hsl : SlotsAt (fun q => (Z ≤ q ∧ q < W.heap.size) ∨ wr.heap.size ≤ q) sv L W0) :
    OutStep Z W (W0.alloc (.cells #[.int .i64 p, sv] 63)) T' j ov p sv W0.heap.size := by
  obtain ⟨gb, F, h1, h2, h3, h4⟩ := h
  have hjl := (List.getElem?_eq_some_iff.1 hx).1
  have hFl : F.length = j := by
    have := congrArg List.length h4
    rw [tab_len, List.length_take] at this
    omega
  have hal : RowKit.Below W0.heap.size W0 (W0.alloc (.cells #[.int .i64 p, sv] 63)) := (Below.refl _ _).alloc (Nat.le_refl _) _
  have hbb := hb.trans (hal.mono hb.size)
  have hgl : ∀ q, gb = some q → q < wr.heap.size := fun q hq => h1.row.lt q hq
  refine ⟨gb, F.flatMap En.cells, ?_, World.news_of_block (cs := #[.int .i64 p, sv]) (t := 63) (fr := (0, 0)) (heap_alloc_new W0 _), ?_⟩
  · rw [← hFl]; exact h1.row.below hbb
  · intro w10 g2 p2 cap2 tb' hs hgr htb hnew
    have he : SlotsAt (fun q => gb ≠ some q ∧ Z ≤ q) sv L (W0.alloc (.cells #[.int .i64 p, sv] 63)) := (hsl.below hal).mono fun q hq _ => ⟨fun hg => by
      rcases hq with hq | hq
      · have := h2 q hg; omega
      · have := hgl q hg; omega, by have := h3.size; omega⟩
    rw [← hFl] at hs
    have hn : tb' = gb ∨ ∀ q, tb' = some q → (W0.alloc (.cells #[.int .i64 p, sv] 63)).heap.size ≤ q := by
      rcases hnew with h | h
      · exact .inl h
      · refine .inr fun q hq => ?_
        rw [htb] at hq
        injection hq with hq
        omega
    have hp := h1.push (e := ⟨p, L, sv, none⟩) hbb (by have := h3.size; have := hbb.size; omega) he hgr hs hn
    have h5 := h3.trans (hbb.mono h3.size)
    have hz := hbb.size
    rw [← hFl]
    refine ⟨tb', _, hp, ?_, ?_, ?_⟩
    · intro q hq
      rcases hn with h | h
      · exact h2 q (h.symm.trans hq)
      · have := h q hq; have := h3.size; omega
    · exact h5.trans ⟨hgr.os, hgr.tape, hgr.output, hgr.size, fun q hq => hgr.block q (by have := h5.size; omega) (fun e => by have := h2 q e.symm; omega)⟩
    · rw [hFl, List.take_add_one, hx, ← h4]
      simp [tabOf]
/-- The table with one producer more, at its place. -/
def insT (T : Ld.Tb) (n : Int) (L : List Ld.Sl) : Ld.Tb := T.take (Ld.pos T n) ++ (n, L) :: T.drop (Ld.pos T n)
theorem insT_len (T : Ld.Tb) (n : Int) (L : List Ld.Sl) : (insT T n L).length = T.length + 1 := by
  have := Ld.pos_le (T := T) (n := n)
  unfold insT
  rw [List.length_append, List.length_cons, List.length_take, List.length_drop]
  omega
theorem insT_at (T : Ld.Tb) (n : Int) (L : List Ld.Sl) : (insT T n L)[Ld.pos T n]? = some (n, L) := by
  have := Ld.pos_le (T := T) (n := n)
  unfold insT
  rw [List.getElem?_append_right (by rw [List.length_take]; omega), List.length_take, Nat.min_eq_left this, Nat.sub_self]
  rfl
theorem insT_lo {T : Ld.Tb} {n : Int} {L : List Ld.Sl} {k : Nat} (h : k < Ld.pos T n) : (insT T n L)[k]? = T[k]? := by
  have := Ld.pos_le (T := T) (n := n)
  unfold insT
  rw [List.getElem?_append_left (by rw [List.length_take]; omega), List.getElem?_take, if_pos h]
theorem insT_hi {T : Ld.Tb} {n : Int} {L : List Ld.Sl} {k : Nat} (h : Ld.pos T n ≤ k) : (insT T n L)[k + 1]? = T[k]? := by
  have := Ld.pos_le (T := T) (n := n)
  unfold insT
  rw [List.getElem?_append_right (by rw [List.length_take]; omega), List.length_take, Nat.min_eq_left this, show k + 1 - Ld.pos T n = (k - Ld.pos T n) + 1 by omega, List.getElem?_cons_succ, List.getElem?_drop]
  congr 1
  omega
/-- A table's producer takes one slot more: append, cut at five, store. -/
theorem Own.snoc {w5 w6 w9 : World} {e : En} {E : List En} {g p M cap i k g1 p1 cap1 : Nat} {gb' : Option Nat} {x : Ld.Sl} {u : Value} {cs : Array Value} {T : TypeId} (hown : Own w5 (.slice (some ⟨g, p, none⟩) M cap) (some g) E) (hEi : E[i]? = some e) (hk : e.L.length = k) (hk5 : k ≤ 5) (hb6 : RowKit.Below w5.heap.size w5 w6)
    (hgr : (w6.alloc (.cells cs T)).grownBy w9 e.gb) (hs : Sl w9 (.slice (some ⟨g1, p1, none⟩) (k + 1) cap1) gb' 41 3 (k + 1) (e.L.flatMap three ++ three x)) (hgb : gb' = some g1) (hnew : gb' = e.gb ∨ w6.heap.size + 1 ≤ g1) (c1 : w5.cell? ⟨g, p + i * 2 + 1, none⟩ = some u) (f1 : w5.frozen? ⟨g, p + i * 2 + 1, none⟩ = false) (B : Nat) (hB : ∀ q, foot (some g) E q → B ≤ q) (hB5 : B ≤ w5.heap.size) :
    w9.cell? ⟨g, p + i * 2 + 1, none⟩ = some u ∧ w9.frozen? ⟨g, p + i * 2 + 1, none⟩ = false ∧ TabAt (fun q => B ≤ q) (.slice (some ⟨g, p, none⟩) M cap) ((tabOf E).set i (e.prod, Ld.last5 (e.L ++ [x]))) (w9.setCell ⟨g, p + i * 2 + 1, none⟩ (endV g1 p1 k cap1)) ∧ RowKit.Below B w5 (w9.setCell ⟨g, p + i * 2 + 1, none⟩ (endV g1 p1 k cap1)) := by
  have hal : RowKit.Below w6.heap.size w6 (w6.alloc (.cells cs T)) := (Below.refl _ _).alloc (Nat.le_refl _) _
  have hb7 := hb6.trans (hal.mono hb6.size)
  have hz7 := hb7.size
  have hsz : (w6.alloc (.cells cs T)).heap.size = w6.heap.size + 1 := by simp
  have hgl : g < w5.heap.size := hown.row.lt g rfl
  have hge : e.gb ≠ some g := fun hh => hown.far e (List.mem_of_getElem? hEi) g hh rfl
  have c9 := (hgr.cell_far ⟨g, p + i * 2 + 1, none⟩ (show g < _ by omega) (Ne.symm hge)).trans ((hb7.cell (p := ⟨g, p + i * 2 + 1, none⟩) hgl).trans c1)
  have f9 := (hgr.frozen_far ⟨g, p + i * 2 + 1, none⟩ (show g < _ by omega) (Ne.symm hge)).trans ((hb7.frozen (p := ⟨g, p + i * 2 + 1, none⟩) hgl).trans f1)
  have hsE := endV_sl hs hk hk5
  have hnew' : gb' = e.gb ∨ ∀ q, gb' = some q → (w6.alloc (.cells cs T)).heap.size ≤ q := by
    rcases hnew with h | h
    · exact .inl h
    · refine .inr fun q hq => ?_
      rw [hgb] at hq
      injection hq with hq
      omega
  obtain ⟨v10, hv10⟩ : ∃ v10, endV g1 p1 k cap1 = v10 := ⟨_, rfl⟩
  rw [hv10] at hsE ⊢
  have hst := (hown.below hb7).step (e' := ⟨e.prod, Ld.last5 (e.L ++ [x]), v10, gb'⟩) hEi rfl hgr rfl rfl hsE hnew'
  have htb := hst.tab (fun q => B ≤ q) (fun q hq => by
    rcases foot_set hq with h | h
    · exact hB q h
    · rcases hnew' with h' | h'
      · exact hB q (.inr ⟨e, List.mem_of_getElem? hEi, h'.symm.trans h⟩)
      · have := h' q h; omega)
  rw [tab_set, ← Nat.add_assoc] at htb
  have hb9 : RowKit.Below B w5 w9 := (hb7.mono hB5).trans ⟨hgr.os, hgr.tape, hgr.output, hgr.size, fun q hq => hgr.block q (by omega) (fun hh => by have := hB q (.inr ⟨e, List.mem_of_getElem? hEi, hh.symm⟩); omega)⟩
  exact ⟨c9, f9, htb, hb9.setCell (p := ⟨g, p + i * 2 + 1, none⟩) (hB g (.inl rfl)) _⟩
end Go.Proofs.YtloallndnmofnaaDoor
