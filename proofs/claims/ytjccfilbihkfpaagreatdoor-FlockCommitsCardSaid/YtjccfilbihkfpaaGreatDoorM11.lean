import Derived.Test.YtjccfilbihkfpaaGreatDoorM10
import Derived.Deep.QuietTactic
import Derived.BigQuiet

/- THE CONTRACT OF behind. -/
namespace Go.Proofs.YtjccfilbihkfpaaGreatDoor
open Go.RowKit

def emptyS : ByteArray := ⟨#[]⟩
/-- A word's name. -/
def Fk.Wd.name : Fk.Wd → ByteArray
  | .none => ⟨#[]⟩
  | .turn n _ _ _ => n
  | .point n _ _ _ => n
  | .no _ => ⟨#[]⟩
/-- A value that reads as what a record tells. -/
def WdV (A : Nat → Prop) (w : World) : Fk.Wd → Value → Prop
  | .none, v => v = .agg #[.string ⟨#[]⟩, .string ⟨#[]⟩, .int .i64 0, .int .i64 0, .slice none 0 0, .slice none 0 0, .int .i64 0, .int .i64 0, .int .i64 0]
  | .turn n g p ms, v => ∃ mv, v = .agg #[.string ⟨#[116]⟩, .string n, .int .i64 g, .int .i64 p, mv, .slice none 0 0, .int .i64 0, .int .i64 0, .int .i64 0] ∧ Nms A w mv ms
  | .point n p o g, v => v = .agg #[.string ⟨#[99]⟩, .string n, .int .i64 g, .int .i64 0, .slice none 0 0, .slice none 0 0, .int .i64 p, .int .i64 o, .int .i64 0]
  | .no c, v => v = .agg #[.string ⟨#[110]⟩, .string ⟨#[]⟩, .int .i64 0, .int .i64 0, .slice none 0 0, .slice none 0 0, .int .i64 0, .int .i64 0, .int .i64 c]
/-- What the walks ask of groups: few of them, none great. -/
structure Sm (L : List Fk.G) : Prop where
  len : L.length ≤ 4
  mono : ∀ n, Fk.Mono (Fk.cN n) L
  apart : ∀ (i j : Nat) (a b : Fk.G), L[i]? = some a → L[j]? = some b → a.name = b.name → i = j
  all : ∀ g ∈ L, g.mem.length ≤ 4 ∧ g.pts.length ≤ 4 ∧ 0 ≤ g.gen ∧ g.gen ≤ 1099511627776 ∧ (∀ p, Fk.Mono (Fk.cP p) g.pts) ∧ ∀ n, Fk.Mono (Fk.cS n) g.mem
theorem Blk.cells9 {w : World} {b : Nat} {a0 a1 a2 a3 a4 a5 a6 a7 a8 : Value} {T : TypeId} (h : Blk w b #[a0, a1, a2, a3, a4, a5, a6, a7, a8] T) : w.cell? ⟨b, 0, none⟩ = some a0 ∧ w.cell? ⟨b, 1, none⟩ = some a1 ∧ w.cell? ⟨b, 2, none⟩ = some a2 ∧ w.cell? ⟨b, 3, none⟩ = some a3 ∧ w.cell? ⟨b, 4, none⟩ = some a4 ∧ w.cell? ⟨b, 5, none⟩ = some a5 ∧ w.cell? ⟨b, 6, none⟩ = some a6 ∧ w.cell? ⟨b, 7, none⟩ = some a7 ∧ w.cell? ⟨b, 8, none⟩ = some a8 := ⟨h.cell rfl, h.cell rfl, h.cell rfl, h.cell rfl, h.cell rfl, h.cell rfl, h.cell rfl, h.cell rfl, h.cell rfl⟩
set_option maxHeartbeats 4000000 in
set_option maxRecDepth 100000 in
/-- Of a kind that says nothing. -/
theorem behind_not {z : Nat} {lab : Lab} (v : Value) (L : List Fk.G) (kd nm : ByteArray) (c : Int) (w : World) (hO : GsO z lab w v L) (hS : Sm L) (hz : z ≤ w.heap.size) (h1 : (kd.toList == [116]) = false) (h2 : (kd.toList == [99]) = false) :
    Calls Tryz.prog 22 #[v, .agg #[.string kd, .string nm, .int .i64 0, .int .i64 0, .slice none 0 0, .slice none 0 0, .int .i64 0, .int .i64 0, .int .i64 c]] w fun e w' => TrnOut z w L e w' := by
  obtain ⟨W1, hW1⟩ : ∃ W, w.alloc (.cells #[.string kd, .string nm, .int .i64 0, .int .i64 0, .slice none 0 0, .slice none 0 0, .int .i64 0, .int .i64 0, .int .i64 c] 61) = W := ⟨_, rfl⟩
  have hb1 : Below w.heap.size w W1 := by rw [← hW1]; exact (Below.refl _ _).alloc (Nat.le_refl _) _
  have k1 : Blk W1 w.heap.size #[.string kd, .string nm, .int .i64 0, .int .i64 0, .slice none 0 0, .slice none 0 0, .int .i64 0, .int .i64 0, .int .i64 c] 61 := by rw [← hW1]; exact Blk.new _ _ _
  have HC := Lib.hid (place_any v L nm W1 (hO.below hb1).rd (by have := hS.len; omega) (hS.mono nm))
  obtain ⟨i, hi⟩ : ∃ i, Fk.low (Fk.cN nm) L = i := ⟨_, rfl⟩
  obtain ⟨f, hf⟩ : ∃ f, (Fk.fnd L nm).isSome = f := ⟨_, rfl⟩
  rw [hi, hf] at HC
  have HO := Lib.hid hO
  have HB1 := Lib.hid hb1
  have HK1 := Lib.hid k1
  have HZ := Lib.hid hz
  have c1 := k1.cell (i := 1) rfl
  have c1 : W1.cell? ⟨w.heap.size, 1, none⟩ = some (.string nm) := c1
  obtain ⟨a, cap, rfl⟩ := hO.form
  clear hi hf hO hb1 k1 hz hS
  go_enter Tryz.func22, Tryz.ntmps22
  go_wp2_with fail
  refine HC.out.mono ?_
  rintro e w2 ⟨rfl, hb2⟩
  have HBW := Lib.hid (HB1.out.trans (hb2.mono HB1.out.size))
  have d0 : w2.cell? ⟨w.heap.size, 0, none⟩ = some (.string kd) := (HK1.out.below hb2).cell rfl
  clear hb2 HC
  go_wp2_with fail
  go_ret
  exact ⟨HBW.out.mono HZ.out, lab, _, rfl, HO.out.below HBW.out⟩
set_option maxHeartbeats 4000000 in
set_option maxRecDepth 100000 in
theorem behind_turn {z : Nat} {lab : Lab} (v : Value) (L : List Fk.G) (n : ByteArray) (g p : Int) (ms : List ByteArray) (mv : Value) (w : World) (hO : GsO z lab w v L) (hS : Sm L) (hz : z ≤ w.heap.size) (hmv : Nms (fun b => z ≤ b ∧ lab b = some none) w mv ms) :
    Calls Tryz.prog 22 #[v, .agg #[.string ⟨#[116]⟩, .string n, .int .i64 g, .int .i64 p, mv, .slice none 0 0, .int .i64 0, .int .i64 0, .int .i64 0]] w fun e w' => TrnOut z w (Fk.step L (.turn n g p ms)) e w' := by
  obtain ⟨W1, hW1⟩ : ∃ W, w.alloc (.cells #[.string ⟨#[116]⟩, .string n, .int .i64 g, .int .i64 p, mv, .slice none 0 0, .int .i64 0, .int .i64 0, .int .i64 0] 61) = W := ⟨_, rfl⟩
  have hb1 : Below w.heap.size w W1 := by rw [← hW1]; exact (Below.refl _ _).alloc (Nat.le_refl _) _
  have k1 : Blk W1 w.heap.size #[.string ⟨#[116]⟩, .string n, .int .i64 g, .int .i64 p, mv, .slice none 0 0, .int .i64 0, .int .i64 0, .int .i64 0] 61 := by rw [← hW1]; exact Blk.new _ _ _
  have HC := Lib.hid (place_any v L n W1 (hO.below hb1).rd (by have := hS.len; omega) (hS.mono n))
  obtain ⟨ma, mc, rfl⟩ := hmv.form
  have HT : Hid (∀ w2, Below w.heap.size w w2 → Calls Tryz.prog 39 #[v, .int .i64 (Fk.low (Fk.cN n) L : Nat), .bool (Fk.fnd L n).isSome, .agg #[.string n, .int .i64 g, .int .i64 p, .slice ma ms.length mc, .slice none 0 0]] w2 fun e w' => TrnOut z w2 (Fk.step L (.turn n g p ms)) e w') := Lib.hid fun w2 hb => by
    have hO2 := hO.below hb
    have hz2 := Nat.le_trans hz hb.size
    have hm2 := hmv.below hb
    cases hf : Fk.fnd L n with
    | none => exact turned_no v L n g p ms _ w2 hO2 (by have := hS.len; omega) hm2 hz2 hf
    | some o =>
      have := hS.all o (Fk.hit_mem hf)
      exact turned_yes v L n g p ms _ o w2 hO2 (by have := hS.len; omega) hm2 hz2 hf this.2.2.1 this.2.2.2.1
  obtain ⟨i, hi⟩ : ∃ i, Fk.low (Fk.cN n) L = i := ⟨_, rfl⟩
  obtain ⟨f, hf⟩ : ∃ f, (Fk.fnd L n).isSome = f := ⟨_, rfl⟩
  rw [hi, hf] at HC HT
  have HB1 := Lib.hid hb1
  have HK1 := Lib.hid k1
  have HZ := Lib.hid hz
  have c1 : W1.cell? ⟨w.heap.size, 1, none⟩ = some (.string n) := k1.cell (i := 1) rfl
  obtain ⟨a, cap, rfl⟩ := hO.form
  clear hi hf hO hb1 k1 hz hS hmv
  go_enter Tryz.func22, Tryz.ntmps22
  go_wp2_with fail
  refine HC.out.mono ?_
  rintro e w2 ⟨rfl, hb2⟩
  have HBW := Lib.hid (HB1.out.trans (hb2.mono HB1.out.size))
  obtain ⟨d0, d1, d2, d3, d4, d5, d6, d7, d8⟩ := (HK1.out.below hb2).cells9
  clear hb2 HC
  go_wp2_with fail
  refine (HT.out _ HBW.out).mono ?_
  rintro e w3 ⟨hb3, lab', v', rfl, hO3⟩
  have HF : Hid (TrnOut z w (Fk.step L (.turn n g p ms)) (.returned v') w3) := Lib.hid ⟨(HBW.out.mono HZ.out).trans hb3, lab', v', rfl, hO3⟩
  clear hb3 hO3 HT d0 d1 d2 d3 d4 d5 d6 d7 d8
  go_wp2_with fail
  go_ret
  exact HF.out
theorem cell_grown {w w' : World} {r : Option Nat} {b o : Nat} (h : w.grownBy w' r) (hb : b < w.heap.size) (hn : some b ≠ r) : w'.cell? ⟨b, o, none⟩ = w.cell? ⟨b, o, none⟩ := World.cell?_of_block (h.block b hb hn)
theorem frozen_grown {w w' : World} {r : Option Nat} {b o : Nat} (h : w.grownBy w' r) (hb : b < w.heap.size) (hn : some b ≠ r) : w'.frozen? ⟨b, o, none⟩ = w.frozen? ⟨b, o, none⟩ := by
  have := h.block b hb hn
  simp only [World.frozen?, this]
theorem flat_eq (E : List En) (i : Nat) (a b : En) (h : a.cells = b.cells) : (E.set i a).flatMap En.cells = (E.set i b).flatMap En.cells := by
  simp only [List.flatMap, List.map_set, h]
/-- Behind a commit's store. -/
theorem behind_fin {z : Nat} {lab : Lab} {w w4 w5 : World} {L : List Fk.G} {E : List En} {bq off m cap i : Nat} {pb pb' : Option Nat} {n : ByteArray} {g : Fk.G} {mv pv pv' : Value} {l : List (Int × Int)} (_hz : z ≤ w.heap.size) (hS : Sm L)
    (hE : E.map En.g = L) (hGE : GsE z lab w (.slice (some ⟨bq, off, none⟩) E.length cap) (some bq) E) (hm : E.length = m) (hi : E[i]? = some ⟨g, mv, pv⟩) (hn : g.name = n) (hpl : ∀ b, pb = some b → z ≤ b ∧ lab b = some (some g.name))
    (hw4 : w.heap.size ≤ w4.heap.size) (hw5 : Wz z w5 pv' pb' 59 2 l.length (pcs l)) (hg5 : w.grownBy w5 pb) (hn5 : ∀ b, pb' = some b → pb = some b ∨ w4.heap.size ≤ b) :
    TrnOut z w (L.set i { g with pts := l }) (.returned (.slice (some ⟨bq, off, none⟩) m cap)) (w5.setCell ⟨bq, off + i * 5 + 4, none⟩ pv') := by
  have hgl := hGE.1.lt bq rfl
  have him : i < m := by rw [← hm]; exact (List.getElem?_eq_some_iff.1 hi).1
  have hne : ∀ b, pb = some b → b ≠ bq := fun b hb e => by
    have h1 := (hpl b hb).2
    rw [e, hGE.2.1 bq rfl] at h1
    cases h1
  have hne' : ∀ b, pb' = some b → b ≠ bq := fun b hb e => by
    rcases hn5 b hb with h | h
    · exact hne b h e
    · omega
  have hk : Kb bq w5 (w5.setCell ⟨bq, off + i * 5 + 4, none⟩ pv') := Kb.setCell _ _
  have hs5 := hg5.size
  have row5 : Wz z w5 (.slice (some ⟨bq, off, none⟩) E.length cap) (some bq) 44 5 E.length (E.flatMap En.cells) := hGE.1.grown hg5 fun b hb e => by cases hb; exact hne bq e rfl
  have r5 := Sl.set row5.1 (j := i * 5 + 4) (by rw [hm]; omega) pv'
  simp only [← Nat.add_assoc] at r5
  rw [flat_set1 E i ⟨g, mv, pv⟩ pv' hi, flat_eq E i ⟨g, mv, pv'⟩ ⟨{ g with pts := l }, mv, pv'⟩ rfl] at r5
  have keepb : ∀ b, b < w.heap.size → b ≠ bq → some b ≠ pb → (w5.setCell ⟨bq, off + i * 5 + 4, none⟩ pv').heap[b]? = w.heap[b]? := fun b hl h1 h2 => by
    rw [hk.block b (by omega) h1, hg5.block b hl h2]
  refine ⟨⟨?_, ?_, ?_, ?_, fun b hb => ?_⟩, relab lab w.heap.size (some (some n)), _, rfl, some bq, E.set i ⟨{ g with pts := l }, mv, pv'⟩, ?_, ⟨by rw [List.length_set, hm]; rw [hm] at r5; exact ⟨r5, row5.2⟩, fun b hb => ?_, fun e he => ?_⟩⟩
  · exact hk.os.trans hg5.os
  · exact hk.tape.trans hg5.tape
  · exact hk.output.trans hg5.output
  · exact Nat.le_trans hs5 hk.size
  · exact keepb b (by omega) (by omega) fun e => by have := (hpl b e.symm).1; omega
  · rw [map_set, hE]
  · cases hb
    rw [relab_lt hgl.2]
    exact hGE.2.1 bq rfl
  · obtain ⟨j, hj, rfl⟩ := List.getElem_of_mem he
    rw [List.length_set] at hj
    by_cases hij : i = j
    · subst hij
      rw [List.getElem_set_self]
      have ho := hGE.2.2 _ (List.mem_of_getElem? hi)
      refine ⟨Rds.keep ho.1 (Nat.le_trans hs5 hk.size) fun b hb hl => ⟨keepb b hl (fun e => ?_) (fun e => ?_), hb.1, ?_⟩, pb', hw5.kb hk (fun e => hne' bq e rfl), fun b hb => ?_⟩
      · have := hb.2; rw [e, hGE.2.1 bq rfl] at this; cases this
      · have := hb.2; rw [(hpl b e.symm).2] at this; cases this
      · rw [relab_lt hl]; exact hb.2
      · show _ = some (some g.name)
        rcases hn5 b hb with h | h
        · have h2 := (hpl b h).2
          rcases Nat.lt_or_ge b w.heap.size with h3 | h3
          · rw [relab_lt h3, h2]
          · rw [relab_ge h3, hn]
        · rw [relab_ge (by omega), hn]
    · rw [List.getElem_set_ne hij]
      have hje : E[j]? = some E[j] := List.getElem?_eq_getElem hj
      refine (hGE.2.2 _ (List.getElem_mem hj)).keep (Nat.le_trans hs5 hk.size) fun b hl hz' hb => ⟨keepb b hl (fun e => ?_) (fun e => ?_), relab_lt hl⟩
      · rw [e, hGE.2.1 bq rfl] at hb
        rcases hb with hb | hb <;> cases hb
      · rw [(hpl b e.symm).2] at hb
        rcases hb with hb | hb
        · cases hb
        · injection hb with hb
          injection hb with hb
          exact hij (hS.apart i j g E[j].g (by rw [← hE, List.getElem?_map, hi]; rfl) (by rw [← hE, List.getElem?_map, hje]; rfl) hb)
set_option maxHeartbeats 4000000 in
set_option maxRecDepth 100000 in
theorem behind_point {z : Nat} {lab : Lab} (v : Value) (L : List Fk.G) (n : ByteArray) (p o g : Int) (w : World) (hO : GsO z lab w v L) (hS : Sm L) (hz : z ≤ w.heap.size) :
    Calls Tryz.prog 22 #[v, .agg #[.string ⟨#[99]⟩, .string n, .int .i64 g, .int .i64 0, .slice none 0 0, .slice none 0 0, .int .i64 p, .int .i64 o, .int .i64 0]] w fun e w' => TrnOut z w (Fk.step L (.point n p o g)) e w' := by
  obtain ⟨W1, hW1⟩ : ∃ W, w.alloc (.cells #[.string ⟨#[99]⟩, .string n, .int .i64 g, .int .i64 0, .slice none 0 0, .slice none 0 0, .int .i64 p, .int .i64 o, .int .i64 0] 61) = W := ⟨_, rfl⟩
  have hb1 : Below w.heap.size w W1 := by rw [← hW1]; exact (Below.refl _ _).alloc (Nat.le_refl _) _
  have k1 : Blk W1 w.heap.size #[.string ⟨#[99]⟩, .string n, .int .i64 g, .int .i64 0, .slice none 0 0, .slice none 0 0, .int .i64 p, .int .i64 o, .int .i64 0] 61 := by rw [← hW1]; exact Blk.new _ _ _
  have HC := Lib.hid (place_any v L n W1 (hO.below hb1).rd (by have := hS.len; omega) (hS.mono n))
  have HB1 := Lib.hid hb1
  have HK1 := Lib.hid k1
  have HZ := Lib.hid hz
  have c1 : W1.cell? ⟨w.heap.size, 1, none⟩ = some (.string n) := k1.cell (i := 1) rfl
  have HO := Lib.hid hO
  cases hf : Fk.fnd L n with
  | none =>
    have hstep : Fk.step L (.point n p o g) = L := by simp only [Fk.step, hf]
    rw [hf] at HC
    rw [hstep]
    have hn : (none : Option Fk.G).isSome = false := rfl
    rw [hn] at HC
    obtain ⟨i, hi⟩ : ∃ i, Fk.low (Fk.cN n) L = i := ⟨_, rfl⟩
    rw [hi] at HC
    obtain ⟨a, cap, rfl⟩ := hO.form
    clear hO hb1 k1 hz hS hn hf hstep hi
    go_enter Tryz.func22, Tryz.ntmps22
    go_wp2_with fail
    refine HC.out.mono ?_
    rintro e w2 ⟨rfl, hb2⟩
    have HBW := Lib.hid (HB1.out.trans (hb2.mono HB1.out.size))
    obtain ⟨d0, d1, d2, d3, d4, d5, d6, d7, d8⟩ := (HK1.out.below hb2).cells9
    clear hb2 HC
    go_wp2_with fail
    go_quiet (fail)
    go_wp2_with fail
    go_ret
    have hb := HBW.out.trans (below_drewN w2 nq)
    exact ⟨hb.mono HZ.out, lab, _, rfl, HO.out.below hb⟩
  | some x =>
    have hstep : Fk.step L (.point n p o g) = if x.gen = g then L.set (Fk.low (Fk.cN n) L) { x with pts := Fk.putPt x.pts p o } else L := by simp only [Fk.step, hf]
    obtain ⟨hLi, hon⟩ := Fk.fnd_some hf
    have HSS := Lib.hid hS
    have hxs := hS.all x (Fk.hit_mem hf)
    rw [hf] at HC
    have hn : (some x).isSome = true := rfl
    rw [hn] at HC
    obtain ⟨i, hi⟩ : ∃ i, Fk.low (Fk.cN n) L = i := ⟨_, rfl⟩
    rw [hi] at HC hLi hstep
    obtain ⟨gb, E, hE, hGE⟩ := hO
    obtain ⟨en, hen⟩ : ∃ en, E[i]? = some en := by
      rw [← hE, List.getElem?_map] at hLi
      cases h : E[i]? with
      | none => rw [h] at hLi; cases hLi
      | some en => exact ⟨en, rfl⟩
    obtain rfl : en.g = x := by
      rw [← hE, List.getElem?_map, hen] at hLi
      simpa using hLi
    obtain ⟨a, cap, rfl⟩ := hGE.1.form
    obtain ⟨m, hm⟩ : ∃ m, E.length = m := ⟨_, rfl⟩
    have him : i < m := by rw [← hm]; exact (List.getElem?_eq_some_iff.1 hen).1
    obtain ⟨bq, off, rfl, rfl⟩ : ∃ bq off, a = some ⟨bq, off, none⟩ ∧ gb = some bq := by
      obtain ⟨ao', cap', ev, -, hpos, -⟩ := Sl.make hGE.1.1
      injection ev with e1 e2 e3
      subst e1
      obtain ⟨g, p, h1, h2⟩ := hpos (by omega)
      exact ⟨g, p, h1, h2⟩
    have hgl := hGE.1.lt bq rfl
    obtain ⟨q0, q1, q2, q3, q4⟩ := en_cells hen
    have heo := hGE.2.2 en (List.mem_of_getElem? hen)
    have HEN := Lib.hid hen
    have HON := Lib.hid hon
    have HGE := Lib.hid hGE
    have HE := Lib.hid hE
    have HHM := Lib.hid hm
    have HGL := Lib.hid hgl
    have HEO := Lib.hid heo
    have HST := Lib.hid hstep
    have HXS := Lib.hid hxs
    obtain ⟨⟨onm, ogen, oparts, omem, opts⟩, emv, epv⟩ := en
    change EnO z lab w ⟨onm, ogen, oparts, omem, opts⟩ emv epv at heo
    obtain ⟨oma, omc, eo1⟩ := heo.1.form
    obtain ⟨opa, opc, eo2⟩ := heo.2.pts.form
    simp only at eo1 eo2
    subst eo1
    subst eo2
    simp only at q0 q1 q2 q3 q4 HST HON HEO HXS
    rw [hm]
    rw [hm] at HC HO
    have i0 : (0 : Int) ≤ (i : Int) := by omega
    have i1 : (i : Int) < (m : Int) := by omega
    have HQ : Hid (∀ wx, Below w.heap.size w wx → (wx.cell? ⟨bq, off + i * 5, none⟩ = some (.string onm) ∧ wx.cell? ⟨bq, off + i * 5 + 1, none⟩ = some (.int .i64 ogen) ∧ wx.cell? ⟨bq, off + i * 5 + 2, none⟩ = some (.int .i64 oparts) ∧ wx.cell? ⟨bq, off + i * 5 + 3, none⟩ = some (.slice oma omem.length omc) ∧ wx.cell? ⟨bq, off + i * 5 + 4, none⟩ = some (.slice opa opts.length opc)) ∧ wx.frozen? ⟨bq, off + i * 5 + 4, none⟩ = false) := Lib.hid fun wx hb => by
      have hr := hGE.1.below hb
      have e0 := hr.1.cell rfl _ _ q0
      have e1 := hr.1.cell rfl _ _ q1
      have e2 := hr.1.cell rfl _ _ q2
      have e3 := hr.1.cell rfl _ _ q3
      have e4 := hr.1.cell rfl _ _ q4
      simp only [← Nat.add_assoc] at e1 e2 e3 e4
      exact ⟨⟨e0, e1, e2, e3, e4⟩, hr.1.frozen rfl _⟩
    clear hLi hi hf hstep hon hE hGE hb1 k1 hgl heo hen q0 q1 q2 q3 q4 hz hm hn hS hxs
    go_enter Tryz.func22, Tryz.ntmps22
    go_wp2_with fail
    refine HC.out.mono ?_
    rintro e w2 ⟨rfl, hb2⟩
    have HBW := Lib.hid (HB1.out.trans (hb2.mono HB1.out.size))
    have hk2 := HK1.out.below hb2
    have HK2 := Lib.hid hk2
    obtain ⟨d0, d1, d2, d3, d4, d5, d6, d7, d8⟩ := hk2.cells9
    obtain ⟨⟨e0, e1, e2, e3, e4⟩, f4⟩ := HQ.out _ HBW.out
    clear hb2 HC hk2
    by_cases hg : ogen = g
    · subst hg
      go_wp2_with fail
      go_quiet (fail)
      obtain ⟨W3, hW3⟩ : ∃ W3, w2.drewN nq = W3 := ⟨_, rfl⟩
      have hb3 : Below w2.heap.size w2 W3 := by rw [← hW3]; exact below_drewN _ _
      have HB3 := Lib.hid (HBW.out.trans (hb3.mono HBW.out.size))
      obtain ⟨⟨y0, y1, y2, y3, y4⟩, -⟩ := HQ.out _ HB3.out
      obtain ⟨-, -, -, -, -, -, y6, y7, -⟩ := (HK2.out.below hb3).cells9
      have hne : w.heap.size ≠ bq := by have := HGL.out.2; omega
      obtain ⟨pb, hpw, hpl⟩ := HEO.out.2
      have HPL := Lib.hid hpl
      have HPW := Lib.hid hpw
      have HCM : Hid (∀ wx, Below w.heap.size w wx → Calls Tryz.prog 40 #[.agg #[.string onm, .int .i64 ogen, .int .i64 oparts, .slice oma omem.length omc, .slice opa opts.length opc], .agg #[.int .i64 p, .int .i64 o]] wx fun e w' => ComOut z wx pb (Fk.putPt opts p o) e w') := Lib.hid fun wx hb => committed_any onm ogen oparts omem opts _ _ p o wx ((HEO.out.1.mono fun b hb => hb.1).below hb) (hpw.below hb) (by have := HXS.out.2.1; omega) (HXS.out.2.2.2.2.1 p) (Nat.le_trans HZ.out hb.size)
      rw [hW3]
      clear e0 e1 e2 e3 e4 f4 d0 d1 d2 d3 d4 d5 d6 d7 d8 hpw hpl hb3 hW3 c1
      go_upto_region 7 with fail
      have HB4 : Hid (Below w.heap.size w W3.drew) := Lib.hid (HB3.out.trans ((of_drew (drew_refl W3)).mono HB3.out.size))
      have hbpb : pb ≠ some bq := fun e => by
        have h1 := HPL.out bq e
        rw [HGE.out.2.1 bq rfl] at h1
        cases h1
      have HBP := Lib.hid hbpb
      have HBL : Hid (bq < W3.drew.heap.size) := Lib.hid (Nat.lt_of_lt_of_le HGL.out.2 HB4.out.size)
      clear hbpb
      go_region_law (first
        | (go_simp; go_at_call 40; refine (HCM.out _ (by exact HB4.out)).mono ?_; rintro e w5 ⟨v', pb', rfl, hw5, hg5, hn5⟩; have f4 := (frozen_grown (o := off + i * 5 + 4) hg5 HBL.out (fun e => HBP.out e.symm)).trans (HQ.out _ HB4.out).2; have e4 := (cell_grown (o := off + i * 5 + 4) hg5 HBL.out (fun e => HBP.out e.symm)).trans (HQ.out _ HB4.out).1.2.2.2.2; obtain ⟨a', cap', rfl⟩ := hw5.form; have HW5 := Lib.hid hw5; have HG5 := Lib.hid (grown_after HB4.out hg5); have HN5 := Lib.hid hn5; clear hw5 hg5 hn5)
        | fail)
      all_goals (go_wp2_with fail)
      all_goals go_ret
      all_goals (rw [HST.out, if_pos trivial]; exact behind_fin (pv := .slice opa opts.length opc) (g := ⟨onm, ogen, oparts, omem, opts⟩) HZ.out HSS.out HE.out HGE.out HHM.out HEN.out HON.out (fun b hb => ⟨(HPW.out.lt b hb).1, HPL.out b hb⟩) HB4.out.size HW5.out HG5.out HN5.out)
    · have hg' : (ogen == g) = false := by simpa using hg
      have HX : Hid (Fk.step L (.point n p o g) = L) := Lib.hid (by rw [HST.out, if_neg hg])
      go_wp2_with fail
      go_quiet (fail)
      go_wp2_with fail
      go_ret
      have hb := HBW.out.trans (below_drewN w2 nq)
      exact ⟨hb.mono HZ.out, lab, _, rfl, by rw [HX.out]; exact HO.out.below hb⟩
/-- THE CONTRACT OF behind. -/
theorem behind_any {z : Nat} {lab : Lab} (v : Value) (L : List Fk.G) (wd : Fk.Wd) (wv : Value) (w : World) (hO : GsO z lab w v L) (hS : Sm L) (hz : z ≤ w.heap.size) (hw : WdV (fun b => z ≤ b ∧ lab b = some none) w wd wv) :
    Calls Tryz.prog 22 #[v, wv] w fun e w' => TrnOut z w (Fk.step L wd) e w' := by
  cases wd with
  | none =>
    obtain rfl : wv = _ := hw
    exact behind_not v L ⟨#[]⟩ ⟨#[]⟩ 0 w hO hS hz (by rw [Lib.toList_data]; rfl) (by rw [Lib.toList_data]; rfl)
  | turn n g p ms =>
    obtain ⟨mv, rfl, hm⟩ := hw
    exact behind_turn v L n g p ms mv w hO hS hz hm
  | point n p o g =>
    obtain rfl : wv = _ := hw
    exact behind_point v L n p o g w hO hS hz
  | no c =>
    obtain rfl : wv = _ := hw
    exact behind_not v L ⟨#[110]⟩ ⟨#[]⟩ c w hO hS hz (by rw [Lib.toList_data]; rfl) (by rw [Lib.toList_data]; rfl)
end Go.Proofs.YtjccfilbihkfpaaGreatDoor
