/- Two ledgers beside each other; the batch of a round. -/
import Derived.Test.YtloallndnmofnaaDoorOnce0
import Derived.Deep.RegionHeld3
import Derived.Deep.DeepCutAuto
import Derived.IntWalk
namespace Go.Proofs.YtloallndnmofnaaDoor
open Go.RowKit

/-- The batch of a round, as it lies in its block. -/
def bat (base prod seq : Int) (g : Nat) : Array Value := #[.int .i64 base, .int .i64 1, .int .i64 prod, .int .i64 seq, .int .i64 0, .slice (some ⟨g, 0, none⟩) 1 1]
/-- Two ledgers beside each other. -/
structure Two (w0 w : World) (r1 r2 : Nat) (B1 B2 : Nat → Prop) (T1 T2 : Ld.Tb) : Prop where
  l1 : LS w0 w r1 B1 T1
  l2 : LS w0 w r2 B2 T2
  dis : ∀ k, B1 k → ¬ B2 k
theorem Two.below {w0 w w' : World} {r1 r2 : Nat} {B1 B2 : Nat → Prop} {T1 T2 : Ld.Tb} (h : Two w0 w r1 r2 B1 B2 T1 T2) (hb : RowKit.Below w.heap.size w w') : Two w0 w' r1 r2 B1 B2 T1 T2 := ⟨h.l1.below hb, h.l2.below hb, h.dis⟩
theorem Two.first {w0 w w' : World} {r1 r2 : Nat} {B1 B1' B2 : Nat → Prop} {T1 T1' T2 : Ld.Tb} (h : Two w0 w r1 r2 B1 B2 T1 T2) (h2 : 2 ≤ w0.heap.size) (hl : LS w0 w' r1 B1' T1') (hm : Moved B1 B1' w w') : Two w0 w' r1 r2 B1' B2 T1' T2 := by
  obtain ⟨a, b⟩ := h.l2.moved hm (fun k hk hb => h.dis k hb hk) h.l1.base h2
  exact ⟨hl, a, fun k hk hb => b k hb hk⟩
theorem Two.second {w0 w w' : World} {r1 r2 : Nat} {B1 B2 B2' : Nat → Prop} {T1 T2 T2' : Ld.Tb} (h : Two w0 w r1 r2 B1 B2 T1 T2) (h2 : 2 ≤ w0.heap.size) (hl : LS w0 w' r2 B2' T2') (hm : Moved B2 B2' w w') : Two w0 w' r1 r2 B1 B2' T1 T2' := by
  obtain ⟨a, b⟩ := h.l1.moved hm h.dis h.l2.base h2
  exact ⟨a, hl, b⟩
namespace Ld
/-- Both remember the same of p. -/
structure Alike (T1 T2 : Tb) (p : Int) (e : Int) : Prop where
  same : Ld.slots T1 p = Ld.slots T2 p
  four1 : ∀ x ∈ T1, x.1 < 4
  four2 : ∀ x ∈ T2, x.1 < 4
  low : ∀ q l, (Ld.slots T1 q).getLast? = some l → l.fin ≤ e
theorem Alike.chk {T1 T2 : Tb} {p e : Int} (h : Alike T1 T2 p e) (h1 : goodB T1 = true) (h2 : goodB T2 = true) (seq : Int) : check T1 p seq = check T2 p seq := by
  rw [check_chk h1, check_chk h2, h.same]
theorem Alike.addE {T1 T2 : Tb} {p e : Int} (h : Alike T1 T2 p e) (h1 : goodB T1 = true) (h2 : goodB T2 = true) {seq : Int} (hp : numB p = true) (hs : numB seq = true) : Ld.addE T1 p seq e = Ld.addE T2 p seq e := by
  rw [addE_few h1 h.four1 hp hs (h.low p), addE_few h2 h.four2 hp hs (fun l hl => h.low p l (by rw [h.same]; exact hl)), h.same]
theorem low_add {T : Tb} {e : Int} (hG : goodB T = true) {p seq : Int} (he : 0 ≤ e) (he2 : e + 1 ≤ 1099511627776) (hlow : ∀ q l, (Ld.slots T q).getLast? = some l → l.fin ≤ e) : ∀ q l, (Ld.slots (if Ld.addE T p seq e = 0 then addT T p seq e 1 else T) q).getLast? = some l → l.fin ≤ e + 1 := by
  intro q l hl
  split at hl
  · rename_i hz
    rw [(add_ok hG hz he (by omega) he2).2.1] at hl
    split at hl
    · rw [last5_last] at hl
      cases hl
      exact Int.le_refl _
    · have := hlow q l hl; omega
  · have := hlow q l hl; omega
theorem four_add {T : Tb} {e : Int} (hG : goodB T = true) {p seq : Int} (hp : p < 4) (he : 0 ≤ e) (he2 : e + 1 ≤ 1099511627776) (h4 : ∀ x ∈ T, x.1 < 4) : ∀ x ∈ (if Ld.addE T p seq e = 0 then addT T p seq e 1 else T), x.1 < 4 := by
  intro x hx
  split at hx
  · rename_i hz
    rcases (add_ok hG hz he (by omega) he2).2.2 x hx with h | h
    · rw [h]; exact hp
    · exact h4 x h
  · exact h4 x hx
theorem slots_add {T : Tb} {e : Int} (hG : goodB T = true) {p seq : Int} (he : 0 ≤ e) (he2 : e + 1 ≤ 1099511627776) (q : Int) : Ld.slots (if Ld.addE T p seq e = 0 then addT T p seq e 1 else T) q = if Ld.addE T p seq e = 0 ∧ q = p then last5 (Ld.slots T p ++ [⟨seq, e, e + 1⟩]) else Ld.slots T q := by
  split
  · rename_i hz
    rw [(add_ok hG hz he (by omega) he2).2.1]
    simp [hz]
  · rename_i hz
    simp [hz]
/-- A batch of another producer. -/
theorem Alike.other {T1 T2 : Tb} {p e : Int} (h : Alike T1 T2 p e) (h1 : goodB T1 = true) {q seq : Int} (hq : q < 4) (hne : q ≠ p) (he : 0 ≤ e) (he2 : e + 1 ≤ 1099511627776) :
    Alike (if Ld.addE T1 q seq e = 0 then addT T1 q seq e 1 else T1) T2 p (e + 1) :=
  ⟨by rw [slots_add h1 he he2, if_neg (fun hh => hne hh.2.symm)]; exact h.same, four_add h1 hq he he2 h.four1, h.four2, low_add h1 he he2 h.low⟩
/-- A batch of his. -/
theorem Alike.both {T1 T2 : Tb} {p e : Int} (h : Alike T1 T2 p e) (h1 : goodB T1 = true) (h2 : goodB T2 = true) {seq : Int} (hp4 : p < 4) (hp : numB p = true) (hs : numB seq = true) (he : 0 ≤ e) (he2 : e + 1 ≤ 1099511627776) :
    Alike (if Ld.addE T1 p seq e = 0 then addT T1 p seq e 1 else T1) (if Ld.addE T2 p seq e = 0 then addT T2 p seq e 1 else T2) p (e + 1) := by
  refine ⟨?_, four_add h1 hp4 he he2 h.four1, four_add h2 hp4 he he2 h.four2, low_add h1 he he2 h.low⟩
  rw [slots_add h1 he he2, slots_add h2 he he2, h.addE h1 h2 hp hs, h.same]
end Ld

theorem alc (w : World) : RowKit.Below w.heap.size w (w.alloc (.cells zeroB 34)) := (Below.refl _ _).alloc (Nat.le_refl _) _
theorem alc_size (w : World) : (w.alloc (.cells zeroB 34)).heap.size = w.heap.size + 1 := by simp
theorem zero_bat (w : World) : Blk (w.alloc (.cells zeroB 34)) w.heap.size zeroB 34 := Blk.new w _ _
/-- .. and where the record lies. -/
theorem dbatch' (prod seq base : Int) (w : World) : Calls Tryd.prog 20 #[.int .i64 prod, .int .i64 seq, .int .i64 base] w fun e w' =>
    e = .returned (.agg #[.int .i64 base, .int .i64 1, .int .i64 prod, .int .i64 seq, .int .i64 0, .slice (some ⟨w.heap.size + 1, 0, none⟩) 1 1]) ∧ Recs (.slice (some ⟨w.heap.size + 1, 0, none⟩) 1 1) [oneRc base] w' ∧ RowKit.Below w.heap.size w w' := by
  have hs : (w.alloc (.cells #[.int .i64 base, .int .i64 1, .int .i64 prod, .int .i64 seq, .int .i64 0, .slice (some ⟨w.heap.size + 1, 0, none⟩) 1 1] 34)).heap.size = w.heap.size + 1 := by simp
  have hb1 := Blk.new w #[.int .i64 base, .int .i64 1, .int .i64 prod, .int .i64 seq, .int .i64 0, .slice (some ⟨w.heap.size + 1, 0, none⟩) 1 1] 34
  have hb2 := Blk.new (w.alloc (.cells #[.int .i64 base, .int .i64 1, .int .i64 prod, .int .i64 seq, .int .i64 0, .slice (some ⟨w.heap.size + 1, 0, none⟩) 1 1] 34)) #[.int .i64 base, .string ⟨#[]⟩, .string ⟨#[]⟩, .bool false] 36
  rw [hs] at hb2
  have H1 := Lib.hid (hb1.alloc (.cells #[.int .i64 base, .string ⟨#[]⟩, .string ⟨#[]⟩, .bool false] 36))
  have H2 := Lib.hid (recs_one hb2)
  clear hb1 hb2 hs
  go_enter Tryd.func20, Tryd.ntmps20
  go_wp2_with fail
  exact bodyPost_ret (batch_ret H1.out rfl) rfl ⟨rfl, H2.out, ((Below.refl _ _).alloc (Nat.le_refl _) _).alloc (by simp) _⟩
theorem recs_moved {w w' : World} {B B' : Nat → Prop} {g : Nat} {base : Int} (h : Recs (.slice (some ⟨g, 0, none⟩) 1 1) [oneRc base] w) (hm : Moved B B' w w') (hn : ¬ B g) : Recs (.slice (some ⟨g, 0, none⟩) 1 1) [oneRc base] w' := by
  obtain ⟨a, cap, hv, hc⟩ := h
  refine ⟨a, cap, hv, fun j x hj => ?_⟩
  obtain ⟨b, off, ha, hlt, h0, h1, h2, h3⟩ := hc j x hj
  injection hv with hv1 _ _
  rw [← hv1] at ha
  injection ha with ha
  injection ha with hb hoff
  subst hb
  have e : ∀ o, w'.cell? ⟨g, o, none⟩ = w.cell? ⟨g, o, none⟩ := fun o => World.cell?_of_block (hm.block g hlt hn)
  exact ⟨g, off, by rw [← hv1, hoff], Nat.lt_of_lt_of_le hlt hm.size, (e _).trans h0, (e _).trans h1, (e _).trans h2, (e _).trans h3⟩
/-- What the making of a round's batch leaves. -/
def Made (wr : World) (t g : Nat) (base prod seq : Int) (B1 B2 : Nat → Prop) (wx : World) : Prop :=
  Blk wx t (bat base prod seq g) 34 ∧ Recs (.slice (some ⟨g, 0, none⟩) 1 1) [oneRc base] wx ∧ (¬ B1 t ∧ ¬ B2 t ∧ ¬ B1 g ∧ ¬ B2 g) ∧ RowKit.Below wr.heap.size wr wx
theorem below_of {B : Nat} {wr W w5 : World} (h : RowKit.Below B W w5) (h1 : W.os = wr.os) (h2 : W.tape = wr.tape) (h3 : W.output = wr.output) (h4 : W.heap = wr.heap) : RowKit.Below B wr w5 := by
  refine ⟨h.os.trans h1, h.tape.trans h2, h.output.trans h3, by rw [← h4]; exact h.size, fun k hk => by rw [← h4]; exact h.block k hk⟩
theorem made_a {wr w5 : World} {base prod seq : Int} {B1 B2 : Nat → Prop} {g : Nat} (hB : ∀ k, B1 k ∨ B2 k → k < wr.heap.size) (hg : g = wr.heap.size + 1) (hr : Recs (.slice (some ⟨g, 0, none⟩) 1 1) [oneRc base] w5) (hb : RowKit.Below wr.heap.size wr w5) :
    Made wr w5.heap.size g base prod seq B1 B2 (w5.alloc (.cells (bat base prod seq g) 34)) := by
  have hal : RowKit.Below w5.heap.size w5 (w5.alloc (.cells (bat base prod seq g) 34)) := (Below.refl _ _).alloc (Nat.le_refl _) _
  have hs := hb.size
  refine ⟨Blk.new w5 _ _, hr.below hal, ⟨fun h => ?_, fun h => ?_, fun h => ?_, fun h => ?_⟩, hb.trans (hal.mono hs)⟩
  · have := hB _ (.inl h); omega
  · have := hB _ (.inr h); omega
  · have := hB _ (.inl h); omega
  · have := hB _ (.inr h); omega
theorem mv (w : World) (t o : Nat) (v : Value) : Moved (fun k => k = t) (fun k => k = t) w (w.setCell ⟨t, o, none⟩ v) := Moved.setCell w ⟨t, o, none⟩ v rfl
theorem made_b {wr w5 : World} {base prod seq : Int} {B1 B2 : Nat → Prop} {g : Nat} (hB : ∀ k, B1 k ∨ B2 k → k < wr.heap.size) (hg : g = wr.heap.size + 1 + 1) (hr : Recs (.slice (some ⟨g, 0, none⟩) 1 1) [oneRc base] w5) (hb : RowKit.Below (wr.alloc (.cells zeroB 34)).heap.size (wr.alloc (.cells zeroB 34)) w5) :
    Made wr wr.heap.size g base prod seq B1 B2 ((((((w5.setCell ⟨wr.heap.size, 0, none⟩ (.int .i64 base)).setCell ⟨wr.heap.size, 1, none⟩ (.int .i64 1)).setCell ⟨wr.heap.size, 2, none⟩ (.int .i64 prod)).setCell ⟨wr.heap.size, 3, none⟩ (.int .i64 seq)).setCell ⟨wr.heap.size, 4, none⟩ (.int .i64 0)).setCell ⟨wr.heap.size, 5, none⟩ (.slice (some ⟨g, 0, none⟩) 1 1)) := by
  have hz : Blk w5 wr.heap.size #[.int .i64 0, .int .i64 0, .int .i64 0, .int .i64 0, .int .i64 0, .slice none 0 0] 34 := (zero_bat wr).below hb
  have hsz : (wr.alloc (.cells zeroB 34)).heap.size = wr.heap.size + 1 := by simp
  have hb0 : RowKit.Below wr.heap.size wr w5 := (alc wr).trans (hb.mono (by omega))
  have hm : Moved (fun k => k = wr.heap.size) (fun k => k = wr.heap.size) w5 ((((((w5.setCell ⟨wr.heap.size, 0, none⟩ (.int .i64 base)).setCell ⟨wr.heap.size, 1, none⟩ (.int .i64 1)).setCell ⟨wr.heap.size, 2, none⟩ (.int .i64 prod)).setCell ⟨wr.heap.size, 3, none⟩ (.int .i64 seq)).setCell ⟨wr.heap.size, 4, none⟩ (.int .i64 0)).setCell ⟨wr.heap.size, 5, none⟩ (.slice (some ⟨g, 0, none⟩) 1 1)) :=
    (((((mv w5 _ _ _).trans (mv _ _ _ _)).trans (mv _ _ _ _)).trans (mv _ _ _ _)).trans (mv _ _ _ _)).trans (mv _ _ _ _)
  refine ⟨hz.six _ _ _ _ _ _, recs_moved hr hm (by show ¬ (_ = _); omega), ⟨fun h => ?_, fun h => ?_, fun h => ?_, fun h => ?_⟩, (hm.below hb0 (fun k hk => by omega)).1⟩
  · have := hB _ (.inl h); omega
  · have := hB _ (.inr h); omega
  · have := hB _ (.inl h); omega
  · have := hB _ (.inr h); omega
end Go.Proofs.YtloallndnmofnaaDoor
