/- THE CONTRACTS that the laws use of Apply, of awake. -/
import Derived.Test.YtmkinnheoejphaaDoorLwB
import Derived.Test.YtmkinnheoejphaaDoorLwS
import Derived.Test.YtmkinnheoejphaaDoorPnT
import Derived.Test.YtmkinnheoejphaaDoorPnZ
namespace Go.Proofs.YtmkinnheoejphaaDoor
open Go.RowKit

theorem Pn.GoodG.lives_len {p : Pn.P} (h : Pn.GoodG p) : p.lives.length ≤ 5 := by
  have hl := Pn.lay_iff.1 h.lay
  obtain ⟨h1, h2⟩ := (Pn.lives_iff _ _ _).1 h.lv
  have h3 := Pn.nodup_len 5 (p.lives.map fun q => q.1) (by
    unfold List.Nodup
    rw [List.pairwise_map]
    exact h1.imp fun hab e => by omega) (fun n hn => by
    obtain ⟨q, hq, rfl⟩ := List.mem_map.1 hn
    have := h2 q hq
    omega)
  rw [List.length_map] at h3
  exact h3
theorem Pn.GoodG.ch_len {p : Pn.P} (h : Pn.GoodG p) : ∀ x ∈ p.parts, x.ch.length ≤ 5 := fun x hx => by
  have hl := Pn.lay_iff.1 h.lay
  have hp := h.pl x hx
  exact Pn.nodup_len 5 x.ch hp.nd fun n hn => by have := hp.nds n hn; omega
theorem Pn.GoodG.parts_len {p : Pn.P} (h : Pn.GoodG p) : 2 ≤ p.parts.length ∧ p.parts.length ≤ 4 := by have := Pn.lay_iff.1 h.lay; omega
namespace Pn
def rp : R → P
  | .bad _ => zeroP
  | .ok q _ => q
def rt : R → List Nat
  | .bad _ => []
  | .ok _ t => t
def rc : R → Int
  | .bad c => c
  | .ok _ _ => 0
end Pn
/-- A plan's value. -/
def plV (p : Pn.P) (sa : Option Addr) (sc : Nat) (la : Option Addr) (lc : Nat) : Value := .agg #[.int .i64 p.nodes, .int .i64 p.copies, .slice sa p.parts.length sc, .slice la p.lives.length lc]
theorem PlR.val {A : Nat → Prop} {w : World} {pv : Value} {p : Pn.P} (h : PlR A w pv p) : ∃ sa sc la lc, pv = plV p sa sc la lc := by
  obtain ⟨sv, lv, rfl, h1, h2⟩ := h
  obtain ⟨a, c, rfl⟩ := h1.form
  obtain ⟨b, d, rfl⟩ := h2.form
  exact ⟨a, c, b, d, rfl⟩
/-- What Apply answers, as the laws take it. -/
def ApL (w : World) (R : Pn.R) (e : Ending) (w' : World) : Prop :=
  Below w.heap.size w w' ∧ ∃ sa sc la lc ta tc, e = .returned (.tuple #[plV (Pn.rp R) sa sc la lc, .slice ta (Pn.nums (Pn.rt R)).length tc, .int .i64 (Pn.rc R)]) ∧ PlR (fun b => w.heap.size ≤ b) w' (plV (Pn.rp R) sa sc la lc) (Pn.rp R) ∧ Ns (fun b => w.heap.size ≤ b) w' (.slice ta (Pn.nums (Pn.rt R)).length tc) (Pn.nums (Pn.rt R))
theorem lapply {A : Nat → Prop} (pv : Value) (p : Pn.P) (kd nd pt nn : Int) (w : World) (h : PlR A w pv p) (hg : Pn.GoodG p) :
    Calls Tryd.prog 10 #[pv, .agg #[.int .i64 kd, .int .i64 nd, .int .i64 pt, .int .i64 nn]] w fun e w' => ApL w (Pn.apply p ⟨kd, nd, pt, nn⟩) e w' := by
  refine (apply_any pv p ⟨kd, nd, pt, nn⟩ w h (by have := hg.parts_len; omega) (by have := hg.lives_len; omega) (fun x hx => by have := hg.ch_len x hx; omega)).mono ?_
  intro e w' ⟨hb, h2⟩
  refine ⟨hb, ?_⟩
  cases hR : Pn.apply p ⟨kd, nd, pt, nn⟩ with
  | bad c =>
    rw [hR] at h2
    exact ⟨_, _, _, _, _, _, h2, PlR.zero _ _, Ns.nil _ _⟩
  | ok q t =>
    rw [hR] at h2
    obtain ⟨pv', tv, gt, rfl, h3, h4⟩ := h2
    obtain ⟨sa, sc, la, lc, rfl⟩ := h3.rd.val
    obtain ⟨ta, tc, rfl⟩ := h4.ns.form
    exact ⟨_, _, _, _, _, _, rfl, h3.rd, h4.ns⟩
theorem lgood {A : Nat → Prop} (pv : Value) (p : Pn.P) (w : World) (h : PlR A w pv p) (hg : Pn.GoodG p) : Calls Tryd.prog 12 #[pv] w fun e w' => BolOut w true e w' := by
  have h1 := good_any pv p w h (by have := hg.parts_len; omega) (by have := hg.lives_len; omega) (fun x hx => by have := hg.ch_len x hx; omega)
  rw [Pn.good_iff.2 hg] at h1
  exact h1
theorem llife {A : Nat → Prop} (pv : Value) (p : Pn.P) (n : Int) (w : World) (h : PlR A w pv p) (hg : Pn.GoodG p) : Calls Tryd.prog 15 #[pv, .int .i64 n] w fun e w' => NumOut w (Pn.life p.lives n) e w' :=
  life_any pv p n w h (by have := hg.lives_len; omega)
theorem lsame {A B : Nat → Prop} (pu pv : Value) (p : Pn.P) (w : World) (hu : PlR A w pu p) (hv : PlR B w pv p) (hg : Pn.GoodG p ∨ p = Pn.zeroP) : Calls Tryd.prog 11 #[pu, pv] w fun e w' => BolOut w true e w' := by
  rcases hg with hg | rfl
  · exact same_true pu pv p w hu hv (by have := hg.parts_len; omega) (by have := hg.lives_len; omega) (fun x hx => by have := hg.ch_len x hx; omega)
  · exact same_true pu pv _ w hu hv (by simp [Pn.zeroP]) (by simp [Pn.zeroP]) (fun x hx => by simp [Pn.zeroP] at hx)
theorem PlO.begun {z : Nat} {w : World} {pv : Value} {p : Pn.P} (h : PlO z w pv p) : ∃ sa sc la lc, pv = plV p sa sc la lc ∧ PlR (fun b => z ≤ b) w (plV p sa sc la lc) p := by
  obtain ⟨sa, sc, la, lc, rfl⟩ := h.rd.val
  exact ⟨sa, sc, la, lc, rfl, h.rd⟩
theorem aw_lay : Pn.layB 3 2 2 = true := by decide
theorem aw_new : Pn.new 3 2 2 = ⟨3, 2, [⟨1, [1, 2], 0⟩, ⟨1, [2, 3], 0⟩], []⟩ := by kernel_rfl
theorem aw_good : Pn.GoodG ⟨3, 2, [⟨1, [1, 2], 0⟩, ⟨1, [2, 3], 0⟩], []⟩ := by rw [← aw_new]; exact Pn.new_good aw_lay
theorem aw_apply : Pn.apply ⟨3, 2, [⟨1, [1, 2], 0⟩, ⟨1, [2, 3], 0⟩], []⟩ ⟨2, 2, 0, 0⟩ = .ok ⟨3, 2, [⟨2, [1], 0⟩, ⟨2, [3], 0⟩], []⟩ [0, 1] := by kernel_rfl
theorem aw_ev : Pn.evB ⟨1, 2, 0, 9⟩ = true := by decide
theorem aw_enc : Pn.encE ⟨1, 2, 0, 9⟩ = [108, 105, 49, 101, 105, 50, 101, 105, 48, 101, 105, 57, 101, 101] := by kernel_rfl
end Go.Proofs.YtmkinnheoejphaaDoor
