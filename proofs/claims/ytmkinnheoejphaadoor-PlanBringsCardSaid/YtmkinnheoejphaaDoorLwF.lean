/- What PlanBrings and PlanSafe need beside: a box for an answer; a plan into which a node comes. -/
import Derived.Test.YtmkinnheoejphaaDoorLwE
namespace Go.Proofs.YtmkinnheoejphaaDoor
open Go.RowKit

section
variable {A : Nat → Prop} {w w' W : World} {sa la : Option Addr} {sc lc : Nat}
theorem PBox.made2 {p : Pn.P} (h : PlR A w (plV p sa sc la lc) p) : PBox w.heap.size (fun b => A b ∧ b ≠ w.heap.size) (w.alloc (.cells #[.int .i64 p.nodes, .int .i64 p.copies, .slice sa p.parts.length sc, .slice la p.lives.length lc] 28)) p sa sc la lc := by
  have hba : Below w.heap.size w (w.alloc (.cells #[.int .i64 p.nodes, .int .i64 p.copies, .slice sa p.parts.length sc, .slice la p.lives.length lc] 28)) := (Below.refl _ _).alloc (Nat.le_refl _) _
  refine ⟨Blk.new _ _ _, ?_, fun h => h.2 rfl⟩
  obtain ⟨sv, lv, h1, ⟨E, h2, h3, h4⟩, h5⟩ := h
  have key : ∀ {v : Value} {n m : Nat} {xs : List Value}, Rds A w v n m xs → Rds (fun b => A b ∧ b ≠ w.heap.size) (w.alloc (.cells #[.int .i64 p.nodes, .int .i64 p.copies, .slice sa p.parts.length sc, .slice la p.lives.length lc] 28)) v n m xs := fun h =>
    Rds.keep h hba.size fun c ha hl => ⟨hba.block c hl, ha, by omega⟩
  exact ⟨sv, lv, h1, ⟨E, h2, key h3, fun e he => key (h4 e he)⟩, key h5⟩
/-- While PlanBrings' second loop goes on. -/
structure BI (w : World) (bp : Nat) (N : Int) (p : Pn.P) (sa : Option Addr) (sc : Nat) (la : Option Addr) (lc : Nat) (wr : World) : Prop where
  low : Below w.heap.size w wr
  good : Pn.GoodG p
  box : PBox bp (fun b => b ≠ bp) wr p sa sc la lc
  le : w.heap.size ≤ bp
  n1 : 1 ≤ N
  n2 : N ≤ p.nodes
  lf : Pn.life p.lives N ≠ 0
  lo : ∀ k ∈ Pn.wants p N, ∀ x, p.parts[k]? = some x → x.ep ≤ 1000
theorem KI.bi {i bp : Nat} {N : Int} {p : Pn.P} (h : KI w bp i p sa sc la lc W) (hi : i ≤ 151) (n1 : 1 ≤ N) (n2 : N ≤ p.nodes) (lf : Pn.life p.lives N ≠ 0) : BI w bp N p sa sc la lc W :=
  ⟨h.low, h.good, h.box, h.le, n1, n2, lf, fun k _ x hx => by have := h.lo x (List.mem_of_getElem? hx); omega⟩
theorem BI.below {bp : Nat} {N : Int} {p : Pn.P} (h : BI W bp N p sa sc la lc w) (hb : Below w.heap.size w w') : BI W bp N p sa sc la lc w' := ⟨h.low.trans (hb.mono h.low.size), h.good, h.box.below hb, h.le, h.n1, h.n2, h.lf, h.lo⟩
theorem PBox.kb2 {b bx z : Nat} {p : Pn.P} (h : PBox bx A w p sa sc la lc) (hl : PlR (fun c => A c ∧ c < z) w (plV p sa sc la lc) p) (hk : Kb b w w') (hx : bx < z) (hz : z ≤ b) : PBox bx A w' p sa sc la lc :=
  ⟨h.blk.kb hk (by omega), hl.kb hk (fun c hc => hc.1) (fun c hc => by omega), h.ne⟩
theorem BI.kb {b bp z : Nat} {N : Int} {p : Pn.P} (h : BI W bp N p sa sc la lc w) (hl : PlR (fun c => c ≠ bp ∧ c < z) w (plV p sa sc la lc) p) (hk : Kb b w w') (hx : bp < z) (hz : z ≤ b) (hb : b < w.heap.size) : BI W bp N p sa sc la lc w' := by
  have hle := h.le
  exact ⟨h.low.trans (hk.below (by omega) hb), h.good, h.box.kb2 hl hk hx hz, h.le, h.n1, h.n2, h.lf, h.lo⟩
/-- A round is over: the box holds the plan behind it. -/
theorem BI.put {bp b2 z k : Nat} {ks : List Nat} {N : Int} {p q r : Pn.P} {a : Pn.Pt} {sa' la' : Option Addr} {sc' lc' : Nat} (h : BI W bp N p sa sc la lc w) (hd : Pn.Rnd p q r N k ks a) (hw : Pn.wants p N = k :: ks) (hq : PBox b2 (fun b => z ≤ b ∧ b ≠ b2) w r sa' sc' la' lc') (hz : bp < z) :
    BI W bp N r sa' sc' la' lc' ((((w.setCell ⟨bp, 0, none⟩ (.int .i64 r.nodes)).setCell ⟨bp, 1, none⟩ (.int .i64 r.copies)).setCell ⟨bp, 2, none⟩ (.slice sa' r.parts.length sc')).setCell ⟨bp, 3, none⟩ (.slice la' r.lives.length lc')) := by
  have hk := four_kb w bp (.int .i64 r.nodes) (.int .i64 r.copies) (.slice sa' r.parts.length sc') (.slice la' r.lives.length lc')
  have hle := h.le
  refine ⟨h.low.trans (hk.below hle h.box.blk.lt), hd.good2, ⟨h.box.blk.four _ _ _ _, hq.rd.kb hk (fun c hc => by omega) (fun c hc => by omega), fun h => h rfl⟩, hle, h.n1, by rw [hd.nodes]; exact h.n2, by rw [hd.life]; exact h.lf, fun j hj x hx => ?_⟩
  rw [hd.wants] at hj
  exact h.lo j (by rw [hw]; exact List.mem_cons_of_mem _ hj) x (hd.other j hj x hx)
end
end Go.Proofs.YtmkinnheoejphaaDoor
