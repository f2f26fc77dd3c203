/- EVENTS THAT LIE IN A ROW; a plan in a law's box. -/
import Derived.Test.YtmkinnheoejphaaDoorLwK
import Derived.Test.YtmkinnheoejphaaDoorPnX2
namespace Go.Proofs.YtmkinnheoejphaaDoor
open Go.RowKit

def Eqw2 (w w' : World) : Prop := w' = w
def evc (x : Pn.Ev) : List Value := [.int .i64 x.kind, .int .i64 x.node, .int .i64 x.part, .int .i64 x.n]
def Evs (A : Nat → Prop) (w : World) (v : Value) (l : List Pn.Ev) : Prop := Rds A w v 4 l.length (l.flatMap evc)
section
variable {A A' : Nat → Prop} {w w' W wx : World} {v : Value} {l : List Pn.Ev}
theorem Evs.form (h : Evs A w v l) : ∃ a cap, v = .slice a l.length cap := Rds.form h
theorem Evs.at (h : Evs A w v l) {j : Nat} {x : Pn.Ev} (hj : l[j]? = some x) : ∃ b p cap, v = .slice (some ⟨b, p, none⟩) l.length cap ∧ A b ∧ b < w.heap.size ∧
    w.cell? ⟨b, p + j * 4, none⟩ = some (.int .i64 x.kind) ∧ w.cell? ⟨b, p + j * 4 + 1, none⟩ = some (.int .i64 x.node) ∧ w.cell? ⟨b, p + j * 4 + 2, none⟩ = some (.int .i64 x.part) ∧ w.cell? ⟨b, p + j * 4 + 3, none⟩ = some (.int .i64 x.n) := by
  obtain ⟨b, p, cap, h1, h2, h3, h4⟩ := Rds.at h (Nat.lt_of_le_of_lt (Nat.zero_le _) (List.getElem?_eq_some_iff.1 hj).1)
  have h0 := flat_at evc 4 (fun _ => rfl) l j x hj
  exact ⟨b, p, cap, h1, h2, h3, h4 _ _ (h0 0 (by decide)), h4 _ _ (h0 1 (by decide)), h4 _ _ (h0 2 (by decide)), h4 _ _ (h0 3 (by decide))⟩
theorem Rds.kb {size n b : Nat} {xs : List Value} {v : Value} (h : Rds A w v size n xs) (hk : Kb b w w') (hA : ∀ c, A c → A' c) (hn : ∀ c, A c → c ≠ b) : Rds A' w' v size n xs :=
  Rds.keep h hk.size fun c ha hl => ⟨hk.block c hl (hn c ha), hA c ha⟩
theorem PlR.kb {b : Nat} {pv : Value} {p : Pn.P} (h : PlR A w pv p) (hk : Kb b w w') (hA : ∀ c, A c → A' c) (hn : ∀ c, A c → c ≠ b) : PlR A' w' pv p := by
  obtain ⟨sv, lv, h1, ⟨E, h2, h3, h4⟩, h5⟩ := h
  exact ⟨sv, lv, h1, ⟨E, h2, Rds.kb h3 hk hA hn, fun e he => Rds.kb (h4 e he) hk hA hn⟩, Rds.kb h5 hk hA hn⟩
/-- A plan in a box of the law's. -/
structure PBox (b : Nat) (A : Nat → Prop) (w : World) (p : Pn.P) (sa : Option Addr) (sc : Nat) (la : Option Addr) (lc : Nat) : Prop where
  blk : Blk w b #[.int .i64 p.nodes, .int .i64 p.copies, .slice sa p.parts.length sc, .slice la p.lives.length lc] 28
  rd : PlR A w (plV p sa sc la lc) p
  ne : ¬ A b
theorem PBox.below {b : Nat} {p : Pn.P} {sa la : Option Addr} {sc lc : Nat} (h : PBox b A w p sa sc la lc) (hb : Below w.heap.size w w') : PBox b A w' p sa sc la lc := ⟨h.blk.below hb, h.rd.below hb, h.ne⟩
theorem PBox.mono {b : Nat} {p : Pn.P} {sa la : Option Addr} {sc lc : Nat} (h : PBox b A w p sa sc la lc) (k : ∀ c, A c → A' c) (hn : ¬ A' b) : PBox b A' w p sa sc la lc := ⟨h.blk, h.rd.mono k, hn⟩
/-- What Apply answered, its plan in a new box. -/
def ApB (W : World) (R : Pn.R) (s7 s8 s9 : Value) (wx : World) : Prop :=
  Below W.heap.size W wx ∧ ∃ bq sa sc la lc ta tc, s7 = .pointer (some ⟨bq, 0, none⟩) ∧ s8 = .slice ta (Pn.nums (Pn.rt R)).length tc ∧ s9 = .int .i64 (Pn.rc R) ∧ W.heap.size ≤ bq ∧
    PBox bq (fun b => W.heap.size ≤ b ∧ b ≠ bq) wx (Pn.rp R) sa sc la lc ∧ Ns (fun b => W.heap.size ≤ b ∧ b ≠ bq) wx (.slice ta (Pn.nums (Pn.rt R)).length tc) (Pn.nums (Pn.rt R))
/-- Apply's answer, its parts known; at a world that the region makes. -/
def ApM (wq : World) (R : Pn.R) (e : Ending) (w' : World) : Prop :=
  Below wq.heap.size wq w' ∧ ∃ sa sc la lc ta tc, e = .returned (.tuple #[.agg #[.int .i64 (Pn.rp R).nodes, .int .i64 (Pn.rp R).copies, .slice sa (Pn.rp R).parts.length sc, .slice la (Pn.rp R).lives.length lc], .slice ta (Pn.nums (Pn.rt R)).length tc, .int .i64 (Pn.rc R)]) ∧
    PlR (fun b => wq.heap.size ≤ b) w' (plV (Pn.rp R) sa sc la lc) (Pn.rp R) ∧ Ns (fun b => wq.heap.size ≤ b) w' (.slice ta (Pn.nums (Pn.rt R)).length tc) (Pn.nums (Pn.rt R))
theorem mapply {pv : Value} {p : Pn.P} {kd nd pt nn : Int} (h : PlR A w pv p) (hg : Pn.GoodG p) :
    Calls Tryd.prog 10 #[pv, .agg #[.int .i64 kd, .int .i64 nd, .int .i64 pt, .int .i64 nn]] w fun e w' => ApM w (Pn.apply p ⟨kd, nd, pt, nn⟩) e w' := lapply pv p kd nd pt nn w h hg
variable {R : Pn.R} {sa la ta : Option Addr} {sc lc tc : Nat}
/-- The call came first, the box behind it. -/
theorem ApB.late {w3 : World} (hb : Below W.heap.size W.drew w3) (hp : PlR (fun b => W.drew.heap.size ≤ b) w3 (plV (Pn.rp R) sa sc la lc) (Pn.rp R)) (ht : Ns (fun b => W.drew.heap.size ≤ b) w3 (.slice ta (Pn.nums (Pn.rt R)).length tc) (Pn.nums (Pn.rt R))) :
    ApB W R (.pointer (some ⟨w3.heap.size, 0, none⟩)) (.slice ta (Pn.nums (Pn.rt R)).length tc) (.int .i64 (Pn.rc R)) (w3.alloc (.cells #[.int .i64 (Pn.rp R).nodes, .int .i64 (Pn.rp R).copies, .slice sa (Pn.rp R).parts.length sc, .slice la (Pn.rp R).lives.length lc] 28)) := by
  have hba : Below w3.heap.size w3 (w3.alloc (.cells #[.int .i64 (Pn.rp R).nodes, .int .i64 (Pn.rp R).copies, .slice sa (Pn.rp R).parts.length sc, .slice la (Pn.rp R).lives.length lc] 28)) := (Below.refl _ _).alloc (Nat.le_refl _) _
  have hs := hb.size
  have hs' : W.heap.size ≤ w3.heap.size := hs
  refine ⟨(of_drew hb).trans (hba.mono hs), w3.heap.size, sa, sc, la, lc, ta, tc, rfl, rfl, rfl, hs', ⟨Blk.new _ _ _, ?_, fun h => h.2 rfl⟩, ?_⟩
  · obtain ⟨sv, lv, h1, ⟨E, h2, h3, h4⟩, h5⟩ := hp
    have key : ∀ {v : Value} {n m : Nat} {xs : List Value}, Rds (fun b => W.drew.heap.size ≤ b) w3 v n m xs → Rds (fun b => W.heap.size ≤ b ∧ b ≠ w3.heap.size) (w3.alloc (.cells #[.int .i64 (Pn.rp R).nodes, .int .i64 (Pn.rp R).copies, .slice sa (Pn.rp R).parts.length sc, .slice la (Pn.rp R).lives.length lc] 28)) v n m xs := fun h =>
      Rds.keep h hba.size fun c ha hl => ⟨hba.block c hl, ha, by omega⟩
    exact ⟨sv, lv, h1, ⟨E, h2, key h3, fun e he => key (h4 e he)⟩, key h5⟩
  · exact Rds.keep ht hba.size fun c ha hl => ⟨hba.block c hl, ha, by omega⟩
/-- The box came first. -/
theorem ApB.early {w3 : World} {z0 z1 z2 z3 : Value} (hb : Below (W.alloc (.cells #[z0, z1, z2, z3] 28)).drew.heap.size (W.alloc (.cells #[z0, z1, z2, z3] 28)).drew w3)
    (hp : PlR (fun b => (W.alloc (.cells #[z0, z1, z2, z3] 28)).drew.heap.size ≤ b) w3 (plV (Pn.rp R) sa sc la lc) (Pn.rp R)) (ht : Ns (fun b => (W.alloc (.cells #[z0, z1, z2, z3] 28)).drew.heap.size ≤ b) w3 (.slice ta (Pn.nums (Pn.rt R)).length tc) (Pn.nums (Pn.rt R))) :
    ApB W R (.pointer (some ⟨W.heap.size, 0, none⟩)) (.slice ta (Pn.nums (Pn.rt R)).length tc) (.int .i64 (Pn.rc R)) ((((w3.setCell ⟨W.heap.size, 0, none⟩ (.int .i64 (Pn.rp R).nodes)).setCell ⟨W.heap.size, 1, none⟩ (.int .i64 (Pn.rp R).copies)).setCell ⟨W.heap.size, 2, none⟩ (.slice sa (Pn.rp R).parts.length sc)).setCell ⟨W.heap.size, 3, none⟩ (.slice la (Pn.rp R).lives.length lc)) := by
  have hk := four_kb w3 W.heap.size (.int .i64 (Pn.rp R).nodes) (.int .i64 (Pn.rp R).copies) (.slice sa (Pn.rp R).parts.length sc) (.slice la (Pn.rp R).lives.length lc)
  have kz : Blk (W.alloc (.cells #[z0, z1, z2, z3] 28)).drew W.heap.size #[z0, z1, z2, z3] 28 := Blk.new W _ _
  have hsz : (W.alloc (.cells #[z0, z1, z2, z3] 28)).drew.heap.size = W.heap.size + 1 := by simp
  have hW : Below W.heap.size W (W.alloc (.cells #[z0, z1, z2, z3] 28)).drew := by
    have h := (Below.refl W.heap.size W).alloc (Nat.le_refl _) (.cells #[z0, z1, z2, z3] 28)
    exact ⟨h.os, h.tape, h.output, h.size, h.block⟩
  have hw3 : Below W.heap.size W w3 := hW.trans (hb.mono hW.size)
  have h3s := hb.size
  rw [hsz] at hp ht h3s
  refine ⟨hw3.trans (hk.below (Nat.le_refl _) (by omega)), W.heap.size, sa, sc, la, lc, ta, tc, rfl, rfl, rfl, Nat.le_refl _, ⟨(kz.below hb).four _ _ _ _, hp.kb hk (fun c hc => ⟨by omega, by omega⟩) (fun c hc => by omega), fun h => h.2 rfl⟩, Rds.kb ht hk (fun c hc => ⟨by omega, by omega⟩) (fun c hc => by omega)⟩
theorem PBox.made {p : Pn.P} (h : PlR A w (plV p sa sc la lc) p) : PBox w.heap.size (fun b => b ≠ w.heap.size) (w.alloc (.cells #[.int .i64 p.nodes, .int .i64 p.copies, .slice sa p.parts.length sc, .slice la p.lives.length lc] 28)) p sa sc la lc := by
  have hba : Below w.heap.size w (w.alloc (.cells #[.int .i64 p.nodes, .int .i64 p.copies, .slice sa p.parts.length sc, .slice la p.lives.length lc] 28)) := (Below.refl _ _).alloc (Nat.le_refl _) _
  refine ⟨Blk.new _ _ _, ?_, fun h => h rfl⟩
  obtain ⟨sv, lv, h1, ⟨E, h2, h3, h4⟩, h5⟩ := h
  have key : ∀ {v : Value} {n m : Nat} {xs : List Value}, Rds A w v n m xs → Rds (fun b => b ≠ w.heap.size) (w.alloc (.cells #[.int .i64 p.nodes, .int .i64 p.copies, .slice sa p.parts.length sc, .slice la p.lives.length lc] 28)) v n m xs := fun h =>
    Rds.keep h hba.size fun c ha hl => ⟨hba.block c hl, by omega⟩
  exact ⟨sv, lv, h1, ⟨E, h2, key h3, fun e he => key (h4 e he)⟩, key h5⟩
theorem alloc_drew (W : World) (o : Obj) : Below W.heap.size W.drew (W.alloc o).drew := by
  have h := (Below.refl W.heap.size W).alloc (Nat.le_refl _) o
  exact ⟨h.os, h.tape, h.output, h.size, h.block⟩
/-- While a law goes on: the plan in its box. -/
structure KI (w : World) (bp i : Nat) (p : Pn.P) (sa : Option Addr) (sc : Nat) (la : Option Addr) (lc : Nat) (wr : World) : Prop where
  low : Below w.heap.size w wr
  good : Pn.GoodG p
  lo : ∀ x ∈ p.parts, x.ep ≤ 1 + (i : Int)
  box : PBox bp (fun b => b ≠ bp) wr p sa sc la lc
  le : w.heap.size ≤ bp
theorem KI.below {i bp : Nat} {p : Pn.P} (h : KI W bp i p sa sc la lc w) (hb : Below w.heap.size w w') : KI W bp i p sa sc la lc w' := ⟨h.low.trans (hb.mono h.low.size), h.good, h.lo, h.box.below hb, h.le⟩
/-- The plan's box holds another plan. -/
theorem KI.put {i bp b2 : Nat} {p q : Pn.P} {sa' la' : Option Addr} {sc' lc' : Nat} {z : Nat} (h : KI W bp i p sa sc la lc w) (hq : PBox b2 (fun b => z ≤ b ∧ b ≠ b2) w q sa' sc' la' lc') (hz : bp < z) (hg : Pn.GoodG q) (hlo : ∀ x ∈ q.parts, x.ep ≤ 1 + ((i + 1 : Nat) : Int)) :
    KI W bp (i + 1) q sa' sc' la' lc' ((((w.setCell ⟨bp, 0, none⟩ (.int .i64 q.nodes)).setCell ⟨bp, 1, none⟩ (.int .i64 q.copies)).setCell ⟨bp, 2, none⟩ (.slice sa' q.parts.length sc')).setCell ⟨bp, 3, none⟩ (.slice la' q.lives.length lc')) := by
  have hk := four_kb w bp (.int .i64 q.nodes) (.int .i64 q.copies) (.slice sa' q.parts.length sc') (.slice la' q.lives.length lc')
  have hle := h.le
  exact ⟨h.low.trans (hk.below hle h.box.blk.lt), hg, hlo, ⟨h.box.blk.four _ _ _ _, hq.rd.kb hk (fun c hc => by omega) (fun c hc => by omega), fun h => h rfl⟩, hle⟩
theorem KI.next {i bp : Nat} {p : Pn.P} (h : KI W bp i p sa sc la lc w) : KI W bp (i + 1) p sa sc la lc w := ⟨h.low, h.good, fun x hx => by have := h.lo x hx; omega, h.box, h.le⟩
theorem Pn.bad_code {p : Pn.P} {x : Pn.Ev} {c : Int} (h : Pn.apply p x = .bad c) : c = 1 ∨ c = 21 ∨ c = 32 := by
  have key : ∀ (ps : List Pn.Pt) (ls : List (Int × Int)) (t : List Nat) (c : Int), Pn.fin p ps ls t = .bad c → c = 32 := fun ps ls t c h => by
    unfold Pn.fin at h
    split at h
    · cases h
    · injection h with h; exact h.symm
  unfold Pn.apply at h
  split at h
  · injection h with h; exact .inl h.symm
  split at h
  · unfold Pn.apply1 at h
    split at h
    · injection h with h; exact .inr (.inl h.symm)
    · exact .inr (.inr (key _ _ _ _ h))
  split at h
  · unfold Pn.apply2 at h
    split at h
    · injection h with h; exact .inr (.inl h.symm)
    · exact .inr (.inr (key _ _ _ _ h))
  split at h
  · unfold Pn.apply3 at h
    split at h
    · exact .inr (.inr (key _ _ _ _ h))
    · injection h with h; exact .inr (.inl h.symm)
  split at h
  · unfold Pn.apply4 at h
    split at h
    · injection h with h; exact .inr (.inr h.symm)
    · cases h
  · unfold Pn.apply5 at h
    split at h
    · injection h with h; exact .inr (.inl h.symm)
    · exact .inr (.inr (key _ _ _ _ h))
theorem PlR.lt {pv : Value} {p : Pn.P} (h : PlR A w pv p) : PlR (fun c => A c ∧ c < w.heap.size) w pv p := by
  obtain ⟨sv, lv, h1, ⟨E, h2, h3, h4⟩, h5⟩ := h
  have key : ∀ {v : Value} {n m : Nat} {xs : List Value}, Rds A w v n m xs → Rds (fun c => A c ∧ c < w.heap.size) w v n m xs := fun h => Rds.keep h (Nat.le_refl _) fun c ha hl => ⟨rfl, ha, hl⟩
  exact ⟨sv, lv, h1, ⟨E, h2, key h3, fun e he => key (h4 e he)⟩, key h5⟩
theorem filt_at {f : Int → Bool} {l : List Int} {j : Nat} {m : Int} (h : l[j]? = some m) :
    (f m = true → (l.filter f)[((l.take j).filter f).length]? = some m ∧ ((l.take (j + 1)).filter f).length = ((l.take j).filter f).length + 1) ∧ (f m = false → ((l.take (j + 1)).filter f).length = ((l.take j).filter f).length) := by
  obtain ⟨hlt, hm⟩ := List.getElem?_eq_some_iff.1 h
  have h1 : l.take (j + 1) = l.take j ++ [m] := by rw [List.take_add_one, h]; rfl
  have h2 : l = l.take j ++ m :: l.drop (j + 1) := by rw [← hm, ← List.drop_eq_getElem_cons hlt, List.take_append_drop]
  refine ⟨fun hf => ⟨?_, ?_⟩, fun hf => ?_⟩
  · conv => lhs; rw [h2]
    rw [List.filter_append, List.filter_cons, if_pos hf]
    have e : (List.take j l).filter f = (List.take j l).filter f := rfl
    rw [List.getElem?_append_right (by rw [← h2]; exact Nat.le_refl _)]
    rw [← h2]
    simp
  · rw [h1, List.filter_append, List.length_append, List.filter_cons, if_pos hf]
    rfl
  · rw [h1, List.filter_append, List.length_append, List.filter_cons, if_neg (by rw [hf]; decide)]
    rfl
end
end Go.Proofs.YtmkinnheoejphaaDoor
