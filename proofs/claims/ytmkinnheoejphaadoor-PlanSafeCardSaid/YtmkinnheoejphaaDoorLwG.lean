/- WHILE PlanSafe LOOKS AT A STEP: the plan, the one behind it, the numbers that turned. -/
import Derived.Test.YtmkinnheoejphaaDoorLwE
import Derived.Test.YtmkinnheoejphaaDoorPnX3
namespace Go.Proofs.YtmkinnheoejphaaDoor
open Go.RowKit

structure SI (W : World) (bp i : Nat) (p : Pn.P) (sa : Option Addr) (sc : Nat) (la : Option Addr) (lc b7 z : Nat) (q : Pn.P) (sa7 : Option Addr) (sc7 : Nat) (la7 : Option Addr) (lc7 : Nat) (ta : Option Addr) (tc tn : Nat) (t : List Nat) (w : World) : Prop where
  ki : KI W bp i p sa sc la lc w
  qb : PBox b7 (fun b => z ≤ b ∧ b ≠ b7) w q sa7 sc7 la7 lc7
  nt : Ns (fun b => z ≤ b ∧ b ≠ b7) w (.slice ta tn tc) (Pn.nums t)
section
variable {W w w' : World} {bp i lc b7 z lc7 tc tn sc sc7 : Nat} {p q : Pn.P} {sa la sa7 la7 ta : Option Addr} {t : List Nat}
theorem SI.below (h : SI W bp i p sa sc la lc b7 z q sa7 sc7 la7 lc7 ta tc tn t w) (hb : Below w.heap.size w w') : SI W bp i p sa sc la lc b7 z q sa7 sc7 la7 lc7 ta tc tn t w' := ⟨h.ki.below hb, h.qb.below hb, h.nt.below hb⟩
theorem below_cell {b o : Nat} {v : Value} (hb : Below w.heap.size w w') (h : w.cell? ⟨b, o, none⟩ = some v) : w'.cell? ⟨b, o, none⟩ = some v := by
  rw [(bcell hb).1 b o (block_lt_of_cell h)]
  exact h
/-- Two places that are the same. -/
theorem places_eq {A B : Nat → Prop} {a b : Pn.Pt} {u v : Value} (hab : b = a) (hu : Ns A w u a.ch) (hv : Ns B w v b.ch) (hl : a.ch.length ≤ 64) :
    Calls Tryd.prog 14 #[ptv a u, ptv b v] w fun e w' => BolOut w true e w' := by
  subst hab
  have h := places_any b b u v w hu hv hl
  rw [Pn.ptB_self] at h
  exact h
end
end Go.Proofs.YtmkinnheoejphaaDoor
