/- Tables of producers: as lists, and as they lie in memory. -/
import Derived.Test.YtloallndnmofnaaGreatDoorProg
import Derived.WalkKit
import Derived.WalkSpells
import Derived.WalkLawsBesides
import Derived.Handy
import Derived.Outline
import Derived.Carry
import Derived.Lib.Hide
namespace Go.Proofs.YtloallndnmofnaaGreatDoor
open Go.RowKit

namespace Ld
/-- A slot. -/
structure Sl where
  seq : Int
  base : Int
  fin : Int
abbrev Tb := List (Int × List Sl)
def numB (n : Int) : Bool := decide (0 ≤ n ∧ n ≤ 1099511627776)
def okS (s : Sl) : Bool := numB s.seq && numB s.base && numB s.fin && decide (s.base < s.fin)
def linkB (p : Option Sl) (s : Sl) : Bool := match p with
  | none => true
  | some p => decide (s.seq = p.seq + 1) && decide (p.fin ≤ s.base)
def slotsB : List Sl → Option Sl → Bool
  | [], _ => true
  | s :: r, p => okS s && linkB p s && slotsB r (some s)
def riseB (p : Option Int) (n : Int) : Bool := match p with
  | none => true
  | some q => decide (q < n)
def rowsB : Tb → Option Int → Bool
  | [], _ => true
  | x :: r, p => numB x.1 && riseB p x.1 && decide (1 ≤ x.2.length) && decide (x.2.length ≤ 5) && slotsB x.2 none && rowsB r (some x.1)
def goodB (T : Tb) : Bool := decide (T.length ≤ 64) && rowsB T none
/-- Where a producer stands. -/
def at_ : Tb → Int → Option Nat
  | [], _ => none
  | x :: r, n => if x.1 = n then some 0 else (at_ r n).map (· + 1)
end Ld

/-- A slice of slots, in blocks of P. -/
def SlotsAt (P : Nat → Prop) (v : Value) (L : List Ld.Sl) (w : World) : Prop :=
  ∃ a cap, v = .slice a L.length cap ∧ ∀ k s, L[k]? = some s → ∃ b off, a = some ⟨b, off, none⟩ ∧ P b ∧
    w.cell? ⟨b, off + k * 3, none⟩ = some (.int .i64 s.seq) ∧ w.cell? ⟨b, off + k * 3 + 1, none⟩ = some (.int .i64 s.base) ∧ w.cell? ⟨b, off + k * 3 + 2, none⟩ = some (.int .i64 s.fin)
/-- A slice of producers. -/
def TabAt (P : Nat → Prop) (v : Value) (T : Ld.Tb) (w : World) : Prop :=
  ∃ a cap, v = .slice a T.length cap ∧ ∀ j x, T[j]? = some x → ∃ b off sv, a = some ⟨b, off, none⟩ ∧ P b ∧
    w.cell? ⟨b, off + j * 2, none⟩ = some (.int .i64 x.1) ∧ w.cell? ⟨b, off + j * 2 + 1, none⟩ = some sv ∧ SlotsAt P sv x.2 w
section
variable {P Q : Nat → Prop} {v : Value} {w w' : World}
theorem SlotsAt.same {L : List Ld.Sl} (h : SlotsAt P v L w) (hs : ∀ b, P b → w'.heap[b]? = w.heap[b]?) : SlotsAt P v L w' := by
  obtain ⟨a, cap, hv, hc⟩ := h
  refine ⟨a, cap, hv, fun k s hk => ?_⟩
  obtain ⟨b, off, ha, hb, h1, h2, h3⟩ := hc k s hk
  have e : ∀ o, w'.cell? ⟨b, o, none⟩ = w.cell? ⟨b, o, none⟩ := fun o => World.cell?_of_block (hs b hb)
  exact ⟨b, off, ha, hb, (e _).trans h1, (e _).trans h2, (e _).trans h3⟩
theorem TabAt.same {T : Ld.Tb} (h : TabAt P v T w) (hs : ∀ b, P b → w'.heap[b]? = w.heap[b]?) : TabAt P v T w' := by
  obtain ⟨a, cap, hv, hc⟩ := h
  refine ⟨a, cap, hv, fun j x hj => ?_⟩
  obtain ⟨b, off, sv, ha, hb, h1, h2, h3⟩ := hc j x hj
  have e : ∀ o, w'.cell? ⟨b, o, none⟩ = w.cell? ⟨b, o, none⟩ := fun o => World.cell?_of_block (hs b hb)
  exact ⟨b, off, sv, ha, hb, (e _).trans h1, (e _).trans h2, h3.same hs⟩
theorem SlotsAt.mono {L : List Ld.Sl} (h : SlotsAt P v L w) (hq : ∀ b, P b → b < w.heap.size → Q b) : SlotsAt Q v L w := by
  obtain ⟨a, cap, hv, hc⟩ := h
  refine ⟨a, cap, hv, fun k s hk => ?_⟩
  obtain ⟨b, off, ha, hb, h1, h2, h3⟩ := hc k s hk
  exact ⟨b, off, ha, hq b hb (World.block_lt_of_cell? w ⟨b, off + k * 3, none⟩ h1), h1, h2, h3⟩
theorem TabAt.mono {T : Ld.Tb} (h : TabAt P v T w) (hq : ∀ b, P b → b < w.heap.size → Q b) : TabAt Q v T w := by
  obtain ⟨a, cap, hv, hc⟩ := h
  refine ⟨a, cap, hv, fun j x hj => ?_⟩
  obtain ⟨b, off, sv, ha, hb, h1, h2, h3⟩ := hc j x hj
  exact ⟨b, off, sv, ha, hq b hb (World.block_lt_of_cell? w ⟨b, off + j * 2, none⟩ h1), h1, h2, h3.mono hq⟩
end
/-- .. all its blocks are of the heap. -/
theorem TabAt.below {P : Nat → Prop} {v : Value} {T : Ld.Tb} {w w' : World} (h : TabAt P v T w) (hb : RowKit.Below w.heap.size w w') : TabAt P v T w' := by
  have h1 := h.mono (Q := fun b => P b ∧ b < w.heap.size) (fun b h1 h2 => ⟨h1, h2⟩)
  have h2 := h1.same (w' := w') fun b hb' => hb.block b hb'.2
  exact h2.mono fun b h3 _ => h3.1

/-- num. -/
theorem rn_any (n : Int) (w : World) : Calls Tryz.prog 41 #[.int .i64 n] w fun e w' => e = .returned (.bool (Ld.numB n)) ∧ w = w' := by
  by_cases h0 : 0 ≤ n
  · by_cases h1 : n ≤ 1099511627776
    · go_enter Tryz.func41, Tryz.ntmps41
      go_wp2_with fail
      go_ret
      exact ⟨by simp [Ld.numB, h0, h1], rfl⟩
    · go_enter Tryz.func41, Tryz.ntmps41
      go_wp2_with fail
      go_ret
      exact ⟨by simp [Ld.numB, h1], rfl⟩
  · go_enter Tryz.func41, Tryz.ntmps41
    go_wp2_with fail
    go_ret
    exact ⟨by simp [Ld.numB]; omega, rfl⟩
theorem at_step {T : Ld.Tb} {k : Nat} {x : Int × List Ld.Sl} (h : T[k]? = some x) (n : Int) : Ld.at_ (T.drop k) n = if x.1 = n then some 0 else (Ld.at_ (T.drop (k + 1)) n).map (· + 1) := by
  have hlt := (List.getElem?_eq_some_iff.1 h).1
  have h1 := List.drop_eq_getElem_cons (l := T) (i := k) hlt
  rw [h1, (List.getElem?_eq_some_iff.1 h).2]
  rfl
def atV (o : Option Nat) : Int := match o with
  | none => -1
  | some k => k
end Go.Proofs.YtloallndnmofnaaGreatDoor
