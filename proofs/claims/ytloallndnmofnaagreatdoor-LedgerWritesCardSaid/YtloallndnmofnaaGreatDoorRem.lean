/- THE CONTRACT OF ledger.remember. -/
import Derived.Test.YtloallndnmofnaaGreatDoorMid
import Derived.Test.YtloallndnmofnaaGreatDoorSlots
import Derived.Deep.RegionHeld3
import Derived.Deep.RegionWith
import Derived.Deep.DrawnRows
namespace Go.Proofs.YtloallndnmofnaaGreatDoor
open Go.RowKit
attribute [local go_sem ↓] Go.wp_at_zero Go.wp_at_succ

/-- A call of a function that leaves the world alone, as one step of a region that draws. -/
theorem step_call_same {P : Program} {ops : Array Oper} {o : Oper} {a : Act} {w : World} {K : Act → World → Prop} {Q : Exit → Act → World → Prop} {E : Prop} (hg : o.guard = none) (f : FuncId) (fn : Func) (hfn : P.funcs[f]? = some fn) (hnm : (fn.name == "runtime.NumGoroutine") = false) (hbd : fn.body.isSome = true) (x y : Operand) (ts : Array TypeId)
    (hop : o.op = .call { callee := .value (.func f), args := #[x, y], argTypes := ts }) (u v : Value) (hx : a.eval x = u) (hy : a.eval y = v) {r : Value}
    (hc : Calls P f #[u, v] w fun e w' => e = .returned r ∧ w = w') (hK : K (a.put o.dst r) w) :
    if Region.wanted o (yielded ops a.tmps) = true then Oper.wp P o a w K Q else E := by
  have hw : Region.wanted o (yielded ops a.tmps) = true := by simp [Region.wanted, hg]
  rw [if_pos hw]
  unfold Oper.wp
  have hf : a.eval (.func f) = .func (.func f) #[] #[] := rfl
  have h1 : fn.name ≠ "runtime.NumGoroutine" := by simpa using hnm
  have h2 : fn.body ≠ none := by intro h; rw [h] at hbd; cases hbd
  simp [execOp, hop, resolve, invoke, hx, hy, hf, Deferred.ofValue, Result.andThen, Oper.upon, callFunc, hfn, h1, h2]
  refine hc.mono ?_
  rintro e w' ⟨rfl, rfl⟩
  exact hK

def newEn (n : Int) : En := ⟨n, [], .slice none 0 0, none⟩
def insEn (E : List En) (i : Nat) (n : Int) : List En := E.take i ++ newEn n :: E.drop i
theorem insEn_tab (E : List En) (i : Nat) (n : Int) : tabOf (insEn E i n) = (tabOf E).take i ++ (n, []) :: (tabOf E).drop i := by
  simp [tabOf, insEn, newEn, List.map_take, List.map_drop]
theorem insEn_at (E : List En) (i : Nat) (n : Int) (hi : i ≤ E.length) : (insEn E i n)[i]? = some (newEn n) := by
  unfold insEn
  rw [List.getElem?_append_right (by rw [List.length_take]; omega)]
  simp [Nat.min_eq_left hi]
theorem insEn_foot {tb : Option Nat} {E : List En} {i : Nat} {n : Int} {k : Nat} (h : foot tb (insEn E i n) k) : foot tb E k := by
  rcases h with h | ⟨x, hx, hk⟩
  · exact .inl h
  · unfold insEn at hx
    rcases List.mem_append.1 hx with h1 | h1
    · exact .inr ⟨x, List.mem_of_mem_take h1, hk⟩
    · rcases List.mem_cons.1 h1 with rfl | h2
      · cases hk
      · exact .inr ⟨x, List.mem_of_mem_drop h2, hk⟩
theorem Mid.ins {w w1 w2 : World} {rb : Nat} {B : Nat → Prop} {tv tv' : Value} {tb : Option Nat} {E : List En} {g i : Nat} {n : Int} (h1 : Blk w rb #[tv] 59) (h2 : Own w tv tb E) (h4 : ∀ k, foot tb E k → B k) (h5 : ¬ foot tb E rb) (hrb : B rb)
    (hb : RowKit.Below w.heap.size w w1) (hgr : w1.grownBy w2 tb) (hs : Sl w2 tv' (some g) 46 2 (E.length + 1) ((E.flatMap En.cells).take (i * 2) ++ ([.int .i64 n, .slice none 0 0] ++ (E.flatMap En.cells).drop (i * 2)))) (hnew : tb = some g ∨ w1.heap.size ≤ g) (hi : i ≤ E.length) :
    Mid w (w2.setCell ⟨rb, 0, none⟩ tv') rb B tv' g (insEn E i n) := by
  have hO := h2.below hb
  have hbl := h1.below hb
  have hrt : some rb ≠ tb := fun e => h5 (.inl e.symm)
  have hgr' : g ≠ rb := by
    rintro rfl
    rcases hnew with h | h
    · exact hrt h.symm
    · have := hbl.lt; omega
  have hfar : ∀ x ∈ E, ∀ k, x.gb = some k → k ≠ rb ∧ k ≠ g := by
    intro x hx k hk
    refine ⟨?_, ?_⟩
    · rintro rfl; exact h5 (.inr ⟨x, hx, hk⟩)
    · rintro rfl
      rcases hnew with h | h
      · exact hO.far x hx k hk h
      · have := Sl.lt (hO.ok x hx) k hk; omega
  have hmem : ∀ x ∈ insEn E i n, x = newEn n ∨ x ∈ E := by
    intro x hx
    unfold insEn at hx
    rcases List.mem_append.1 hx with h1 | h1
    · exact .inr (List.mem_of_mem_take h1)
    · rcases List.mem_cons.1 h1 with rfl | h2
      · exact .inl rfl
      · exact .inr (List.mem_of_mem_drop h2)
  refine ⟨?_, ⟨?_, ?_, ?_, ?_⟩, ?_, ?_, hrb⟩
  · exact (hbl.grown hgr hrt).set tv'
  · have e : (insEn E i n).flatMap En.cells = (E.flatMap En.cells).take (i * 2) ++ ([.int .i64 n, .slice none 0 0] ++ (E.flatMap En.cells).drop (i * 2)) := by
      rw [flat_take encells_len, flat_drop encells_len]
      simp [insEn, newEn, En.cells]
    have hl : (insEn E i n).length = E.length + 1 := by simp [insEn]; omega
    rw [e, hl]
    exact hs.setCell _ _ (fun h => hgr' (Option.some.inj h).symm)
  · intro x hx
    rcases hmem x hx with rfl | hx
    · exact ⟨rfl, .inl ⟨rfl, rfl, rfl⟩⟩
    · have h1 : Sl w2 x.v x.gb 40 3 x.L.length (x.L.flatMap three) := Sl.grown (hO.ok x hx) hgr (fun k hk => h2.far x hx k hk)
      exact h1.setCell _ _ (fun h => (hfar x hx rb h.symm).1 rfl)
  · unfold insEn
    rw [List.pairwise_append]
    refine ⟨hO.apart.sublist (List.take_sublist _ _), List.pairwise_cons.2 ⟨fun x _ k hk => (by cases hk), hO.apart.sublist (List.drop_sublist _ _)⟩, ?_⟩
    intro a ha b hb' k hk
    rcases List.mem_cons.1 hb' with rfl | hb'
    · intro h; cases h
    · have hp : (E.take i ++ E.drop i).Pairwise (fun a b => ∀ k, a.gb = some k → b.gb ≠ some k) := by rw [List.take_append_drop]; exact hO.apart
      exact (List.pairwise_append.1 hp).2.2 a ha b hb' k hk
  · intro x hx k hk hkg
    rcases hmem x hx with rfl | hx
    · cases hk
    · exact (hfar x hx k hk).2 (Option.some.inj hkg).symm
  · intro hf
    rcases hf with h | ⟨x, hx, hk⟩
    · exact hgr' (Option.some.inj h)
    · rcases hmem x hx with rfl | hx
      · cases hk
      · exact (hfar x hx rb hk).1 rfl
  · refine ⟨hgr.os.trans hb.os, hgr.tape.trans hb.tape, hgr.output.trans hb.output, ?_, fun k hk hn => ?_, fun k hk => ?_⟩
    · have := hb.size
      have := hgr.size
      simp [World.setCell]
      omega
    · have hkr : k ≠ rb := fun e => hn (e ▸ hrb)
      have hkt : some k ≠ tb := fun e => hn (h4 k (.inl e.symm))
      rw [Below.heap_setCell _ _ _ _ hkr, hgr.block k (by have := hb.size; omega) hkt, hb.block k hk]
    · rcases hk with rfl | hk
      · exact .inl hrb
      · rcases hk with h | ⟨x, hx, hk⟩
        · rcases hnew with h' | h'
          · exact .inl (h4 k (.inl (by rw [h', h])))
          · have := hb.size
            have e : g = k := Option.some.inj h
            exact .inr (by omega)
        · rcases hmem x hx with rfl | hx
          · cases hk
          · exact .inl (h4 k (.inr ⟨x, hx, hk⟩))
theorem drop5 (L : List Ld.Sl) (x : Ld.Sl) (h : L.length ≤ 5) : Ld.last5 (L ++ [x]) = if L.length = 5 then (L ++ [x]).drop 1 else L ++ [x] := by
  unfold Ld.last5
  rw [List.length_append, List.length_cons, List.length_nil]
  split
  · rename_i h5; rw [h5]
  · rw [show L.length + (0 + 1) - 5 = 0 by omega]; rfl
theorem flat_snoc (L : List Ld.Sl) (x : Ld.Sl) : (L ++ [x]).flatMap three = L.flatMap three ++ three x := by simp
/-- What ending hands back of a slice of k + 1. -/
def endD (k : Nat) : Nat := if k = 5 then 1 else 0
def endV (b p k cap : Nat) : Value := .slice (some ⟨b, p + endD k * 3, none⟩) (k + 1 - endD k) (cap - endD k)
theorem dending5 (b p k cap : Nat) (w : World) (hc : k + 1 ≤ cap) (hk : k ≤ 5) : Calls Tryz.prog 33 #[.slice (some ⟨b, p, none⟩) (k + 1) cap, .int .i64 5] w fun e w' => e = .returned (.slice (some ⟨b, p + endD k * 3, none⟩) (k + 1 - endD k) (cap - endD k)) ∧ w = w' := by
  unfold endD
  by_cases h : k = 5
  · subst h
    exact dending_cut b p 6 cap 5 w (by omega) (by omega) hc (by omega)
  · rw [if_neg h]
    simp only [Nat.zero_mul, Nat.add_zero, Nat.sub_zero]
    exact dending_all b p (k + 1) cap 5 w (by omega) hc (by omega)
theorem endV_sl {w : World} {b p k cap : Nat} {gb : Option Nat} {L : List Ld.Sl} {x : Ld.Sl} (h : Sl w (.slice (some ⟨b, p, none⟩) (k + 1) cap) gb 40 3 (k + 1) (L.flatMap three ++ three x)) (hL : L.length = k) (hk : k ≤ 5) :
    Sl w (endV b p k cap) gb 40 3 (Ld.last5 (L ++ [x])).length ((Ld.last5 (L ++ [x])).flatMap three) := by
  rw [← flat_snoc] at h
  rw [drop5 L x (by omega), hL]
  unfold endV endD
  have hl : (L ++ [x]).length = k + 1 := by simp [hL]
  split
  · rename_i h5
    subst h5
    have := h.cut (d := 1) (m := 5) rfl
    rw [flat_drop three_len] at this
    rw [List.length_drop, hl]
    exact this
  · rw [hl]
    simp only [Nat.zero_mul, Nat.add_zero, Nat.sub_zero]
    exact h

theorem sl_cap {w : World} {g p n cap e size : Nat} {gb : Option Nat} {xs : List Value} (h : Sl w (.slice (some ⟨g, p, none⟩) n cap) gb e size n xs) : n ≤ cap := by
  obtain ⟨ao, cap', hv, hnc, -, -⟩ := h.make
  cases hv
  exact hnc
/-- What remember leaves: a ledger of T', nothing else turned. -/
def Remd (w : World) (rb : Nat) (B : Nat → Prop) (T' : Ld.Tb) (e : Ending) (w' : World) : Prop := e = .returned (.int .i64 0) ∧ ∃ B', Lgr w' rb B' T' ∧ Moved B B' w w'

theorem one_three1 (s : Ld.Sl) : ∀ u ∈ three s, u.oneCell' = true := by
  intro u hu
  simp only [three, List.mem_cons, List.not_mem_nil, or_false] at hu
  rcases hu with rfl | rfl | rfl <;> rfl
end Go.Proofs.YtloallndnmofnaaGreatDoor
