/- THE CONTRACTS OF ledger.cloned, Table. -/
import Derived.Test.YtloallndnmofnaaGreatDoorMk
import Derived.Test.YtloallndnmofnaaGreatDoorMid
namespace Go.Proofs.YtloallndnmofnaaGreatDoor
open Go.RowKit

theorem SlotsAt.below {P : Nat → Prop} {v : Value} {L : List Ld.Sl} {w w' : World} (h : SlotsAt P v L w) (hb : RowKit.Below w.heap.size w w') : SlotsAt P v L w' := by
  have h1 := h.mono (Q := fun b => P b ∧ b < w.heap.size) (fun b h1 h2 => ⟨h1, h2⟩)
  have h2 := h1.same (w' := w') fun b hb' => hb.block b hb'.2
  exact h2.mono fun b h3 _ => h3.1
/-- A table cloned: it lies in new blocks. -/
def Clond (w : World) (T : Ld.Tb) (x : Ending) (w' : World) : Prop :=
  ∃ tv tb E, x = .returned tv ∧ Own w' tv tb E ∧ tabOf E = T ∧ (∀ k, foot tb E k → w.heap.size ≤ k) ∧ RowKit.Below w.heap.size w w'
/-- .. half way: the first k producers' slots are its own. -/
structure Half (w wr : World) (tv : Value) (tb : Option Nat) (F : List En) (k : Nat) : Prop where
  row : Sl wr tv tb 46 2 F.length (F.flatMap En.cells)
  tbn : ∀ q, tb = some q → w.heap.size ≤ q
  done : ∀ j e, j < k → F[j]? = some e → En.ok wr e ∧ ∀ q, e.gb = some q → w.heap.size ≤ q ∧ tb ≠ some q
  todo : ∀ j e, k ≤ j → F[j]? = some e → e.gb = none ∧ SlotsAt (fun _ => True) e.v e.L w
  apart : F.Pairwise (fun a b => ∀ q, a.gb = some q → b.gb ≠ some q)
  below : RowKit.Below w.heap.size w wr
theorem Half.fin {w wr : World} {tv : Value} {tb : Option Nat} {F : List En} (h : Half w wr tv tb F F.length) : Clond w (tabOf F) (.returned tv) wr := by
  have hd : ∀ e ∈ F, En.ok wr e ∧ ∀ q, e.gb = some q → w.heap.size ≤ q ∧ tb ≠ some q := by
    intro e he
    obtain ⟨j, hj⟩ := List.getElem?_of_mem he
    exact h.done j e (List.getElem?_eq_some_iff.1 hj).1 hj
  refine ⟨tv, tb, F, rfl, ⟨h.row, fun e he => (hd e he).1, h.apart, fun e he k hk => ((hd e he).2 k hk).2⟩, rfl, ?_, h.below⟩
  rintro k (hk | ⟨e, he, hk⟩)
  · exact h.tbn k hk
  · exact ((hd e he).2 k hk).1
theorem Half.step {w wr w1 : World} {tv v' : Value} {tb gb' : Option Nat} {F : List En} {k g p m cap : Nat} {e : En} (h : Half w wr tv tb F k) (he : F[k]? = some e) (htv : tv = .slice (some ⟨g, p, none⟩) m cap) (htb : tb = some g)
    (hb : RowKit.Below wr.heap.size wr w1) (hs : Sl w1 v' gb' 40 3 e.L.length (e.L.flatMap three)) (hnew : ∀ q, gb' = some q → wr.heap.size ≤ q) :
    Half w (w1.setCell ⟨g, p + (k * 2 + 1), none⟩ v') tv tb (F.set k ⟨e.prod, e.L, v', gb'⟩) (k + 1) ∧ tabOf (F.set k ⟨e.prod, e.L, v', gb'⟩) = tabOf F := by
  subst htb
  have hkl := (List.getElem?_eq_some_iff.1 he).1
  have hgl : g < wr.heap.size := h.row.lt g rfl
  have hsz := h.below.size
  have hnew2 : ∀ q, gb' = some q → w.heap.size ≤ q ∧ q ≠ g := fun q hq => by have := hnew q hq; exact ⟨by omega, by omega⟩
  have hgw : w.heap.size ≤ g := h.tbn g rfl
  have hat : ∀ j x, (F.set k ⟨e.prod, e.L, v', gb'⟩)[j]? = some x → (j = k ∧ x = ⟨e.prod, e.L, v', gb'⟩) ∨ (j ≠ k ∧ F[j]? = some x) := by
    intro j x hj
    rw [List.getElem?_set] at hj
    split at hj
    · rename_i hkj
      exact .inl ⟨hkj.symm, (Option.some.inj hj).symm⟩
    · rename_i hkj
      exact .inr ⟨fun e => hkj e.symm, hj⟩
  have hlt : ∀ (j : Nat) (x : En), F[j]? = some x → ∀ q, x.gb = some q → q < wr.heap.size := by
    intro j x hj q hq
    rcases Nat.lt_or_ge j k with hjk | hjk
    · exact Sl.lt (h.done j x hjk hj).1 q hq
    · rw [(h.todo j x hjk hj).1] at hq; cases hq
  refine ⟨⟨?_, h.tbn, ?_, ?_, ?_, ?_⟩, ?_⟩
  · rw [flat_set F k he encells_len (a := .int .i64 e.prod) (b := e.v) (b' := v') rfl rfl, List.length_set]
    have hrow := h.row.below hb
    subst htv
    obtain ⟨ao, cap', hv', -, -, -⟩ := hrow.make
    have hm : m = F.length := by injection hv'
    subst hm
    exact hrow.setAny
  · intro j x hj hx
    rcases hat j x hx with ⟨rfl, rfl⟩ | ⟨hne, hx⟩
    · refine ⟨Sl.setCell hs _ _ (fun hh => ?_), fun q hq => ⟨(hnew2 q hq).1, fun hh => ?_⟩⟩
      · exact (hnew2 g hh.symm).2 rfl
      · cases hh
        exact (hnew2 g hq).2 rfl
    · obtain ⟨d1, d2⟩ := h.done j x (by omega) hx
      exact ⟨Sl.setCell (Sl.below d1 hb) _ _ (fun hh => (d2 g hh.symm).2 rfl), d2⟩
  · intro j x hj hx
    rcases hat j x hx with ⟨rfl, -⟩ | ⟨hne, hx⟩
    · omega
    · exact h.todo j x (by omega) hx
  · rw [List.pairwise_iff_getElem]
    intro j1 j2 h1 h2 hlt' q hq1 hq2
    have a1 := hat j1 _ (List.getElem?_eq_getElem h1)
    have a2 := hat j2 _ (List.getElem?_eq_getElem h2)
    rcases a1 with ⟨e1, x1⟩ | ⟨e1, x1⟩
    · rcases a2 with ⟨e2, -⟩ | ⟨e2, x2⟩
      · omega
      · rw [x1] at hq1
        have := hnew q hq1
        have := hlt j2 _ x2 q hq2
        omega
    · rcases a2 with ⟨e2, x2⟩ | ⟨e2, x2⟩
      · rw [x2] at hq2
        have := hnew q hq2
        have := hlt j1 _ x1 q hq1
        omega
      · obtain ⟨g1, g2⟩ := List.getElem?_eq_some_iff.1 x1
        obtain ⟨g3, g4⟩ := List.getElem?_eq_some_iff.1 x2
        exact List.pairwise_iff_getElem.1 h.apart j1 j2 g1 g3 hlt' q (by rw [g2]; exact hq1) (by rw [g4]; exact hq2)
  · exact (h.below.trans (hb.mono hsz)).setCell (p := ⟨g, p + (k * 2 + 1), none⟩) hgw _
  · rw [tab_set]
    show (tabOf F).set k (e.prod, e.L) = _
    have : (tabOf F)[k]? = some (e.prod, e.L) := by simp [tabOf, he]
    apply List.ext_getElem?
    intro j
    rw [List.getElem?_set]
    split
    · rename_i hkj
      subst hkj
      rw [if_pos (by rw [tab_len]; exact hkl), this]
    · rfl

set_option maxHeartbeats 4000000 in
set_option maxRecDepth 100000 in
theorem dcloned (v : Value) (T : Ld.Tb) (w : World) (h : TabAt (fun _ => True) v T w) (hl : T.length ≤ 1000) (hL : ∀ x ∈ T, x.2.length ≤ 1000) :
    Calls Tryz.prog 37 #[v] w (Clond w T) := by
  obtain ⟨F, hF, hF2, a, cap, hv, hc⟩ := tab_cells h
  have hFn : F.length = T.length := by rw [← hF, tab_len]
  obtain ⟨n, hn⟩ : ∃ n, T.length = n := ⟨_, rfl⟩
  rw [hn] at hv hFn hl
  have HC := Lib.hid (dclone_tab v F a n cap w hFn hv hc (one_cells' hF2) hl)
  have HLL : Hid (∀ x ∈ T, x.2.length ≤ 1000) := hL
  have HST : Hid (∀ (w1 : World) v' gb, Sl w1 v' gb 46 2 n (F.flatMap En.cells) → (∀ k, gb = some k → w.heap.size ≤ k) → RowKit.Below w.heap.size w w1 → ∃ F', tabOf F' = T ∧ Half w w1 v' gb F' 0) := by
    intro w1 v' gb hs hgb hb
    refine ⟨F, hF, ⟨by rw [hFn]; exact hs, hgb, fun j e hj => absurd hj (Nat.not_lt_zero _), fun j e _ hj => hF2 e (List.mem_of_getElem? hj), ?_, hb⟩⟩
    rw [List.pairwise_iff_getElem]
    intro i j hi hj _ q hq
    rw [(hF2 _ (List.getElem_mem hi)).1] at hq
    cases hq
  have HN := Lib.hid hn
  clear h hL hF hF2 hc hv hFn hn
  go_enter Tryz.func37, Tryz.ntmps37
  go_wp2_with fail
  refine HC.out.mono ?_
  rintro e w1 ⟨tv, tb, rfl, hs, hgb, hb⟩
  obtain ⟨ao, cp, hv, hcp, hp, -⟩ := hs.make
  subst hv
  have HH := Lib.hid (HST.out w1 _ tb hs hgb hb)
  have HP := Lib.hid hp
  clear hs hgb hb hp HST HC
  go_wp2_with fail
  go_loopw [8] (fun iv wr => ∃ k : Nat, k ≤ n ∧ iv = .int .i64 k ∧ ∃ F', tabOf F' = T ∧ Half w wr (.slice ao n cp) tb F' k) (fun iv _ => n - (intOf iv).toNat)
  case atStart => exact ⟨0, Nat.zero_le _, rfl, HH.out⟩
  case round =>
    obtain ⟨k, hk, rfl, F', hF', hhalf⟩ := hrel
    have hFl : F'.length = n := by rw [← HN.out, ← hF', tab_len]
    by_cases hlt : k < n
    · obtain ⟨x, hx⟩ : ∃ x, F'[k]? = some x := ⟨_, List.getElem?_eq_getElem (by omega)⟩
      obtain ⟨g, p, hao, htb⟩ := HP.out (by omega)
      subst hao
      have hsl := (hhalf.todo k x (Nat.le_refl _) hx).2
      have hxl : x.L.length ≤ 1000 := HLL.out (x.prod, x.L) (by rw [← hF']; exact List.mem_map.2 ⟨x, List.mem_of_getElem? hx, rfl⟩)
      have hgl : g < wr.heap.size := hhalf.row.lt g htb
      have c1 : wr.cell? ⟨g, p + (k * 2 + 1), none⟩ = some x.v := hhalf.row.cell rfl (k * 2 + 1) x.v (by rw [flat_at encells_len hx 1 (by decide)]; rfl)
      have f1 : wr.frozen? ⟨g, p + (k * 2 + 1), none⟩ = false := hhalf.row.frozen rfl _
      rw [← Nat.add_assoc] at c1 f1
      have HCS := Lib.hid (dclone_slots (fun _ => True) x.v x.L wr (hsl.below hhalf.below) hxl)
      have HSTEP : Hid (∀ (w1 : World) v' gb', RowKit.Below wr.heap.size wr w1 → Sl w1 v' gb' 40 3 x.L.length (x.L.flatMap three) → (∀ q, gb' = some q → wr.heap.size ≤ q) → ∃ F'', tabOf F'' = T ∧ Half w (w1.setCell ⟨g, p + k * 2 + 1, none⟩ v') (.slice (some ⟨g, p, none⟩) n cp) tb F'' (k + 1)) := by
        intro w1 v' gb' hb hs hnew
        have := hhalf.step hx rfl htb hb hs hnew
        rw [← Nat.add_assoc] at this
        exact ⟨_, this.2.trans hF', this.1⟩
      have HGL := Lib.hid hgl
      have hi0 : (0 : Int) ≤ (k : Int) := by omega
      have hi1 : (k : Int) < (n : Int) := by omega
      obtain ⟨xv, hxv⟩ : ∃ xv, x.v = xv := ⟨_, rfl⟩
      rw [hxv] at c1 HCS
      obtain ⟨q, m, hq⟩ : ∃ (q : Nat) (m : List Value), x.L.length = q ∧ x.L.flatMap three = m := ⟨_, _, rfl, rfl⟩
      rw [hq.1, hq.2] at HCS HSTEP
      clear hhalf hF' hFl hx htb hsl hxl hgl hxv hq
      go_wp2_with fail
      refine HCS.out.mono ?_
      rintro e w2 ⟨v', gb', rfl, hs, hnew, hb⟩
      have c2 := bcell6 hb c1
      have f2 := (hb.frozen (p := ⟨g, p + k * 2 + 1, none⟩) HGL.out).trans f1
      have HS2 := Lib.hid (HSTEP.out w2 v' gb' hb hs hnew)
      obtain ⟨ao', cp', hv', -, -, -⟩ := hs.make
      subst hv'
      clear hs hnew hb HSTEP HCS c1 f1
      go_wp2_with fail
      go_roundw
      case rel => exact ⟨k + 1, by omega, by go_num, HS2.out⟩
      case measure => simp [intOf]; omega
    · obtain rfl : k = n := by omega
      have HF : Hid (Clond w T (.returned (.slice ao k cp)) wr) := by
        rw [← hF']
        rw [← hFl] at hhalf ⊢
        exact hhalf.fin
      clear hhalf hF' hFl
      go_wp2_with fail
      go_ret
      exact HF.out

theorem dtable_nil (w : World) : Calls Tryz.prog 15 #[.pointer none] w fun e w' => e = .returned (.slice none 0 0) ∧ w = w' := by
  go_enter Tryz.func15, Tryz.ntmps15
  go_wp2_with fail
  go_ret
  exact ⟨rfl, rfl⟩
theorem good_short {T : Ld.Tb} (hG : Ld.goodB T = true) : T.length ≤ 1000 ∧ ∀ x ∈ T, x.2.length ≤ 1000 := by
  obtain ⟨h1, h2, -⟩ := Ld.good_iff.1 hG
  exact ⟨by omega, fun x hx => by have := (Ld.rowOk_iff.1 (h2 x hx)).2.2.1; omega⟩
set_option maxHeartbeats 1000000 in
theorem dtable (rb : Nat) (B : Nat → Prop) (T : Ld.Tb) (w : World) (h : Lgr w rb B T) (hG : Ld.goodB T = true) :
    Calls Tryz.prog 15 #[.pointer (some ⟨rb, 0, none⟩)] w (Clond w T) := by
  obtain ⟨tv, h1, h2⟩ := h.view
  have c0 := h1.cell (i := 0) rfl
  obtain ⟨g1, g2⟩ := good_short hG
  have HC := Lib.hid (dcloned tv T w h2 g1 g2)
  clear h1 h2 h g1 g2 hG
  go_enter Tryz.func15, Tryz.ntmps15
  go_wp2_with fail
  refine HC.out.mono ?_
  rintro e w1 hcl
  have HCL := Lib.hid hcl
  obtain ⟨tv', tb, E, rfl, -⟩ := hcl
  go_wp2_with fail
  go_ret
  exact HCL.out
end Go.Proofs.YtloallndnmofnaaGreatDoor
