/- THE CONTRACT OF rise. -/
import Derived.Test.YtmkinnheoejphaaGreatDoorPnN
import Derived.Test.YtmkinnheoejphaaGreatDoorPnD2
namespace Go.Proofs.YtmkinnheoejphaaGreatDoor
open Go.RowKit

def RisOut (w : World) (z : Nat) (lab : Lab) (v : Value) (gb : Option Nat) (D : Option (List Pn.Pt)) (e : Ending) (w' : World) : Prop :=
  e = .returned (.bool D.isSome) ∧ w.grownBy w' gb ∧ ∀ qs, D = some qs → ∃ E', E'.map PE.x = qs ∧ PsE z lab w' v gb E'
structure RSt (w : World) (z : Nat) (lab : Lab) (v : Value) (gb : Option Nat) (n : Nat) (D : Option (List Pn.Pt)) (t : List Nat) (i : Nat) (F : List PE) (wr : World) : Prop where
  gr : w.grownBy wr gb
  row : PsE z lab wr v gb F
  len : F.length = n
  eq : Pn.rise (F.map PE.x) (t.drop i) = D
  low : ∀ e ∈ F, 0 ≤ e.x.ep ∧ e.x.ep ≤ 1073741824
theorem grow_trans {w w1 w2 : World} {r : Option Nat} (g1 : w.grownBy w1 r) (g2 : w1.grownBy w2 r) : w.grownBy w2 r :=
  ⟨g2.os.trans g1.os, g2.tape.trans g1.tape, g2.output.trans g1.output, Nat.le_trans g1.size g2.size, fun b hb hn => (g2.block b (Nat.lt_of_lt_of_le hb g1.size) hn).trans (g1.block b hb hn)⟩
theorem grow_set (w : World) (g o : Nat) (u : Value) : w.grownBy (w.setCell ⟨g, o, none⟩ u) (some g) :=
  ⟨rfl, rfl, rfl, by simp [World.setCell], fun b _ hn => Below.heap_setCell _ _ _ _ (fun e => hn (by rw [e]))⟩
theorem PsE.put0 {z : Nat} {lab : Lab} {w : World} {g p n cap k : Nat} {F : List PE} {e : PE} (h : PsE z lab w (.slice (some ⟨g, p, none⟩) n cap) (some g) F) (hn : F.length = n) (he : F[k]? = some e) (m : Int) :
    PsE z lab (w.setCell ⟨g, p + k * 3, none⟩ (.int .i64 m)) (.slice (some ⟨g, p, none⟩) n cap) (some g) (F.set k ⟨⟨m, e.x.ch, e.x.le⟩, e.cv⟩) := by
  subst hn
  have hkl := (List.getElem?_eq_some_iff.1 he).1
  have hk : Kb g w (w.setCell ⟨g, p + k * 3, none⟩ (.int .i64 m)) := Kb.setCell _ _
  have r3 := Sl.set h.1.1 (j := k * 3) (by omega) (.int .i64 m)
  rw [flat_put0 he m] at r3
  refine ⟨⟨by rw [List.length_set]; exact r3, h.1.2⟩, h.2.1, fun j x hx => ?_⟩
  have hch : ∀ (c : PE), F[j]? = some c → ChO z lab (w.setCell ⟨g, p + k * 3, none⟩ (.int .i64 m)) j c.cv c.x.ch := fun c hc =>
    (h.2.2 j c hc).keep fun b hl _ hb => ⟨hk.block b hl (fun e => by subst e; rw [h.2.1 b rfl] at hb; cases hb), hb⟩
  rw [List.getElem?_set] at hx
  split at hx
  · rename_i hij
    subst hij
    simp only [Option.some.injEq] at hx
    subst hx
    exact hch e he
  · exact hch x hx
theorem RSt.step {w wr : World} {z : Nat} {lab : Lab} {g p n cap i k : Nat} {D : Option (List Pn.Pt)} {t : List Nat} {F : List PE} {e : PE} (h : RSt w z lab (.slice (some ⟨g, p, none⟩) n cap) (some g) n D t i F wr)
    (ht : t[i]? = some k) (he : F[k]? = some e) (hne : e.x.ep ≠ 1073741824) (m : Int) (hm : m = e.x.ep + 1) :
    RSt w z lab (.slice (some ⟨g, p, none⟩) n cap) (some g) n D t (i + 1) (F.set k ⟨⟨m, e.x.ch, e.x.le⟩, e.cv⟩) (wr.setCell ⟨g, p + k * 3, none⟩ (.int .i64 m)) := by
  subst hm
  have hlo := h.low e (List.mem_of_getElem? he)
  refine ⟨grow_trans h.gr (grow_set _ _ _ _), h.row.put0 h.len he _, by rw [List.length_set]; exact h.len, ?_, fun x hx => ?_⟩
  · have hq := h.eq
    have hti := (List.getElem?_eq_some_iff.1 ht)
    obtain ⟨hlt, hte⟩ := hti
    rw [List.drop_eq_getElem_cons hlt, hte] at hq
    have hge : (F.map PE.x)[k]? = some e.x := by rw [List.getElem?_map, he]; rfl
    unfold Pn.rise at hq
    simp only [hge] at hq
    rw [if_neg hne] at hq
    rw [List.map_set]
    exact hq
  · rcases List.mem_or_eq_of_mem_set hx with hx | rfl
    · exact h.low x hx
    · exact ⟨by simp only; omega, by simp only; omega⟩
theorem Pn.rise_top {ps : List Pn.Pt} {t : List Nat} {i k : Nat} {x : Pn.Pt} (ht : t[i]? = some k) (hx : ps[k]? = some x) (he : x.ep = 1073741824) : Pn.rise ps (t.drop i) = none := by
  obtain ⟨hlt, hte⟩ := List.getElem?_eq_some_iff.1 ht
  rw [List.drop_eq_getElem_cons hlt, hte]
  unfold Pn.rise
  simp only [hx, if_pos he]
set_option maxHeartbeats 4000000 in
set_option maxRecDepth 100000 in
theorem rise_any {z : Nat} {lab : Lab} {gb : Option Nat} {E : List PE} (v tv : Value) (t : List Nat) (w : World) (h : PsE z lab w v gb E) (ht : Ns (fun b => gb ≠ some b) w tv (Pn.nums t)) (hl : E.length ≤ 64) (htl : t.length ≤ 64)
    (hk : ∀ k ∈ t, k < E.length) (hep : ∀ e ∈ E, 0 ≤ e.x.ep ∧ e.x.ep ≤ 1073741824) :
    Calls Tryz.prog 31 #[v, tv] w fun e w' => RisOut w z lab v gb (Pn.rise (E.map PE.x) t) e w' := by
  obtain ⟨ta, tc, rfl⟩ := ht.form
  obtain ⟨a, cap, rfl⟩ := h.1.form
  obtain ⟨n, hn⟩ : ∃ n, E.length = n := ⟨_, rfl⟩
  have htn : (Pn.nums t).length = t.length := by unfold Pn.nums; rw [List.length_map]
  obtain ⟨tn, htt⟩ : ∃ m, t.length = m := ⟨_, rfl⟩
  obtain ⟨D, hD⟩ : ∃ D, Pn.rise (E.map PE.x) t = D := ⟨_, rfl⟩
  rw [hD]
  have HST : Hid (RSt w z lab (.slice a n cap) gb n D t 0 E w) := Lib.hid ⟨World.grownBy.refl _ _, by rw [← hn]; exact h, hn, by rw [List.drop_zero]; exact hD, hep⟩
  have HT := Lib.hid ht
  have HTN := Lib.hid htn
  have HTT := Lib.hid htt
  have HK := Lib.hid hk
  have HN := Lib.hid hn
  rw [htn, htt]
  rw [hn] at hl ⊢
  rw [htt] at htl
  clear h ht hk hep hD hn htn htt
  go_enter Tryz.func31, Tryz.ntmps31
  go_wp2_with fail
  go_loopw [6, 7, 10] (fun _ _ s10 wx => ∃ (i : Nat) (F : List PE), i ≤ tn ∧ s10 = .int .i64 i ∧ RSt w z lab (.slice a n cap) gb n D t i F wx) (fun _ _ s10 _ => tn - (intOf s10).toNat)
  case atStart => exact ⟨0, E, Nat.zero_le _, rfl, HST.out⟩
  case round =>
    obtain ⟨i, F, hi, rfl, hst⟩ := hrel
    have HS := Lib.hid hst
    by_cases hlt : i < tn
    · obtain ⟨k, hk⟩ : ∃ k, t[i]? = some k := ⟨_, List.getElem?_eq_getElem (by rw [HTT.out]; exact hlt)⟩
      have hkn : k < n := by have := HK.out k (List.mem_of_getElem? hk); rw [HN.out] at this; exact this
      obtain ⟨e, he⟩ : ∃ e, F[k]? = some e := ⟨_, List.getElem?_eq_getElem (by rw [hst.len]; exact hkn)⟩
      have htw : Ns (fun b => gb ≠ some b) wr (.slice ta (Pn.nums t).length tc) (Pn.nums t) := Rds.keep HT.out hst.gr.size fun b ha hl => ⟨hst.gr.block b hl (fun e => ha e.symm), ha⟩
      obtain ⟨tb, tp, tcap, ev, -, htb, t0⟩ := htw.at (j := i) (x := (k : Int)) (by unfold Pn.nums; rw [List.getElem?_map, hk]; rfl)
      obtain rfl : ta = some ⟨tb, tp, none⟩ := by injection ev
      obtain ⟨ao', cap', ev2, -, hpos, -⟩ := Sl.make hst.row.1.1
      obtain ⟨g, p, hg1, hg2⟩ := hpos (by rw [hst.len]; omega)
      injection ev2 with e1 e2 e3
      rw [hg1] at e1
      subst e1 hg2
      obtain ⟨c0, c1, c2⟩ := pe_cells he
      have d0 : wr.cell? ⟨g, p + k * 3, none⟩ = some (.int .i64 e.x.ep) := Sl.cell hst.row.1.1 rfl _ _ c0
      have f0 : wr.frozen? ⟨g, p + k * 3, none⟩ = false := Sl.frozen hst.row.1.1 rfl _
      have hlo := hst.low e (List.mem_of_getElem? he)
      have HKI := Lib.hid hk
      have HE := Lib.hid he
      obtain ⟨⟨xe, xc, xl⟩, cv⟩ := e
      simp only at d0 hlo
      have i0 : (0 : Int) ≤ (i : Int) := by omega
      have i1 : (i : Int) < (tn : Int) := by omega
      have k0 : (0 : Int) ≤ (k : Int) := by omega
      have k1 : (k : Int) < (n : Int) := by omega
      clear hst hk he htw ev c0 c1 c2 hpos e2 e3 hg1
      by_cases hm : xe = 1073741824
      · have HD : Hid (D = none) := Lib.hid (by rw [← HS.out.eq]; exact Pn.rise_top HKI.out (by rw [List.getElem?_map, HE.out]; rfl) hm)
        subst hm
        go_wp2_with fail
        go_ret
        exact ⟨by rw [HD.out]; rfl, HS.out.gr, fun qs hq => by rw [HD.out] at hq; cases hq⟩
      · have hm2 : (xe == 1073741824) = false := by simp [hm]
        go_wp2_with fail
        go_roundw
        case rel => exact ⟨i + 1, _, by omega, by go_num, HS.out.step HKI.out HE.out hm _ (by simp only <;> omega)⟩
        case measure => simp [intOf]; omega
    · have HD : Hid (D = some (F.map PE.x)) := Lib.hid (by
        rw [← hst.eq, List.drop_of_length_le (by rw [HTT.out]; omega)]
        unfold Pn.rise
        rfl)
      clear hst
      go_wp2_with fail
      go_ret
      exact ⟨by rw [HD.out]; rfl, HS.out.gr, fun qs hq => ⟨F, by rw [HD.out] at hq; injection hq, HS.out.row⟩⟩
end Go.Proofs.YtmkinnheoejphaaGreatDoor
