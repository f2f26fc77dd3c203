/- THE CONTRACT OF change WITH lose. -/
import Derived.Test.YtmkinnheoejphaaGreatDoorPnQ
namespace Go.Proofs.YtmkinnheoejphaaGreatDoor
open Go.RowKit

theorem Mut.then_below {z : Nat} {lab : Lab} {w w1 w2 : World} (h : Mut z lab w w1) (k : Below w.heap.size w1 w2) : Mut z lab w w2 :=
  ⟨k.os.trans h.os, k.tape.trans h.tape, k.output.trans h.output, Nat.le_trans h.size k.size, fun b hb hn => (k.block b hb).trans (h.block b hb hn)⟩
/-- While change goes on: places lost to i, partitions told to j. -/
structure CgSt (w : World) (z : Nat) (lab : Lab) (v : Value) (gb : Option Nat) (L : List Pn.Pt) (n : Int) (i j : Nat) (lab' : Lab) (F : List PE) (s : Value) (gt : Option Nat) (wr : World) : Prop where
  mu : Mut z lab w wr
  labs : ∀ b, b < w.heap.size → lab' b = lab b
  row : PsE z lab' wr v gb F
  xs : F.map PE.x = (L.take i).map (Pn.lose n) ++ L.drop i
  trn : NsO w.heap.size wr s gt (Pn.nums (Pn.idx (Pn.loseB n) 0 (L.take j)))
  no : ∀ b, gt = some b → lab' b = .no
theorem set_mid {α : Type} (f : α → α) : ∀ (L : List α) (i : Nat) (x : α), L[i]? = some x → ((L.take i).map f ++ L.drop i).set i (f x) = (L.take (i + 1)).map f ++ L.drop (i + 1)
  | [], i, x, h => by simp at h
  | y :: L, 0, x, h => by simp at h; subst h; simp
  | y :: L, i + 1, x, h => by
    have := set_mid f L i x (by simpa using h)
    simp only [List.take_succ_cons, List.drop_succ_cons, List.map_cons, List.cons_append, List.set_cons_succ]
    rw [this]
theorem CgSt.lost {w wr w1 : World} {z : Nat} {lab lab' lab'' : Lab} {v s : Value} {gb gt : Option Nat} {L : List Pn.Pt} {n : Int} {i : Nat} {F F' : List PE} {x : Pn.Pt} (h : CgSt w z lab v gb L n i i lab' F s gt wr) (hx : L[i]? = some x)
    (hm : Mut z lab' wr w1) (hl : ∀ b, b < wr.heap.size → lab'' b = lab' b) (row : PsE z lab'' w1 v gb F') (hf : F'.map PE.x = (F.map PE.x).set i (Pn.lose n x)) : CgSt w z lab v gb L n (i + 1) i lab'' F' s gt w1 := by
  have hs := h.mu.size
  refine ⟨h.mu.trans hm h.labs, fun b hb => (hl b (by omega)).trans (h.labs b hb), row, ?_, ⟨h.trn.1.same fun b e => ?_, h.trn.2⟩, fun b e => ?_⟩
  · rw [hf, h.xs, set_mid (Pn.lose n) L i x hx]
  · refine hm.block b (h.trn.lt b e).2 fun _ => ?_
    rw [h.no b e]
    exact ⟨(fun e => by cases e), fun k e => by cases e⟩
  · rw [hl b (h.trn.lt b e).2]
    exact h.no b e
theorem CgSt.skip {w wr : World} {z : Nat} {lab lab' : Lab} {v s : Value} {gb gt : Option Nat} {L : List Pn.Pt} {n : Int} {i : Nat} {F : List PE} {x : Pn.Pt} (h : CgSt w z lab v gb L n (i + 1) i lab' F s gt wr) (hx : L[i]? = some x) (hf : Pn.loseB n x = false) :
    CgSt w z lab v gb L n (i + 1) (i + 1) lab' F s gt wr :=
  ⟨h.mu, h.labs, h.row, h.xs, by rw [Pn.idx_take (Pn.loseB n) hx, hf, if_neg (by decide), List.append_nil]; exact h.trn, h.no⟩
theorem CgSt.told {w wr W3 w' : World} {z : Nat} {lab lab' : Lab} {v s v' : Value} {gb gt g' : Option Nat} {L : List Pn.Pt} {n : Int} {i : Nat} {F : List PE} {x : Pn.Pt} (h : CgSt w z lab v gb L n (i + 1) i lab' F s gt wr) (hx : L[i]? = some x) (hf : Pn.loseB n x = true)
    (hb : Below wr.heap.size wr W3) (hn : NsO w.heap.size w' v' g' (Pn.nums (Pn.idx (Pn.loseB n) 0 (L.take i)) ++ [(i : Int)])) (hg : W3.grownBy w' gt) (hnew : ∀ b, g' = some b → gt = some b ∨ W3.heap.size ≤ b) :
    CgSt w z lab v gb L n (i + 1) (i + 1) (relab lab' wr.heap.size .no) F v' g' w' := by
  have hs := h.mu.size
  have hs3 := hb.size
  have hs4 := hg.size
  have hbl : Below w.heap.size wr w' := Below.appended (hb.mono hs) hg h.trn.2 (by omega)
  refine ⟨h.mu.then_below hbl, fun b hb => (relab_lt (by omega)).trans (h.labs b hb), h.row.keep fun b hl _ hr => ⟨?_, relab_lt hl⟩, h.xs, ?_, fun b e => ?_⟩
  · rw [hg.block b (by omega) (fun e => by
      have := h.no b e.symm
      rw [this] at hr
      rcases hr with hr | ⟨k, hr⟩ <;> cases hr), hb.block b hl]
  · rw [Pn.idx_take (Pn.loseB n) hx, hf, if_pos rfl]
    unfold Pn.nums at hn ⊢
    rw [List.map_append]
    exact hn
  · rcases hnew b e with e2 | e2
    · rw [relab_lt (h.trn.lt b e2).2]
      exact h.no b e2
    · exact relab_ge (by omega)
def ChgOut (w : World) (z : Nat) (lab : Lab) (v : Value) (gb : Option Nat) (L : List Pn.Pt) (n : Int) (e : Ending) (w' : World) : Prop :=
  ∃ lab' F s gt, e = .returned s ∧ CgSt w z lab v gb L n L.length L.length lab' F s gt w'
set_option maxHeartbeats 4000000 in
set_option maxRecDepth 100000 in
theorem change_lose {z : Nat} {lab : Lab} {g p m cap : Nat} {E : List PE} (n : Int) (w : World) (h : PsE z lab w (.slice (some ⟨g, p, none⟩) m cap) (some g) E) (hm : E.length = m) (hm64 : m ≤ 64) (hl : ∀ e ∈ E, e.x.ch.length ≤ 64) :
    Calls Tryz.prog 26 #[.slice (some ⟨g, p, none⟩) m cap, .int .i64 n, .func (.func 28) #[] #[]] w fun e w' => ChgOut w z lab (.slice (some ⟨g, p, none⟩) m cap) (some g) (E.map PE.x) n e w' := by
  obtain ⟨L, hL⟩ : ∃ L, E.map PE.x = L := ⟨_, rfl⟩
  have hLm : L.length = m := by rw [← hL, List.length_map]; exact hm
  have HST : Hid (CgSt w z lab (.slice (some ⟨g, p, none⟩) m cap) (some g) L n 0 0 lab E (.slice none 0 0) none w) := Lib.hid ⟨Mut.refl _ _ _, fun _ _ => rfl, h, by rw [hL]; simp, by simp only [List.take_zero]; exact NsO.nil _ _, fun b e => by cases e⟩
  have HLL : Hid (∀ x ∈ L, x.ch.length ≤ 64) := Lib.hid fun x hx => by
    rw [← hL] at hx
    obtain ⟨e, he, rfl⟩ := List.mem_map.1 hx
    exact hl e he
  have HLM := Lib.hid hLm
  rw [hL]
  clear h hm hl hL hLm
  go_enter Tryz.func26, Tryz.ntmps26
  go_wp2_with fail
  go_loopw [7, 8, 11] (fun s7 _ s11 wx => ∃ (i : Nat) (lab' : Lab) (F : List PE) (gt : Option Nat), i ≤ m ∧ s11 = .int .i64 i ∧ CgSt w z lab (.slice (some ⟨g, p, none⟩) m cap) (some g) L n i i lab' F s7 gt wx) (fun _ _ s11 _ => m - (intOf s11).toNat)
  case atStart => exact ⟨0, lab, E, none, Nat.zero_le _, rfl, HST.out⟩
  case round =>
    obtain ⟨i, lab', F, gt, hi, rfl, hst⟩ := hrel
    have HS := Lib.hid hst
    obtain ⟨aw, cw, rfl⟩ := hst.trn.ns.form
    by_cases hlt : i < m
    · obtain ⟨x, hx⟩ : ∃ x, L[i]? = some x := ⟨_, List.getElem?_eq_getElem (by rw [HLM.out]; exact hlt)⟩
      have hfl : F.length = m := by
        have := congrArg List.length hst.xs
        rw [List.length_map, List.length_append, List.length_map, List.length_take, List.length_drop, HLM.out] at this
        omega
      obtain ⟨e, he, hex⟩ : ∃ e, F[i]? = some e ∧ e.x = x := by
        obtain ⟨e, he⟩ : ∃ e, F[i]? = some e := ⟨_, List.getElem?_eq_getElem (by rw [hfl]; exact hlt)⟩
        refine ⟨e, he, ?_⟩
        have h1 : (F.map PE.x)[i]? = some e.x := by rw [List.getElem?_map, he]; rfl
        rw [hst.xs, List.getElem?_append_right (by rw [List.length_map, List.length_take]; omega), List.length_map, List.length_take, HLM.out, Nat.min_eq_left (by omega), Nat.sub_self, List.getElem?_drop, Nat.add_zero, hx] at h1
        injection h1 with h1
        exact h1.symm
      have HLA := Lib.hid (lose_any n wr hst.row hfl he (by rw [hex]; exact HLL.out x (List.mem_of_getElem? hx)))
      have HX := Lib.hid hx
      have HEX := Lib.hid hex
      have HWL : Hid ((Pn.idx (Pn.loseB n) 0 (L.take i)).length ≤ 64) := Lib.hid (Nat.le_trans (Pn.idx_len _ _ _) (by rw [List.length_take]; omega))
      have i0 : (0 : Int) ≤ (i : Int) := by omega
      have i1 : (i : Int) < (m : Int) := by omega
      clear hx he hex hst hfl
      go_wp2_with fail
      refine HLA.out.mono ?_
      rintro e1 w1 ⟨rfl, hmu, lab2, F2, hl2, hr2, hf2⟩
      rw [HEX.out] at hf2 ⊢
      have HS1 := Lib.hid (HS.out.lost HX.out hmu hl2 hr2 hf2)
      clear hmu hl2 hr2 hf2 HLA
      cases hf : Pn.loseB n x with
      | false =>
        have HS2 := Lib.hid (HS1.out.skip HX.out hf)
        clear hf
        go_wp2_with fail
        go_roundw
        case rel => exact ⟨i + 1, lab2, F2, gt, by omega, by go_num, HS2.out⟩
        case measure => simp [intOf]; omega
      | true =>
        have HF := Lib.hid hf
        obtain ⟨T, hT⟩ : ∃ T, Pn.idx (Pn.loseB n) 0 (L.take i) = T := ⟨_, rfl⟩
        have htr := HS1.out.trn
        have HT := Lib.hid hT
        rw [hT] at HWL htr ⊢
        have HTL : Hid ((Pn.nums T).length ≤ 64) := Lib.hid (by unfold Pn.nums; rw [List.length_map]; exact HWL.out)
        obtain ⟨W3, hW3⟩ : ∃ W, w1.alloc (.cells #[.int .i64 (i : Int)] 3) = W := ⟨_, rfl⟩
        have hb3 : Below w1.heap.size w1 W3 := by rw [← hW3]; exact (Below.refl _ _).alloc (Nat.le_refl _) _
        have HN : Hid (W3.cell? ⟨w1.heap.size, 0, none⟩ = some (.int .i64 (i : Int))) := Lib.hid (by rw [← hW3]; exact (Blk.new w1 #[.int .i64 (i : Int)] 3).cell rfl)
        have HB3 := Lib.hid hb3
        have HW3 := Lib.hid (Wz.below htr hb3)
        have HSZ : Hid (w.heap.size ≤ W3.heap.size) := Lib.hid (Nat.le_trans HS1.out.mu.size hb3.size)
        clear hb3 hf hT htr
        obtain ⟨tn, htn⟩ : ∃ n, (Pn.nums T).length = n := ⟨_, rfl⟩
        have HTN := Lib.hid htn
        rw [htn]
        clear htn
        go_wp2_with (at_builtin; refine wp_num infoInt Tryz.underlying32 (by rfl) _ _ (by rfl) (by rfl) (by rw [← HTN.out]; exact HW3.out) w1.heap.size 1 (i : Int) (by rfl) HN.out (by have := HTL.out; omega) HSZ.out ?_)
        intro v' g' w' hz' hg' hnew
        have HS2 := Lib.hid (HS1.out.told (v' := v') (g' := g') HX.out HF.out HB3.out (by rw [HT.out]; exact hz') hg' hnew)
        clear hz' hg' hnew
        go_wp2_with fail
        go_roundw
        case rel => exact ⟨i + 1, _, F2, g', by omega, by go_num, HS2.out⟩
        case measure => simp [intOf]; omega
    · have him : i = L.length := by rw [HLM.out]; omega
      subst him
      clear hst
      go_wp2_with fail
      go_ret
      exact ⟨lab', F, _, gt, rfl, HS.out⟩
end Go.Proofs.YtmkinnheoejphaaGreatDoor
