/- THE CONTRACTS OF the laws' batch, ledger.New, slices.Clone at producers and at slots, cloned, Table. -/
import Derived.Test.YtloallndnmofnaaGreatDoorOwn
import Derived.Test.YtloallndnmofnaaGreatDoorSlots
import Derived.Laws.AppendOwnNone
import Derived.Deep.AppendSrc
import Derived.Lib.SliceRun
import Derived.Lib.AppendZeros
import Derived.Test.YtloallndnmofnaaGreatDoorIns
namespace Go.Proofs.YtloallndnmofnaaGreatDoor
open Go.RowKit

theorem undBt : (Tryz.prog.underlying 37).map (fun d => match d with | .struct _ | .array _ _ => true | _ => false) = some true := by kernel_rfl
theorem sizeBt : (Tryz.prog.info? 37).map (·.size) = some 6 := by kernel_rfl
theorem load_batch {W : World} {rb : Nat} {a0 a1 a2 a3 a4 a5 : Value} (hb : Blk W rb #[a0, a1, a2, a3, a4, a5] 37) : (loadVar 37 ⟨rb, 0, none⟩).run Tryz.prog W = .ok (.agg #[a0, a1, a2, a3, a4, a5]) W := by
  obtain ⟨d, hd, hs⟩ : ∃ d, Tryz.prog.underlying 37 = some d ∧ (match d with | .struct _ | .array _ _ => true | _ => false) = true := by
    have h := undBt
    cases hd : Tryz.prog.underlying 37 with
    | none => rw [hd] at h; cases h
    | some d => rw [hd] at h; exact ⟨d, rfl, Option.some.inj h⟩
  exact run_loadVar_row (P := Tryz.prog) W rb 37 37 #[a0, a1, a2, a3, a4, a5] (0, 0) d hb hd (by cases d <;> exact hs) sizeBt
theorem batch_ret {W : World} {rb : Nat} {a0 a1 a2 a3 a4 a5 : Value} {tmps : Array Value} (hb : Blk W rb #[a0, a1, a2, a3, a4, a5] 37) (h2 : tmps.getD 6 undef = .pointer (some ⟨rb, 0, none⟩)) :
    (results Tryz.f13 tmps).run Tryz.prog W = .ok (.agg #[a0, a1, a2, a3, a4, a5]) W := by
  have hl := load_batch hb
  simp only [results, Tryz.results13]
  rw [Array.getD_eq_getD_getElem?] at h2
  simp [asAddr, hl, h2]
/-- The batch of one record. -/
def oneRc (base : Int) : Pl.Rc := ⟨base, [], [], false⟩
def Batched (w : World) (prod seq base : Int) (e : Ending) (w' : World) : Prop :=
  ∃ g, e = .returned (.agg #[.int .i64 base, .int .i64 1, .int .i64 prod, .int .i64 seq, .int .i64 0, .slice (some ⟨g, 0, none⟩) 1 1]) ∧ Recs (.slice (some ⟨g, 0, none⟩) 1 1) [oneRc base] w' ∧ RowKit.Below w.heap.size w w'
theorem recs_one {W : World} {g : Nat} {base : Int} (hb : Blk W g #[.int .i64 base, .string ⟨#[]⟩, .string ⟨#[]⟩, .bool false] 65) : Recs (.slice (some ⟨g, 0, none⟩) 1 1) [oneRc base] W :=
  ⟨_, _, rfl, fun j x hj => by
    match j, hj with
    | 0, hj =>
      obtain rfl := Option.some.inj hj
      exact ⟨_, _, rfl, hb.lt, hb.cell (i := 0) rfl, hb.cell (i := 1) rfl, hb.cell (i := 2) rfl, hb.cell (i := 3) rfl⟩
    | j + 1, hj => simp at hj⟩
set_option maxHeartbeats 1000000 in
theorem dbatch (prod seq base : Int) (w : World) : Calls Tryz.prog 13 #[.int .i64 prod, .int .i64 seq, .int .i64 base] w (Batched w prod seq base) := by
  have hs : (w.alloc (.cells #[.int .i64 base, .int .i64 1, .int .i64 prod, .int .i64 seq, .int .i64 0, .slice (some ⟨w.heap.size + 1, 0, none⟩) 1 1] 37)).heap.size = w.heap.size + 1 := by simp
  have hb1 := Blk.new w #[.int .i64 base, .int .i64 1, .int .i64 prod, .int .i64 seq, .int .i64 0, .slice (some ⟨w.heap.size + 1, 0, none⟩) 1 1] 37
  have hb2 := Blk.new (w.alloc (.cells #[.int .i64 base, .int .i64 1, .int .i64 prod, .int .i64 seq, .int .i64 0, .slice (some ⟨w.heap.size + 1, 0, none⟩) 1 1] 37)) #[.int .i64 base, .string ⟨#[]⟩, .string ⟨#[]⟩, .bool false] 65
  rw [hs] at hb2
  have H1 := Lib.hid (hb1.alloc (.cells #[.int .i64 base, .string ⟨#[]⟩, .string ⟨#[]⟩, .bool false] 65))
  have H2 := Lib.hid (recs_one hb2)
  clear hb1 hb2 hs
  go_enter Tryz.func13, Tryz.ntmps13
  go_wp2_with fail
  exact bodyPost_ret (batch_ret H1.out rfl) rfl ⟨w.heap.size + 1, rfl, H2.out, ((Below.refl _ _).alloc (Nat.le_refl _) _).alloc (by simp) _⟩
theorem dnew (w : World) : Calls Tryz.prog 11 #[] w fun e w' => e = .returned (.pointer (some ⟨w.heap.size, 0, none⟩)) ∧ Lgr w' w.heap.size (fun k => k = w.heap.size) [] ∧ RowKit.Below w.heap.size w w' := by
  have hal : RowKit.Below w.heap.size w (w.alloc (.cells #[.slice none 0 0] 59)) := (Below.refl _ _).alloc (Nat.le_refl _) _
  have HL : Hid (Lgr (w.alloc (.cells #[.slice none 0 0] 59)) w.heap.size (fun k => k = w.heap.size) []) := by
    refine ⟨⟨_, none, [], Blk.new w _ _, Own.nil _, rfl, ?_, ?_⟩, rfl, fun k hk => by simp; omega⟩
    · rintro k (h | ⟨_, h, -⟩)
      · cases h
      · cases h
    · rintro (h | ⟨_, h, -⟩)
      · cases h
      · cases h
  have HAL := Lib.hid hal
  clear hal
  go_enter Tryz.func11, Tryz.ntmps11
  go_wp2_with fail
  go_ret
  exact ⟨rfl, HL.out, HAL.out⟩

/-- A slice of its own: the cells xs, all in new blocks. -/
def Clon (w : World) (e size n : Nat) (xs : List Value) (x : Ending) (w' : World) : Prop :=
  ∃ v gb, x = .returned v ∧ Sl w' v gb e size n xs ∧ (∀ k, gb = some k → w.heap.size ≤ k) ∧ RowKit.Below w.heap.size w w'
theorem Sl.empty (w : World) (e size : Nat) : Sl (w.alloc (.cells #[] e)) (.slice (some ⟨w.heap.size, 0, none⟩) 0 0) (some w.heap.size) e size 0 [] :=
  ⟨by simp, .inr ⟨w.heap.size, 0, 0, #[], rfl, rfl, heap_alloc_new w _, Nat.le_refl _, by simp, by simp⟩⟩
theorem run_append_nothing {P : Program} (w : World) (t ty e : TypeId) (i : TypeInfo) (ht : P.underlying t = some (.slice e)) (hi : P.info? e = some i) (g : Nat) (hg : w.heap[g]? = some (.cells #[] e (0, 0))) (a : Addr) (c : Nat) :
    (Builtin.append_ #[t, t] ty #[.slice (some ⟨g, 0, none⟩) 0 0, .slice (some a) 0 c]).run P w = .ok (.slice (some ⟨g, 0, none⟩) 0 0) w := by
  have := run_append_room_at (P := P) w t ty e i ht hi g 0 0 0 #[] hg a 0 c [] (by simp) (fun j u h => by simp at h) (fun u h => by simp at h) (by omega) (by simp)
  rw [this]
  simp only [Nat.zero_add, Nat.zero_mul, List.take_zero, List.append_nil, List.length_nil, List.drop_zero]
  congr 1
  exact setRow_self w g #[] e (0, 0) hg

set_option maxHeartbeats 1000000 in
theorem dclone_slots (P : Nat → Prop) (v : Value) (L : List Ld.Sl) (w : World) (h : SlotsAt P v L w) (hl : L.length ≤ 1000) :
    Calls Tryz.prog 54 #[v] w (Clon w 40 3 L.length (L.flatMap three)) := by
  obtain ⟨a, cap, rfl, hc⟩ := h
  obtain ⟨i0, hi, hz0, hz1, hz2⟩ := infoSlot
  obtain ⟨n, hn⟩ : ∃ n, L.length = n := ⟨_, rfl⟩
  have heq := Lib.run_eql_slice_nil (P := Tryz.prog) w 44 40 a n cap 0 0 Tryz.underlying44
  rw [hn] at hl ⊢
  cases a with
  | none =>
    have hL : L = [] := by
      cases L with
      | nil => rfl
      | cons x r => obtain ⟨b, off, hh, -⟩ := hc 0 x rfl; cases hh
    subst hL
    obtain rfl : n = 0 := hn.symm
    clear hc
    go_enter Tryz.func54, Tryz.ntmps54
    go_wp2_with fail
    go_ret
    exact ⟨_, none, rfl, ⟨rfl, .inl ⟨rfl, rfl, rfl⟩⟩, fun k h => (by cases h), Below.refl _ _⟩
  | some ad =>
    have hal : RowKit.Below w.heap.size w (w.alloc (.cells #[] 40)) := (Below.refl _ _).alloc (Nat.le_refl _) _
    have HE := Lib.hid (Sl.empty w 40 3)
    by_cases h0 : n = 0
    · subst h0
      have hL : L = [] := List.eq_nil_of_length_eq_zero hn
      subst hL
      have hg : (w.alloc (.cells #[] 40)).heap[w.heap.size]? = some (.cells #[] 40 (0, 0)) := heap_alloc_new w _
      have HR := Lib.hid (fun ty => run_append_nothing (P := Tryz.prog) _ 44 ty 40 i0 Tryz.underlying44 hi w.heap.size hg ad cap)
      have HAL := Lib.hid hal
      clear hc hg hal
      go_enter Tryz.func54, Tryz.ntmps54
      go_wp2_with (at_builtin; refine Lib.wpList_append_run _ rfl _ _ _ _ rfl _ _ rfl rfl _ _ (HR.out _) ?_)
      go_ret
      exact ⟨_, _, rfl, HE.out, fun k h => (by cases h; exact Nat.le_refl _), HAL.out⟩
    · obtain ⟨b, off, had, -⟩ := hc 0 _ (List.getElem?_eq_getElem (by omega))
      cases had
      have hxl : (L.flatMap three).length = n * 3 := by rw [flat_len three_len, hn]
      have hblt : b < w.heap.size := by
        obtain ⟨b', off', had, -, c0, -⟩ := hc 0 _ (List.getElem?_eq_getElem (by omega))
        cases had
        exact World.block_lt_of_cell? w _ c0
      have HNEWS : Hid (∀ j u, (L.flatMap three)[j]? = some u → World.cell? (w.alloc (.cells #[] 40)) (Addr.add ⟨b, off, none⟩ j) = some u) := by
        intro j u hj
        have hjl := (List.getElem?_eq_some_iff.1 hj).1
        rw [hxl] at hjl
        obtain ⟨s, hs⟩ : ∃ s, L[j / 3]? = some s := ⟨_, List.getElem?_eq_getElem (by omega)⟩
        have hm := Nat.div_add_mod j 3
        have hlt := Nat.mod_lt j (show 3 > 0 by omega)
        have e := flat_at three_len hs (j % 3) hlt
        rw [Nat.mul_comm, hm, hj] at e
        obtain ⟨b', off', had, -, c0, c1, c2⟩ := hc (j / 3) s hs
        cases had
        rw [Addr.add_lit]
        refine (World.cell?_of_block (Below.heap_alloc _ _ _ hblt)).trans ?_
        obtain ⟨q, hq⟩ : ∃ q, j % 3 = q := ⟨_, rfl⟩
        rw [hq] at e hlt hm
        have hj' : j = j / 3 * 3 + q := by omega
        rw [hj']
        match q, hlt, e with
        | 0, _, e => cases e; exact c0
        | 1, _, e => cases e; exact c1
        | 2, _, e => cases e; exact c2
      have HONE := Lib.hid (one_three L)
      have HAL := Lib.hid hal
      have HXL := Lib.hid hxl
      have HBY : Hid ((0 + n) * 24 ≤ 140737488355328) := by show _ ≤ _; omega
      have H63 : Hid (0 + n ≤ 9223372036854775807) := by show _ ≤ _; omega
      have H0 : Hid (0 < n) := by show _ < _; omega
      clear hc hal hxl
      go_enter Tryz.func54, Tryz.ntmps54
      go_wp2_with (at_builtin; refine wpList_append_sl _ (by rfl) _ _ _ (by rfl) 40 i0 (.agg #[.int .i64 0, .int .i64 0, .int .i64 0]) 3 24 Tryz.underlying44 hi hz0 hz1 hz2 rfl (.slice (some ⟨w.heap.size, 0, none⟩) 0 0) (some w.heap.size) 0 [] (by rfl) HE.out ⟨b, off, none⟩ n cap (L.flatMap three) (by rfl) HXL.out HNEWS.out HONE.out H0.out HBY.out H63.out ?_)
      intro g p cap1 w9 gb' hown hgrow hgb hnew
      have HF : Hid (Clon w 40 3 n (L.flatMap three) (.returned (.slice (some ⟨g, p, none⟩) n cap1)) w9) := by
        refine ⟨_, gb', rfl, hown, ?_, ?_⟩
        · intro k hk
          rw [hgb] at hk
          cases hk
          rcases hnew with h | h
          · rw [hgb] at h; cases h; exact Nat.le_refl _
          · have := HAL.out.size; omega
        · refine HAL.out.trans ⟨hgrow.os, hgrow.tape, hgrow.output, hgrow.size, fun k hk => hgrow.block k (by have := HAL.out.size; omega) (fun e => ?_)⟩
          cases e
          exact absurd hk (Nat.lt_irrefl _)
      clear hown hgrow hgb hnew
      go_wp2_with fail
      go_ret
      exact HF.out

/-- What a table's cells are: each producer's number and his slots' slice. -/
theorem tab_cells {P : Nat → Prop} {v : Value} {T : Ld.Tb} {w : World} (h : TabAt P v T w) : ∃ F : List En, tabOf F = T ∧ (∀ e ∈ F, e.gb = none ∧ SlotsAt P e.v e.L w) ∧ ∃ a cap, v = .slice a T.length cap ∧ ∀ j u, (F.flatMap En.cells)[j]? = some u → ∃ b off, a = some ⟨b, off, none⟩ ∧ b < w.heap.size ∧ w.cell? ⟨b, off + j, none⟩ = some u := by
  obtain ⟨a, cap, hv, hc⟩ := h
  have key : ∀ k, k ≤ T.length → ∃ F : List En, tabOf F = T.take k ∧ (∀ e ∈ F, e.gb = none ∧ SlotsAt P e.v e.L w) ∧ ∀ j u, (F.flatMap En.cells)[j]? = some u → ∃ b off, a = some ⟨b, off, none⟩ ∧ b < w.heap.size ∧ w.cell? ⟨b, off + j, none⟩ = some u := by
    intro k
    induction k with
    | zero => intro _; exact ⟨[], by simp [tabOf], (fun e h => by cases h), fun j u h => by simp at h⟩
    | succ k ih =>
      intro hk
      obtain ⟨F, h1, h2, h3⟩ := ih (by omega)
      obtain ⟨x, hx⟩ : ∃ x, T[k]? = some x := ⟨_, List.getElem?_eq_getElem (by omega)⟩
      obtain ⟨b, off, sv, rfl, -, c0, c1, hs⟩ := hc k x hx
      have hFl : F.length = k := by
        have := congrArg List.length h1
        rw [tab_len, List.length_take] at this
        omega
      refine ⟨F ++ [⟨x.1, x.2, sv, none⟩], ?_, ?_, ?_⟩
      · rw [List.take_add_one, hx, ← h1]
        simp [tabOf]
      · intro e he
        rcases List.mem_append.1 he with he | he
        · exact h2 e he
        · rw [List.mem_singleton.1 he]
          exact ⟨rfl, hs⟩
      · intro j u hj
        rw [List.flatMap_append] at hj
        have hfl : (F.flatMap En.cells).length = k * 2 := by rw [flat_len encells_len, hFl]
        rcases Nat.lt_or_ge j (k * 2) with hlt | hge
        · rw [List.getElem?_append_left (by omega)] at hj
          exact h3 j u hj
        · rw [List.getElem?_append_right (by omega), hfl] at hj
          obtain ⟨q, hq⟩ : ∃ q, j = k * 2 + q := ⟨j - k * 2, by omega⟩
          subst hq
          rw [Nat.add_sub_cancel_left] at hj
          refine ⟨b, off, rfl, World.block_lt_of_cell? w _ c0, ?_⟩
          rw [← Nat.add_assoc]
          match q, hj with
          | 0, hj => cases hj; exact c0
          | 1, hj => cases hj; exact c1
          | q + 2, hj => simp [En.cells] at hj
  obtain ⟨F, h1, h2, h3⟩ := key T.length (Nat.le_refl _)
  exact ⟨F, by rw [h1, List.take_length], h2, a, cap, hv, h3⟩
theorem one_cells' {P : Nat → Prop} {w : World} {F : List En} (h : ∀ e ∈ F, e.gb = none ∧ SlotsAt P e.v e.L w) : ∀ u ∈ F.flatMap En.cells, u.oneCell' = true := by
  intro u hu
  obtain ⟨e, he, hs⟩ := List.mem_flatMap.1 hu
  simp only [En.cells, List.mem_cons, List.not_mem_nil, or_false] at hs
  rcases hs with rfl | rfl
  · rfl
  · obtain ⟨a, cap, hv, -⟩ := (h e he).2
    rw [hv]; rfl

set_option maxHeartbeats 1000000 in
theorem dclone_tab (v : Value) (F : List En) (a : Option Addr) (n cap : Nat) (w : World) (hn : F.length = n) (hv : v = .slice a n cap) (hc : ∀ j u, (F.flatMap En.cells)[j]? = some u → ∃ b off, a = some ⟨b, off, none⟩ ∧ b < w.heap.size ∧ w.cell? ⟨b, off + j, none⟩ = some u) (h1 : ∀ u ∈ F.flatMap En.cells, u.oneCell' = true) (hl : n ≤ 1000) :
    Calls Tryz.prog 53 #[v] w (Clon w 46 2 n (F.flatMap En.cells)) := by
  subst hv
  obtain ⟨i0, hi, hz0, hz1, hz2⟩ := infoSeen
  have heq := Lib.run_eql_slice_nil (P := Tryz.prog) w 22 46 a n cap 0 0 Tryz.underlying22
  cases a with
  | none =>
    have hL : F = [] := by
      cases F with
      | nil => rfl
      | cons x r => obtain ⟨b, off, hh, -⟩ := hc 0 (.int .i64 x.prod) rfl; cases hh
    subst hL
    obtain rfl : n = 0 := hn.symm
    clear hc
    go_enter Tryz.func53, Tryz.ntmps53
    go_wp2_with fail
    go_ret
    exact ⟨_, none, rfl, ⟨rfl, .inl ⟨rfl, rfl, rfl⟩⟩, fun k h => (by cases h), Below.refl _ _⟩
  | some ad =>
    have hal : RowKit.Below w.heap.size w (w.alloc (.cells #[] 46)) := (Below.refl _ _).alloc (Nat.le_refl _) _
    have HE := Lib.hid (Sl.empty w 46 2)
    by_cases h0 : n = 0
    · subst h0
      have hL : F = [] := List.eq_nil_of_length_eq_zero hn
      subst hL
      have hg : (w.alloc (.cells #[] 46)).heap[w.heap.size]? = some (.cells #[] 46 (0, 0)) := heap_alloc_new w _
      have HR := Lib.hid (fun ty => run_append_nothing (P := Tryz.prog) _ 22 ty 46 i0 Tryz.underlying22 hi w.heap.size hg ad cap)
      have HAL := Lib.hid hal
      clear hc hg hal
      go_enter Tryz.func53, Tryz.ntmps53
      go_wp2_with (at_builtin; refine Lib.wpList_append_run _ rfl _ _ _ _ rfl _ _ rfl rfl _ _ (HR.out _) ?_)
      go_ret
      exact ⟨_, _, rfl, HE.out, fun k h => (by cases h; exact Nat.le_refl _), HAL.out⟩
    · obtain ⟨x, hx⟩ : ∃ x, F[0]? = some x := ⟨_, List.getElem?_eq_getElem (by omega)⟩
      obtain ⟨b, off, had, hblt, -⟩ := hc 0 (.int .i64 x.prod) (by have := flat_at encells_len hx 0 (by decide); simpa [En.cells] using this)
      cases had
      have hxl : (F.flatMap En.cells).length = n * 2 := by rw [flat_len encells_len, hn]
      have HNEWS : Hid (∀ j u, (F.flatMap En.cells)[j]? = some u → World.cell? (w.alloc (.cells #[] 46)) (Addr.add ⟨b, off, none⟩ j) = some u) := by
        intro j u hj
        obtain ⟨b', off', had, -, c⟩ := hc j u hj
        cases had
        rw [Addr.add_lit]
        exact (World.cell?_of_block (Below.heap_alloc _ _ _ hblt)).trans c
      have HONE := Lib.hid h1
      have HAL := Lib.hid hal
      have HXL := Lib.hid hxl
      have HBY : Hid ((0 + n) * 32 ≤ 140737488355328) := by show _ ≤ _; omega
      have H63 : Hid (0 + n ≤ 9223372036854775807) := by show _ ≤ _; omega
      have H0 : Hid (0 < n) := by show _ < _; omega
      clear hc hal hxl hx h1
      go_enter Tryz.func53, Tryz.ntmps53
      go_wp2_with (at_builtin; refine wpList_append_sl _ (by rfl) _ _ _ (by rfl) 46 i0 (.agg #[.int .i64 0, .slice none 0 0]) 2 32 Tryz.underlying22 hi hz0 hz1 hz2 rfl (.slice (some ⟨w.heap.size, 0, none⟩) 0 0) (some w.heap.size) 0 [] (by rfl) HE.out ⟨b, off, none⟩ n cap (F.flatMap En.cells) (by rfl) HXL.out HNEWS.out HONE.out H0.out HBY.out H63.out ?_)
      intro g p cap1 w9 gb' hown hgrow hgb hnew
      have HF : Hid (Clon w 46 2 n (F.flatMap En.cells) (.returned (.slice (some ⟨g, p, none⟩) n cap1)) w9) := by
        refine ⟨_, gb', rfl, hown, ?_, ?_⟩
        · intro k hk
          rw [hgb] at hk
          cases hk
          rcases hnew with h | h
          · rw [hgb] at h; cases h; exact Nat.le_refl _
          · have := HAL.out.size; omega
        · refine HAL.out.trans ⟨hgrow.os, hgrow.tape, hgrow.output, hgrow.size, fun k hk => hgrow.block k (by have := HAL.out.size; omega) (fun e => ?_)⟩
          cases e
          exact absurd hk (Nat.lt_irrefl _)
      clear hown hgrow hgb hnew
      go_wp2_with fail
      go_ret
      exact HF.out
end Go.Proofs.YtloallndnmofnaaGreatDoor
