/- THE CONTRACTS OF tape's Read, Sync, Append, Swap. -/
import Derived.Test.YtnenpcbofbcllaaNames
import Derived.Test.YtnenpcbofbcllaaBytes
import Derived.BigRegion
import Derived.RegionTactic
namespace Go.Proofs.Ytnenpcbofbcllaa
open Go.RowKit Go.Maps

theorem Of.file {t m N : Nat} {e e' : Ent} {R : List Ent} (hj : e'.j = e.j) (hjb : e'.jb = e.jb ∨ ∀ k, e'.jb = some k → N ≤ k) {b : Nat} (h : Of t m (e' :: R) b) : Of t m (e :: R) b ∨ N ≤ b := by
  rcases h with h | h | ⟨x, hx, hb⟩
  · exact .inl (.inl h)
  · exact .inl (.inr (.inl h))
  · rcases List.mem_cons.1 hx with rfl | hx
    · rcases hb with hb | hb
      · exact .inl (.inr (.inr ⟨e, by simp, .inl (by rw [hb, hj])⟩))
      · rcases hjb with h1 | h1
        · exact .inl (.inr (.inr ⟨e, by simp, .inr (by rw [← h1, hb])⟩))
        · exact .inr (h1 b hb)
    · exact .inl (.inr (.inr ⟨x, List.mem_cons_of_mem _ hx, hb⟩))
theorem Kt.of {t m : Nat} {E : List Ent} {w w' : World} (h : Kt t w w') : Moved (Of t m E) (Of t m E) w w' :=
  h.mono (fun _ e => .inl e) (fun _ h => .inl h)
theorem Tp.acted {w w' : World} {t m : Nat} {E : List Ent} {s s' : Sc} (h : Tp w t m E s) (hh : Hd w' t m s') (hk : Kt t w w') (hr : s'.room = s.room) : Tp w' t m E s' :=
  h.turn hh (fun k hlt hne => hk.block k hlt hne) hr
theorem actS_room (s : Sc) : (actS s).room = s.room := by unfold actS; split; rfl; split <;> rfl
theorem offS_room (s : Sc) : (offS s).room = s.room := by unfold offS; split <;> rfl

/-! ### Read -/
theorem read_nil (k : Key) (w : World) : Calls Try.prog 15 #[.pointer none, .string ⟨k.toArray⟩] w fun e w' => e = .returned (.tuple #[.string ⟨#[]⟩, .int .i64 2]) ∧ w = w' := by
  have HF := Lib.hid (find_nil k)
  go_enter Try.func15, Try.ntmps15
  go_wp2_with fail
  refine (HF.out _).mono ?_
  rintro e w' ⟨rfl, rfl⟩
  go_wp2_with fail
  go_ret2
  exact ⟨rfl, rfl⟩
theorem read_down (k : Key) (w : World) (t m : Nat) (s : Sc) (h : Hd w t m s) (hd : s.down = true) : Calls Try.prog 15 #[.pointer (some ⟨t, 0, none⟩), .string ⟨k.toArray⟩] w fun e w' => e = .returned (.tuple #[.string ⟨#[]⟩, .int .i64 10]) ∧ w = w' := by
  have HF := Lib.hid (find_down k w t m s h hd)
  clear h
  go_enter Try.func15, Try.ntmps15
  go_wp2_with fail
  refine HF.out.mono ?_
  rintro e w' ⟨rfl, rfl⟩
  go_wp2_with fail
  go_ret2
  exact ⟨rfl, rfl⟩
theorem read_none (k : Key) (w : World) (t m : Nat) (E : List Ent) (s : Sc) (h : Tp w t m E s) (hd : s.down = false) (hk : k.length ≤ 1048576) (hm : k ∉ E.map (·.key)) :
    Calls Try.prog 15 #[.pointer (some ⟨t, 0, none⟩), .string ⟨k.toArray⟩] w fun e w' => e = .returned (.tuple #[.string ⟨#[]⟩, .int .i64 12]) ∧ w = w' := by
  have HF := Lib.hid (find_none' k w t m E s h hd hk hm)
  clear h hk hm
  go_enter Try.func15, Try.ntmps15
  go_wp2_with fail
  refine HF.out.mono ?_
  rintro e w' ⟨rfl, rfl⟩
  go_wp2_with fail
  go_ret2
  exact ⟨rfl, rfl⟩
theorem read_some (w : World) (t m : Nat) (e : Ent) (R : List Ent) (s : Sc) (h : Tp w t m (e :: R) s) (hd : s.down = false) :
    Calls Try.prog 15 #[.pointer (some ⟨t, 0, none⟩), .string ⟨e.key.toArray⟩] w fun x w' => x = .returned (.tuple #[.string ⟨e.L.toArray⟩, .int .i64 0]) ∧ w = w' := by
  have HF := Lib.hid (find_some w t m e R s h hd)
  obtain ⟨sv, hb, hrow, -⟩ := h.files e (by simp)
  have hcv := conv_bytes hrow
  obtain ⟨ao, cap, rfl⟩ := ownsRow_make hrow
  have d0 : w.cell? ⟨e.j, 0, none⟩ = some (.slice ao e.L.length cap) := hb.cell rfl
  generalize (⟨e.L.toArray⟩ : ByteArray) = S at *
  generalize (⟨e.key.toArray⟩ : ByteArray) = K at *
  generalize e.L.length = n at *
  generalize e.j = j at *
  clear h hrow hb
  go_enter Try.func15, Try.ntmps15
  go_wp2_with fail
  refine HF.out.mono ?_
  rintro e w' ⟨rfl, rfl⟩
  go_wp2_with fail
  go_ret2
  exact ⟨rfl, rfl⟩

/-! ### Sync -/
theorem sync_none (k : Key) (w : World) (t m : Nat) (E : List Ent) (s : Sc) (h : Tp w t m E s) (hd : s.down = false) (hk : k.length ≤ 1048576) (hm : k ∉ E.map (·.key)) :
    Calls Try.prog 12 #[.pointer (some ⟨t, 0, none⟩), .string ⟨k.toArray⟩] w fun e w' => e = .returned (.int .i64 12) ∧ w = w' := by
  have HF := Lib.hid (find_none' k w t m E s h hd hk hm)
  clear h hk hm
  go_enter Try.func12, Try.ntmps12
  go_wp2_with fail
  refine HF.out.mono ?_
  rintro e w' ⟨rfl, rfl⟩
  go_wp2_with fail
  go_ret
  exact ⟨rfl, rfl⟩
/-- What an act may ask of a tape's numbers. -/
structure Small (s : Sc) : Prop where
  on : s.down = false
  acts : s.acts ≤ 1099511627776
  life : s.life ≤ 1099511627776
  armed : 0 ≤ s.armed ∧ s.armed ≤ 9223372036854775807
theorem act_of {w : World} {t m : Nat} {s : Sc} (h : Hd w t m s) (q : Small s) : Calls Try.prog 24 #[.pointer (some ⟨t, 0, none⟩)] w fun e w' => e = .returned (.int .i64 (actR s)) ∧ Hd w' t m (actS s) ∧ Kt t w w' :=
  act_any w t m s h q.on q.acts q.life q.armed.1 q.armed.2
set_option maxHeartbeats 1000000 in
theorem sync_some (w : World) (t m : Nat) (e : Ent) (R : List Ent) (s : Sc) (h : Tp w t m (e :: R) s) (q : Small s) :
    Calls Try.prog 12 #[.pointer (some ⟨t, 0, none⟩), .string ⟨e.key.toArray⟩] w fun x w' => x = .returned (.int .i64 (actR s)) ∧
      Tp w' t m ((if s.armed = 1 then e else { e with safe := e.L.length }) :: R) (actS s) ∧ Moved (Of t m (e :: R)) (Of t m (e :: R)) w w' := by
  have HF := Lib.hid (find_some w t m e R s h q.on)
  have HA := Lib.hid (act_of h.head q)
  have HT := Lib.hid h
  obtain ⟨sv, hb, hrow, hjb⟩ := h.files e (by simp)
  obtain ⟨ao, cap, rfl⟩ := ownsRow_make hrow
  have hjt : e.j ≠ t := fun e1 => h.tE ⟨e, by simp, .inl e1.symm⟩
  have HB := Lib.hid hb
  have HR := Lib.hid hrow
  have HJ := Lib.hid hjb
  have HJT := Lib.hid hjt
  have hact := actS_room s
  have HAC := Lib.hid hact
  clear h hb hrow hjb hjt q hact
  by_cases ha : s.armed = 1
  · have hr : actR s = 10 := by simp [actR, ha]
    rw [hr] at HA ⊢
    simp only [if_pos ha]
    clear ha hr
    go_enter Try.func12, Try.ntmps12
    go_wp2_with fail
    refine HF.out.mono ?_
    rintro x w' ⟨rfl, rfl⟩
    go_wp2_with fail
    refine HA.out.mono ?_
    rintro x w' ⟨rfl, h1, h2⟩
    have H1 := Lib.hid h1
    have H2 := Lib.hid h2
    clear h1 h2
    go_wp2_with fail
    go_ret
    exact ⟨rfl, HT.out.acted H1.out H2.out HAC.out, H2.out.of⟩
  · have hr : actR s = 0 := by simp [actR, ha]
    rw [hr] at HA ⊢
    simp only [if_neg ha]
    clear ha hr
    go_enter Try.func12, Try.ntmps12
    go_wp2_with fail
    refine HF.out.mono ?_
    rintro x w' ⟨rfl, rfl⟩
    go_wp2_with fail
    refine HA.out.mono ?_
    rintro x w1 ⟨rfl, h1, h2⟩
    have hb1 : Blk w1 e.j #[.slice ao e.L.length cap, .int .i64 e.safe] 55 := HB.out.same (h2.block _ HB.out.lt HJT.out)
    have d0 : w1.cell? ⟨e.j, 0, none⟩ = some (.slice ao e.L.length cap) := hb1.cell rfl
    have d1 : w1.cell? ⟨e.j, 1, none⟩ = some (.int .i64 e.safe) := hb1.cell rfl
    have g1 := hb1.free (i := 1)
    have H1 := Lib.hid h1
    have H2 := Lib.hid h2
    have HB1 := Lib.hid hb1
    clear h1 h2 hb1
    go_wp2_with fail
    go_ret
    have hT := HT.out.acted H1.out H2.out HAC.out
    refine ⟨rfl, hT.file (e' := { e with safe := e.L.length }) ?_ rfl rfl (.inl rfl) ?_ ?_ (Nat.le_refl _), H2.out.of.trans (Moved.setCell _ _ _ (.inr (.inr ⟨e, by simp, .inl rfl⟩)))⟩
    · refine ⟨_, HB1.out.set (i := 1) _, ?_, HJ.out⟩
      refine ownsRow_same HR.out fun k hk => ?_
      have hlt := (HR.out.lt k hk).2
      have hk2 : e.jb = some k := HJ.out.symm.trans hk
      rw [Below.heap_setCell _ _ _ _ (by rintro rfl; exact HT.out.self e (by simp) hk2)]
      exact H2.out.block k hlt (by rintro rfl; exact HT.out.tE ⟨e, by simp, .inr hk2⟩)
    · intro k hk hno
      exact Below.heap_setCell _ _ _ _ (by rintro rfl; exact hno (.inl rfl))
    · exact hT.fit

/-! ### Append -/
theorem Tp.grew {w w1 : World} {t m : Nat} {e : Ent} {R : List Ent} {s : Sc} {sv v' : Value} {M : List UInt8} (h : Tp w t m (e :: R) s) (hb : Blk w e.j #[sv, .int .i64 e.safe] 55) (hj : sv.ownBlock = e.jb)
    (ho : w1.ownsRow 0 5 1 v' (e.L ++ M).length (bcells (e.L ++ M))) (hg : w.grownBy w1 sv.ownBlock) (hl : v'.ownBlock = sv.ownBlock ∨ v'.ownBlock = some w.heap.size) (ht : total (e :: R) + M.length ≤ s.room) :
    Tp (w1.setCell ⟨e.j, 0, none⟩ v') t m ({ e with L := e.L ++ M, jb := v'.ownBlock } :: R) s ∧ Moved (Of t m (e :: R)) (Of t m ({ e with L := e.L ++ M, jb := v'.ownBlock } :: R)) w (w1.setCell ⟨e.j, 0, none⟩ v') := by
  have hself := h.self e (by simp)
  have hlt := hb.lt
  have hne : v'.ownBlock ≠ some e.j := by
    rcases hl with h1 | h1
    · rw [h1, hj]; exact hself
    · rw [h1]; intro e1; injection e1 with e1; omega
  have hloc : v'.ownBlock = e.jb ∨ ∀ k, v'.ownBlock = some k → w.heap.size ≤ k := by
    rcases hl with h1 | h1
    · exact .inl (h1.trans hj)
    · exact .inr fun k hk => by rw [h1] at hk; injection hk with hk; omega
  refine ⟨h.file (e' := { e with L := e.L ++ M, jb := v'.ownBlock }) ⟨v', ?_, ?_, rfl⟩ rfl rfl hloc ?_ ?_ ?_, ?_⟩
  · exact (hb.grown hg (by rw [hj]; exact fun e1 => hself e1.symm)).set (i := 0) v'
  · exact ownsRow_same ho fun k hk => Below.heap_setCell _ _ _ _ (by rintro rfl; exact hne hk)
  · intro k hk hno
    rw [Below.heap_setCell _ _ _ _ (by rintro rfl; exact hno (.inl rfl))]
    exact hg.block k hk (by rw [hj]; exact fun e1 => hno (.inr e1.symm))
  · simp only [total, List.length_append] at ht ⊢; omega
  · have := h.safe e (by simp)
    simp only [List.length_append]; omega
  · have m1 : Moved (Of t m (e :: R)) (Of t m (e :: R)) w w1 := Moved.of_grown hg (fun k hk => .inr (.inr ⟨e, by simp, .inr (hj.symm.trans hk)⟩))
    have m2 : Moved (Of t m (e :: R)) (Of t m (e :: R)) w1 (w1.setCell ⟨e.j, 0, none⟩ v') := Moved.setCell _ _ _ (.inr (.inr ⟨e, by simp, .inl rfl⟩))
    exact (m1.trans m2).mono (fun _ h => h) (fun b hb => Of.file (e := e) (e' := { e with L := e.L ++ M, jb := v'.ownBlock }) rfl hloc hb)
theorem append_nil (k : Key) (M : List UInt8) (w : World) : Calls Try.prog 11 #[.pointer none, .string ⟨k.toArray⟩, .string ⟨M.toArray⟩] w fun e w' => e = .returned (.int .i64 2) ∧ w = w' := by
  have HR := Lib.hid ready_nil
  go_enter Try.func11, Try.ntmps11
  go_wp2_with fail
  refine (HR.out _).mono ?_
  rintro e w' ⟨rfl, rfl⟩
  go_wp2_with fail
  go_ret
  exact ⟨rfl, rfl⟩
/-- A name that can't be one. -/
theorem append_bad (k : Key) (M : List UInt8) (w : World) (t m : Nat) (E : List Ent) (s : Sc) (h : Tp w t m E s) (hd : s.down = false) (hk : k.length ≤ 1048576) (hn : okName k = false) :
    Calls Try.prog 11 #[.pointer (some ⟨t, 0, none⟩), .string ⟨k.toArray⟩, .string ⟨M.toArray⟩] w fun e w' => e = .returned (.int .i64 1) ∧ w = w' := by
  have hr := ready_any w t m s h.head
  rw [show rdy s = 0 by simp [rdy, hd]] at hr
  have HR := Lib.hid hr
  have hi := isName_any k w
  rw [hn] at hi
  have HI := Lib.hid hi
  have c0 : w.cell? ⟨t, 0, none⟩ = some (.map (some m)) := Blk.cell h.head rfl
  have hm : k ∉ E.map (·.key) := by
    intro hk2
    obtain ⟨e, he, rfl⟩ := List.mem_map.1 hk2
    have := h.names e he
    simp [okName] at hn
    omega
  have hlk := h.map.look_none (k := k) (by unfold maxLen; omega) (by rw [prs_keys]; exact hm)
  clear hr h hk hn hm hi
  go_enter Try.func11, Try.ntmps11
  go_wp2_with fail
  refine HR.out.mono ?_
  rintro e w' ⟨rfl, rfl⟩
  go_wp2_with fail
  refine HI.out.mono ?_
  rintro e w' ⟨rfl, rfl⟩
  go_wp2_with fail
  go_ret
  exact ⟨rfl, rfl⟩
/-- No room: nothing changes. -/
theorem append_full (k : Key) (M : List UInt8) (w : World) (t m : Nat) (E : List Ent) (s : Sc) (h : Tp w t m E s) (hd : s.down = false) (hn : okName k = true) (hE : E.length < 256) (hM : s.room < total E + M.length) :
    Calls Try.prog 11 #[.pointer (some ⟨t, 0, none⟩), .string ⟨k.toArray⟩, .string ⟨M.toArray⟩] w fun e w' => e = .returned (.int .i64 11) ∧ Below w.heap.size w w' := by
  have hr := ready_any w t m s h.head
  rw [show rdy s = 0 by simp [rdy, hd]] at hr
  have HR := Lib.hid hr
  have hi := isName_any k w
  rw [hn] at hi
  have HI := Lib.hid hi
  have HL := Lib.hid (left_any w t m E s h)
  have c0 : w.cell? ⟨t, 0, none⟩ = some (.map (some m)) := Blk.cell h.head rfl
  have hk : k.length ≤ 32 := by simp [okName] at hn; omega
  have hlen := h.map.len
  have hlE : (prs E).length = E.length := by simp [prs]
  rw [hlE] at hlen
  have hE2 : ((E.length : Int) == 256) = false := by simp; omega
  obtain ⟨S, hS⟩ : ∃ S : ByteArray, (⟨M.toArray⟩ : ByteArray) = S := ⟨_, rfl⟩
  have hsz : S.size = M.length := by rw [← hS, size_list]
  have hgt : (s.room : Int) - (total E : Int) < (S.size : Int) := by rw [hsz]; omega
  rw [hS]
  by_cases hm : k ∈ E.map (·.key)
  · obtain ⟨e, R, rfl, hp⟩ := front hm
    have hT := h.perm hp
    have hlk := hT.map.look (k := e.key) (j := e.j) (by rw [prs_keys]; exact hT.keys) (by unfold maxLen; omega) (by simp [prs])
    clear hr h hk hn hm hi hp hT hM hE hlE hsz hS
    go_enter Try.func11, Try.ntmps11
    go_wp2_with fail
    refine HR.out.mono ?_
    rintro x w' ⟨rfl, rfl⟩
    go_wp2_with fail
    refine HI.out.mono ?_
    rintro x w' ⟨rfl, rfl⟩
    go_wp2_with fail
    refine HL.out.mono ?_
    rintro x w' ⟨rfl, hb⟩
    have HB := Lib.hid hb
    clear hb
    go_wp2_with fail
    go_ret
    exact ⟨rfl, HB.out⟩
  · have hlk := h.map.look_none (k := k) (by unfold maxLen; omega) (by rw [prs_keys]; exact hm)
    clear hr h hk hn hm hi hM hE hlE hsz hS
    go_enter Try.func11, Try.ntmps11
    go_wp2_with fail
    refine HR.out.mono ?_
    rintro x w' ⟨rfl, rfl⟩
    go_wp2_with fail
    refine HI.out.mono ?_
    rintro x w' ⟨rfl, rfl⟩
    go_wp2_with fail
    refine HL.out.mono ?_
    rintro x w' ⟨rfl, hb⟩
    have HB := Lib.hid hb
    clear hb
    go_wp2_with fail
    go_ret
    exact ⟨rfl, HB.out⟩
end Go.Proofs.Ytnenpcbofbcllaa
