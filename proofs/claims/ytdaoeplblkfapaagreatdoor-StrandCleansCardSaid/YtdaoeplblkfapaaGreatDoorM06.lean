import Derived.Test.YtdaoeplblkfapaaGreatDoorM05
import Derived.BigRegion
import Derived.RegionTactic
import Derived.BigQuiet
import Derived.StillTail
import Derived.Deep.Quiet
import Derived.Lib.QuietBelow

/- THE CONTRACTS OF tape's Read, Sync, Append, Swap. -/
namespace Go.Proofs.YtdaoeplblkfapaaGreatDoor.Ta
open Go.RowKit Go.Maps

theorem Of.file {t m N : Nat} {e e' : Ent} {R : List Ent} (hj : e'.j = e.j) (hjb : e'.jb = e.jb ∨ ∀ k, e'.jb = some k → N ≤ k) {b : Nat} (h : Of t m (e' :: R) b) : Of t m (e :: R) b ∨ N ≤ b := by
  rcases h with h | h | ⟨x, hx, hb⟩
  · exact .inl (.inl h)
  · exact .inl (.inr (.inl h))
  · rcases List.mem_cons.1 hx with rfl | hx
    · rcases hb with hb | hb
      · exact .inl (.inr (.inr ⟨e, by simp, .inl (by rw [hb, hj])⟩))
      · rcases hjb with h1 | h1
        · exact .inl (.inr (.inr ⟨e, by simp, .inr (by rw [← h1, hb])⟩))
        · exact .inr (h1 b hb)
    · exact .inl (.inr (.inr ⟨x, List.mem_cons_of_mem _ hx, hb⟩))
theorem Kt.of {t m : Nat} {E : List Ent} {w w' : World} (h : Kt t w w') : Moved (Of t m E) (Of t m E) w w' :=
  h.mono (fun _ e => .inl e) (fun _ h => .inl h)
theorem Tp.acted {w w' : World} {t m : Nat} {E : List Ent} {s s' : Sc} (h : Tp w t m E s) (hh : Hd w' t m s') (hk : Kt t w w') (hr : s'.room = s.room) : Tp w' t m E s' :=
  h.turn hh (fun k hlt hne => hk.block k hlt hne) hr
theorem actS_room (s : Sc) : (actS s).room = s.room := by unfold actS; split; rfl; split <;> rfl
theorem offS_room (s : Sc) : (offS s).room = s.room := by unfold offS; split <;> rfl

/-! ### Read -/
theorem read_nil (k : Key) (w : World) : Calls Tryz.prog 144 #[.pointer none, .string ⟨k.toArray⟩] w fun e w' => e = .returned (.tuple #[.string ⟨#[]⟩, .int .i64 2]) ∧ w = w' := by
  have HF := Lib.hid (find_nil k)
  go_enter Tryz.func144, Tryz.ntmps144
  go_wp2_with fail
  refine (HF.out _).mono ?_
  rintro e w' ⟨rfl, rfl⟩
  go_wp2_with fail
  go_ret2
  exact ⟨rfl, rfl⟩
theorem read_down (k : Key) (w : World) (t m : Nat) (s : Sc) (h : Hd w t m s) (hd : s.down = true) : Calls Tryz.prog 144 #[.pointer (some ⟨t, 0, none⟩), .string ⟨k.toArray⟩] w fun e w' => e = .returned (.tuple #[.string ⟨#[]⟩, .int .i64 10]) ∧ w = w' := by
  have HF := Lib.hid (find_down k w t m s h hd)
  clear h
  go_enter Tryz.func144, Tryz.ntmps144
  go_wp2_with fail
  refine HF.out.mono ?_
  rintro e w' ⟨rfl, rfl⟩
  go_wp2_with fail
  go_ret2
  exact ⟨rfl, rfl⟩
theorem read_none (k : Key) (w : World) (t m : Nat) (E : List Ent) (s : Sc) (h : Tp w t m E s) (hd : s.down = false) (hk : k.length ≤ 1048576) (hm : k ∉ E.map (·.key)) :
    Calls Tryz.prog 144 #[.pointer (some ⟨t, 0, none⟩), .string ⟨k.toArray⟩] w fun e w' => e = .returned (.tuple #[.string ⟨#[]⟩, .int .i64 12]) ∧ w = w' := by
  have HF := Lib.hid (find_none' k w t m E s h hd hk hm)
  clear h hk hm
  go_enter Tryz.func144, Tryz.ntmps144
  go_wp2_with fail
  refine HF.out.mono ?_
  rintro e w' ⟨rfl, rfl⟩
  go_wp2_with fail
  go_ret2
  exact ⟨rfl, rfl⟩
theorem read_some (w : World) (t m : Nat) (e : Ent) (R : List Ent) (s : Sc) (h : Tp w t m (e :: R) s) (hd : s.down = false) :
    Calls Tryz.prog 144 #[.pointer (some ⟨t, 0, none⟩), .string ⟨e.key.toArray⟩] w fun x w' => x = .returned (.tuple #[.string ⟨e.L.toArray⟩, .int .i64 0]) ∧ w = w' := by
  have HF := Lib.hid (find_some w t m e R s h hd)
  obtain ⟨sv, hb, hrow, -⟩ := h.files e (by simp)
  have hcv := conv_bytes hrow
  obtain ⟨ao, cap, rfl⟩ := ownsRow_make hrow
  have d0 : w.cell? ⟨e.j, 0, none⟩ = some (.slice ao e.L.length cap) := hb.cell rfl
  generalize (⟨e.L.toArray⟩ : ByteArray) = S at *
  generalize (⟨e.key.toArray⟩ : ByteArray) = K at *
  generalize e.L.length = n at *
  generalize e.j = j at *
  clear h hrow hb
  go_enter Tryz.func144, Tryz.ntmps144
  go_wp2_with fail
  refine HF.out.mono ?_
  rintro e w' ⟨rfl, rfl⟩
  go_wp2_with fail
  go_ret2
  exact ⟨rfl, rfl⟩

/-! ### Sync -/
theorem sync_none (k : Key) (w : World) (t m : Nat) (E : List Ent) (s : Sc) (h : Tp w t m E s) (hd : s.down = false) (hk : k.length ≤ 1048576) (hm : k ∉ E.map (·.key)) :
    Calls Tryz.prog 83 #[.pointer (some ⟨t, 0, none⟩), .string ⟨k.toArray⟩] w fun e w' => e = .returned (.int .i64 12) ∧ w = w' := by
  have HF := Lib.hid (find_none' k w t m E s h hd hk hm)
  clear h hk hm
  go_enter Tryz.func83, Tryz.ntmps83
  go_wp2_with fail
  refine HF.out.mono ?_
  rintro e w' ⟨rfl, rfl⟩
  go_wp2_with fail
  go_ret
  exact ⟨rfl, rfl⟩
/-- What an act may ask of a tape's numbers. -/
structure Small (s : Sc) : Prop where
  on : s.down = false
  acts : s.acts ≤ 1099511627776
  life : s.life ≤ 1099511627776
  armed : 0 ≤ s.armed ∧ s.armed ≤ 9223372036854775807
theorem act_of {w : World} {t m : Nat} {s : Sc} (h : Hd w t m s) (q : Small s) : Calls Tryz.prog 52 #[.pointer (some ⟨t, 0, none⟩)] w fun e w' => e = .returned (.int .i64 (actR s)) ∧ Hd w' t m (actS s) ∧ Kt t w w' :=
  act_any w t m s h q.on q.acts q.life q.armed.1 q.armed.2
set_option maxHeartbeats 1000000 in
set_option maxRecDepth 100000 in
theorem sync_some (w : World) (t m : Nat) (e : Ent) (R : List Ent) (s : Sc) (h : Tp w t m (e :: R) s) (q : Small s) :
    Calls Tryz.prog 83 #[.pointer (some ⟨t, 0, none⟩), .string ⟨e.key.toArray⟩] w fun x w' => x = .returned (.int .i64 (actR s)) ∧
      Tp w' t m ((if s.armed = 1 then e else { e with safe := e.L.length }) :: R) (actS s) ∧ Moved (Of t m (e :: R)) (Of t m (e :: R)) w w' := by
  have HF := Lib.hid (find_some w t m e R s h q.on)
  have HA := Lib.hid (act_of h.head q)
  have HT := Lib.hid h
  obtain ⟨sv, hb, hrow, hjb⟩ := h.files e (by simp)
  obtain ⟨ao, cap, rfl⟩ := ownsRow_make hrow
  have hjt : e.j ≠ t := fun e1 => h.tE ⟨e, by simp, .inl e1.symm⟩
  have HB := Lib.hid hb
  have HR := Lib.hid hrow
  have HJ := Lib.hid hjb
  have HJT := Lib.hid hjt
  have hact := actS_room s
  have HAC := Lib.hid hact
  clear h hb hrow hjb hjt q hact
  by_cases ha : s.armed = 1
  · have hr : actR s = 10 := by simp [actR, ha]
    rw [hr] at HA ⊢
    simp only [if_pos ha]
    clear ha hr
    go_enter Tryz.func83, Tryz.ntmps83
    go_wp2_with fail
    refine HF.out.mono ?_
    rintro x w' ⟨rfl, rfl⟩
    go_wp2_with fail
    refine HA.out.mono ?_
    rintro x w' ⟨rfl, h1, h2⟩
    have H1 := Lib.hid h1
    have H2 := Lib.hid h2
    clear h1 h2
    go_wp2_with fail
    go_ret
    exact ⟨rfl, HT.out.acted H1.out H2.out HAC.out, H2.out.of⟩
  · have hr : actR s = 0 := by simp [actR, ha]
    rw [hr] at HA ⊢
    simp only [if_neg ha]
    clear ha hr
    go_enter Tryz.func83, Tryz.ntmps83
    go_wp2_with fail
    refine HF.out.mono ?_
    rintro x w' ⟨rfl, rfl⟩
    go_wp2_with fail
    refine HA.out.mono ?_
    rintro x w1 ⟨rfl, h1, h2⟩
    have hb1 : Blk w1 e.j #[.slice ao e.L.length cap, .int .i64 e.safe] 92 := HB.out.same (h2.block _ HB.out.lt HJT.out)
    have d0 : w1.cell? ⟨e.j, 0, none⟩ = some (.slice ao e.L.length cap) := hb1.cell rfl
    have d1 : w1.cell? ⟨e.j, 1, none⟩ = some (.int .i64 e.safe) := hb1.cell rfl
    have g1 := hb1.free (i := 1)
    have H1 := Lib.hid h1
    have H2 := Lib.hid h2
    have HB1 := Lib.hid hb1
    clear h1 h2 hb1
    go_wp2_with fail
    go_ret
    have hT := HT.out.acted H1.out H2.out HAC.out
    refine ⟨rfl, hT.file (e' := { e with safe := e.L.length }) ?_ rfl rfl (.inl rfl) ?_ ?_ (Nat.le_refl _), H2.out.of.trans (Moved.setCell _ _ _ (.inr (.inr ⟨e, by simp, .inl rfl⟩)))⟩
    · refine ⟨_, HB1.out.set (i := 1) _, ?_, HJ.out⟩
      refine ownsRow_same HR.out fun k hk => ?_
      have hlt := (HR.out.lt k hk).2
      have hk2 : e.jb = some k := HJ.out.symm.trans hk
      rw [Below.heap_setCell _ _ _ _ (by rintro rfl; exact HT.out.self e (by simp) hk2)]
      exact H2.out.block k hlt (by rintro rfl; exact HT.out.tE ⟨e, by simp, .inr hk2⟩)
    · intro k hk hno
      exact Below.heap_setCell _ _ _ _ (by rintro rfl; exact hno (.inl rfl))
    · exact hT.fit

/-! ### Append -/
theorem Tp.grew {w w1 : World} {t m : Nat} {e : Ent} {R : List Ent} {s : Sc} {sv v' : Value} {M : List UInt8} (h : Tp w t m (e :: R) s) (hb : Blk w e.j #[sv, .int .i64 e.safe] 92) (hj : sv.ownBlock = e.jb)
    (ho : w1.ownsRow 0 5 1 v' (e.L ++ M).length (bcells (e.L ++ M))) (hg : w.grownBy w1 sv.ownBlock) (hl : v'.ownBlock = sv.ownBlock ∨ v'.ownBlock = some w.heap.size) (ht : total (e :: R) + M.length ≤ s.room) :
    Tp (w1.setCell ⟨e.j, 0, none⟩ v') t m ({ e with L := e.L ++ M, jb := v'.ownBlock } :: R) s ∧ Moved (Of t m (e :: R)) (Of t m ({ e with L := e.L ++ M, jb := v'.ownBlock } :: R)) w (w1.setCell ⟨e.j, 0, none⟩ v') := by
  have hself := h.self e (by simp)
  have hlt := hb.lt
  have hne : v'.ownBlock ≠ some e.j := by
    rcases hl with h1 | h1
    · rw [h1, hj]; exact hself
    · rw [h1]; intro e1; injection e1 with e1; omega
  have hloc : v'.ownBlock = e.jb ∨ ∀ k, v'.ownBlock = some k → w.heap.size ≤ k := by
    rcases hl with h1 | h1
    · exact .inl (h1.trans hj)
    · exact .inr fun k hk => by rw [h1] at hk; injection hk with hk; omega
  refine ⟨h.file (e' := { e with L := e.L ++ M, jb := v'.ownBlock }) ⟨v', ?_, ?_, rfl⟩ rfl rfl hloc ?_ ?_ ?_, ?_⟩
  · exact (hb.grown hg (by rw [hj]; exact fun e1 => hself e1.symm)).set (i := 0) v'
  · exact ownsRow_same ho fun k hk => Below.heap_setCell _ _ _ _ (by rintro rfl; exact hne hk)
  · intro k hk hno
    rw [Below.heap_setCell _ _ _ _ (by rintro rfl; exact hno (.inl rfl))]
    exact hg.block k hk (by rw [hj]; exact fun e1 => hno (.inr e1.symm))
  · simp only [total, List.length_append] at ht ⊢; omega
  · have := h.safe e (by simp)
    simp only [List.length_append]; omega
  · have m1 : Moved (Of t m (e :: R)) (Of t m (e :: R)) w w1 := Moved.of_grown hg (fun k hk => .inr (.inr ⟨e, by simp, .inr (hj.symm.trans hk)⟩))
    have m2 : Moved (Of t m (e :: R)) (Of t m (e :: R)) w1 (w1.setCell ⟨e.j, 0, none⟩ v') := Moved.setCell _ _ _ (.inr (.inr ⟨e, by simp, .inl rfl⟩))
    exact (m1.trans m2).mono (fun _ h => h) (fun b hb => Of.file (e := e) (e' := { e with L := e.L ++ M, jb := v'.ownBlock }) rfl hloc hb)
theorem append_nil (k : Key) (M : List UInt8) (w : World) : Calls Tryz.prog 16 #[.pointer none, .string ⟨k.toArray⟩, .string ⟨M.toArray⟩] w fun e w' => e = .returned (.int .i64 2) ∧ w = w' := by
  have HR := Lib.hid ready_nil
  go_enter Tryz.func16, Tryz.ntmps16
  go_wp2_with fail
  refine (HR.out _).mono ?_
  rintro e w' ⟨rfl, rfl⟩
  go_wp2_with fail
  go_ret
  exact ⟨rfl, rfl⟩
/-- A name that can't be one. -/
theorem append_bad (k : Key) (M : List UInt8) (w : World) (t m : Nat) (E : List Ent) (s : Sc) (h : Tp w t m E s) (hd : s.down = false) (hk : k.length ≤ 1048576) (hn : okName k = false) :
    Calls Tryz.prog 16 #[.pointer (some ⟨t, 0, none⟩), .string ⟨k.toArray⟩, .string ⟨M.toArray⟩] w fun e w' => e = .returned (.int .i64 1) ∧ w = w' := by
  have hr := ready_any w t m s h.head
  rw [show rdy s = 0 by simp [rdy, hd]] at hr
  have HR := Lib.hid hr
  have hi := isName_any k w
  rw [hn] at hi
  have HI := Lib.hid hi
  have c0 : w.cell? ⟨t, 0, none⟩ = some (.map (some m)) := Blk.cell h.head rfl
  have hm : k ∉ E.map (·.key) := by
    intro hk2
    obtain ⟨e, he, rfl⟩ := List.mem_map.1 hk2
    have := h.names e he
    simp [okName] at hn
    omega
  have hlk := h.map.look_none (k := k) (by unfold maxLen; omega) (by rw [prs_keys]; exact hm)
  clear hr h hk hn hm hi
  go_enter Tryz.func16, Tryz.ntmps16
  go_wp2_with fail
  refine HR.out.mono ?_
  rintro e w' ⟨rfl, rfl⟩
  go_wp2_with fail
  refine HI.out.mono ?_
  rintro e w' ⟨rfl, rfl⟩
  go_wp2_with fail
  go_ret
  exact ⟨rfl, rfl⟩
/-- No room: nothing changes. -/
theorem append_full (k : Key) (M : List UInt8) (w : World) (t m : Nat) (E : List Ent) (s : Sc) (h : Tp w t m E s) (hd : s.down = false) (hn : okName k = true) (hE : E.length < 256) (hM : s.room < total E + M.length) :
    Calls Tryz.prog 16 #[.pointer (some ⟨t, 0, none⟩), .string ⟨k.toArray⟩, .string ⟨M.toArray⟩] w fun e w' => e = .returned (.int .i64 11) ∧ Below w.heap.size w w' := by
  have hr := ready_any w t m s h.head
  rw [show rdy s = 0 by simp [rdy, hd]] at hr
  have HR := Lib.hid hr
  have hi := isName_any k w
  rw [hn] at hi
  have HI := Lib.hid hi
  have HL := Lib.hid (left_any w t m E s h)
  have c0 : w.cell? ⟨t, 0, none⟩ = some (.map (some m)) := Blk.cell h.head rfl
  have hk : k.length ≤ 32 := by simp [okName] at hn; omega
  have hlen := h.map.len
  have hlE : (prs E).length = E.length := by simp [prs]
  rw [hlE] at hlen
  have hE2 : ((E.length : Int) == 256) = false := by simp; omega
  obtain ⟨S, hS⟩ : ∃ S : ByteArray, (⟨M.toArray⟩ : ByteArray) = S := ⟨_, rfl⟩
  have hsz : S.size = M.length := by rw [← hS, size_list]
  have hgt : (s.room : Int) - (total E : Int) < (S.size : Int) := by rw [hsz]; omega
  rw [hS]
  by_cases hm : k ∈ E.map (·.key)
  · obtain ⟨e, R, rfl, hp⟩ := front hm
    have hT := h.perm hp
    have hlk := hT.map.look (k := e.key) (j := e.j) (by rw [prs_keys]; exact hT.keys) (by unfold maxLen; omega) (by simp [prs])
    clear hr h hk hn hm hi hp hT hM hE hlE hsz hS
    go_enter Tryz.func16, Tryz.ntmps16
    go_wp2_with fail
    refine HR.out.mono ?_
    rintro x w' ⟨rfl, rfl⟩
    go_wp2_with fail
    refine HI.out.mono ?_
    rintro x w' ⟨rfl, rfl⟩
    go_wp2_with fail
    refine HL.out.mono ?_
    rintro x w' ⟨rfl, hb⟩
    have HB := Lib.hid hb
    clear hb
    go_wp2_with fail
    go_ret
    exact ⟨rfl, HB.out⟩
  · have hlk := h.map.look_none (k := k) (by unfold maxLen; omega) (by rw [prs_keys]; exact hm)
    clear hr h hk hn hm hi hM hE hlE hsz hS
    go_enter Tryz.func16, Tryz.ntmps16
    go_wp2_with fail
    refine HR.out.mono ?_
    rintro x w' ⟨rfl, rfl⟩
    go_wp2_with fail
    refine HI.out.mono ?_
    rintro x w' ⟨rfl, rfl⟩
    go_wp2_with fail
    refine HL.out.mono ?_
    rintro x w' ⟨rfl, hb⟩
    have HB := Lib.hid hb
    clear hb
    go_wp2_with fail
    go_ret
    exact ⟨rfl, HB.out⟩
end Go.Proofs.YtdaoeplblkfapaaGreatDoor.Ta

/- THE CONTRACTS OF tape's Append where it is done, and Swap; New. -/
namespace Go.Proofs.YtdaoeplblkfapaaGreatDoor.Ta
open Go.RowKit Go.Maps

theorem keyNe_all {E : List (Key × Nat)} {k : Key} (h : k ∉ E.map (·.1)) : E.filter (keyNe k) = E := by
  rw [List.filter_eq_self]
  intro p hp
  have : p.1 ≠ k := fun e => h (List.mem_map.2 ⟨p, hp, e⟩)
  simp [keyNe, this]
def newFile (k : Key) (j : Nat) : Ent := ⟨k, j, none, [], 0⟩
theorem Tp.fresh {w w3 : World} {t m : Nat} {E : List Ent} {s : Sc} {k : Key} (h : Tp w t m E s) (hk : k ∉ E.map (·.key)) (hn : okName k = true) (hE : E.length < 256)
    (hm : FMap w3 m ((k, w.heap.size) :: (prs E).filter (keyNe k))) (hg : (w.alloc (.cells #[.slice none 0 0, .int .i64 0] 92)).grownBy w3 (some m)) :
    Tp w3 t m (newFile k w.heap.size :: E) s ∧ Moved (Of t m E) (Of t m (newFile k w.heap.size :: E)) w w3 ∧ Blk w3 w.heap.size #[.slice none 0 0, .int .i64 0] 92 := by
  have hml := h.map.lt
  have hb : Blk w3 w.heap.size #[.slice none 0 0, .int .i64 0] 92 := (Blk.new w _ _).grown hg (by simp; omega)
  have hst : ∀ b, b < w.heap.size → b ≠ m → w3.heap[b]? = w.heap[b]? := fun b hlt hne => (hg.block b (by simp; omega) (by simpa using hne)).trans (Below.heap_alloc _ _ _ hlt)
  have hlt : ∀ e ∈ E, ∀ b, e.has b → b < w.heap.size := fun e he b hb => (h.files e he).lt b hb
  have hhas : ∀ b, (newFile k w.heap.size).has b → b = w.heap.size := by
    rintro b (h1 | h1)
    · exact h1
    · cases h1
  refine ⟨⟨Blk.same h.head (hst t h.head.lt h.tm), ?_, ?_, h.tm, ?_, ?_, ?_, ?_, ?_, ?_, ?_, ?_, h.room, ?_⟩, ?_, hb⟩
  · rw [keyNe_all (by rw [prs_keys]; exact hk)] at hm
    exact hm
  · intro e he
    rcases List.mem_cons.1 he with rfl | he
    · exact ⟨_, hb, World.ownsRow_nil _ _ _ _, rfl⟩
    · exact (h.files e he).same fun b hb => hst b (hlt e he b hb) (by rintro rfl; exact h.mE ⟨e, he, hb⟩)
  · rintro ⟨e, he, hb⟩
    rcases List.mem_cons.1 he with rfl | he
    · have := hhas t hb; have := Blk.lt h.head; omega
    · exact h.tE ⟨e, he, hb⟩
  · rintro ⟨e, he, hb⟩
    rcases List.mem_cons.1 he with rfl | he
    · have := hhas m hb; omega
    · exact h.mE ⟨e, he, hb⟩
  · intro e he
    rcases List.mem_cons.1 he with rfl | he
    · simp [newFile]
    · exact h.self e he
  · refine List.pairwise_cons.2 ⟨fun e he b h1 h2 => ?_, h.apart⟩
    have h3 := hhas b h1
    have h4 := hlt e he b h2
    omega
  · simp only [List.map_cons, List.nodup_cons]
    exact ⟨hk, h.keys⟩
  · intro e he
    rcases List.mem_cons.1 he with rfl | he
    · show 1 ≤ k.length ∧ k.length ≤ 32
      simpa [okName] using hn
    · exact h.names e he
  · simp only [List.length_cons]; omega
  · show 0 + total E ≤ s.room
    have := h.fit
    omega
  · intro e he
    rcases List.mem_cons.1 he with rfl | he
    · exact Nat.le_refl _
    · exact h.safe e he
  · have m1 : Moved (Of t m E) (Of t m E) w (w.alloc (.cells #[.slice none 0 0, .int .i64 0] 92)) := Moved.alloc _ _
    have m2 : Moved (Of t m E) (Of t m E) (w.alloc (.cells #[.slice none 0 0, .int .i64 0] 92)) w3 := Moved.of_grown hg (fun k hk => by cases hk; exact .inr (.inl rfl))
    refine (m1.trans m2).mono (fun _ h => h) ?_
    rintro b (h1 | h1 | ⟨e, he, hb⟩)
    · exact .inl (.inl h1)
    · exact .inl (.inr (.inl h1))
    · rcases List.mem_cons.1 he with rfl | he
      · have := hhas b hb; exact .inr (by omega)
      · exact .inl (.inr (.inr ⟨e, he, hb⟩))

set_option maxHeartbeats 1000000 in
set_option maxRecDepth 100000 in
theorem append_old (M : List UInt8) (w : World) (t m : Nat) (e : Ent) (R : List Ent) (s : Sc) (h : Tp w t m (e :: R) s) (q : Small s) (hM : total (e :: R) + M.length ≤ s.room) :
    Calls Tryz.prog 16 #[.pointer (some ⟨t, 0, none⟩), .string ⟨e.key.toArray⟩, .string ⟨M.toArray⟩] w fun x w' => x = .returned (.int .i64 (actR s)) ∧
      ∃ jb, Tp w' t m ({ e with L := e.L ++ M, jb := jb } :: R) (actS s) ∧ Moved (Of t m (e :: R)) (Of t m ({ e with L := e.L ++ M, jb := jb } :: R)) w w' := by
  have hr := ready_any w t m s h.head
  rw [show rdy s = 0 by simp [rdy, q.on]] at hr
  have HR := Lib.hid hr
  have hnm := h.names e (by simp)
  have hi := isName_any e.key w
  rw [show okName e.key = true by simp [okName]; omega] at hi
  have HI := Lib.hid hi
  have HL := Lib.hid (left_any w t m _ s h)
  have HT := Lib.hid h
  have HQ := Lib.hid q
  have c0 : w.cell? ⟨t, 0, none⟩ = some (.map (some m)) := Blk.cell h.head rfl
  have hlk := h.map.look (k := e.key) (j := e.j) (by rw [prs_keys]; exact h.keys) (by unfold maxLen; omega) (by simp [prs])
  have hlM : M.length ≤ 4194304 := by have := h.room; omega
  have hlL : e.L.length ≤ 4194304 := by have := h.room; have := total_mem (E := e :: R) (e := e) (by simp); omega
  obtain ⟨S, hS⟩ : ∃ S : ByteArray, (⟨M.toArray⟩ : ByteArray) = S := ⟨_, rfl⟩
  have hsz : S.size = M.length := by rw [← hS, size_list]
  have hle : (S.size : Int) ≤ (s.room : Int) - (total (e :: R) : Int) := by rw [hsz]; omega
  have HM := Lib.hid hM
  have HS := Lib.hid hS
  have HLM := Lib.hid hlM
  have HLL := Lib.hid hlL
  have hact := actS_room s
  have HAC := Lib.hid hact
  rw [hS]
  clear hr h hnm hi q hM hsz hlM hlL hS hact
  go_enter Tryz.func16, Tryz.ntmps16
  go_wp2_with fail
  refine HR.out.mono ?_
  rintro x w' ⟨rfl, rfl⟩
  go_wp2_with fail
  refine HI.out.mono ?_
  rintro x w' ⟨rfl, rfl⟩
  go_wp2_with fail
  refine HL.out.mono ?_
  rintro x w1 ⟨rfl, hb⟩
  have hT1 := HT.out.below hb
  obtain ⟨sv, hb1, hrow, hjb⟩ := hT1.files e (by simp)
  have d0 : w1.cell? ⟨e.j, 0, none⟩ = some sv := hb1.cell rfl
  have HB := Lib.hid hb
  have HT1 := Lib.hid hT1
  have HB1 := Lib.hid hb1
  have HRW := Lib.hid hrow
  have HJ := Lib.hid hjb
  obtain ⟨ao, cap, hsv⟩ := ownsRow_make hrow
  subst hsv
  clear hb hT1 hb1 hrow hjb
  go_wp2_with (at_builtin; refine wpList_append_text rfl _ _ rfl _ e.L rfl HRW.out M (by rw [HS.out]; rfl) (by have := HLM.out; have := HLL.out; omega) ?_)
  intro v' w2 ho hg hl
  rw [← List.length_append] at ho
  have hb2 : Blk w2 e.j #[.slice ao e.L.length cap, .int .i64 e.safe] 92 := HB1.out.grown hg (by rw [HJ.out]; exact fun e1 => HT.out.self e (by simp) e1.symm)
  have d0' : w2.cell? ⟨e.j, 0, none⟩ = some (.slice ao e.L.length cap) := hb2.cell rfl
  have g0 := hb2.free (i := 0)
  obtain ⟨ht2, hm2⟩ := HT1.out.grew HB1.out HJ.out ho hg hl HM.out
  obtain ⟨ao', cap', n2, hsv'⟩ : ∃ ao cap n, v' = .slice ao n cap := let ⟨a, b, h⟩ := ownsRow_make ho; ⟨a, b, _, h⟩
  have HT2 := Lib.hid ht2
  have HM2 := Lib.hid hm2
  have HA := Lib.hid (act_of ht2.head HQ.out)
  subst hsv'
  clear hb2 ht2 hm2 ho hg hl
  go_wp2_with fail
  refine HA.out.mono ?_
  rintro x w4 ⟨rfl, h1, h2⟩
  have H1 := Lib.hid h1
  have H2 := Lib.hid h2
  clear h1 h2
  go_wp2_with fail
  go_ret
  exact ⟨rfl, _, HT2.out.acted H1.out H2.out HAC.out, ((Moved.of_below HB.out).trans HM2.out).trans H2.out.of⟩

set_option maxHeartbeats 1000000 in
set_option maxRecDepth 100000 in
theorem append_new (k : Key) (M : List UInt8) (w : World) (t m : Nat) (E : List Ent) (s : Sc) (h : Tp w t m E s) (q : Small s) (hk : k ∉ E.map (·.key)) (hn : okName k = true) (hE : E.length < 256) (hM : total E + M.length ≤ s.room) :
    Calls Tryz.prog 16 #[.pointer (some ⟨t, 0, none⟩), .string ⟨k.toArray⟩, .string ⟨M.toArray⟩] w fun x w' => x = .returned (.int .i64 (actR s)) ∧
      ∃ j jb, Tp w' t m (⟨k, j, jb, M, 0⟩ :: E) (actS s) ∧ Moved (Of t m E) (Of t m (⟨k, j, jb, M, 0⟩ :: E)) w w' := by
  have hr := ready_any w t m s h.head
  rw [show rdy s = 0 by simp [rdy, q.on]] at hr
  have HR := Lib.hid hr
  have hi := isName_any k w
  rw [hn] at hi
  have HI := Lib.hid hi
  have HL := Lib.hid (left_any w t m _ s h)
  have HT := Lib.hid h
  have HQ := Lib.hid q
  have c0 : w.cell? ⟨t, 0, none⟩ = some (.map (some m)) := Blk.cell h.head rfl
  have hk32 : k.length ≤ 32 := by simp [okName] at hn; omega
  have hlk := h.map.look_none (k := k) (by unfold maxLen; omega) (by rw [prs_keys]; exact hk)
  have hlen := h.map.len
  have hlE : (prs E).length = E.length := by simp [prs]
  rw [hlE] at hlen
  have hE2 : ((E.length : Int) == 256) = false := by simp; omega
  have hlM : M.length ≤ 4194304 := by have := h.room; omega
  obtain ⟨S, hS⟩ : ∃ S : ByteArray, (⟨M.toArray⟩ : ByteArray) = S := ⟨_, rfl⟩
  obtain ⟨K, hK⟩ : ∃ K : ByteArray, (⟨k.toArray⟩ : ByteArray) = K := ⟨_, rfl⟩
  have hsz : S.size = M.length := by rw [← hS, size_list]
  have hle : (S.size : Int) ≤ (s.room : Int) - (total E : Int) := by rw [hsz]; omega
  rw [hK] at HI hlk ⊢
  have HK := Lib.hid hk
  have HN := Lib.hid hn
  have HE := Lib.hid hE
  have HM := Lib.hid hM
  have HS := Lib.hid hS
  have HKK := Lib.hid hK
  have HLM := Lib.hid hlM
  have HK32 := Lib.hid hk32
  have hact := actS_room s
  have HAC := Lib.hid hact
  rw [hS]
  clear hr h hi q hE hM hsz hlM hS hact hk hn hlE hK hk32
  go_enter Tryz.func16, Tryz.ntmps16
  go_wp2_with fail
  refine HR.out.mono ?_
  rintro x w' ⟨rfl, rfl⟩
  go_wp2_with fail
  refine HI.out.mono ?_
  rintro x w' ⟨rfl, rfl⟩
  go_wp2_with fail
  refine HL.out.mono ?_
  rintro x w1 ⟨rfl, hb⟩
  have hT1 := HT.out.below hb
  have c1 : (w1.alloc (.cells #[.slice none 0 0, .int .i64 0] 92)).cell? ⟨t, 0, none⟩ = some (.map (some m)) := Blk.cell (Blk.alloc hT1.head _) rfl
  have hfm : FMap (w1.alloc (.cells #[.slice none 0 0, .int .i64 0] 92)) m (prs E) := hT1.map.same (Below.heap_alloc _ _ _ hT1.map.lt)
  have HB := Lib.hid hb
  have HT1 := Lib.hid hT1
  have HFM := Lib.hid hfm
  clear hb hT1 hfm hlk hlen c0
  go_wp2_with (at_mapUpdate; refine wpList_put rfl _ _ _ rfl m w1.heap.size (prs E) k rfl HFM.out (by have := HE.out; simp only [prs, List.length_map]; unfold maxLen; omega) (by rw [HKK.out]; rfl) rfl (by have := HK32.out; unfold maxLen; omega) ?_)
  intro w3 hm3 hg3
  obtain ⟨ht3, hmv, hb3⟩ := HT1.out.fresh HK.out HN.out HE.out hm3 hg3
  have d0 : w3.cell? ⟨w1.heap.size, 0, none⟩ = some (.slice none 0 0) := hb3.cell rfl
  have HT3 := Lib.hid ht3
  have HMV := Lib.hid hmv
  have HB3 := Lib.hid hb3
  clear ht3 hmv hb3 hm3 hg3
  go_wp2_with (at_builtin; refine wpList_append_text rfl _ _ rfl _ [] rfl (World.ownsRow_nil _ _ _ _) M (by rw [HS.out]; rfl) (by have := HLM.out; simp only [List.length_nil]; omega) ?_)
  intro v' w4 ho hg hl
  have hb4 : Blk w4 w1.heap.size #[.slice none 0 0, .int .i64 0] 92 := HB3.out.grown hg (by simp [Value.ownBlock])
  have d0' : w4.cell? ⟨w1.heap.size, 0, none⟩ = some (.slice none 0 0) := hb4.cell rfl
  have g0 := hb4.free (i := 0)
  obtain ⟨ht2, hm2⟩ := HT3.out.grew (e := newFile k w1.heap.size) (sv := .slice none 0 0) (M := M) HB3.out rfl ho hg hl (by have := HM.out; show 0 + total E + M.length ≤ s.room; omega)
  obtain ⟨ao', cap', n2, hsv'⟩ : ∃ ao cap n, v' = .slice ao n cap := let ⟨a, b, h⟩ := ownsRow_make ho; ⟨a, b, _, h⟩
  have HT2 := Lib.hid ht2
  have HM2 := Lib.hid hm2
  have HA := Lib.hid (act_of ht2.head HQ.out)
  subst hsv'
  clear hb4 ht2 hm2 ho hg hl
  go_wp2_with fail
  refine HA.out.mono ?_
  rintro x w5 ⟨rfl, h1, h2⟩
  have H1 := Lib.hid h1
  have H2 := Lib.hid h2
  clear h1 h2
  go_wp2_with fail
  go_ret
  exact ⟨rfl, _, _, HT2.out.acted H1.out H2.out HAC.out, (((Moved.of_below HB.out).trans HMV.out).trans HM2.out).trans H2.out.of⟩

/-! ### Swap -/
theorem filter_keys {E : List Ent} (k : Key) : (prs E).filter (keyNe k) = prs (E.filter fun e => !(e.key == k)) := by
  unfold prs
  rw [List.filter_map]
  rfl
theorem Tp.swapped {w w' : World} {t m : Nat} {e : Ent} {R : List Ent} {s : Sc} {k : Key} (h : Tp w t m (e :: R) s) (hn : okName k = true)
    (hm : FMap w' m ((k, e.j) :: ((prs (e :: R)).filter (keyNe e.key)).filter (keyNe k))) (hs : ∀ b, b < w.heap.size → b ≠ m → w'.heap[b]? = w.heap[b]?) :
    Tp w' t m ({ e with key := k } :: R.filter fun x => !(x.key == k)) s := by
  have hkn := List.nodup_cons.1 (show (e.key :: R.map (·.key)).Nodup from h.keys)
  have hap := List.pairwise_cons.1 h.apart
  have hsub : (R.filter fun x => !(x.key == k)).Sublist R := List.filter_sublist
  have hmem : ∀ x ∈ (R.filter fun x => !(x.key == k)), x ∈ R ∧ x.key ≠ k := fun x hx => by
    have := List.mem_filter.1 hx
    exact ⟨this.1, by simpa using this.2⟩
  have hfile : ∀ x ∈ e :: R, Fo w' x := fun x hx => (h.files x hx).same fun b hb => hs b ((h.files x hx).lt b hb) (by rintro rfl; exact h.mE ⟨x, hx, hb⟩)
  refine ⟨Blk.same h.head (hs t (Blk.lt h.head) h.tm), ?_, ?_, h.tm, ?_, ?_, ?_, ?_, ?_, ?_, ?_, ?_, h.room, ?_⟩
  · have e1 : (prs (e :: R)).filter (keyNe e.key) = prs R := by
      have : prs (e :: R) = (e.key, e.j) :: prs R := rfl
      rw [this, List.filter_cons]
      have e2 : keyNe e.key (e.key, e.j) = false := by simp [keyNe]
      rw [e2]
      simp only [Bool.false_eq_true, if_false]
      exact keyNe_all (by rw [prs_keys]; exact hkn.1)
    rw [e1, filter_keys] at hm
    exact hm
  · intro x hx
    rcases List.mem_cons.1 hx with rfl | hx
    · exact hfile e (by simp)
    · exact hfile x (List.mem_cons_of_mem _ (hmem x hx).1)
  · rintro ⟨x, hx, hb⟩
    rcases List.mem_cons.1 hx with rfl | hx
    · exact h.tE ⟨e, by simp, hb⟩
    · exact h.tE ⟨x, List.mem_cons_of_mem _ (hmem x hx).1, hb⟩
  · rintro ⟨x, hx, hb⟩
    rcases List.mem_cons.1 hx with rfl | hx
    · exact h.mE ⟨e, by simp, hb⟩
    · exact h.mE ⟨x, List.mem_cons_of_mem _ (hmem x hx).1, hb⟩
  · intro x hx
    rcases List.mem_cons.1 hx with rfl | hx
    · exact h.self e (by simp)
    · exact h.self x (List.mem_cons_of_mem _ (hmem x hx).1)
  · exact List.pairwise_cons.2 ⟨fun x hx b h1 h2 => hap.1 x (hmem x hx).1 b h1 h2, hap.2.sublist hsub⟩
  · simp only [List.map_cons, List.nodup_cons]
    refine ⟨fun hx => ?_, hkn.2.sublist (hsub.map _)⟩
    obtain ⟨x, hx, hxk⟩ := List.mem_map.1 hx
    exact (hmem x hx).2 hxk
  · intro x hx
    rcases List.mem_cons.1 hx with rfl | hx
    · show 1 ≤ k.length ∧ k.length ≤ 32
      simpa [okName] using hn
    · exact h.names x (List.mem_cons_of_mem _ (hmem x hx).1)
  · have h1 := hsub.length_le
    have h2 := h.few
    simp only [List.length_cons] at h2 ⊢
    omega
  · have h1 := total_filter_le R fun x => !(x.key == k)
    have h2 := h.fit
    simp only [total] at h2 ⊢
    omega
  · intro x hx
    rcases List.mem_cons.1 hx with rfl | hx
    · exact h.safe e (by simp)
    · exact h.safe x (List.mem_cons_of_mem _ (hmem x hx).1)
theorem Of.swapped {t m : Nat} {e : Ent} {R : List Ent} {k : Key} {b : Nat} (h : Of t m ({ e with key := k } :: R.filter fun x => !(x.key == k)) b) : Of t m (e :: R) b := by
  rcases h with h | h | ⟨x, hx, hb⟩
  · exact .inl h
  · exact .inr (.inl h)
  · rcases List.mem_cons.1 hx with rfl | hx
    · exact .inr (.inr ⟨e, by simp, hb⟩)
    · exact .inr (.inr ⟨x, List.mem_cons_of_mem _ (List.mem_filter.1 hx).1, hb⟩)
set_option maxHeartbeats 1000000 in
set_option maxRecDepth 100000 in
theorem swap_some (k : Key) (w : World) (t m : Nat) (e : Ent) (R : List Ent) (s : Sc) (h : Tp w t m (e :: R) s) (q : Small s) (hn : okName k = true) :
    Calls Tryz.prog 92 #[.pointer (some ⟨t, 0, none⟩), .string ⟨e.key.toArray⟩, .string ⟨k.toArray⟩] w fun x w' => x = .returned (.int .i64 (actR s)) ∧
      Tp w' t m ({ e with key := k } :: R.filter fun x => !(x.key == k)) (actS s) ∧ Moved (Of t m (e :: R)) (Of t m ({ e with key := k } :: R.filter fun x => !(x.key == k))) w w' := by
  have HF := Lib.hid (find_some w t m e R s h q.on)
  have hi := isName_any k w
  rw [hn] at hi
  have HI := Lib.hid hi
  have HT := Lib.hid h
  have HQ := Lib.hid q
  have hk32 : k.length ≤ 32 := by simp [okName] at hn; omega
  have c0 : w.cell? ⟨t, 0, none⟩ = some (.map (some m)) := Blk.cell h.head rfl
  have hnm := h.names e (by simp)
  obtain ⟨K, hK⟩ : ∃ K : ByteArray, (⟨k.toArray⟩ : ByteArray) = K := ⟨_, rfl⟩
  obtain ⟨K2, hK2⟩ : ∃ K : ByteArray, (⟨e.key.toArray⟩ : ByteArray) = K := ⟨_, rfl⟩
  rw [hK] at HI ⊢
  rw [hK2] at HF ⊢
  have HK := Lib.hid hK
  have HK2 := Lib.hid hK2
  have HN := Lib.hid hn
  have HK32 := Lib.hid hk32
  have HNM := Lib.hid hnm
  have hact := actS_room s
  have HAC := Lib.hid hact
  have hlE : (prs (e :: R)).length ≤ 256 := by have := h.few; simpa [prs] using this
  have HLE := Lib.hid hlE
  clear h q hn hi hk32 hK hK2 hnm hact hlE
  go_enter Tryz.func92, Tryz.ntmps92
  go_wp2_with fail
  refine HF.out.mono ?_
  rintro x w' ⟨rfl, rfl⟩
  go_wp2_with fail
  refine HI.out.mono ?_
  rintro x w' ⟨rfl, rfl⟩
  go_wp2_with (at_delete; refine wpList_del rfl _ _ rfl m (prs (e :: R)) e.key rfl HT.out.map (by rw [HK2.out]; rfl) (by have := HNM.out; unfold maxLen; omega) ?_)
  intro w1 hm1 hg1
  have b1 : Hd w1 t m s := Blk.grown HT.out.head hg1 (by simpa using HT.out.tm)
  have c1 : w1.cell? ⟨t, 0, none⟩ = some (.map (some m)) := Blk.cell b1 rfl
  have HM1 := Lib.hid hm1
  have HG1 := Lib.hid hg1
  have HB1 := Lib.hid b1
  clear hm1 hg1 b1
  go_wp2_with (at_mapUpdate; refine wpList_put rfl _ _ _ rfl m e.j _ k rfl HM1.out (by have := HLE.out; have := List.length_filter_le (keyNe e.key) (prs (e :: R)); unfold maxLen; omega) (by rw [HK.out]; rfl) rfl (by have := HK32.out; unfold maxLen; omega) ?_)
  intro w2 hm2 hg2
  rw [← List.filter_filter] at hm2
  have ht2 := HT.out.swapped HN.out hm2 (fun b hlt hne => (hg2.block b (Nat.lt_of_lt_of_le hlt HG1.out.size) (by simpa using hne)).trans (HG1.out.block b hlt (by simpa using hne)))
  have HT2 := Lib.hid ht2
  have HG2 := Lib.hid hg2
  have HA := Lib.hid (act_of ht2.head HQ.out)
  clear ht2 hm2 hg2
  go_wp2_with fail
  refine HA.out.mono ?_
  rintro x w3 ⟨rfl, h1, h2⟩
  have H1 := Lib.hid h1
  have H2 := Lib.hid h2
  clear h1 h2
  go_wp2_with fail
  go_ret
  have m1 : Moved (Of t m (e :: R)) (Of t m (e :: R)) w w1 := Moved.of_grown HG1.out (fun k hk => by cases hk; exact .inr (.inl rfl))
  have m2 : Moved (Of t m (e :: R)) (Of t m (e :: R)) w1 w2 := Moved.of_grown HG2.out (fun k hk => by cases hk; exact .inr (.inl rfl))
  exact ⟨rfl, HT2.out.acted H1.out H2.out HAC.out, ((m1.trans m2).trans H2.out.of).mono (fun _ h => h) (fun b hb => .inl hb.swapped)⟩

/-! ### New -/
theorem new_any (r : Int) (w : World) (h0 : 0 ≤ r) (h1 : r ≤ 4194304) :
    Calls Tryz.prog 12 #[.int .i64 r] w fun x w' => ∃ t m, x = .returned (.pointer (some ⟨t, 0, none⟩)) ∧ Tp w' t m [] ⟨r.toNat, false, 0, 0, 0⟩ ∧ Below w.heap.size w w' ∧ w.heap.size ≤ t ∧ w.heap.size ≤ m := by
  have hmm := @run_makeMap Tryz.prog
  have hr : max r 0 = r := by omega
  have hr2 : min r 4194304 = r := by omega
  have hq : ((r.toNat : Nat) : Int) = r := by omega
  go_enter Tryz.func12, Tryz.ntmps12
  go_wp2_with fail
  go_ret
  have hb : Hd ((w.alloc (.map #[] 0)).alloc (.cells (scv w.heap.size ⟨r.toNat, false, 0, 0, 0⟩) 81)) (w.heap.size + 1) w.heap.size ⟨r.toNat, false, 0, 0, 0⟩ := by
    have := Blk.new (w.alloc (.map #[] 0)) (scv w.heap.size ⟨r.toNat, false, 0, 0, 0⟩) 81
    simpa [Hd] using this
  have hb2 := hb
  simp only [scv, hq] at hb2
  refine ⟨w.heap.size + 1, w.heap.size, by simp, ⟨by simpa [hr, hr2] using hb2, ?_, by simp, by omega, ?_, ?_, by simp, List.Pairwise.nil, List.nodup_nil, by simp, by simp, Nat.zero_le _, by show r.toNat ≤ _; omega, by simp⟩, ?_, by omega, Nat.le_refl _⟩
  · exact (FMap.made w).same (Below.heap_alloc _ _ _ (by simp))
  · rintro ⟨e, he, _⟩; cases he
  · rintro ⟨e, he, _⟩; cases he
  · exact (((RowKit.Below.refl _ w).alloc (Nat.le_refl _) _).alloc (by simp) _)
end Go.Proofs.YtdaoeplblkfapaaGreatDoor.Ta

/- THE CONTRACTS OF tape's cut and kept. -/
namespace Go.Proofs.YtdaoeplblkfapaaGreatDoor.Ta
open Go.RowKit Go.Maps

set_option maxHeartbeats 1000000 in
set_option maxRecDepth 100000 in
theorem cut_any (w : World) (j g cap safe n : Nat) (L : List UInt8) (hb : Blk w j #[.slice (some ⟨g, 0, none⟩) L.length cap, .int .i64 safe] 92) (hrow : w.ownsRow 0 5 1 (.slice (some ⟨g, 0, none⟩) L.length cap) L.length (bcells L))
    (hn : n ≤ L.length) (hL : L.length ≤ 4194304) (hs : safe ≤ n) :
    Calls Tryz.prog 84 #[.pointer (some ⟨j, 0, none⟩), .int .i64 n] w fun e w' => (∃ v, e = .returned v) ∧
      ∃ v, Blk w' j #[v, .int .i64 safe] 92 ∧ w'.ownsRow 0 5 1 v n (bcells (L.take n)) ∧ (∀ k, v.ownBlock = some k → w.heap.size ≤ k) ∧ Moved (fun b => b = j) (fun b => b = j) w w' := by
  have d0 : w.cell? ⟨j, 0, none⟩ = some (.slice (some ⟨g, 0, none⟩) L.length cap) := hb.cell rfl
  have hcap : L.length ≤ cap ∧ cap ≤ 9223372036854775807 := by
    rcases hrow.2 with ⟨h, _⟩ | ⟨g', cap', cur, h, _, _, h1, h2, _⟩
    · cases h
    · injection h with _ _ h3
      subst h3
      unfold maxLen at h2
      omega
  have hlt := (hrow.lt g rfl).2
  have hcl := clone_any w g n cap (L.take n) (by rw [List.length_take]; omega) (fun j u hj => by
    have hj2 : (bcells L)[j]? = some u := by
      have : bcells (L.take n) = (bcells L).take n := by unfold bcells; rw [List.map_take]
      rw [this, List.getElem?_take] at hj
      split at hj
      · exact hj
      · cases hj
    exact hrow.cells (g := g) rfl j u hj2) (fun k hk => hk ▸ hlt) (by omega)
  have hmin : min (safe : Int) n = safe := by omega
  have HC := Lib.hid hcl
  have HB := Lib.hid hb
  obtain ⟨N, hN⟩ : ∃ N, L.length = N := ⟨_, rfl⟩
  rw [hN] at d0 HB hcap hn
  clear hcl hb hrow hlt hN
  go_enter Tryz.func84, Tryz.ntmps84
  go_wp2_with fail
  refine HC.out.mono ?_
  rintro e w1 ⟨v, rfl, hown, hbl⟩
  obtain ⟨ao, cap', n2, rfl⟩ : ∃ ao cap n, v = .slice ao n cap := let ⟨a, b, h⟩ := ownsRow_make hown; ⟨a, b, _, h⟩
  have hb1 := HB.out.below hbl
  have d0' : w1.cell? ⟨j, 0, none⟩ = some (.slice (some ⟨g, 0, none⟩) N cap) := hb1.cell rfl
  have g0 := hb1.free (i := 0)
  have b2 := hb1.set (i := 0) (.slice ao n2 cap')
  have d1 : (w1.setCell ⟨j, 0, none⟩ (.slice ao n2 cap')).cell? ⟨j, 1, none⟩ = some (.int .i64 safe) := b2.cell rfl
  have g1 := b2.free (i := 1)
  have HO := Lib.hid hown
  have HBL := Lib.hid hbl
  have HB1 := Lib.hid hb1
  have HB2 := Lib.hid b2
  clear hown hbl hb1 b2
  go_wp2_with fail
  all_goals go_end0
  · have hfr : ∀ k, Value.ownBlock (.slice ao n2 cap') = some k → w.heap.size ≤ k := fun k hk => (HO.out.lt k hk).1
    have hj := HB.out.lt
    have hm : Kt j w ((w1.setCell ⟨j, 0, none⟩ (.slice ao n2 cap')).setCell ⟨j, 1, none⟩ (.int .i64 safe)) := (Moved.trans (Moved.of_below HBL.out) (Kt.set j 0 _ _)).trans (Kt.set j 1 _ _)
    refine ⟨⟨_, rfl⟩, _, ?_, ?_, hfr, hm⟩
    · have := HB2.out.set (i := 1) (.int .i64 safe)
      simpa using this
    · have h1 : w1.ownsRow 0 5 1 (.slice ao n2 cap') n (bcells (L.take n)) := by
        refine ⟨HO.out.1, ?_⟩
        rcases HO.out.2 with h | ⟨g, c, cur, h, _, rest⟩
        · exact .inl h
        · exact .inr ⟨g, c, cur, h, Nat.zero_le _, rest⟩
      refine ownsRow_same (w := w1.setCell ⟨j, 0, none⟩ (.slice ao n2 cap')) (ownsRow_same h1 fun k hk => ?_) fun k hk => ?_
      · exact Below.heap_setCell _ _ _ _ (by rintro rfl; have := hfr _ hk; omega)
      · exact Below.heap_setCell _ _ _ _ (by rintro rfl; have := hfr _ hk; omega)

/-- Whole numbers that lie in a slice. -/
def Nums (w : World) (v : Value) (zs : List Int) : Prop :=
  ∃ a cap, v = .slice a zs.length cap ∧ ∀ j z, zs[j]? = some z → ∃ b off, a = some ⟨b, off, none⟩ ∧ w.cell? ⟨b, off + j, none⟩ = some (.int .i64 z)
theorem Nums.keep {w w' : World} {v : Value} {zs : List Int} (h : Nums w v zs) (hs : 0 < zs.length → ∀ k x, w.cell? k = some x → (∃ a c d, v = .slice (some ⟨k.block, a, none⟩) c d) → w'.cell? k = some x) : Nums w' v zs := by
  obtain ⟨a, cap, rfl, hc⟩ := h
  refine ⟨a, cap, rfl, fun j z hj => ?_⟩
  obtain ⟨b, off, rfl, h1⟩ := hc j z hj
  exact ⟨b, off, rfl, hs (Nat.lt_of_le_of_lt (Nat.zero_le _) (List.getElem?_eq_some_iff.1 hj).1) _ _ h1 ⟨off, _, _, rfl⟩⟩
/-- How much a fate leaves of so many others. -/
def KeptOk (zs : List Int) (others r : Nat) : Prop := r ≤ others ∧ (zs = [1] → 1 ≤ others → r = 1)
theorem rem_small (z : Int) (q : Nat) (hq : q ≤ 4194304) : -(q : Int) ≤ z.tmod ((q : Int) + 1) ∧ z.tmod ((q : Int) + 1) ≤ q := by
  have h1 := Int.tmod_lt_of_pos z (b := (q : Int) + 1) (by omega)
  have h2 := Int.lt_tmod_of_pos z (b := (q : Int) + 1) (by omega)
  omega
def keptV (zs : List Int) (at_ q : Nat) : Nat := if zs.length = 0 then 0 else
  let r := (zs.getD (at_ % zs.length) 0).tmod ((q : Int) + 1)
  (if r < 0 then r + ((q : Int) + 1) else r).toNat
theorem keptV_ok (zs : List Int) (at_ q : Nat) (hq : q ≤ 4194304) : KeptOk zs q (keptV zs at_ q) := by
  unfold keptV
  split
  · rename_i h
    exact ⟨Nat.zero_le _, fun h1 => by rw [h1] at h; cases h⟩
  · rename_i h
    have hb := rem_small (zs.getD (at_ % zs.length) 0) q hq
    refine ⟨?_, fun h1 h2 => ?_⟩
    · dsimp only
      split <;> omega
    · subst h1
      have e : at_ % [(1 : Int)].length = 0 := Nat.mod_one _
      rw [e]
      have e2 : ([(1 : Int)].getD 0 0) = 1 := rfl
      rw [e2, Int.tmod_eq_of_lt (by omega) (by omega)]
      rfl
set_option maxHeartbeats 1000000 in
set_option maxRecDepth 100000 in
theorem kept_any (w : World) (v : Value) (zs : List Int) (at_ q : Nat) (h : Nums w v zs) (ha : at_ ≤ 4194304) (hq : q ≤ 4194304) :
    Calls Tryz.prog 85 #[v, .int .i64 at_, .int .i64 q] w fun e w' => e = .returned (.int .i64 (keptV zs at_ q)) ∧ RowKit.Below w.heap.size w w' := by
  obtain ⟨a, cap, rfl, hc⟩ := h
  rcases Nat.eq_zero_or_pos zs.length with h0 | hpos
  · have hv : keptV zs at_ q = 0 := by unfold keptV; rw [if_pos h0]
    rw [h0, hv]
    clear hc h0 hv
    go_enter Tryz.func85, Tryz.ntmps85
    go_wp2_with fail
    go_ret
    exact ⟨rfl, Below.refl _ _⟩
  · obtain ⟨z, hzz⟩ : ∃ z, zs[at_ % zs.length]? = some z := ⟨_, List.getElem?_eq_getElem (Nat.mod_lt _ hpos)⟩
    obtain ⟨b, off, rfl, hcell⟩ := hc _ z hzz
    obtain ⟨h1, h2⟩ := rem_small z q hq
    have hv : keptV zs at_ q = (if z.tmod ((q : Int) + 1) < 0 then z.tmod ((q : Int) + 1) + ((q : Int) + 1) else z.tmod ((q : Int) + 1)).toNat := by
      unfold keptV
      rw [if_neg (by omega), List.getD_eq_getElem?_getD, hzz]
      rfl
    obtain ⟨N, hN⟩ : ∃ N, zs.length = N := ⟨_, rfl⟩
    rw [hN] at hpos hzz hcell ⊢
    have hidx : (at_ : Int).tmod N = ((at_ % N : Nat) : Int) := by
      rw [Int.tmod_eq_emod_of_nonneg (by omega)]
      rfl
    obtain ⟨i, hi⟩ : ∃ i, at_ % N = i := ⟨_, rfl⟩
    have hil : i < N := by rw [← hi]; exact Nat.mod_lt _ hpos
    rw [hi] at hidx hcell
    obtain ⟨r0, hr0⟩ : ∃ r0, z.tmod ((q : Int) + 1) = r0 := ⟨_, rfl⟩
    rw [hr0] at h1 h2 hv
    have hne : ((N : Int) == 0) = false := by simp; omega
    have hne2 : (((q : Int) + 1) == 0) = false := by simp; omega
    have HV := Lib.hid hv
    rw [hv]
    clear hc hzz hN hi hv
    by_cases hneg : r0 < 0
    · rw [if_pos hneg]
      go_enter Tryz.func85, Tryz.ntmps85
      go_wp2_with fail
      go_ret
      exact ⟨by go_num, Below.refl _ _⟩
    · rw [if_neg hneg]
      go_enter Tryz.func85, Tryz.ntmps85
      go_wp2_with fail
      go_ret
      exact ⟨by go_num, Below.refl _ _⟩
end Go.Proofs.YtdaoeplblkfapaaGreatDoor.Ta

/- A REGION THAT DRAWS ITS ORDER, WHOSE HEAD READS OR CALLS QUIETLY IN A CLASS OF WORLDS, AND WHOSE TAIL STANDS IN ONE FORCED ORDER: one walk of the text's order serves every order. -/
namespace Go.Proofs.YtdaoeplblkfapaaGreatDoor
open Go

/-- The head, one ready operation after the other, each quiet in the class C. -/
def headQ (P : Program) (md : Region.Mode) (ops : Array Oper) (C : World → Prop) (n : Nat) (L : Array Bool → Act → Prop) : Nat → Array Bool → Act → Prop
  | 0, listed, a => L listed a
  | f + 1, listed, a =>
    Region.ready md ops listed ≠ [] ∧ ∀ i ∈ Region.ready md ops listed, i < n ∧ qOp P ops C i (headQ P md ops C n L f (listed.setIfInBounds i true)) a
theorem any_of_headQ {P : Program} {md : Region.Mode} {ops : Array Oper} {C : World → Prop} {n g : Nat} {L : Array Bool → Act → Prop} {Q : Exit → Act → World → Prop} (hL : ∀ listed a w, C w → L listed a → wpAny P md ops Q g listed a w) :
    ∀ (f : Nat) (listed : Array Bool) (a : Act) (w : World), C w → headQ P md ops C n L f listed a → wpAny P md ops Q (f + g) listed a w
  | 0, listed, a, w, hw, h => by rw [Nat.zero_add]; exact hL _ _ _ hw h
  | f + 1, listed, a, w, hw, h => by
    rw [show f + 1 + g = (f + g) + 1 by omega]
    exact ⟨fun h0 => absurd h0 h.1, fun i hi => wpOp_of_qOp hw (fun a' w' hw' h' => any_of_headQ hL f _ a' w' hw' h') (h.2 i hi).2⟩
theorem headQ_first {P : Program} {md : Region.Mode} {ops : Array Oper} {C : World → Prop} {n i : Nat} {oi : Oper} {v : Value} {L : Array Bool → Act → Prop} (hi : ops[i]? = some oi) (hsel : ∀ (j : Nat) (o : Oper) cs b, ops[j]? = some o → o.op ≠ .select cs b)
    (hs : Region.sinkB md ops n = true) (hc : Region.chainB md ops n = true) (hn : n < ops.size) (hin : i < n)
    (hdone : ∀ listed a, L listed a → ∀ j ∈ Region.ready md ops listed, n ≤ j) :
    ∀ (f : Nat) (listed : Array Bool) (a : Act), HeadInv md ops n listed →
      (∀ j oj, ops[j]? = some oj → j ≠ i → listed.getD j true = false → (∀ e ∈ oj.after, Region.binds md e = true → e.on ≠ i) → oi.apart ops oj = true) →
      i ∈ Region.ready md ops listed → YieldsIn P ops C oi v a →
      headQ P md ops C n L f (listed.setIfInBounds i true) (a.put oi.dst v) → headQ P md ops C n L (f + 1) listed a := by
  intro f
  induction f with
  | zero =>
    intro listed a inv _ hr hy H
    have hun := (mem_ready.1 hr).1
    refine ⟨fun h => (by rw [h] at hr; cases hr), fun j hj => ?_⟩
    have hjn : j < n := by
      rcases Nat.lt_or_ge j n with h | h
      · exact h
      · exact absurd hj (tail_waits hs hc hn inv _ i rfl hin hun j h)
    refine ⟨hjn, ?_⟩
    by_cases hji : j = i
    · subst hji; exact hy.qOp hi H
    · have := hdone _ _ H j (ready_mono hj hji)
      omega
  | succ f ih =>
    intro listed a inv hfree hr hy H
    have hun := (mem_ready.1 hr).1
    refine ⟨fun h => (by rw [h] at hr; cases hr), fun j hj => ?_⟩
    have hjn : j < n := by
      rcases Nat.lt_or_ge j n with h | h
      · exact h
      · exact absurd hj (tail_waits hs hc hn inv _ i rfl hin hun j h)
    refine ⟨hjn, ?_⟩
    by_cases hji : j = i
    · subst hji; exact hy.qOp hi H
    · have h1 := (H.2 j (ready_mono hj hji)).2
      obtain ⟨hjun, oj, hoj, hall⟩ := mem_ready.1 hj
      have hnot : ∀ e ∈ oj.after, Region.binds md e = true → e.on ≠ i := fun e he hb heq => by
        have h1 := hall e he hb
        rw [heq, getD_both hun] at h1
        cases h1
      have h2 := qOp_put hoj (hfree j oj hoj hji hjun hnot) (fun cs b => hsel i oi cs b hi) (fun cs b => hsel j oj cs b hoj) hy h1
      have hfree' : ∀ k ok, ops[k]? = some ok → k ≠ i → (listed.setIfInBounds j true).getD k true = false →
          (∀ e ∈ ok.after, Region.binds md e = true → e.on ≠ i) → oi.apart ops ok = true := fun k ok hk hki hun hno => by
        refine hfree k ok hk hki ?_ hno
        by_cases hjk : j = k
        · subst hjk; exact hjun
        · rw [getD_set_ne true hjk] at hun; exact hun
      refine qOp_mono (fun a' h3 => ih (listed.setIfInBounds j true) a' (inv.set hj hjn) hfree' (ready_mono hr (Ne.symm hji)) h3.1 ?_) h2
      rw [Array.setIfInBounds_comm _ _ hji]
      exact h3.2
theorem headQ_lex {P : Program} {md : Region.Mode} {ops : Array Oper} {C : World → Prop} {n g : Nat} {Lq : Act → Prop} (hsel : Region.noSelect ops = true) (hs : Region.sinkB md ops n = true) (hc : Region.chainB md ops n = true) (hn : n < ops.size) :
    ∀ (l : List Oper) (k : Nat) (listed : Array Bool) (a : Act), (∀ j, j < l.length → l[j]? = ops[k + j]?) → k + l.length = n → HeadInv md ops n listed →
    Region.lexHead md ops g l.length k listed = true → wpQuiet P ops C Lq l a →
    headQ P md ops C n (fun listed' a' => Region.seqB md ops g n listed' = true ∧ Lq a') l.length listed a
  | [], k, listed, a, _, hk, _, hB, h => by
    have : k = n := by simpa using hk
    subst this
    exact ⟨by simpa [Region.lexHead] using hB, h⟩
  | o :: l, k, listed, a, hl, hk, inv, hB, h => by
    have h0 : ops[k]? = some o := by simpa using (hl 0 (by simp)).symm
    simp only [List.length_cons, Region.lexHead, Bool.and_eq_true] at hB
    obtain ⟨⟨hr, hf⟩, hB'⟩ := hB
    have hkn : k < n := by simp only [List.length_cons] at hk; omega
    have hr' : k ∈ Region.ready md ops listed := by simpa using hr
    have hst : qOp P ops C k (wpQuiet P ops C Lq l) a := by unfold qOp; simp only [h0]; exact h
    obtain ⟨v, hy, hK⟩ := yieldsIn_of_qOp h0 hst
    exact headQ_first h0 (Region.noSelect_spec hsel) hs hc hn hkn (fun listed' a' hL => seqB_ready hL.1) l.length listed a inv (Region.free_spec h0 hf) hr' hy
      (headQ_lex hsel hs hc hn l (k + 1) _ _ (fun j hj => by have := hl (j + 1) (by simp; omega); simpa [Nat.add_assoc, Nat.add_comm 1 j] using this) (by simp only [List.length_cons] at hk; omega) (inv.set hr' hkn) hB' hK)
theorem wp_region_quiet_tail {P : Program} {C : World → Prop} {id : Nat} {Q : Exit → Act → World → Prop} {a : Act} {w : World} {l : List Oper} (n : Nat) (hm : P.follows .mixedOrders = true) (hB : Region.lexTailB .any l.toArray n = true) (hC : C { w with drawn := w.drawn + 1 })
    (h : wpQuiet P l.toArray C (fun a' => ∀ w', C w' → wpList P l.toArray Q (l.drop n) a' w') (l.take n) a) : (Code.region id l.toArray true).wp P Q a w := by
  simp only [Region.lexTailB, Bool.and_eq_true, decide_eq_true_eq] at hB
  obtain ⟨⟨⟨⟨hsel, hn⟩, hs⟩, hc⟩, hlex⟩ := hB
  have hn' : n < l.length := by simpa using hn
  have htl : (l.take n).length = n := by simp; omega
  have hdl : (l.drop n).length = l.toArray.size - n := by simp
  have inv0 : HeadInv .any l.toArray n (Array.replicate l.toArray.size false) :=
    ⟨by simp, fun j oj _ hl => (by rw [getD_replicate_false] at hl; cases hl), fun t _ ht => getD_in (by simpa using ht) (getD_replicate_false _ _)⟩
  have H := headQ_lex (md := .any) (g := l.toArray.size - n) hsel hs hc hn (l.take n) 0 _ a (fun j hj => by
    have hj' : j < n := by rw [htl] at hj; exact hj
    simp [hj']) (by simpa using htl) inv0 (by rw [htl]; exact hlex) h
  refine wp_region_any hm ?_
  have := any_of_headQ (Q := Q) (g := l.toArray.size - n) (fun listed a' w' hw' hL => by
    have := wpAny_of_seq (md := .any) (Q' := Q) (l.drop n) n listed a' w' (fun j => by simp [List.getElem?_drop]) (by rw [hdl]; exact hL.1) (hL.2 w' hw')
    rwa [hdl] at this) _ _ _ _ hC H
  rw [htl, show n + (l.toArray.size - n) = l.toArray.size by omega] at this
  exact this
/-- At the class 'nothing of what was there has turned'. -/
theorem wp_region_below_tail {P : Program} {id : Nat} {Q : Exit → Act → World → Prop} {a : Act} {w : World} {l : List Oper} (n : Nat) (hm : P.follows .mixedOrders = true) (hB : Region.lexTailB .any l.toArray n = true)
    (h : wpQuiet P l.toArray (fun w' => ∃ p : Regrown, w' = Sort.grow (redrawn w p.d) p.os) (fun a' => ∀ w', (∃ p : Regrown, w' = Sort.grow (redrawn w p.d) p.os) → wpList P l.toArray Q (l.drop n) a' w') (l.take n) a) : (Code.region id l.toArray true).wp P Q a w :=
  wp_region_quiet_tail n hm hB ⟨⟨w.drawn + 1, #[]⟩, by rw [Sort.grow_empty]; rfl⟩ h
end Go.Proofs.YtdaoeplblkfapaaGreatDoor
