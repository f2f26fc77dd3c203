/- THE CONTRACTS OF tape's Append where it is done, and Swap; New. -/
import Derived.Test.YtnenpcbofbcllaaWalk2
namespace Go.Proofs.Ytnenpcbofbcllaa
open Go.RowKit Go.Maps

theorem keyNe_all {E : List (Key × Nat)} {k : Key} (h : k ∉ E.map (·.1)) : E.filter (keyNe k) = E := by
  rw [List.filter_eq_self]
  intro p hp
  have : p.1 ≠ k := fun e => h (List.mem_map.2 ⟨p, hp, e⟩)
  simp [keyNe, this]
def newFile (k : Key) (j : Nat) : Ent := ⟨k, j, none, [], 0⟩
theorem Tp.fresh {w w3 : World} {t m : Nat} {E : List Ent} {s : Sc} {k : Key} (h : Tp w t m E s) (hk : k ∉ E.map (·.key)) (hn : okName k = true) (hE : E.length < 256)
    (hm : FMap w3 m ((k, w.heap.size) :: (prs E).filter (keyNe k))) (hg : (w.alloc (.cells #[.slice none 0 0, .int .i64 0] 55)).grownBy w3 (some m)) :
    Tp w3 t m (newFile k w.heap.size :: E) s ∧ Moved (Of t m E) (Of t m (newFile k w.heap.size :: E)) w w3 ∧ Blk w3 w.heap.size #[.slice none 0 0, .int .i64 0] 55 := by
  have hml := h.map.lt
  have hb : Blk w3 w.heap.size #[.slice none 0 0, .int .i64 0] 55 := (Blk.new w _ _).grown hg (by simp; omega)
  have hst : ∀ b, b < w.heap.size → b ≠ m → w3.heap[b]? = w.heap[b]? := fun b hlt hne => (hg.block b (by simp; omega) (by simpa using hne)).trans (Below.heap_alloc _ _ _ hlt)
  have hlt : ∀ e ∈ E, ∀ b, e.has b → b < w.heap.size := fun e he b hb => (h.files e he).lt b hb
  have hhas : ∀ b, (newFile k w.heap.size).has b → b = w.heap.size := by
    rintro b (h1 | h1)
    · exact h1
    · cases h1
  refine ⟨⟨Blk.same h.head (hst t h.head.lt h.tm), ?_, ?_, h.tm, ?_, ?_, ?_, ?_, ?_, ?_, ?_, ?_, h.room, ?_⟩, ?_, hb⟩
  · rw [keyNe_all (by rw [prs_keys]; exact hk)] at hm
    exact hm
  · intro e he
    rcases List.mem_cons.1 he with rfl | he
    · exact ⟨_, hb, World.ownsRow_nil _ _ _ _, rfl⟩
    · exact (h.files e he).same fun b hb => hst b (hlt e he b hb) (by rintro rfl; exact h.mE ⟨e, he, hb⟩)
  · rintro ⟨e, he, hb⟩
    rcases List.mem_cons.1 he with rfl | he
    · have := hhas t hb; have := Blk.lt h.head; omega
    · exact h.tE ⟨e, he, hb⟩
  · rintro ⟨e, he, hb⟩
    rcases List.mem_cons.1 he with rfl | he
    · have := hhas m hb; omega
    · exact h.mE ⟨e, he, hb⟩
  · intro e he
    rcases List.mem_cons.1 he with rfl | he
    · simp [newFile]
    · exact h.self e he
  · refine List.pairwise_cons.2 ⟨fun e he b h1 h2 => ?_, h.apart⟩
    have h3 := hhas b h1
    have h4 := hlt e he b h2
    omega
  · simp only [List.map_cons, List.nodup_cons]
    exact ⟨hk, h.keys⟩
  · intro e he
    rcases List.mem_cons.1 he with rfl | he
    · show 1 ≤ k.length ∧ k.length ≤ 32
      simpa [okName] using hn
    · exact h.names e he
  · simp only [List.length_cons]; omega
  · show 0 + total E ≤ s.room
    have := h.fit
    omega
  · intro e he
    rcases List.mem_cons.1 he with rfl | he
    · exact Nat.le_refl _
    · exact h.safe e he
  · have m1 : Moved (Of t m E) (Of t m E) w (w.alloc (.cells #[.slice none 0 0, .int .i64 0] 55)) := Moved.alloc _ _
    have m2 : Moved (Of t m E) (Of t m E) (w.alloc (.cells #[.slice none 0 0, .int .i64 0] 55)) w3 := Moved.of_grown hg (fun k hk => by cases hk; exact .inr (.inl rfl))
    refine (m1.trans m2).mono (fun _ h => h) ?_
    rintro b (h1 | h1 | ⟨e, he, hb⟩)
    · exact .inl (.inl h1)
    · exact .inl (.inr (.inl h1))
    · rcases List.mem_cons.1 he with rfl | he
      · have := hhas b hb; exact .inr (by omega)
      · exact .inl (.inr (.inr ⟨e, he, hb⟩))

set_option maxHeartbeats 1000000 in
theorem append_old (M : List UInt8) (w : World) (t m : Nat) (e : Ent) (R : List Ent) (s : Sc) (h : Tp w t m (e :: R) s) (q : Small s) (hM : total (e :: R) + M.length ≤ s.room) :
    Calls Try.prog 11 #[.pointer (some ⟨t, 0, none⟩), .string ⟨e.key.toArray⟩, .string ⟨M.toArray⟩] w fun x w' => x = .returned (.int .i64 (actR s)) ∧
      ∃ jb, Tp w' t m ({ e with L := e.L ++ M, jb := jb } :: R) (actS s) ∧ Moved (Of t m (e :: R)) (Of t m ({ e with L := e.L ++ M, jb := jb } :: R)) w w' := by
  have hr := ready_any w t m s h.head
  rw [show rdy s = 0 by simp [rdy, q.on]] at hr
  have HR := Lib.hid hr
  have hnm := h.names e (by simp)
  have hi := isName_any e.key w
  rw [show okName e.key = true by simp [okName]; omega] at hi
  have HI := Lib.hid hi
  have HL := Lib.hid (left_any w t m _ s h)
  have HT := Lib.hid h
  have HQ := Lib.hid q
  have c0 : w.cell? ⟨t, 0, none⟩ = some (.map (some m)) := Blk.cell h.head rfl
  have hlk := h.map.look (k := e.key) (j := e.j) (by rw [prs_keys]; exact h.keys) (by unfold maxLen; omega) (by simp [prs])
  have hlM : M.length ≤ 4194304 := by have := h.room; omega
  have hlL : e.L.length ≤ 4194304 := by have := h.room; have := total_mem (E := e :: R) (e := e) (by simp); omega
  obtain ⟨S, hS⟩ : ∃ S : ByteArray, (⟨M.toArray⟩ : ByteArray) = S := ⟨_, rfl⟩
  have hsz : S.size = M.length := by rw [← hS, size_list]
  have hle : (S.size : Int) ≤ (s.room : Int) - (total (e :: R) : Int) := by rw [hsz]; omega
  have HM := Lib.hid hM
  have HS := Lib.hid hS
  have HLM := Lib.hid hlM
  have HLL := Lib.hid hlL
  have hact := actS_room s
  have HAC := Lib.hid hact
  rw [hS]
  clear hr h hnm hi q hM hsz hlM hlL hS hact
  go_enter Try.func11, Try.ntmps11
  go_wp2_with fail
  refine HR.out.mono ?_
  rintro x w' ⟨rfl, rfl⟩
  go_wp2_with fail
  refine HI.out.mono ?_
  rintro x w' ⟨rfl, rfl⟩
  go_wp2_with fail
  refine HL.out.mono ?_
  rintro x w1 ⟨rfl, hb⟩
  have hT1 := HT.out.below hb
  obtain ⟨sv, hb1, hrow, hjb⟩ := hT1.files e (by simp)
  have d0 : w1.cell? ⟨e.j, 0, none⟩ = some sv := hb1.cell rfl
  have HB := Lib.hid hb
  have HT1 := Lib.hid hT1
  have HB1 := Lib.hid hb1
  have HRW := Lib.hid hrow
  have HJ := Lib.hid hjb
  obtain ⟨ao, cap, hsv⟩ := ownsRow_make hrow
  subst hsv
  clear hb hT1 hb1 hrow hjb
  go_wp2_with (at_builtin; refine wpList_append_text rfl _ _ rfl _ e.L rfl HRW.out M (by rw [HS.out]; rfl) (by have := HLM.out; have := HLL.out; omega) ?_)
  intro v' w2 ho hg hl
  rw [← List.length_append] at ho
  have hb2 : Blk w2 e.j #[.slice ao e.L.length cap, .int .i64 e.safe] 55 := HB1.out.grown hg (by rw [HJ.out]; exact fun e1 => HT.out.self e (by simp) e1.symm)
  have d0' : w2.cell? ⟨e.j, 0, none⟩ = some (.slice ao e.L.length cap) := hb2.cell rfl
  have g0 := hb2.free (i := 0)
  obtain ⟨ht2, hm2⟩ := HT1.out.grew HB1.out HJ.out ho hg hl HM.out
  obtain ⟨ao', cap', n2, hsv'⟩ : ∃ ao cap n, v' = .slice ao n cap := let ⟨a, b, h⟩ := ownsRow_make ho; ⟨a, b, _, h⟩
  have HT2 := Lib.hid ht2
  have HM2 := Lib.hid hm2
  have HA := Lib.hid (act_of ht2.head HQ.out)
  subst hsv'
  clear hb2 ht2 hm2 ho hg hl
  go_wp2_with fail
  refine HA.out.mono ?_
  rintro x w4 ⟨rfl, h1, h2⟩
  have H1 := Lib.hid h1
  have H2 := Lib.hid h2
  clear h1 h2
  go_wp2_with fail
  go_ret
  exact ⟨rfl, _, HT2.out.acted H1.out H2.out HAC.out, ((Moved.of_below HB.out).trans HM2.out).trans H2.out.of⟩

set_option maxHeartbeats 1000000 in
theorem append_new (k : Key) (M : List UInt8) (w : World) (t m : Nat) (E : List Ent) (s : Sc) (h : Tp w t m E s) (q : Small s) (hk : k ∉ E.map (·.key)) (hn : okName k = true) (hE : E.length < 256) (hM : total E + M.length ≤ s.room) :
    Calls Try.prog 11 #[.pointer (some ⟨t, 0, none⟩), .string ⟨k.toArray⟩, .string ⟨M.toArray⟩] w fun x w' => x = .returned (.int .i64 (actR s)) ∧
      ∃ j jb, Tp w' t m (⟨k, j, jb, M, 0⟩ :: E) (actS s) ∧ Moved (Of t m E) (Of t m (⟨k, j, jb, M, 0⟩ :: E)) w w' := by
  have hr := ready_any w t m s h.head
  rw [show rdy s = 0 by simp [rdy, q.on]] at hr
  have HR := Lib.hid hr
  have hi := isName_any k w
  rw [hn] at hi
  have HI := Lib.hid hi
  have HL := Lib.hid (left_any w t m _ s h)
  have HT := Lib.hid h
  have HQ := Lib.hid q
  have c0 : w.cell? ⟨t, 0, none⟩ = some (.map (some m)) := Blk.cell h.head rfl
  have hk32 : k.length ≤ 32 := by simp [okName] at hn; omega
  have hlk := h.map.look_none (k := k) (by unfold maxLen; omega) (by rw [prs_keys]; exact hk)
  have hlen := h.map.len
  have hlE : (prs E).length = E.length := by simp [prs]
  rw [hlE] at hlen
  have hE2 : ((E.length : Int) == 256) = false := by simp; omega
  have hlM : M.length ≤ 4194304 := by have := h.room; omega
  obtain ⟨S, hS⟩ : ∃ S : ByteArray, (⟨M.toArray⟩ : ByteArray) = S := ⟨_, rfl⟩
  obtain ⟨K, hK⟩ : ∃ K : ByteArray, (⟨k.toArray⟩ : ByteArray) = K := ⟨_, rfl⟩
  have hsz : S.size = M.length := by rw [← hS, size_list]
  have hle : (S.size : Int) ≤ (s.room : Int) - (total E : Int) := by rw [hsz]; omega
  rw [hK] at HI hlk ⊢
  have HK := Lib.hid hk
  have HN := Lib.hid hn
  have HE := Lib.hid hE
  have HM := Lib.hid hM
  have HS := Lib.hid hS
  have HKK := Lib.hid hK
  have HLM := Lib.hid hlM
  have HK32 := Lib.hid hk32
  have hact := actS_room s
  have HAC := Lib.hid hact
  rw [hS]
  clear hr h hi q hE hM hsz hlM hS hact hk hn hlE hK hk32
  go_enter Try.func11, Try.ntmps11
  go_wp2_with fail
  refine HR.out.mono ?_
  rintro x w' ⟨rfl, rfl⟩
  go_wp2_with fail
  refine HI.out.mono ?_
  rintro x w' ⟨rfl, rfl⟩
  go_wp2_with fail
  refine HL.out.mono ?_
  rintro x w1 ⟨rfl, hb⟩
  have hT1 := HT.out.below hb
  have c1 : (w1.alloc (.cells #[.slice none 0 0, .int .i64 0] 55)).cell? ⟨t, 0, none⟩ = some (.map (some m)) := Blk.cell (Blk.alloc hT1.head _) rfl
  have hfm : FMap (w1.alloc (.cells #[.slice none 0 0, .int .i64 0] 55)) m (prs E) := hT1.map.same (Below.heap_alloc _ _ _ hT1.map.lt)
  have HB := Lib.hid hb
  have HT1 := Lib.hid hT1
  have HFM := Lib.hid hfm
  clear hb hT1 hfm hlk hlen c0
  go_wp2_with (at_mapUpdate; refine wpList_put rfl _ _ _ rfl m w1.heap.size (prs E) k rfl HFM.out (by have := HE.out; simp only [prs, List.length_map]; unfold maxLen; omega) (by rw [HKK.out]; rfl) rfl (by have := HK32.out; unfold maxLen; omega) ?_)
  intro w3 hm3 hg3
  obtain ⟨ht3, hmv, hb3⟩ := HT1.out.fresh HK.out HN.out HE.out hm3 hg3
  have d0 : w3.cell? ⟨w1.heap.size, 0, none⟩ = some (.slice none 0 0) := hb3.cell rfl
  have HT3 := Lib.hid ht3
  have HMV := Lib.hid hmv
  have HB3 := Lib.hid hb3
  clear ht3 hmv hb3 hm3 hg3
  go_wp2_with (at_builtin; refine wpList_append_text rfl _ _ rfl _ [] rfl (World.ownsRow_nil _ _ _ _) M (by rw [HS.out]; rfl) (by have := HLM.out; simp only [List.length_nil]; omega) ?_)
  intro v' w4 ho hg hl
  have hb4 : Blk w4 w1.heap.size #[.slice none 0 0, .int .i64 0] 55 := HB3.out.grown hg (by simp [Value.ownBlock])
  have d0' : w4.cell? ⟨w1.heap.size, 0, none⟩ = some (.slice none 0 0) := hb4.cell rfl
  have g0 := hb4.free (i := 0)
  obtain ⟨ht2, hm2⟩ := HT3.out.grew (e := newFile k w1.heap.size) (sv := .slice none 0 0) (M := M) HB3.out rfl ho hg hl (by have := HM.out; show 0 + total E + M.length ≤ s.room; omega)
  obtain ⟨ao', cap', n2, hsv'⟩ : ∃ ao cap n, v' = .slice ao n cap := let ⟨a, b, h⟩ := ownsRow_make ho; ⟨a, b, _, h⟩
  have HT2 := Lib.hid ht2
  have HM2 := Lib.hid hm2
  have HA := Lib.hid (act_of ht2.head HQ.out)
  subst hsv'
  clear hb4 ht2 hm2 ho hg hl
  go_wp2_with fail
  refine HA.out.mono ?_
  rintro x w5 ⟨rfl, h1, h2⟩
  have H1 := Lib.hid h1
  have H2 := Lib.hid h2
  clear h1 h2
  go_wp2_with fail
  go_ret
  exact ⟨rfl, _, _, HT2.out.acted H1.out H2.out HAC.out, (((Moved.of_below HB.out).trans HMV.out).trans HM2.out).trans H2.out.of⟩

/-! ### Swap -/
theorem filter_keys {E : List Ent} (k : Key) : (prs E).filter (keyNe k) = prs (E.filter fun e => !(e.key == k)) := by
  unfold prs
  rw [List.filter_map]
  rfl
theorem Tp.swapped {w w' : World} {t m : Nat} {e : Ent} {R : List Ent} {s : Sc} {k : Key} (h : Tp w t m (e :: R) s) (hn : okName k = true)
    (hm : FMap w' m ((k, e.j) :: ((prs (e :: R)).filter (keyNe e.key)).filter (keyNe k))) (hs : ∀ b, b < w.heap.size → b ≠ m → w'.heap[b]? = w.heap[b]?) :
    Tp w' t m ({ e with key := k } :: R.filter fun x => !(x.key == k)) s := by
  have hkn := List.nodup_cons.1 (show (e.key :: R.map (·.key)).Nodup from h.keys)
  have hap := List.pairwise_cons.1 h.apart
  have hsub : (R.filter fun x => !(x.key == k)).Sublist R := List.filter_sublist
  have hmem : ∀ x ∈ (R.filter fun x => !(x.key == k)), x ∈ R ∧ x.key ≠ k := fun x hx => by
    have := List.mem_filter.1 hx
    exact ⟨this.1, by simpa using this.2⟩
  have hfile : ∀ x ∈ e :: R, Fo w' x := fun x hx => (h.files x hx).same fun b hb => hs b ((h.files x hx).lt b hb) (by rintro rfl; exact h.mE ⟨x, hx, hb⟩)
  refine ⟨Blk.same h.head (hs t (Blk.lt h.head) h.tm), ?_, ?_, h.tm, ?_, ?_, ?_, ?_, ?_, ?_, ?_, ?_, h.room, ?_⟩
  · have e1 : (prs (e :: R)).filter (keyNe e.key) = prs R := by
      have : prs (e :: R) = (e.key, e.j) :: prs R := rfl
      rw [this, List.filter_cons]
      have e2 : keyNe e.key (e.key, e.j) = false := by simp [keyNe]
      rw [e2]
      simp only [Bool.false_eq_true, if_false]
      exact keyNe_all (by rw [prs_keys]; exact hkn.1)
    rw [e1, filter_keys] at hm
    exact hm
  · intro x hx
    rcases List.mem_cons.1 hx with rfl | hx
    · exact hfile e (by simp)
    · exact hfile x (List.mem_cons_of_mem _ (hmem x hx).1)
  · rintro ⟨x, hx, hb⟩
    rcases List.mem_cons.1 hx with rfl | hx
    · exact h.tE ⟨e, by simp, hb⟩
    · exact h.tE ⟨x, List.mem_cons_of_mem _ (hmem x hx).1, hb⟩
  · rintro ⟨x, hx, hb⟩
    rcases List.mem_cons.1 hx with rfl | hx
    · exact h.mE ⟨e, by simp, hb⟩
    · exact h.mE ⟨x, List.mem_cons_of_mem _ (hmem x hx).1, hb⟩
  · intro x hx
    rcases List.mem_cons.1 hx with rfl | hx
    · exact h.self e (by simp)
    · exact h.self x (List.mem_cons_of_mem _ (hmem x hx).1)
  · exact List.pairwise_cons.2 ⟨fun x hx b h1 h2 => hap.1 x (hmem x hx).1 b h1 h2, hap.2.sublist hsub⟩
  · simp only [List.map_cons, List.nodup_cons]
    refine ⟨fun hx => ?_, hkn.2.sublist (hsub.map _)⟩
    obtain ⟨x, hx, hxk⟩ := List.mem_map.1 hx
    exact (hmem x hx).2 hxk
  · intro x hx
    rcases List.mem_cons.1 hx with rfl | hx
    · show 1 ≤ k.length ∧ k.length ≤ 32
      simpa [okName] using hn
    · exact h.names x (List.mem_cons_of_mem _ (hmem x hx).1)
  · have h1 := hsub.length_le
    have h2 := h.few
    simp only [List.length_cons] at h2 ⊢
    omega
  · have h1 := total_filter_le R fun x => !(x.key == k)
    have h2 := h.fit
    simp only [total] at h2 ⊢
    omega
  · intro x hx
    rcases List.mem_cons.1 hx with rfl | hx
    · exact h.safe e (by simp)
    · exact h.safe x (List.mem_cons_of_mem _ (hmem x hx).1)
theorem Of.swapped {t m : Nat} {e : Ent} {R : List Ent} {k : Key} {b : Nat} (h : Of t m ({ e with key := k } :: R.filter fun x => !(x.key == k)) b) : Of t m (e :: R) b := by
  rcases h with h | h | ⟨x, hx, hb⟩
  · exact .inl h
  · exact .inr (.inl h)
  · rcases List.mem_cons.1 hx with rfl | hx
    · exact .inr (.inr ⟨e, by simp, hb⟩)
    · exact .inr (.inr ⟨x, List.mem_cons_of_mem _ (List.mem_filter.1 hx).1, hb⟩)
set_option maxHeartbeats 1000000 in
theorem swap_some (k : Key) (w : World) (t m : Nat) (e : Ent) (R : List Ent) (s : Sc) (h : Tp w t m (e :: R) s) (q : Small s) (hn : okName k = true) :
    Calls Try.prog 19 #[.pointer (some ⟨t, 0, none⟩), .string ⟨e.key.toArray⟩, .string ⟨k.toArray⟩] w fun x w' => x = .returned (.int .i64 (actR s)) ∧
      Tp w' t m ({ e with key := k } :: R.filter fun x => !(x.key == k)) (actS s) ∧ Moved (Of t m (e :: R)) (Of t m ({ e with key := k } :: R.filter fun x => !(x.key == k))) w w' := by
  have HF := Lib.hid (find_some w t m e R s h q.on)
  have hi := isName_any k w
  rw [hn] at hi
  have HI := Lib.hid hi
  have HT := Lib.hid h
  have HQ := Lib.hid q
  have hk32 : k.length ≤ 32 := by simp [okName] at hn; omega
  have c0 : w.cell? ⟨t, 0, none⟩ = some (.map (some m)) := Blk.cell h.head rfl
  have hnm := h.names e (by simp)
  obtain ⟨K, hK⟩ : ∃ K : ByteArray, (⟨k.toArray⟩ : ByteArray) = K := ⟨_, rfl⟩
  obtain ⟨K2, hK2⟩ : ∃ K : ByteArray, (⟨e.key.toArray⟩ : ByteArray) = K := ⟨_, rfl⟩
  rw [hK] at HI ⊢
  rw [hK2] at HF ⊢
  have HK := Lib.hid hK
  have HK2 := Lib.hid hK2
  have HN := Lib.hid hn
  have HK32 := Lib.hid hk32
  have HNM := Lib.hid hnm
  have hact := actS_room s
  have HAC := Lib.hid hact
  have hlE : (prs (e :: R)).length ≤ 256 := by have := h.few; simpa [prs] using this
  have HLE := Lib.hid hlE
  clear h q hn hi hk32 hK hK2 hnm hact hlE
  go_enter Try.func19, Try.ntmps19
  go_wp2_with fail
  refine HF.out.mono ?_
  rintro x w' ⟨rfl, rfl⟩
  go_wp2_with fail
  refine HI.out.mono ?_
  rintro x w' ⟨rfl, rfl⟩
  go_wp2_with (at_delete; refine wpList_del rfl _ _ rfl m (prs (e :: R)) e.key rfl HT.out.map (by rw [HK2.out]; rfl) (by have := HNM.out; unfold maxLen; omega) ?_)
  intro w1 hm1 hg1
  have b1 : Hd w1 t m s := Blk.grown HT.out.head hg1 (by simpa using HT.out.tm)
  have c1 : w1.cell? ⟨t, 0, none⟩ = some (.map (some m)) := Blk.cell b1 rfl
  have HM1 := Lib.hid hm1
  have HG1 := Lib.hid hg1
  have HB1 := Lib.hid b1
  clear hm1 hg1 b1
  go_wp2_with (at_mapUpdate; refine wpList_put rfl _ _ _ rfl m e.j _ k rfl HM1.out (by have := HLE.out; have := List.length_filter_le (keyNe e.key) (prs (e :: R)); unfold maxLen; omega) (by rw [HK.out]; rfl) rfl (by have := HK32.out; unfold maxLen; omega) ?_)
  intro w2 hm2 hg2
  rw [← List.filter_filter] at hm2
  have ht2 := HT.out.swapped HN.out hm2 (fun b hlt hne => (hg2.block b (Nat.lt_of_lt_of_le hlt HG1.out.size) (by simpa using hne)).trans (HG1.out.block b hlt (by simpa using hne)))
  have HT2 := Lib.hid ht2
  have HG2 := Lib.hid hg2
  have HA := Lib.hid (act_of ht2.head HQ.out)
  clear ht2 hm2 hg2
  go_wp2_with fail
  refine HA.out.mono ?_
  rintro x w3 ⟨rfl, h1, h2⟩
  have H1 := Lib.hid h1
  have H2 := Lib.hid h2
  clear h1 h2
  go_wp2_with fail
  go_ret
  have m1 : Moved (Of t m (e :: R)) (Of t m (e :: R)) w w1 := Moved.of_grown HG1.out (fun k hk => by cases hk; exact .inr (.inl rfl))
  have m2 : Moved (Of t m (e :: R)) (Of t m (e :: R)) w1 w2 := Moved.of_grown HG2.out (fun k hk => by cases hk; exact .inr (.inl rfl))
  exact ⟨rfl, HT2.out.acted H1.out H2.out HAC.out, ((m1.trans m2).trans H2.out.of).mono (fun _ h => h) (fun b hb => .inl hb.swapped)⟩

/-! ### New -/
theorem new_any (r : Int) (w : World) (h0 : 0 ≤ r) (h1 : r ≤ 4194304) :
    Calls Try.prog 9 #[.int .i64 r] w fun x w' => ∃ t m, x = .returned (.pointer (some ⟨t, 0, none⟩)) ∧ Tp w' t m [] ⟨r.toNat, false, 0, 0, 0⟩ ∧ Below w.heap.size w w' ∧ w.heap.size ≤ t ∧ w.heap.size ≤ m := by
  have hmm := @run_makeMap Try.prog
  have hr : max r 0 = r := by omega
  have hr2 : min r 4194304 = r := by omega
  have hq : ((r.toNat : Nat) : Int) = r := by omega
  go_enter Try.func9, Try.ntmps9
  go_wp2_with fail
  go_ret
  have hb : Hd ((w.alloc (.map #[] 0)).alloc (.cells (scv w.heap.size ⟨r.toNat, false, 0, 0, 0⟩) 50)) (w.heap.size + 1) w.heap.size ⟨r.toNat, false, 0, 0, 0⟩ := by
    have := Blk.new (w.alloc (.map #[] 0)) (scv w.heap.size ⟨r.toNat, false, 0, 0, 0⟩) 50
    simpa [Hd] using this
  have hb2 := hb
  simp only [scv, hq] at hb2
  refine ⟨w.heap.size + 1, w.heap.size, by simp, ⟨by simpa [hr, hr2] using hb2, ?_, by simp, by omega, ?_, ?_, by simp, List.Pairwise.nil, List.nodup_nil, by simp, by simp, Nat.zero_le _, by show r.toNat ≤ _; omega, by simp⟩, ?_, by omega, Nat.le_refl _⟩
  · exact (FMap.made w).same (Below.heap_alloc _ _ _ (by simp))
  · rintro ⟨e, he, _⟩; cases he
  · rintro ⟨e, he, _⟩; cases he
  · exact (((RowKit.Below.refl _ w).alloc (Nat.le_refl _) _).alloc (by simp) _)
end Go.Proofs.Ytnenpcbofbcllaa
