import Derived.Test.YtdaoeplblkfapaaGreatDoorM07
import Derived.Test.YtdaoeplblkfapaaGreatDoorM04
import Derived.Test.YtdaoeplblkfapaaGreatDoorM01
import Derived.Lib.QuietBelow
import Derived.BigQuiet
import Derived.Deep.QuietTactic
import Derived.Lib.Repeat
import Derived.Laws.ResultCell
import Derived.Deep.RegionHeld3
import Derived.StillTailTactics
import Derived.IntWalk
import Derived.Lib.SliceRun

/- THE CONTRACTS OF tape's Drop and Cut; what the names are, in order. -/
namespace Go.Proofs.YtdaoeplblkfapaaGreatDoor.Ta
open Go.RowKit Go.Maps

theorem drop_none (k : Key) (w : World) (t m : Nat) (E : List Ent) (s : Sc) (h : Tp w t m E s) (hd : s.down = false) (hk : k.length ≤ 1048576) (hm : k ∉ E.map (·.key)) :
    Calls Tryz.prog 106 #[.pointer (some ⟨t, 0, none⟩), .string ⟨k.toArray⟩] w fun e w' => e = .returned (.int .i64 12) ∧ w = w' := by
  have HF := Lib.hid (find_none' k w t m E s h hd hk hm)
  clear h hk hm
  go_enter Tryz.func106, Tryz.ntmps106
  go_wp2_with fail
  refine HF.out.mono ?_
  rintro e w' ⟨rfl, rfl⟩
  go_wp2_with fail
  go_ret
  exact ⟨rfl, rfl⟩
theorem Of.less {t m : Nat} {e : Ent} {R : List Ent} {b : Nat} (h : Of t m R b) : Of t m (e :: R) b := by
  rcases h with h | h | ⟨x, hx, hb⟩
  · exact .inl h
  · exact .inr (.inl h)
  · exact .inr (.inr ⟨x, List.mem_cons_of_mem _ hx, hb⟩)
theorem Tp.dropped {w w' : World} {t m : Nat} {e : Ent} {R : List Ent} {s : Sc} (h : Tp w t m (e :: R) s)
    (hm : FMap w' m ((prs (e :: R)).filter (keyNe e.key))) (hs : ∀ b, b < w.heap.size → b ≠ m → w'.heap[b]? = w.heap[b]?) : Tp w' t m R s := by
  have hkn := List.nodup_cons.1 (show (e.key :: R.map (·.key)).Nodup from h.keys)
  have hap := List.pairwise_cons.1 h.apart
  refine ⟨Blk.same h.head (hs t (Blk.lt h.head) h.tm), ?_, ?_, h.tm, ?_, ?_, ?_, hap.2, hkn.2, ?_, ?_, ?_, h.room, ?_⟩
  · have e1 : (prs (e :: R)).filter (keyNe e.key) = prs R := by
      have : prs (e :: R) = (e.key, e.j) :: prs R := rfl
      rw [this, List.filter_cons]
      have e2 : keyNe e.key (e.key, e.j) = false := by simp [keyNe]
      rw [e2]
      simp only [Bool.false_eq_true, if_false]
      exact keyNe_all (by rw [prs_keys]; exact hkn.1)
    rw [e1] at hm
    exact hm
  · exact fun x hx => (h.files x (List.mem_cons_of_mem _ hx)).same fun b hb => hs b ((h.files x (List.mem_cons_of_mem _ hx)).lt b hb) (by rintro rfl; exact h.mE ⟨x, List.mem_cons_of_mem _ hx, hb⟩)
  · rintro ⟨x, hx, hb⟩; exact h.tE ⟨x, List.mem_cons_of_mem _ hx, hb⟩
  · rintro ⟨x, hx, hb⟩; exact h.mE ⟨x, List.mem_cons_of_mem _ hx, hb⟩
  · exact fun x hx => h.self x (List.mem_cons_of_mem _ hx)
  · exact fun x hx => h.names x (List.mem_cons_of_mem _ hx)
  · have := h.few; simp only [List.length_cons] at this; omega
  · have := h.fit; simp only [total] at this; omega
  · exact fun x hx => h.safe x (List.mem_cons_of_mem _ hx)
set_option maxHeartbeats 1000000 in
set_option maxRecDepth 100000 in
theorem drop_some (w : World) (t m : Nat) (e : Ent) (R : List Ent) (s : Sc) (h : Tp w t m (e :: R) s) (q : Small s) :
    Calls Tryz.prog 106 #[.pointer (some ⟨t, 0, none⟩), .string ⟨e.key.toArray⟩] w fun x w' => x = .returned (.int .i64 (actR s)) ∧
      Tp w' t m R (actS s) ∧ Moved (Of t m (e :: R)) (Of t m R) w w' := by
  have HF := Lib.hid (find_some w t m e R s h q.on)
  have HT := Lib.hid h
  have HQ := Lib.hid q
  have c0 : w.cell? ⟨t, 0, none⟩ = some (.map (some m)) := Blk.cell h.head rfl
  have hnm := h.names e (by simp)
  obtain ⟨K2, hK2⟩ : ∃ K : ByteArray, (⟨e.key.toArray⟩ : ByteArray) = K := ⟨_, rfl⟩
  rw [hK2] at HF ⊢
  have HK2 := Lib.hid hK2
  have HNM := Lib.hid hnm
  have hact := actS_room s
  have HAC := Lib.hid hact
  clear h q hK2 hnm hact
  go_enter Tryz.func106, Tryz.ntmps106
  go_wp2_with fail
  refine HF.out.mono ?_
  rintro x w' ⟨rfl, rfl⟩
  go_wp2_with (at_delete; refine wpList_del rfl _ _ rfl m (prs (e :: R)) e.key rfl HT.out.map (by rw [HK2.out]; rfl) (by have := HNM.out; unfold maxLen; omega) ?_)
  intro w1 hm1 hg1
  have ht2 := HT.out.dropped hm1 (fun b hlt hne => hg1.block b hlt (by simpa using hne))
  have HT2 := Lib.hid ht2
  have HG1 := Lib.hid hg1
  have HA := Lib.hid (act_of ht2.head HQ.out)
  clear hm1 hg1 ht2
  go_wp2_with fail
  refine HA.out.mono ?_
  rintro x w3 ⟨rfl, h1, h2⟩
  have H1 := Lib.hid h1
  have H2 := Lib.hid h2
  clear h1 h2
  go_wp2_with fail
  go_ret
  have m1 : Moved (Of t m (e :: R)) (Of t m (e :: R)) w w1 := Moved.of_grown HG1.out (fun k hk => by cases hk; exact .inr (.inl rfl))
  exact ⟨rfl, HT2.out.acted H1.out H2.out HAC.out, (m1.trans H2.out.of).mono (fun _ h => h) (fun b hb => .inl hb.less)⟩

set_option maxHeartbeats 1000000 in
set_option maxRecDepth 100000 in
theorem fcut_any (w : World) (j g cap safe n : Nat) (L : List UInt8) (hb : Blk w j #[.slice (some ⟨g, 0, none⟩) L.length cap, .int .i64 safe] 92) (hrow : w.ownsRow 0 5 1 (.slice (some ⟨g, 0, none⟩) L.length cap) L.length (bcells L))
    (hn : n ≤ L.length) (hL : L.length ≤ 4194304) (_hs : safe ≤ L.length) :
    Calls Tryz.prog 84 #[.pointer (some ⟨j, 0, none⟩), .int .i64 n] w fun e w' => (∃ v, e = .returned v) ∧
      ∃ v, Blk w' j #[v, .int .i64 ((min safe n : Nat) : Int)] 92 ∧ w'.ownsRow 0 5 1 v n (bcells (L.take n)) ∧ (∀ k, v.ownBlock = some k → w.heap.size ≤ k) ∧ Moved (fun b => b = j) (fun b => b = j) w w' := by
  have d0 : w.cell? ⟨j, 0, none⟩ = some (.slice (some ⟨g, 0, none⟩) L.length cap) := hb.cell rfl
  have hcap : L.length ≤ cap ∧ cap ≤ 9223372036854775807 := by
    rcases hrow.2 with ⟨h, _⟩ | ⟨g', cap', cur, h, _, _, h1, h2, _⟩
    · cases h
    · injection h with _ _ h3
      subst h3
      unfold maxLen at h2
      omega
  have hlt := (hrow.lt g rfl).2
  have hcl := clone_any w g n cap (L.take n) (by rw [List.length_take]; omega) (fun j u hj => by
    have hj2 : (bcells L)[j]? = some u := by
      have : bcells (L.take n) = (bcells L).take n := by unfold bcells; rw [List.map_take]
      rw [this, List.getElem?_take] at hj
      split at hj
      · exact hj
      · cases hj
    exact hrow.cells (g := g) rfl j u hj2) (fun k hk => hk ▸ hlt) (by omega)
  obtain ⟨mn, hmn⟩ : ∃ mn : Nat, min safe n = mn := ⟨_, rfl⟩
  have hmin : min (safe : Int) n = mn := by omega
  rw [hmn]
  have HC := Lib.hid hcl
  have HB := Lib.hid hb
  obtain ⟨N, hN⟩ : ∃ N, L.length = N := ⟨_, rfl⟩
  rw [hN] at d0 HB hcap hn
  have HMN := Lib.hid hmn
  clear hcl hb hrow hlt hN hmn
  go_enter Tryz.func84, Tryz.ntmps84
  go_wp2_with fail
  refine HC.out.mono ?_
  rintro e w1 ⟨v, rfl, hown, hbl⟩
  obtain ⟨ao, cap', n2, rfl⟩ : ∃ ao cap n, v = .slice ao n cap := let ⟨a, b, h⟩ := ownsRow_make hown; ⟨a, b, _, h⟩
  have hb1 := HB.out.below hbl
  have d0' : w1.cell? ⟨j, 0, none⟩ = some (.slice (some ⟨g, 0, none⟩) N cap) := hb1.cell rfl
  have g0 := hb1.free (i := 0)
  have b2 := hb1.set (i := 0) (.slice ao n2 cap')
  have d1 : (w1.setCell ⟨j, 0, none⟩ (.slice ao n2 cap')).cell? ⟨j, 1, none⟩ = some (.int .i64 safe) := b2.cell rfl
  have g1 := b2.free (i := 1)
  have HO := Lib.hid hown
  have HBL := Lib.hid hbl
  have HB1 := Lib.hid hb1
  have HB2 := Lib.hid b2
  clear hown hbl hb1 b2
  go_wp2_with fail
  all_goals go_end0
  all_goals
    have hfr : ∀ k, Value.ownBlock (.slice ao n2 cap') = some k → w.heap.size ≤ k := fun k hk => (HO.out.lt k hk).1
    have hj := HB.out.lt
    have hm := (Moved.trans (Moved.of_below (B := fun b => b = j) HBL.out) (Kt.set j 0 _ _)).trans (Kt.set j 1 (w1.setCell ⟨j, 0, none⟩ (.slice ao n2 cap')) (.int .i64 (mn : Int)))
    have hb3 := HB2.out.set (i := 1) (.int .i64 (mn : Int))
    refine ⟨⟨_, rfl⟩, _, by simpa using hb3, ?_, hfr, hm⟩
    have h1 : w1.ownsRow 0 5 1 (.slice ao n2 cap') n (bcells (L.take n)) := by
      refine ⟨HO.out.1, ?_⟩
      rcases HO.out.2 with h | ⟨g, c, cur, h, _, rest⟩
      · exact .inl h
      · exact .inr ⟨g, c, cur, h, Nat.zero_le _, rest⟩
    refine ownsRow_same (w := w1.setCell ⟨j, 0, none⟩ (.slice ao n2 cap')) (ownsRow_same h1 fun k hk => ?_) fun k hk => ?_
    · exact Below.heap_setCell _ _ _ _ (by rintro rfl; have := hfr _ hk; omega)
    · exact Below.heap_setCell _ _ _ _ (by rintro rfl; have := hfr _ hk; omega)

set_option maxHeartbeats 1000000 in
set_option maxRecDepth 100000 in
theorem cut_some (n : Nat) (w : World) (t m : Nat) (e : Ent) (R : List Ent) (s : Sc) (h : Tp w t m (e :: R) s) (q : Small s) (hn : n ≤ e.L.length) (h0 : 0 < e.L.length) :
    Calls Tryz.prog 98 #[.pointer (some ⟨t, 0, none⟩), .string ⟨e.key.toArray⟩, .int .i64 n] w fun x w' => x = .returned (.int .i64 (actR s)) ∧
      ∃ jb, Tp w' t m ({ e with L := e.L.take n, jb := jb, safe := min e.safe n } :: R) (actS s) ∧ Moved (Of t m (e :: R)) (Of t m ({ e with L := e.L.take n, jb := jb, safe := min e.safe n } :: R)) w w' := by
  have HF := Lib.hid (find_some w t m e R s h q.on)
  have HT := Lib.hid h
  have HQ := Lib.hid q
  obtain ⟨sv, hb, hrow, hjb⟩ := h.files e (by simp)
  have hroom := h.room
  have hfit := h.fit
  have hsafe := h.safe e (by simp)
  have hlL : e.L.length ≤ 4194304 := by have := total_mem (E := e :: R) (e := e) (by simp); omega
  obtain ⟨g, cap, cur, hsv, -⟩ : ∃ g cap cur, sv = .slice (some ⟨g, 0, none⟩) e.L.length cap ∧ w.heap[g]? = some (.cells cur 5 (0, 0)) := by
    rcases hrow.2 with ⟨h1, h2⟩ | ⟨g, cap, cur, h1, _, h2, _⟩
    · omega
    · exact ⟨g, cap, cur, h1, h2⟩
  subst hsv
  have HC := Lib.hid (fcut_any w e.j g cap e.safe n e.L hb hrow hn hlL hsafe)
  have d0 : w.cell? ⟨e.j, 0, none⟩ = some (.slice (some ⟨g, 0, none⟩) e.L.length cap) := hb.cell rfl
  obtain ⟨N, hN⟩ : ∃ N, e.L.length = N := ⟨_, rfl⟩
  have HN := Lib.hid hN
  rw [hN] at d0 hn
  have HJ := Lib.hid hjb
  have hact := actS_room s
  have HAC := Lib.hid hact
  have HNL := Lib.hid hn
  have hni : (n : Int) ≤ (N : Int) := by omega
  clear h hb hrow hjb hroom hfit hsafe hlL q hact hN h0 hn
  go_enter Tryz.func98, Tryz.ntmps98
  go_wp2_with fail
  refine HF.out.mono ?_
  rintro x w' ⟨rfl, rfl⟩
  go_wp2_with fail
  refine HC.out.mono ?_
  rintro x w1 ⟨⟨y, rfl⟩, v, h1, h2, h3, h4⟩
  have hlt := HT.out.files e (by simp)
  have hT1 := HT.out.file (w' := w1) (e' := { e with L := e.L.take n, jb := v.ownBlock, safe := min e.safe n }) ⟨v, h1, by simpa [List.length_take, Nat.min_eq_left (show n ≤ e.L.length by have := HN.out; have := HNL.out; omega)] using h2, rfl⟩ rfl rfl (.inr h3)
    (fun k hk hno => h4.block k hk (by rintro rfl; exact hno (.inl rfl)))
    (by have := HT.out.fit; simp only [total, List.length_take] at this ⊢; omega)
    (by have := HNL.out; have := HN.out; simp only [List.length_take]; omega)
  have hm1 : Moved (Of t m (e :: R)) (Of t m ({ e with L := e.L.take n, jb := v.ownBlock, safe := min e.safe n } :: R)) w w1 :=
    h4.mono (fun k hk => by subst hk; exact .inr (.inr ⟨e, by simp, .inl rfl⟩)) (fun b hb => Of.file (e := e) (e' := { e with L := e.L.take n, jb := v.ownBlock, safe := min e.safe n }) rfl (.inr h3) hb)
  have HT1 := Lib.hid hT1
  have HM1 := Lib.hid hm1
  have HA := Lib.hid (act_of hT1.head HQ.out)
  clear h1 h2 h3 h4 hT1 hm1 hlt
  go_wp2_with fail
  refine HA.out.mono ?_
  rintro x w3 ⟨rfl, h1, h2⟩
  have H1 := Lib.hid h1
  have H2 := Lib.hid h2
  clear h1 h2
  go_wp2_with fail
  go_ret
  exact ⟨rfl, _, HT1.out.acted H1.out H2.out HAC.out, HM1.out.trans H2.out.of⟩

section
variable {w w' : World} {t : Nat} {B : Nat → Prop} {f : View} {tot n : Nat} {s : Sc}
theorem Vw.gone {e : Ent} {R : List Ent} {f : View} (h : Vw (e :: R) f) (hn : ((e :: R).map (·.key)).Nodup) : Vw R (upd f e.key .none) := by
  have hnd := (List.nodup_cons.1 (show (e.key :: R.map (·.key)).Nodup from hn)).1
  intro k L sf
  unfold upd
  by_cases hkk : k = e.key
  · subst hkk
    rw [if_pos rfl]
    exact ⟨(fun h => by cases h), fun ⟨x, hx, h1, _⟩ => absurd (List.mem_map.2 ⟨x, hx, h1⟩) hnd⟩
  · rw [if_neg hkk, h k L sf]
    constructor
    · rintro ⟨x, hx, h1, h2⟩
      rcases List.mem_cons.1 hx with rfl | hx
      · exact absurd h1.symm hkk
      · exact ⟨x, hx, h1, h2⟩
    · rintro ⟨x, hx, h1, h2⟩
      exact ⟨x, List.mem_cons_of_mem _ hx, h1, h2⟩
theorem s_drop (h : St w t B f tot n s) (q : Small s) (k : Key) (L : List UInt8) (sf : Nat) (hf : f k = some (L, sf)) :
    Calls Tryz.prog 106 #[.pointer (some ⟨t, 0, none⟩), .string ⟨k.toArray⟩] w fun x w' => x = .returned (.int .i64 (actR s)) ∧
      ∃ B', St w' t B' (upd f k none) (tot - L.length) (n - 1) (actS s) ∧ Moved B B' w w' := by
  obtain ⟨m, E, h1, h2, h3, h4, h5⟩ := h
  obtain ⟨e, R, hp, rfl, rfl, rfl⟩ := h3.yes hf
  have hl := hp.length_eq
  have ht := total_perm hp
  refine (drop_some w t m e R s (h1.perm hp) q).mono ?_
  rintro x w' ⟨rfl, h6, h7⟩
  refine ⟨rfl, _, ⟨m, R, h6, fun b => Iff.rfl, (h3.perm hp).gone (h1.perm hp).keys, ?_, ?_⟩, h7.iff (fun b => (h2 b).trans (Of.iff hp b)) fun b => Iff.rfl⟩
  · simp only [total] at ht; omega
  · simp only [List.length_cons] at hl; omega
theorem s_drop_none (h : St w t B f tot n s) (hd : s.down = false) (k : Key) (hk : k.length ≤ 1048576) (hf : f k = none) :
    Calls Tryz.prog 106 #[.pointer (some ⟨t, 0, none⟩), .string ⟨k.toArray⟩] w fun e w' => e = .returned (.int .i64 12) ∧ w = w' := by
  obtain ⟨m, E, h1, h2, h3, -⟩ := h
  exact drop_none k w t m E s h1 hd hk (h3.no hf)
theorem s_cut (h : St w t B f tot n s) (q : Small s) (k : Key) (L : List UInt8) (sf x : Nat) (hf : f k = some (L, sf)) (hx : x ≤ L.length) (h0 : 0 < L.length) :
    Calls Tryz.prog 98 #[.pointer (some ⟨t, 0, none⟩), .string ⟨k.toArray⟩, .int .i64 x] w fun e w' => e = .returned (.int .i64 (actR s)) ∧
      ∃ B', St w' t B' (upd f k (some (L.take x, min sf x))) (tot - L.length + x) n (actS s) ∧ Moved B B' w w' := by
  obtain ⟨m, E, h1, h2, h3, h4, h5⟩ := h
  obtain ⟨e, R, hp, rfl, rfl, rfl⟩ := h3.yes hf
  have hl := hp.length_eq
  have ht := total_perm hp
  refine (cut_some x w t m e R s (h1.perm hp) q hx h0).mono ?_
  rintro y w' ⟨rfl, jb, h6, h7⟩
  refine ⟨rfl, _, ⟨m, _, h6, fun b => Iff.rfl, (h3.perm hp).head (e' := { e with L := e.L.take x, jb := jb, safe := min e.safe x }) (h1.perm hp).keys rfl, ?_, ?_⟩, h7.iff (fun b => (h2 b).trans (Of.iff hp b)) fun b => Iff.rfl⟩
  · simp only [total, List.length_take] at ht ⊢; omega
  · simp only [List.length_cons] at hl ⊢; omega
end
end Go.Proofs.YtdaoeplblkfapaaGreatDoor.Ta

/- THE CONTRACTS OF strand's name, beside, end, last, Start, End. -/
namespace Go.Proofs.YtdaoeplblkfapaaGreatDoor
open Go.RowKit

theorem bytes_append (a b : List UInt8) : (⟨a.toArray⟩ : ByteArray) ++ ⟨b.toArray⟩ = ⟨(a ++ b).toArray⟩ := by
  apply ByteArray.ext
  rw [ByteArray.data_append]
  simp
theorem beside_any (w : World) (s : Nat) (h : Hs) (v : Value) (hb : Blk w s (hcells h v) 99) (hP : h.P.length ≤ 1048576) :
    Calls Tryz.prog 91 #[.pointer (some ⟨s, 0, none⟩)] w fun e w' => e = .returned (.string ⟨(nmNew h.P).toArray⟩) ∧ w = w' := by
  have c2 : w.cell? ⟨s, 2, none⟩ = some (.string ⟨h.P.toArray⟩) := hb.cell rfl
  obtain ⟨S, hS⟩ : ∃ S : ByteArray, (⟨h.P.toArray⟩ : ByteArray) = S := ⟨_, rfl⟩
  have hz : S.size ≤ 1048576 := by rw [← hS, size_list]; exact hP
  have HE := Lib.hid (show S ++ ⟨#[46, 110, 101, 119]⟩ = ⟨(nmNew h.P).toArray⟩ by rw [← hS]; exact bytes_append _ [46, 110, 101, 119])
  rw [hS] at c2
  clear hb hS hP
  go_enter Tryz.func91, Tryz.ntmps91
  go_wp2_with fail
  go_ret
  exact ⟨by rw [HE.out]; rfl, rfl⟩
set_option maxHeartbeats 1000000 in
set_option maxRecDepth 100000 in
theorem name_any (w : World) (lb : Lb w) (s : Nat) (h : Hs) (v : Value) (hb : Blk w s (hcells h v) 99) (hP : h.P.length ≤ 1048576) (x : Int) (h0 : 0 ≤ x) (h1 : x ≤ 1099511627776) :
    Calls Tryz.prog 81 #[.pointer (some ⟨s, 0, none⟩), .int .i64 x] w fun e w' => e = .returned (.string ⟨(nm h.P x).toArray⟩) ∧ Below w.heap.size w w' := by
  have HI := Lib.hid (itoa_any x ⟨by omega, by omega⟩ w lb)
  have c2 : w.cell? ⟨s, 2, none⟩ = some (.string ⟨h.P.toArray⟩) := hb.cell rfl
  have HC2 := Lib.hid c2
  obtain ⟨n, hn⟩ : ∃ n, (Lib.itoa x).length = n := ⟨_, rfl⟩
  obtain ⟨h13, h14⟩ := itoa_13 h0 h1
  obtain ⟨S, hS⟩ : ∃ S : ByteArray, (⟨h.P.toArray⟩ : ByteArray) = S := ⟨_, rfl⟩
  obtain ⟨I, hI⟩ : ∃ I : ByteArray, (⟨(Lib.itoa x).toArray⟩ : ByteArray) = I := ⟨_, rfl⟩
  have hz : S.size ≤ 1048576 := by rw [← hS, size_list]; exact hP
  have hi : I.size = n := by rw [← hI, size_list]; exact hn
  rw [hn] at h13 h14
  obtain ⟨k, hk⟩ : ∃ k, 13 - n = k := ⟨_, rfl⟩
  have hkn : (13 : Int) - (n : Int) = (k : Int) := by omega
  have hr : ∀ wx, Calls Tryz.prog 127 #[.string ⟨#[48]⟩, .int .i64 k] wx fun e w' => e = .returned (.string ⟨(List.replicate k (48 : UInt8)).toArray⟩) ∧ Below wx.heap.size wx w' := fun wx => by
    have := Tryz.strings_Repeat ⟨#[48]⟩ k wx (by omega) (by show 1 * k ≤ _; omega)
    rw [show Lib.repeatL (⟨#[48]⟩ : ByteArray).data.toList k = List.replicate k 48 by
      have := Lib.repeatL_replicate 48 1 k
      simpa using this] at this
    exact this
  obtain ⟨R, hR⟩ : ∃ R : ByteArray, (⟨(List.replicate k (48 : UInt8)).toArray⟩ : ByteArray) = R := ⟨_, rfl⟩
  have hRz : R.size = k := by rw [← hR, size_list]; simp
  rw [hR] at hr
  have HE := Lib.hid (show S ++ ⟨#[46]⟩ ++ R ++ I = ⟨(nm h.P x).toArray⟩ by
    rw [← hS, ← hR, ← hI, show (⟨#[46]⟩ : ByteArray) = ⟨[46].toArray⟩ from rfl, bytes_append, bytes_append, bytes_append]
    unfold nm pad
    rw [hn, hk]
    simp)
  have HR := Lib.hid hr
  have hS2 : (S ++ ⟨#[46]⟩).size ≤ 1048577 := by rw [ByteArray.size_append]; show S.size + 1 ≤ _; omega
  obtain ⟨T, hT⟩ : ∃ T, S ++ ⟨#[46]⟩ = T := ⟨_, rfl⟩
  rw [hT] at hS2
  rw [hS] at HC2
  rw [hI] at HI
  have hi2 : I.size ≤ 13 := by omega
  have hR2 : R.size ≤ 13 := by omega
  have hTR : (T ++ R).size ≤ 1048590 := by rw [ByteArray.size_append]; omega
  have HT := Lib.hid hT
  have HIS := Lib.hid hi
  have HKN := Lib.hid hkn
  have hk13 : k ≤ 13 := by omega
  clear hb c2 hS hI hn hr hR hRz hk hP h0 h1 lb hi hkn
  go_enter Tryz.func81, Tryz.ntmps81
  go_wp2_with fail
  refine HI.out.mono ?_
  rintro e w1 ⟨rfl, b1⟩
  have c2 : w1.cell? ⟨s, 2, none⟩ = some (.string S) := (b1.cell (World.block_lt_of_cell? w _ HC2.out)).trans HC2.out
  have HB1 := Lib.hid b1
  have k1 : ∀ d os, _ := cell_regrown c2
  have HRR := Lib.hid fun d os => Calls.regrown_of (HR.out (Go.Sort.grow (redrawn w1 d) os))
  have hT' := HT.out
  have hi' := HIS.out
  have hkn' := HKN.out
  clear b1 HI HR HT HIS HKN
  go_wp2_with fail
  refine wp_region_quiet_below (by kernel_rfl) (by kernel_rfl) ?_
  repeat (go_big_quiet_step ((go_at_call 127; with_reducible exact HRR.out _ _)))
  refine wpQuiet_nil ?_
  intro _ hw'
  obtain ⟨⟨dq, osq⟩, hw''⟩ := hw'
  subst hw''
  clear hT' hi' hkn'
  go_wp2_with fail
  go_ret
  exact ⟨by rw [← HE.out, hT]; rfl, HB1.out.trans ((below_regrown w1 dq osq).mono HB1.out.size)⟩
end Go.Proofs.YtdaoeplblkfapaaGreatDoor

/- THE CONTRACTS OF strand.end, segment.end, last, Start, End. -/
namespace Go.Proofs.YtdaoeplblkfapaaGreatDoor
open Go.RowKit

theorem end_any (p : Pl.Bt × Value) (hg : Pl.goodB p.1 = true) (w : World) :
    Calls Tryz.prog 117 #[bv p] w fun e w' => e = .returned (.int .i64 (bend p.1)) ∧ Below w.heap.size w w' := by
  obtain ⟨⟨base, count, prod, seq, time, recs⟩, v⟩ := p
  obtain ⟨h1, h2, -⟩ := Pl.goodB_iff.1 hg
  simp only at h1 h2
  obtain ⟨a1, a2⟩ := h1
  obtain ⟨a3, a4, a5⟩ := h2
  unfold bv bend
  simp only
  clear hg
  go_enter Tryz.func117, Tryz.ntmps117
  go_wp2_with fail
  go_ret
  exact ⟨rfl, (Below.refl _ _).alloc (Nat.le_refl _) _⟩
theorem Chain.last {x : Int} {l : List Pl.Bt} {b : Pl.Bt} {n : Nat} (_h : Chain x l) (hn : l.length = n + 1) (hb : l[n]? = some b) : lend x l = bend b := by
  have : l = l.take n ++ [b] := by
    have h1 := List.take_append_drop n l
    rw [List.drop_eq_getElem_cons (by omega), List.drop_eq_nil_of_le (by omega)] at h1
    rw [List.getElem?_eq_getElem (by omega)] at hb
    rw [Option.some.inj hb] at h1
    exact h1.symm
  rw [this, lend_snoc]
set_option maxHeartbeats 1000000 in
set_option maxRecDepth 100000 in
theorem segend_any {A : Nat → Prop} (f y : Int) (lv : Value) (L : List (Pl.Bt × Value)) (w : World) (hl : BtIn A w lv L) (hc : Chain f (L.map (·.1))) (hL : L.length ≤ 1048576) :
    Calls Tryz.prog 77 #[.agg #[.int .i64 f, .int .i64 y, lv]] w fun e w' => e = .returned (.int .i64 (lend f (L.map (·.1)))) ∧ Below w.heap.size w w' := by
  obtain ⟨n, hn⟩ : ∃ n, L.length = n := ⟨_, rfl⟩
  rcases n with _ | n
  · obtain rfl := List.eq_nil_of_length_eq_zero hn
    obtain ⟨a, cap, rfl⟩ := hl.form
    clear hl hc hL
    go_enter Tryz.func77, Tryz.ntmps77
    go_wp2_with fail
    go_ret
    exact ⟨rfl, (Below.refl _ _).alloc (Nat.le_refl _) _⟩
  · obtain ⟨p, hp⟩ : ∃ p, L[n]? = some p := ⟨_, List.getElem?_eq_getElem (by omega)⟩
    have hpm : p.1 ∈ L.map (·.1) := List.mem_map.2 ⟨p, List.mem_of_getElem? hp, rfl⟩
    have hgood := hc.good _ hpm
    have he := hc.last (n := n) (b := p.1) (by rw [List.length_map]; exact hn) (by rw [List.getElem?_map, hp]; rfl)
    rw [he]
    have HE := Lib.hid fun w => end_any p hgood w
    obtain ⟨⟨base, count, prod, seq, time, recs⟩, v⟩ := p
    obtain ⟨b, o, cap, rfl, -, hb, d0, d1, d2, d3, d4, d5, -⟩ := hl.get hp
    rw [hn] at hL ⊢
    have hm : ((n + 1 : Nat) : Int) - 1 = (n : Int) := by omega
    clear hl hc he hpm hgood hp hn
    go_enter Tryz.func77, Tryz.ntmps77
    go_wp2_with fail
    refine (HE.out _).mono ?_
    rintro e w' ⟨rfl, hb'⟩
    go_wp2_with fail
    go_ret
    exact ⟨rfl, ((Below.refl _ w).alloc (Nat.le_refl _) _).trans (hb'.mono (by simp))⟩

theorem undSg : (Tryz.prog.underlying 119).map (fun d => match d with | .struct _ | .array _ _ => true | _ => false) = some true := by kernel_rfl
theorem sizeSg : (Tryz.prog.info? 119).map (·.size) = some 3 := by kernel_rfl
theorem load_seg {W : World} {rb : Nat} {a0 a1 a2 : Value} (hb : Blk W rb #[a0, a1, a2] 119) : (loadVar 119 ⟨rb, 0, none⟩).run Tryz.prog W = .ok (.agg #[a0, a1, a2]) W := by
  obtain ⟨d, hd, hs⟩ : ∃ d, Tryz.prog.underlying 119 = some d ∧ (match d with | .struct _ | .array _ _ => true | _ => false) = true := by
    have h := undSg
    cases hd : Tryz.prog.underlying 119 with
    | none => rw [hd] at h; cases h
    | some d => rw [hd] at h; exact ⟨d, rfl, Option.some.inj h⟩
  exact run_loadVar_row (P := Tryz.prog) W rb 119 119 #[a0, a1, a2] (0, 0) d hb hd (by cases d <;> exact hs) sizeSg
theorem last_ret {W : World} {rb : Nat} {a0 a1 a2 : Value} {tmps : Array Value} (hb : Blk W rb #[a0, a1, a2] 119) (h2 : tmps.getD 2 undef = .pointer (some ⟨rb, 0, none⟩)) :
    (results Tryz.f76 tmps).run Tryz.prog W = .ok (.agg #[a0, a1, a2]) W := by
  have hl := load_seg hb
  simp only [results, Tryz.results76]
  rw [Array.getD_eq_getD_getElem?] at h2
  simp [asAddr, hl, h2]
/-- The cells of the segment at a place. -/
theorem Lies.get {w : World} {s : Nat} {h : Hs} {X : List Sx} {v : Value} {gb : Option Nat} {A : Nat → Prop} (k : Lies w s h X v gb A) {j : Nat} {x : Sx} (hj : X[j]? = some x) :
    ∃ g o cap, gb = some g ∧ v = .slice (some ⟨g, o, none⟩) X.length cap ∧ X.length ≤ cap ∧ g < w.heap.size ∧ w.cell? ⟨g, o + j * 3, none⟩ = some (.int .i64 x.first) ∧ w.cell? ⟨g, o + j * 3 + 1, none⟩ = some (.int .i64 ((frs x.bts).length : Nat)) ∧ w.cell? ⟨g, o + j * 3 + 2, none⟩ = some x.lv := by
  have hl := (List.getElem?_eq_some_iff.1 hj).1
  rcases k.segs.2 with ⟨_, _, h0⟩ | ⟨g, o, cap, cur, rfl, rfl, hg, hc, -⟩
  · omega
  · have key : ∀ i u, i < 3 → (sc3 x)[i]? = some u → w.cell? ⟨g, o + j * 3 + i, none⟩ = some u := fun i u hi hu => by
      have := k.segs.cell rfl (j * 3 + i) u (by rw [flat_at sc3 3 sc3_length X j x hj i hi]; exact hu)
      rw [← Nat.add_assoc] at this
      exact this
    exact ⟨g, o, cap, rfl, rfl, hc, k.segs.lt g rfl, key 0 _ (by decide) rfl, key 1 _ (by decide) rfl, key 2 _ (by decide) rfl⟩
theorem Lies.list {w : World} {s : Nat} {h : Hs} {X : List Sx} {v : Value} {gb : Option Nat} {A : Nat → Prop} (k : Lies w s h X v gb A) {x : Sx} (hx : x ∈ X) : BtIn (fun b => A b ∨ x.lb = some b) w x.lv x.L :=
  ⟨Rds.of_sl (k.lists x hx) fun _ h => .inr h, (k.recs x hx).mono fun _ h => .inl h⟩
set_option maxHeartbeats 1000000 in
set_option maxRecDepth 100000 in
theorem last_any {w : World} {s : Nat} {h : Hs} {X : List Sx} {v : Value} {gb : Option Nat} {A : Nat → Prop} (k : Lies w s h X v gb A) {n : Nat} (hn : X.length = n + 1) {x : Sx} (hx : X[n]? = some x) (hX : X.length ≤ 1048576) :
    Calls Tryz.prog 76 #[.pointer (some ⟨s, 0, none⟩)] w fun e w' => e = .returned (sv x) ∧ Below w.heap.size w w' := by
  obtain ⟨g, o, cap, rfl, rfl, hc, hg, c0, c1, c2⟩ := k.get hx
  have d4 : w.cell? ⟨s, 4, none⟩ = some (.slice (some ⟨g, o, none⟩) X.length cap) := k.head.cell rfl
  have hs := k.head.lt
  unfold sv
  obtain ⟨y, hy⟩ : ∃ y, (frs x.bts).length = y := ⟨_, rfl⟩
  rw [hy] at c1 ⊢
  obtain ⟨N, hN⟩ : ∃ N, X.length = N := ⟨_, rfl⟩
  rw [hN] at d4 hX
  have i0 : (0 : Int) ≤ (n : Int) := by omega
  have i1 : (n : Int) < (N : Int) := by omega
  have i2 : IntKind.i64.wrap ((N : Int) - 1) = (n : Int) := by rw [show (N : Int) - 1 = n by omega]; exact IntWalk.i64_in _ (by omega)
  obtain ⟨la, lc, hlv⟩ := (k.list (List.mem_of_getElem? hx)).form
  obtain ⟨m, hm⟩ : ∃ m, x.L.length = m := ⟨_, rfl⟩
  rw [hlv, hm] at c2 ⊢
  obtain ⟨f, hf⟩ : ∃ f, x.first = f := ⟨_, rfl⟩
  rw [hf] at c0 ⊢
  clear k hx hn hy hc hN hlv hm hf
  go_enter Tryz.func76, Tryz.ntmps76
  go_wp2_with fail
  go_region_held3 (fun w' => w'.cell? ⟨s, 4, none⟩ = some (.slice (some ⟨g, o, none⟩) N cap) ∧ w'.cell? ⟨g, o + n * 3, none⟩ = some (.int .i64 f) ∧ w'.cell? ⟨g, o + n * 3 + 1, none⟩ = some (.int .i64 y) ∧ w'.cell? ⟨g, o + n * 3 + 2, none⟩ = some (.slice la m lc)) (go_keep) (fail)
  go_wp2_with fail
  refine bodyPost_ret (last_ret (a0 := .int .i64 f) (a1 := .int .i64 y) (a2 := .slice la m lc) ?_ rfl) rfl ⟨rfl, ?_⟩
  · exact Blk.new w _ _
  · exact ((Below.refl _ w).alloc (Nat.le_refl _) _).drew

def gsEnd : List Sg → Int
  | [] => 0
  | g :: l => match l with
    | [] => lend g.first g.l
    | _ :: _ => gsEnd l
def gsStart : List Sg → Int
  | [] => 0
  | g :: _ => g.first
theorem gsEnd_snoc (G : List Sg) (g : Sg) : gsEnd (G ++ [g]) = lend g.first g.l := by
  induction G with
  | nil => rfl
  | cons a G ih =>
    cases G with
    | nil => rfl
    | cons b G => exact ih
theorem snoc_of {α : Type} {l : List α} {n : Nat} (h : l.length = n + 1) : ∃ x, l[n]? = some x ∧ l = l.take n ++ [x] := by
  refine ⟨l[n], List.getElem?_eq_getElem (by omega), ?_⟩
  have h1 := List.take_append_drop n l
  rw [List.drop_eq_getElem_cons (by omega), List.drop_eq_nil_of_le (by omega)] at h1
  exact h1.symm
/-- Segments' batches stand one behind the other, each segment in itself. -/
def Chs (G : List Sg) : Prop := ∀ g ∈ G, Chain g.first g.l
theorem start_nil (w : World) : Calls Tryz.prog 46 #[.pointer none] w fun e w' => e = .returned (.int .i64 0) ∧ w = w' := by
  go_enter Tryz.func46, Tryz.ntmps46
  go_wp2_with fail
  go_ret
  exact ⟨rfl, rfl⟩
theorem end_nil (w : World) : Calls Tryz.prog 29 #[.pointer none] w fun e w' => e = .returned (.int .i64 0) ∧ w = w' := by
  go_enter Tryz.func29, Tryz.ntmps29
  go_wp2_with fail
  go_ret
  exact ⟨rfl, rfl⟩
theorem bases_nil (w : World) : Calls Tryz.prog 37 #[.pointer none] w fun e w' => e = .returned (.slice none 0 0) ∧ w = w' := by
  go_enter Tryz.func37, Tryz.ntmps37
  go_wp2_with fail
  go_ret
  exact ⟨rfl, rfl⟩
set_option maxHeartbeats 1000000 in
set_option maxRecDepth 100000 in
theorem start_any {w : World} {s : Nat} {h : Hs} {X : List Sx} {v : Value} {gb : Option Nat} {A : Nat → Prop} (k : Lies w s h X v gb A) (hX : X.length ≤ 1048576) :
    Calls Tryz.prog 46 #[.pointer (some ⟨s, 0, none⟩)] w fun e w' => e = .returned (.int .i64 (gsStart (X.map Sx.sg))) ∧ w = w' := by
  obtain ⟨a, cap, rfl⟩ := k.segs.form
  have d4 : w.cell? ⟨s, 4, none⟩ = some (.slice a X.length cap) := k.head.cell rfl
  rcases X with _ | ⟨x, X⟩
  · clear k hX
    go_enter Tryz.func46, Tryz.ntmps46
    go_wp2_with fail
    go_ret
    exact ⟨rfl, rfl⟩
  · obtain ⟨g, o, cap', rfl, e, hc, hg, c0, -, -⟩ := k.get (j := 0) (x := x) rfl
    injection e with e1 e2 e3
    subst e1 e3
    obtain ⟨N, hN⟩ : ∃ N, (x :: X).length = N := ⟨_, rfl⟩
    have hN0 : ((N : Int) == 0) = false := by simp only [List.length_cons] at hN; simp; omega
    have hN1 : (0 : Int) < (N : Int) := by simp only [List.length_cons] at hN; omega
    rw [hN] at d4 hX
    simp only [Nat.zero_mul, Nat.add_zero] at c0
    show Calls _ _ _ _ fun e w' => e = .returned (.int .i64 x.first) ∧ w = w'
    obtain ⟨f, hf⟩ : ∃ f, x.first = f := ⟨_, rfl⟩
    rw [hf] at c0 ⊢
    clear k hN hf e2
    go_enter Tryz.func46, Tryz.ntmps46
    go_wp2_with fail
    go_ret
    exact ⟨rfl, rfl⟩
set_option maxHeartbeats 1000000 in
set_option maxRecDepth 100000 in
theorem endS_any {w : World} {s : Nat} {h : Hs} {X : List Sx} {v : Value} {gb : Option Nat} {A : Nat → Prop} (k : Lies w s h X v gb A) (hX : X.length ≤ 1048576) (hc : Chs (X.map Sx.sg)) (hL : ∀ x ∈ X, x.L.length ≤ 1048576) :
    Calls Tryz.prog 29 #[.pointer (some ⟨s, 0, none⟩)] w fun e w' => e = .returned (.int .i64 (gsEnd (X.map Sx.sg))) ∧ Below w.heap.size w w' := by
  obtain ⟨a, cap, rfl⟩ := k.segs.form
  have d4 : w.cell? ⟨s, 4, none⟩ = some (.slice a X.length cap) := k.head.cell rfl
  obtain ⟨n, hn⟩ : ∃ n, X.length = n := ⟨_, rfl⟩
  rcases n with _ | n
  · obtain rfl := List.eq_nil_of_length_eq_zero hn
    clear k hX hc hL hn
    go_enter Tryz.func29, Tryz.ntmps29
    go_wp2_with fail
    go_ret
    exact ⟨rfl, Below.refl _ _⟩
  · obtain ⟨x, hx, he⟩ := snoc_of hn
    have hm := List.mem_of_getElem? hx
    have hend : gsEnd (X.map Sx.sg) = lend x.first x.bts := by
      rw [he, List.map_append]
      exact gsEnd_snoc _ x.sg
    rw [hend]
    have HL := Lib.hid (last_any k hn hx hX)
    have HS : Hid (∀ w', Below w.heap.size w w' → Calls Tryz.prog 77 #[sv x] w' fun e w'' => e = .returned (.int .i64 (lend x.first x.bts)) ∧ Below w'.heap.size w' w'') := fun w' hb =>
      segend_any x.first _ x.lv x.L w' ((k.below hb).list hm) (hc x.sg (List.mem_map.2 ⟨x, hm, rfl⟩)) (hL x hm)
    obtain ⟨N, hN⟩ : ∃ N, X.length = N := ⟨_, rfl⟩
    have hN0 : ((N : Int) == 0) = false := by simp; omega
    rw [hN] at d4
    clear k hX hc hL hn hx he hm hend hN
    go_enter Tryz.func29, Tryz.ntmps29
    go_wp2_with fail
    refine HL.out.mono ?_
    rintro e w1 ⟨rfl, b1⟩
    have H1 := Lib.hid b1
    clear b1
    go_wp2_with fail
    refine (HS.out _ H1.out).mono ?_
    rintro e w2 ⟨rfl, b2⟩
    have H2 := Lib.hid b2
    clear b2
    go_wp2_with fail
    go_ret
    exact ⟨rfl, H1.out.trans (H2.out.mono H1.out.size)⟩
end Go.Proofs.YtdaoeplblkfapaaGreatDoor

/- THE CONTRACTS OF slices.Clone at records, batches, segments. -/
namespace Go.Proofs.YtdaoeplblkfapaaGreatDoor
open Go.RowKit

theorem infoBt' : (Tryz.prog.info? 34).map (fun i => (i.zero, i.size, i.bytes)) = some (some (.agg zeroB), 6, 64) := by kernel_rfl
theorem infoSg' : (Tryz.prog.info? 119).map (fun i => (i.zero, i.size, i.bytes)) = some (some (.agg #[.int .i64 0, .int .i64 0, .slice none 0 0]), 3, 40) := by kernel_rfl
theorem infoInt' : (Tryz.prog.info? 3).map (fun i => (i.zero, i.size, i.bytes)) = some (some (.int .i64 0), 1, 8) := by kernel_rfl
theorem infoBt : ∃ i, Tryz.prog.info? 34 = some i ∧ i.zero = some (.agg zeroB) ∧ i.size = 6 ∧ i.bytes = 64 := info_parts infoBt'
theorem infoSg : ∃ i, Tryz.prog.info? 119 = some i ∧ i.zero = some (.agg #[.int .i64 0, .int .i64 0, .slice none 0 0]) ∧ i.size = 3 ∧ i.bytes = 40 := info_parts infoSg'
theorem infoInt : ∃ i, Tryz.prog.info? 3 = some i ∧ i.zero = some (.int .i64 0) ∧ i.size = 1 ∧ i.bytes = 8 := info_parts infoInt'

set_option maxHeartbeats 1000000 in
set_option maxRecDepth 100000 in
theorem cloneRc {A : Nat → Prop} (v : Value) (n : Nat) (xs : List Value) (w : World) (h : Rds A w v 4 n xs) (h1 : ∀ u ∈ xs, u.oneCell' = true) (hn : n ≤ 1048576) :
    Calls Tryz.prog 128 #[v] w fun e w' => ∃ v' gb', e = .returned v' ∧ Sl w' v' gb' 75 4 n xs ∧ (∀ b, gb' = some b → w.heap.size ≤ b) ∧ Below w.heap.size w w' := by
  rcases h.2 with ⟨rfl, rfl⟩ | ⟨ad, cap, rfl, -⟩
  · obtain rfl : xs = [] := List.eq_nil_of_length_eq_zero (by simpa using h.1)
    clear h h1 hn
    have hnil := fun wx => Lib.run_eql_slice_nil (P := Tryz.prog) wx 32 75 none 0 0 0 0 Tryz.underlying32
    go_enter Tryz.func128, Tryz.ntmps128
    go_wp2_with fail
    go_ret
    exact ⟨_, none, rfl, Sl.nil _ _ _, (fun b hb => by cases hb), Below.refl _ _⟩
  · have hw0 : Below w.heap.size w (w.alloc (.cells #[] 75)) := (Below.refl _ _).alloc (Nat.le_refl _) _
    have HS0 := Lib.hid (Sl.made w 75 4)
    have HR0 := Lib.hid (h.below hw0)
    have H1 := Lib.hid h1
    have hs0 : (w.alloc (.cells #[] 75)).heap.size = w.heap.size + 1 := by simp
    have HSZ := Lib.hid hs0
    have hnil := fun wx => Lib.run_eql_slice_nil (P := Tryz.prog) wx 32 75 (some ad) n cap 0 0 Tryz.underlying32
    have HW0 := Lib.hid hw0
    obtain ⟨i0, hi, hz0, hz1, hz2⟩ := infoRec
    clear h h1 hw0 hs0
    go_enter Tryz.func128, Tryz.ntmps128
    go_wp2_with (at_builtin; refine wpList_append_rd rfl _ _ 32 rfl 75 i0 (.agg zeroR) 4 48 Tryz.underlying32 hi hz0 hz1 hz2 rfl _ (some w.heap.size) 0 [] rfl HS0.out _ n xs rfl HR0.out H1.out (by omega) (by omega) ?_)
    intro v' w9 gb' hS hG hgb
    have HB9 : Hid (Below w.heap.size w w9) := HW0.out.trans ⟨hG.os, hG.tape, hG.output, hG.size, fun k hk => hG.block k (by rw [HSZ.out]; omega) (fun e => by
      have : k = w.heap.size := Option.some.inj e
      omega)⟩
    have HG : Hid (∀ b, gb' = some b → w.heap.size ≤ b) := fun b hb => by
      rcases hgb with h | ⟨g, h, hg⟩
      · rw [h] at hb; cases hb; exact Nat.le_refl _
      · rw [h] at hb; cases hb; omega
    have HS9 := Lib.hid hS
    clear hS hG hgb
    go_wp2_with fail
    go_ret
    exact ⟨v', gb', rfl, by simpa using HS9.out, HG.out, HB9.out⟩

set_option maxHeartbeats 1000000 in
set_option maxRecDepth 100000 in
theorem cloneBt {A : Nat → Prop} (v : Value) (n : Nat) (xs : List Value) (w : World) (h : Rds A w v 6 n xs) (h1 : ∀ u ∈ xs, u.oneCell' = true) (hn : n ≤ 1048576) :
    Calls Tryz.prog 97 #[v] w fun e w' => ∃ v' gb', e = .returned v' ∧ Sl w' v' gb' 34 6 n xs ∧ (∀ b, gb' = some b → w.heap.size ≤ b) ∧ Below w.heap.size w w' := by
  rcases h.2 with ⟨rfl, rfl⟩ | ⟨ad, cap, rfl, -⟩
  · obtain rfl : xs = [] := List.eq_nil_of_length_eq_zero (by simpa using h.1)
    clear h h1 hn
    have hnil := fun wx => Lib.run_eql_slice_nil (P := Tryz.prog) wx 29 34 none 0 0 0 0 Tryz.underlying29
    go_enter Tryz.func97, Tryz.ntmps97
    go_wp2_with fail
    go_ret
    exact ⟨_, none, rfl, Sl.nil _ _ _, (fun b hb => by cases hb), Below.refl _ _⟩
  · have hw0 : Below w.heap.size w (w.alloc (.cells #[] 34)) := (Below.refl _ _).alloc (Nat.le_refl _) _
    have HS0 := Lib.hid (Sl.made w 34 6)
    have HR0 := Lib.hid (h.below hw0)
    have H1 := Lib.hid h1
    have hs0 : (w.alloc (.cells #[] 34)).heap.size = w.heap.size + 1 := by simp
    have HSZ := Lib.hid hs0
    have hnil := fun wx => Lib.run_eql_slice_nil (P := Tryz.prog) wx 29 34 (some ad) n cap 0 0 Tryz.underlying29
    have HW0 := Lib.hid hw0
    obtain ⟨i0, hi, hz0, hz1, hz2⟩ := infoBt
    clear h h1 hw0 hs0
    go_enter Tryz.func97, Tryz.ntmps97
    go_wp2_with (at_builtin; refine wpList_append_rd rfl _ _ 29 rfl 34 i0 (.agg zeroB) 6 64 Tryz.underlying29 hi hz0 hz1 hz2 rfl _ (some w.heap.size) 0 [] rfl HS0.out _ n xs rfl HR0.out H1.out (by omega) (by omega) ?_)
    intro v' w9 gb' hS hG hgb
    have HB9 : Hid (Below w.heap.size w w9) := HW0.out.trans ⟨hG.os, hG.tape, hG.output, hG.size, fun k hk => hG.block k (by rw [HSZ.out]; omega) (fun e => by
      have : k = w.heap.size := Option.some.inj e
      omega)⟩
    have HG : Hid (∀ b, gb' = some b → w.heap.size ≤ b) := fun b hb => by
      rcases hgb with h | ⟨g, h, hg⟩
      · rw [h] at hb; cases hb; exact Nat.le_refl _
      · rw [h] at hb; cases hb; omega
    have HS9 := Lib.hid hS
    clear hS hG hgb
    go_wp2_with fail
    go_ret
    exact ⟨v', gb', rfl, by simpa using HS9.out, HG.out, HB9.out⟩

set_option maxHeartbeats 1000000 in
set_option maxRecDepth 100000 in
theorem cloneSg {A : Nat → Prop} (v : Value) (n : Nat) (xs : List Value) (w : World) (h : Rds A w v 3 n xs) (h1 : ∀ u ∈ xs, u.oneCell' = true) (hn : n ≤ 1048576) :
    Calls Tryz.prog 116 #[v] w fun e w' => ∃ v' gb', e = .returned v' ∧ Sl w' v' gb' 119 3 n xs ∧ (∀ b, gb' = some b → w.heap.size ≤ b) ∧ Below w.heap.size w w' := by
  rcases h.2 with ⟨rfl, rfl⟩ | ⟨ad, cap, rfl, -⟩
  · obtain rfl : xs = [] := List.eq_nil_of_length_eq_zero (by simpa using h.1)
    clear h h1 hn
    have hnil := fun wx => Lib.run_eql_slice_nil (P := Tryz.prog) wx 97 119 none 0 0 0 0 Tryz.underlying97
    go_enter Tryz.func116, Tryz.ntmps116
    go_wp2_with fail
    go_ret
    exact ⟨_, none, rfl, Sl.nil _ _ _, (fun b hb => by cases hb), Below.refl _ _⟩
  · have hw0 : Below w.heap.size w (w.alloc (.cells #[] 119)) := (Below.refl _ _).alloc (Nat.le_refl _) _
    have HS0 := Lib.hid (Sl.made w 119 3)
    have HR0 := Lib.hid (h.below hw0)
    have H1 := Lib.hid h1
    have hs0 : (w.alloc (.cells #[] 119)).heap.size = w.heap.size + 1 := by simp
    have HSZ := Lib.hid hs0
    have hnil := fun wx => Lib.run_eql_slice_nil (P := Tryz.prog) wx 97 119 (some ad) n cap 0 0 Tryz.underlying97
    have HW0 := Lib.hid hw0
    obtain ⟨i0, hi, hz0, hz1, hz2⟩ := infoSg
    clear h h1 hw0 hs0
    go_enter Tryz.func116, Tryz.ntmps116
    go_wp2_with (at_builtin; refine wpList_append_rd rfl _ _ 97 rfl 119 i0 (.agg #[.int .i64 0, .int .i64 0, .slice none 0 0]) 3 40 Tryz.underlying97 hi hz0 hz1 hz2 rfl _ (some w.heap.size) 0 [] rfl HS0.out _ n xs rfl HR0.out H1.out (by omega) (by omega) ?_)
    intro v' w9 gb' hS hG hgb
    have HB9 : Hid (Below w.heap.size w w9) := HW0.out.trans ⟨hG.os, hG.tape, hG.output, hG.size, fun k hk => hG.block k (by rw [HSZ.out]; omega) (fun e => by
      have : k = w.heap.size := Option.some.inj e
      omega)⟩
    have HG : Hid (∀ b, gb' = some b → w.heap.size ≤ b) := fun b hb => by
      rcases hgb with h | ⟨g, h, hg⟩
      · rw [h] at hb; cases hb; exact Nat.le_refl _
      · rw [h] at hb; cases hb; omega
    have HS9 := Lib.hid hS
    clear hS hG hgb
    go_wp2_with fail
    go_ret
    exact ⟨v', gb', rfl, by simpa using HS9.out, HG.out, HB9.out⟩

/-- What a clone of records, of batches reads as. -/
theorem cl4_one (ls : List Pl.Rc) : ∀ u ∈ ls.flatMap cells4, u.oneCell' = true := flat4_one ls
theorem bc6_one {A : Nat → Prop} {w : World} {L : List (Pl.Bt × Value)} (h : All A w L) : ∀ u ∈ L.flatMap bc6, u.oneCell' = true := by
  intro u hu
  obtain ⟨p, hp, hu⟩ := List.mem_flatMap.1 hu
  obtain ⟨a, cap, e⟩ := (h p hp).slice
  simp only [bc6, e, List.mem_cons, List.not_mem_nil, or_false] at hu
  rcases hu with rfl | rfl | rfl | rfl | rfl | rfl <;> rfl
theorem sc3_one {w : World} {s : Nat} {h : Hs} {X : List Sx} {v : Value} {gb : Option Nat} {A : Nat → Prop} (k : Lies w s h X v gb A) : ∀ u ∈ X.flatMap sc3, u.oneCell' = true := by
  intro u hu
  obtain ⟨x, hx, hu⟩ := List.mem_flatMap.1 hu
  obtain ⟨a, cap, e⟩ := (k.list hx).form
  simp only [sc3, e, List.mem_cons, List.not_mem_nil, or_false] at hu
  rcases hu with rfl | rfl | rfl <;> rfl
end Go.Proofs.YtdaoeplblkfapaaGreatDoor

/- THE CONTRACTS OF strand.cloned, clones, Seg, Bases. -/
namespace Go.Proofs.YtdaoeplblkfapaaGreatDoor
open Go.RowKit

theorem batch_ret {f : Func} {W : World} {pp rb : Nat} {a0 a1 a2 a3 a4 a5 : Value} {tmps : Array Value} (hf : f.results = #[.cell pp 34]) (hb : Blk W rb #[a0, a1, a2, a3, a4, a5] 34) (h2 : tmps.getD pp undef = .pointer (some ⟨rb, 0, none⟩)) :
    (results f tmps).run Tryz.prog W = .ok (.agg #[a0, a1, a2, a3, a4, a5]) W := by
  obtain ⟨d, hd, hs⟩ : ∃ d, Tryz.prog.underlying 34 = some d ∧ (match d with | .struct _ | .array _ _ => true | _ => false) = true := by
    have h := undP'
    cases hd : Tryz.prog.underlying 34 with
    | none => rw [hd] at h; cases h
    | some d => rw [hd] at h; exact ⟨d, rfl, Option.some.inj h⟩
  have hl := run_loadVar_row (P := Tryz.prog) W rb 34 34 #[a0, a1, a2, a3, a4, a5] (0, 0) d hb hd (by cases d <;> exact hs) sizeP
  simp only [results, hf]
  rw [Array.getD_eq_getD_getElem?] at h2
  simp [asAddr, hl, h2]
/-- A batch of memory of its own. -/
def Cloned (w : World) (b : Pl.Bt) (e : Ending) (w' : World) : Prop :=
  ∃ rv, e = .returned (bv (b, rv)) ∧ RcIn (fun b => w.heap.size ≤ b) w' rv b.recs ∧ Below w.heap.size w w'
set_option maxHeartbeats 1000000 in
set_option maxRecDepth 100000 in
theorem cloned_any {A : Nat → Prop} (p : Pl.Bt × Value) (w : World) (h : RcIn A w p.2 p.1.recs) (hn : p.1.recs.length ≤ 1048576) :
    Calls Tryz.prog 82 #[bv p] w (Cloned w p.1) := by
  obtain ⟨⟨base, count, prod, seq, time, recs⟩, v⟩ := p
  simp only at h hn ⊢
  unfold bv
  simp only
  obtain ⟨a, cap, rfl⟩ := h.slice
  obtain ⟨W0, hW0⟩ : ∃ W0, w.alloc (.cells #[.int .i64 base, .int .i64 count, .int .i64 prod, .int .i64 seq, .int .i64 time, .slice a recs.length cap] 34) = W0 := ⟨_, rfl⟩
  have hs0 : W0.heap.size = w.heap.size + 1 := by rw [← hW0]; simp
  have hb0 : Blk W0 w.heap.size #[.int .i64 base, .int .i64 count, .int .i64 prod, .int .i64 seq, .int .i64 time, .slice a recs.length cap] 34 := by rw [← hW0]; exact Blk.new _ _ _
  have hw0 : Below w.heap.size w W0 := by rw [← hW0]; exact (Below.refl _ _).alloc (Nat.le_refl _) _
  have hw1 : Below W0.heap.size W0 (W0.alloc (.cells zeroB 34)) := (Below.refl _ _).alloc (Nat.le_refl _) _
  have hb1 := hb0.alloc (.cells zeroB 34)
  have hr1 := Blk.new W0 zeroB 34
  have hW1 := hw0.trans (hw1.mono hw0.size)
  have HC := Lib.hid (cloneRc _ recs.length _ _ ((h.below hw0).below hw1) (flat4_one recs) hn)
  obtain ⟨m, hm⟩ : ∃ m, recs.length = m := ⟨_, rfl⟩
  rw [hm] at hb0 hb1 hW0 HC hn ⊢
  have HM := Lib.hid hm
  have HB1 := Lib.hid hb1
  have HR1 := Lib.hid hr1
  have HW1 := Lib.hid hW1
  have HS0 := Lib.hid hs0
  have c5 : W0.cell? ⟨w.heap.size, 5, none⟩ = some (.slice a m cap) := hb0.cell rfl
  have hlt : w.heap.size < W0.heap.size := by omega
  clear h hw0 hw1 hb1 hr1 hW1 hs0 hm hb0
  go_enter Tryz.func82, Tryz.ntmps82
  go_wp2_with fail
  refine HC.out.mono ?_
  rintro e w2 ⟨v', gb', rfl, hS, hg, hb⟩
  obtain ⟨a', cap', rfl⟩ := hS.form
  have k0 := HB1.out.below hb
  have kr := HR1.out.below hb
  have d0 : w2.cell? ⟨w.heap.size, 0, none⟩ = some (.int .i64 base) := k0.cell rfl
  have d1 : w2.cell? ⟨w.heap.size, 1, none⟩ = some (.int .i64 count) := k0.cell rfl
  have d2 : w2.cell? ⟨w.heap.size, 2, none⟩ = some (.int .i64 prod) := k0.cell rfl
  have d3 : w2.cell? ⟨w.heap.size, 3, none⟩ = some (.int .i64 seq) := k0.cell rfl
  have d4 : w2.cell? ⟨w.heap.size, 4, none⟩ = some (.int .i64 time) := k0.cell rfl
  have d5 : w2.cell? ⟨w.heap.size, 5, none⟩ = some (.slice a m cap) := k0.cell rfl
  have g5 : w2.frozen? ⟨w.heap.size, 5, none⟩ = false := k0.free
  have r0 : w2.cell? ⟨W0.heap.size, 0, none⟩ = some (.int .i64 0) := kr.cell rfl
  have r1 : w2.cell? ⟨W0.heap.size, 1, none⟩ = some (.int .i64 0) := kr.cell rfl
  have r2 : w2.cell? ⟨W0.heap.size, 2, none⟩ = some (.int .i64 0) := kr.cell rfl
  have r3 : w2.cell? ⟨W0.heap.size, 3, none⟩ = some (.int .i64 0) := kr.cell rfl
  have r4 : w2.cell? ⟨W0.heap.size, 4, none⟩ = some (.int .i64 0) := kr.cell rfl
  have r5 : w2.cell? ⟨W0.heap.size, 5, none⟩ = some (.slice none 0 0) := kr.cell rfl
  have q0 : w2.frozen? ⟨W0.heap.size, 0, none⟩ = false := kr.free
  have q1 : w2.frozen? ⟨W0.heap.size, 1, none⟩ = false := kr.free
  have q2 : w2.frozen? ⟨W0.heap.size, 2, none⟩ = false := kr.free
  have q3 : w2.frozen? ⟨W0.heap.size, 3, none⟩ = false := kr.free
  have q4 : w2.frozen? ⟨W0.heap.size, 4, none⟩ = false := kr.free
  have q5 : w2.frozen? ⟨W0.heap.size, 5, none⟩ = false := kr.free
  have HK0 := Lib.hid k0
  have HKR := Lib.hid kr
  have HB := Lib.hid hb
  have HSL := Lib.hid hS
  have HG := Lib.hid hg
  clear k0 kr hb hS hg c5
  go_wp2_with fail
  have hn0 : W0.heap.size ≠ w.heap.size := by omega
  have hR := (HKR.out.setOther (i := 5) (.slice a' m cap') hn0).six (.int .i64 base) (.int .i64 count) (.int .i64 prod) (.int .i64 seq) (.int .i64 time) (.slice a' m cap')
  have hm := ((((((Moved.setCell (B := fun b => b = w.heap.size ∨ b = W0.heap.size) w2 ⟨w.heap.size, 5, none⟩ (.slice a' m cap') (.inl rfl)).trans (Moved.setCell _ ⟨W0.heap.size, 0, none⟩ (.int .i64 base) (.inr rfl))).trans (Moved.setCell _ ⟨W0.heap.size, 1, none⟩ (.int .i64 count) (.inr rfl))).trans (Moved.setCell _ ⟨W0.heap.size, 2, none⟩ (.int .i64 prod) (.inr rfl))).trans (Moved.setCell _ ⟨W0.heap.size, 3, none⟩ (.int .i64 seq) (.inr rfl))).trans (Moved.setCell _ ⟨W0.heap.size, 4, none⟩ (.int .i64 time) (.inr rfl))).trans (Moved.setCell _ ⟨W0.heap.size, 5, none⟩ (.slice a' m cap') (.inr rfl))
  have hz : (W0.alloc (.cells zeroB 34)).heap.size = W0.heap.size + 1 := by simp
  refine bodyPost_ret (batch_ret (pp := 2) rfl hR rfl) rfl ⟨.slice a' m cap', rfl, ?_, (hm.below (HW1.out.trans (HB.out.mono HW1.out.size)) ?_).1⟩
  · have h1 : Rds (fun b => W0.heap.size + 1 ≤ b) w2 (.slice a' m cap') 4 m (recs.flatMap cells4) := Rds.of_sl HSL.out fun b hb => hz ▸ HG.out b hb
    have h2 := h1.keep (A' := fun b => w.heap.size ≤ b) hm.size fun b hb hl => ⟨hm.block b hl (by omega), by omega⟩
    unfold RcIn
    simp only
    rw [HM.out]
    exact h2
  · rintro b (rfl | rfl) <;> omega
end Go.Proofs.YtdaoeplblkfapaaGreatDoor
