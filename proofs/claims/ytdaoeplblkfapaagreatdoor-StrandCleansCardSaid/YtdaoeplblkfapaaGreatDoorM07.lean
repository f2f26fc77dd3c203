import Derived.Test.YtdaoeplblkfapaaGreatDoorM06
import Derived.Deep.QuietTactic
import Derived.Lib.QuietBelow
import Derived.BigQuiet
import Derived.Deep.CutRange
import Derived.Deep.CutBlock

/- THE CONTRACT OF tape's On. -/
namespace Go.Proofs.YtdaoeplblkfapaaGreatDoor.Ta
open Go.RowKit Go.Maps

/-- What is left of a file when the power is back. -/
def Kp (zs : List Int) (e e' : Ent) : Prop := ∃ n, e'.L = e.L.take n ∧ e'.safe = n ∧ e.safe ≤ n ∧ n ≤ e.L.length ∧ (zs = [1] → e.safe < e.L.length → n = e.safe + 1)
/-- The files behind some rounds: those of the names K are done. -/
structure Back (zs : List Int) (K : List Key) (E E' : List Ent) : Prop where
  keys : (E'.map (·.key)).Perm (E.map (·.key))
  each : ∀ e' ∈ E', ∃ e ∈ E, e'.key = e.key ∧ (e.key ∈ K → Kp zs e e') ∧ (e.key ∉ K → e'.L = e.L ∧ e'.safe = e.safe)
theorem Back.start (zs : List Int) (E : List Ent) : Back zs [] E E := ⟨.refl _, fun e he => ⟨e, he, rfl, (fun h => absurd h (by simp)), (fun _ => ⟨rfl, rfl⟩)⟩⟩
theorem Back.perm {zs : List Int} {K : List Key} {E E' E2 : List Ent} (h : Back zs K E E') (hp : E'.Perm E2) : Back zs K E E2 :=
  ⟨(hp.symm.map _).trans h.keys, fun e he => h.each e (hp.mem_iff.2 he)⟩
/-- One file more. -/
theorem Back.step {zs : List Int} {K : List Key} {k : Key} {E R : List Ent} {e e' : Ent} (h : Back zs K E (e :: R)) (hn : ((e :: R).map (·.key)).Nodup) (hk : e.key = k) (hK : k ∉ K) (hk' : e'.key = k)
    (hst : ∀ x, x.L = e.L → x.safe = e.safe → Kp zs x e') : Back zs (K ++ [k]) E (e' :: R) := by
  have hnd := (List.nodup_cons.1 (show (e.key :: R.map (·.key)).Nodup from hn)).1
  refine ⟨by simpa [hk, hk'] using h.keys, fun x hx => ?_⟩
  rcases List.mem_cons.1 hx with rfl | hx
  · obtain ⟨e0, he0, h1, h2, h3⟩ := h.each e (by simp)
    have h4 : e0.key ∉ K := by rw [← h1, hk]; exact hK
    obtain ⟨h5, h6⟩ := h3 h4
    refine ⟨e0, he0, by rw [hk', ← h1, hk], fun _ => hst e0 h5.symm h6.symm, fun h7 => ?_⟩
    exact absurd (by rw [← h1, hk]; simp) h7
  · obtain ⟨e0, he0, h1, h2, h3⟩ := h.each x (List.mem_cons_of_mem _ hx)
    have hne : x.key ≠ k := fun h4 => hnd (List.mem_map.2 ⟨x, hx, by rw [h4, hk]⟩)
    refine ⟨e0, he0, h1, fun h4 => h2 ?_, fun h4 => h3 fun h5 => h4 (by simp [h5])⟩
    rcases List.mem_append.1 h4 with h5 | h5
    · exact h5
    · simp at h5; exact absurd (h1.trans h5) hne
theorem take_more {ss : List Key} {i : Nat} {k : Key} (h : ss[i]? = some k) : ss.take (i + 1) = ss.take i ++ [k] := by
  rw [List.take_add_one, h]
  rfl
theorem not_before {ss : List Key} (hn : ss.Nodup) {i : Nat} {k : Key} (h : ss[i]? = some k) : k ∉ ss.take i := by
  intro hm
  obtain ⟨j, hj⟩ := List.getElem?_of_mem hm
  rw [List.getElem?_take] at hj
  split at hj
  · rename_i hlt
    have h1 := (List.getElem?_eq_some_iff.1 h)
    have h2 := (List.getElem?_eq_some_iff.1 hj)
    exact (List.pairwise_iff_getElem.1 hn) j i h2.1 h1.1 hlt (h2.2.trans h1.2.symm)
  · cases hj

theorem below_drewN (w : World) (n : Nat) : RowKit.Below w.heap.size w (w.drewN n) := ⟨rfl, rfl, rfl, Nat.le_refl _, fun _ _ => rfl⟩
/-- The file that was cut lies as it should. -/
theorem Tp.cutted {w wx w5 : World} {t m n : Nat} {e : Ent} {R : List Ent} {s : Sc} {v : Value} (h : Tp w t m (e :: R) s) (hx : RowKit.Below w.heap.size w wx) (hb : Blk w5 e.j #[v, .int .i64 e.safe] 92) (ho : w5.ownsRow 0 5 1 v n (bcells (e.L.take n)))
    (hf : ∀ k, v.ownBlock = some k → wx.heap.size ≤ k) (hk : Kt e.j wx w5) (hn : n ≤ e.L.length) :
    Tp (w5.setCell ⟨e.j, 1, none⟩ (.int .i64 n)) t m (⟨e.key, e.j, v.ownBlock, e.L.take n, n⟩ :: R) s ∧ Moved (Of t m (e :: R)) (Of t m (⟨e.key, e.j, v.ownBlock, e.L.take n, n⟩ :: R)) w (w5.setCell ⟨e.j, 1, none⟩ (.int .i64 n)) := by
  have hlt := (h.files e (by simp)).lt e.j (.inl rfl)
  have hfr : ∀ k, v.ownBlock = some k → w.heap.size ≤ k := fun k hk => Nat.le_trans hx.size (hf k hk)
  have hlen : (e.L.take n).length = n := by rw [List.length_take]; omega
  refine ⟨h.file (e' := ⟨e.key, e.j, v.ownBlock, e.L.take n, n⟩) ⟨v, ?_, ?_, rfl⟩ rfl rfl (.inr hfr) ?_ ?_ (by show n ≤ (e.L.take n).length; omega), ?_⟩
  · simpa using hb.set (i := 1) (.int .i64 n)
  · show (w5.setCell ⟨e.j, 1, none⟩ (.int .i64 n)).ownsRow 0 _ 1 v (e.L.take n).length _
    rw [hlen]
    exact ownsRow_same ho fun k hk => Below.heap_setCell _ _ _ _ (by intro h0; have h1 := hfr _ hk; have h2 : k = e.j := h0; omega)
  · intro k hkl hno
    have hne : k ≠ e.j := fun h => hno (.inl h)
    rw [Below.heap_setCell _ _ _ _ hne, hk.block k (Nat.lt_of_lt_of_le hkl hx.size) hne, hx.block k hkl]
  · have := h.fit
    simp only [total, hlen] at this ⊢
    omega
  · have m1 : Moved (Of t m (e :: R)) (Of t m (e :: R)) w wx := Moved.of_below hx
    have m2 : Moved (Of t m (e :: R)) (Of t m (e :: R)) wx w5 := hk.mono (fun _ h => .inr (.inr ⟨e, by simp, .inl h⟩)) (fun _ h => .inl h)
    have m3 : Moved (Of t m (e :: R)) (Of t m (e :: R)) w5 (w5.setCell ⟨e.j, 1, none⟩ (.int .i64 n)) := Moved.setCell _ _ _ (.inr (.inr ⟨e, by simp, .inl rfl⟩))
    exact ((m1.trans m2).trans m3).mono (fun _ h => h) (fun b hb => Of.file (e := e) (e' := ⟨e.key, e.j, v.ownBlock, e.L.take n, n⟩) rfl (.inr hfr) hb)
/-- What holds ahead of each round. -/
def Onto (zs : List Int) (ss : List Key) (w w2 : World) (t m g : Nat) (E : List Ent) (s : Sc) (mv iv : Value) (wr : World) : Prop :=
  ∃ (i q : Nat) (E' : List Ent), i ≤ E.length ∧ q ≤ i ∧ iv = .int .i64 i ∧ mv = .int .i64 q ∧ Tp wr t m E' s ∧ Back zs (ss.take i) E E' ∧ Moved (Of t m E) (Of t m E') w wr ∧ (0 < E.length → wr.heap[g]? = w2.heap[g]? ∧ g < wr.heap.size ∧ ¬ Of t m E' g)

theorem Onto.next {zs : List Int} {ss : List Key} {w w2 wr w5 : World} {t m g i q' : Nat} {E E' : List Ent} {e e' : Ent} {R : List Ent} {s : Sc} {k : Key} (hi : i < E.length) (hq : q' ≤ i + 1) (hB : Back zs (ss.take i) E E') (hp : E'.Perm (e :: R)) (hnd : (E'.map (·.key)).Nodup) (hss : ss.Nodup) (hk : ss[i]? = some k) (hek : e.key = k) (hek' : e'.key = k)
    (hst : ∀ x, x.L = e.L → x.safe = e.safe → Kp zs x e') (hT : Tp w5 t m (e' :: R) s) (hM0 : Moved (Of t m E) (Of t m E') w wr) (hM : Moved (Of t m (e :: R)) (Of t m (e' :: R)) wr w5)
    (hG : 0 < E.length → wr.heap[g]? = w2.heap[g]? ∧ g < wr.heap.size ∧ ¬ Of t m E' g) : Onto zs ss w w2 t m g E s (.int .i64 q') (.int .i64 ((i + 1 : Nat) : Int)) w5 := by
  have hM1 : Moved (Of t m E') (Of t m (e' :: R)) wr w5 := ⟨hM.os, hM.tape, hM.output, hM.size, fun k hk hno => hM.block k hk (fun h => hno (h.perm hp.symm)), fun k hk => (hM.new k hk).imp (fun h => h.perm hp.symm) id⟩
  refine ⟨i + 1, q', e' :: R, hi, hq, rfl, rfl, hT, ?_, hM0.trans hM1, fun h0 => ?_⟩
  · rw [take_more hk]
    exact (hB.perm hp).step ((hp.map _).nodup_iff.1 hnd) hek (not_before hss hk) hek' hst
  · obtain ⟨h1, h2, h3⟩ := hG h0
    exact ⟨(hM1.block g h2 h3).trans h1, Nat.lt_of_lt_of_le h2 hM1.size, fun h => by rcases hM1.new g h with h4 | h4; exact h3 h4; omega⟩
set_option maxHeartbeats 2000000 in
set_option maxRecDepth 100000 in
theorem on_any (w : World) (t m : Nat) (E : List Ent) (s : Sc) (fv : Value) (zs : List Int) (h : Tp w t m E s) (hd : s.down = true) (hf : Nums w fv zs) (hfo : 0 < zs.length → ∀ a c d, fv = .slice (some a) c d → ¬ Of t m E a.block) :
    Calls Tryz.prog 33 #[.pointer (some ⟨t, 0, none⟩), fv] w fun x w' => (∃ v, x = .returned v) ∧
      ∃ E', Tp w' t m E' { s with down := false } ∧ (E'.map (·.key)).Perm (E.map (·.key)) ∧ (∀ e' ∈ E', ∃ e ∈ E, e'.key = e.key ∧ Kp zs e e') ∧ Moved (Of t m E) (Of t m E') w w' := by
  have c2 : w.cell? ⟨t, 2, none⟩ = some (.bool true) := by rw [← hd]; exact Blk.cell h.head rfl
  have f2 := Blk.free (i := 2) h.head
  have s1 : Hd (w.setCell ⟨t, 2, none⟩ (.bool false)) t m { s with down := false } := by simpa [Hd, scv] using Blk.set (i := 2) h.head (.bool false)
  have k1 : Moved (Of t m E) (Of t m E) w (w.setCell ⟨t, 2, none⟩ (.bool false)) := Moved.setCell _ _ _ (.inl rfl)
  have t1 := h.turn s1 (fun k _ hne => Below.heap_setCell _ _ _ _ hne) rfl
  have HN := Lib.hid (names_any _ t m E _ t1)
  have HH := Lib.hid h
  have HT1 := Lib.hid t1
  have HK1 := Lib.hid k1
  have HF := Lib.hid hf
  have HFO := Lib.hid hfo
  have hkeys := h.keys
  have HKEYS := Lib.hid hkeys
  obtain ⟨fa, fl, fc, rfl⟩ : ∃ a l c, fv = .slice a l c := let ⟨a, c, h, _⟩ := hf; ⟨a, _, c, h⟩
  have hE := h.few
  obtain ⟨n, hn⟩ : ∃ n, E.length = n := ⟨_, rfl⟩
  rw [hn] at HN hE
  have HEN := Lib.hid hn
  clear h hd hf hfo s1 k1 t1 hkeys hn
  go_enter Tryz.func33, Tryz.ntmps33
  go_wp2_with fail
  refine HN.out.mono ?_
  rintro x w2 ⟨v, ss, rfl, hp, -, hrow, hb⟩
  have hnd : ss.Nodup := hp.nodup_iff.2 HKEYS.out
  have hlen : ss.length = n := by rw [hp.length_eq, List.length_map, HEN.out]
  obtain ⟨g, ao, cap, rfl, hv⟩ : ∃ g ao cap, v = .slice ao n cap ∧ (0 < n → ao = some ⟨g, 0, none⟩ ∧ (w.setCell ⟨t, 2, none⟩ (.bool false)).heap.size ≤ g ∧ g < w2.heap.size ∧ ∀ j k, ss[j]? = some k → w2.cell? ⟨g, j, none⟩ = some (.string ⟨k.toArray⟩)) := by
    have hcl := @World.ownsRow.cells _ _ _ _ _ _ _ hrow
    have hlt := hrow.lt
    rcases hrow.2 with ⟨rfl, h0⟩ | ⟨g, cap, cur, rfl, hbg, _⟩
    · exact ⟨0, none, 0, by rw [h0], fun h => absurd h (by omega)⟩
    · refine ⟨g, _, cap, rfl, fun _ => ⟨rfl, hbg, (hlt g rfl).2, fun j k hj => ?_⟩⟩
      have := hcl (g := g) rfl j _ (by rw [List.getElem?_map, hj]; rfl)
      rwa [Addr.add_lit, Nat.zero_add] at this
  have HV := Lib.hid hv
  have HP := Lib.hid hp
  have HB := Lib.hid hb
  have HND := Lib.hid hnd
  have HLEN := Lib.hid hlen
  clear hv hp hb hnd hlen hrow c2 f2
  go_wp2_with fail
  go_loopw [4, 24] (fun mv iv wr => Onto zs ss w w2 t m g E { s with down := false } mv iv wr) (fun _ iv _ => n - (intOf iv).toNat)
  case atStart => exact ⟨0, 0, E, Nat.zero_le _, Nat.le_refl _, rfl, rfl, HT1.out.below HB.out, Back.start zs E, HK1.out.trans (Moved.of_below HB.out), fun h0 => ⟨rfl, (HV.out (HEN.out ▸ h0)).2.2.1, fun ho => by
    have h1 := HT1.out.lt g ho
    have h2 := (HV.out (HEN.out ▸ h0)).2.1
    omega⟩⟩
  case round =>
    obtain ⟨i, q, E', hi, hqi, rfl, rfl, hT, hB, hM, hG⟩ := hrel
    rw [HEN.out] at hi hG
    have HT := Lib.hid hT
    have HBK := Lib.hid hB
    have HM := Lib.hid hM
    have HG := Lib.hid hG
    clear hT hB hM hG
    by_cases hlt : i < n
    · obtain ⟨k, hk⟩ : ∃ k, ss[i]? = some k := ⟨_, List.getElem?_eq_getElem (by rw [HLEN.out]; exact hlt)⟩
      obtain ⟨rfl, -, -, hcell⟩ := HV.out (by omega)
      obtain ⟨hg1, hg2, hg3⟩ := HG.out (by omega)
      have hc : wr.cell? ⟨g, i, none⟩ = some (.string ⟨k.toArray⟩) := (World.cell?_of_block (w := w2) hg1).trans (hcell i k hk)
      have hkm : k ∈ E'.map (·.key) := (HBK.out.keys.trans HP.out.symm).symm.mem_iff.1 (List.mem_of_getElem? hk)
      obtain ⟨e, R, hek, hpm⟩ := front hkm
      have hT' := HT.out.perm hpm
      have c0 : wr.cell? ⟨t, 0, none⟩ = some (.map (some m)) := Blk.cell hT'.head rfl
      have hlk := hT'.map.look (k := e.key) (j := e.j) (by rw [prs_keys]; exact hT'.keys) (by have := hT'.names e (by simp); unfold maxLen; omega) (by simp [prs])
      rw [hek] at hlk
      obtain ⟨sv, hb, hrow, hjb⟩ := hT'.files e (by simp)
      obtain ⟨ao, cp, rfl⟩ := ownsRow_make hrow
      have d0 : wr.cell? ⟨e.j, 0, none⟩ = some (.slice ao e.L.length cp) := hb.cell rfl
      have d1 : wr.cell? ⟨e.j, 1, none⟩ = some (.int .i64 e.safe) := hb.cell rfl
      have hsf := hT'.safe e (by simp)
      have hbig : e.L.length ≤ 4194304 := by have := hT'.fit; have := hT'.room; have := total_mem (E := e :: R) (e := e) (by simp); omega
      obtain ⟨K, hK⟩ : ∃ K : ByteArray, (⟨k.toArray⟩ : ByteArray) = K := ⟨_, rfl⟩
      obtain ⟨N, hN⟩ : ∃ N, e.L.length = N := ⟨_, rfl⟩
      obtain ⟨S, hS⟩ : ∃ S, e.safe = S := ⟨_, rfl⟩
      obtain ⟨j, hj⟩ : ∃ j, e.j = j := ⟨_, rfl⟩
      have HT' := Lib.hid hT'
      have HBL := Lib.hid hb
      have HRW := Lib.hid hrow
      have HJ := Lib.hid hjb
      have HPM := Lib.hid hpm
      have HKI := Lib.hid hk
      have HEK := Lib.hid hek
      rw [hK] at hc hlk
      rw [hN, hj] at d0
      rw [hS, hj] at d1
      rw [hj] at hlk
      rw [hS, hN] at hsf
      rw [hN] at hbig
      have HNS := Lib.hid (And.intro hN (And.intro hS hj))
      clear hT' hb hrow hjb hpm hk hek hkm hcell hg1 hg2 hg3 hK hN hS hj
      by_cases heq : S = N
      · subst heq
        go_wp2_with fail
        go_quiet (fail)
        go_wp2_with fail
        go_roundw
        case rel =>
          have := Onto.next (q' := q) (by rw [HEN.out]; exact hlt) (by omega) HBK.out HPM.out HT.out.keys HND.out HKI.out HEK.out HEK.out (fun x hx1 hx2 => ⟨S, by rw [← hx1, List.take_of_length_le (by rw [hx1, HNS.out.1]; exact Nat.le_refl _)], HNS.out.2.1, by rw [hx2, HNS.out.2.1]; exact Nat.le_refl _, by rw [hx1, HNS.out.1]; exact Nat.le_refl _, fun _ h => by rw [hx1, hx2, HNS.out.1, HNS.out.2.1] at h; omega⟩)
            (HT'.out.below (below_drewN wr nq)) HM.out (Moved.of_below (below_drewN wr nq)) (by rw [HEN.out]; exact HG.out)
          simpa using this
        case measure => simp [intOf]; omega
      · obtain ⟨O, hO⟩ : ∃ O, N = S + O := ⟨N - S, by omega⟩
        have hsub : (N : Int) - (S : Int) = (O : Int) := by omega
        have hO0 : (0 : Int) < (O : Int) := by omega
        have HKE : Hid (∀ wx, RowKit.Below wr.heap.size wr wx → Calls Tryz.prog 85 #[.slice fa fl fc, .int .i64 q, .int .i64 O] wx fun x w' => x = .returned (.int .i64 (keptV zs q O)) ∧ RowKit.Below wx.heap.size wx w') := fun wx hbx => kept_any wx _ zs q O (HF.out.keep fun hz0 kk x hx hxs => by
          obtain ⟨a, c, d, hxs⟩ := hxs
          have hno := HFO.out hz0 _ _ _ hxs
          have hlt2 := World.block_lt_of_cell? w kk hx
          rw [← hx]
          have e1 := HM.out.block kk.block hlt2 hno
          have e2 := hbx.block kk.block (Nat.lt_of_lt_of_le hlt2 HM.out.size)
          exact World.cell?_of_block (e2.trans e1)) (by omega) (by omega)
        have hao : ∃ g', ao = some ⟨g', 0, none⟩ := by
          rcases HRW.out.2 with ⟨h1, h2⟩ | ⟨g', cap', cur, h1, _⟩
          · have := HNS.out.1; omega
          · injection h1 with h1; exact ⟨g', h1⟩
        obtain ⟨g', rfl⟩ := hao
        have HCU : Hid (∀ wx, RowKit.Below wr.heap.size wr wx → ∀ r, KeptOk zs O r → Calls Tryz.prog 84 #[.pointer (some ⟨j, 0, none⟩), .int .i64 ((S : Int) + (r : Int))] wx fun x w' => (∃ v, x = .returned v) ∧
            ∃ v, Blk w' j #[v, .int .i64 S] 92 ∧ w'.ownsRow 0 5 1 v (S + r) (bcells (e.L.take (S + r))) ∧ (∀ k, v.ownBlock = some k → wx.heap.size ≤ k) ∧ Kt j wx w') := fun wx hbx r hr => by
          have h1 := HBL.out.below hbx
          have h2 := ownsRow_same HRW.out (w' := wx) fun kk hkk => hbx.block kk (HRW.out.lt kk hkk).2
          have h3 := cut_any wx j g' cp S (S + r) e.L (by rw [← HNS.out.2.1, ← HNS.out.2.2]; exact h1) h2 (by rw [HNS.out.1]; have := hr.1; omega) (by rw [HNS.out.1]; omega) (by omega)
          rw [show ((S + r : Nat) : Int) = (S : Int) + (r : Int) by omega] at h3
          exact h3
        have HFIN : Hid (∀ wx w5 v r, RowKit.Below wr.heap.size wr wx → KeptOk zs O r → Blk w5 j #[v, .int .i64 S] 92 → w5.ownsRow 0 5 1 v (S + r) (bcells (e.L.take (S + r))) → (∀ k, v.ownBlock = some k → wx.heap.size ≤ k) → Kt j wx w5 →
            Onto zs ss w w2 t m g E { s with down := false } (.int .i64 ((q : Int) + 1)) (.int .i64 ((i : Int) + 1)) (w5.setCell ⟨j, 1, none⟩ (.int .i64 ((S + r : Nat) : Int)))) := fun wx w5 v r hbx hr h1 h2 h3 h4 => by
          obtain ⟨e1, e2, e3⟩ := HNS.out
          subst e2 e3
          obtain ⟨h5, h6⟩ := HT'.out.cutted hbx h1 h2 h3 h4 (by rw [e1]; have := hr.1; omega)
          have := Onto.next (q' := q + 1) (by rw [HEN.out]; exact hlt) (by omega) HBK.out HPM.out HT.out.keys HND.out HKI.out HEK.out (e' := ⟨e.key, e.j, v.ownBlock, e.L.take (e.safe + r), e.safe + r⟩) HEK.out (fun x hx1 hx2 => ⟨e.safe + r, by rw [hx1], rfl, by rw [hx2]; omega, by rw [hx1, e1]; have := hr.1; omega, fun hz1 hz2 => by rw [hx1, hx2, e1] at hz2; have := hr.2 hz1 (by omega); omega⟩)
            h5 HM.out h6 (by rw [HEN.out]; exact HG.out)
          simpa using this
        have HO := Lib.hid hO
        have hONb : (S : Int) < (N : Int) := by omega
        have hOb : O ≤ 4194304 := by omega
        have hSb : S ≤ 4194304 := by omega
        have hSO : S + O ≤ 4194304 := by omega
        clear HNS HT' HBL HRW HJ HPM HKI HEK HT HBK HM HG hO
        go_wp2_with fail
        go_quiet (fail)
        go_wp2_with fail
        obtain ⟨W0, hW0⟩ : ∃ W0, wr.drewN nq = W0 := ⟨_, rfl⟩
        rw [hW0]
        have hbW : RowKit.Below wr.heap.size wr W0 := by rw [← hW0]; exact below_drewN wr nq
        have k1 : ∀ d os, _ := cell_regrown (show W0.cell? ⟨j, 1, none⟩ = some (.int .i64 S) by rw [← hW0]; exact d1)
        have HKK := Lib.hid fun d os => Calls.regrown_of (HKE.out _ (hbW.trans ((below_regrown W0 d os).mono hbW.size)))
        obtain ⟨r, hr⟩ : ∃ r, keptV zs q O = r := ⟨_, rfl⟩
        have hrk : KeptOk zs O r := by rw [← hr]; exact keptV_ok zs q O (by omega)
        have hr1 := hrk.1
        rw [hr] at HKK
        have HRK := Lib.hid hrk
        have HBW := Lib.hid hbW
        clear hW0 hbW hr hrk HKE
        refine wp_region_below_tail 10 (by kernel_rfl) (by kernel_rfl) ?_
        simp only [List.take_succ_cons, List.take_zero, List.drop_succ_cons, List.drop_zero]
        repeat (go_big_quiet_step ((go_at_call 85; with_reducible exact HKK.out _ _)))
        refine wpQuiet_nil ?_
        intro w1 hw1
        obtain ⟨⟨dq, osq⟩, hw1'⟩ := hw1
        have HB1 : Hid (RowKit.Below wr.heap.size wr w1) := by rw [hw1']; exact HBW.out.trans ((below_regrown W0 dq osq).mono HBW.out.size)
        clear hw1' HKK k1 d0 d1 c0 hc hlk
        go_wp2_with fail
        refine (HCU.out w1 HB1.out r HRK.out).mono ?_
        rintro x w5 ⟨⟨y, rfl⟩, v5, hb5, ho5, hf5, hk5⟩
        have hfin := HFIN.out w1 w5 v5 r HB1.out HRK.out hb5 ho5 hf5 hk5
        obtain ⟨ao5, cp5, rfl⟩ := ownsRow_make ho5
        have e0 : w5.cell? ⟨j, 0, none⟩ = some (.slice ao5 (S + r) cp5) := hb5.cell rfl
        have e1 : w5.cell? ⟨j, 1, none⟩ = some (.int .i64 S) := hb5.cell rfl
        have g1 := hb5.free (i := 1)
        obtain ⟨n5, hn5⟩ : ∃ n5, S + r = n5 := ⟨_, rfl⟩
        rw [hn5] at e0 hfin
        have HFI := Lib.hid hfin
        clear hb5 ho5 hf5 hk5 hfin HFIN HCU HRK
        go_wp2_with fail
        go_roundw
        case rel => exact HFI.out
        case measure => simp [intOf]; omega
    · obtain rfl : i = n := by omega
      go_wp2_with fail
      all_goals go_end0
      refine ⟨⟨_, rfl⟩, E', HT.out, HBK.out.keys, fun e' he' => ?_, HM.out⟩
      obtain ⟨e, he, h1, h2, -⟩ := HBK.out.each e' he'
      refine ⟨e, he, h1, h2 ?_⟩
      rw [List.take_of_length_le (by rw [HLEN.out]; exact Nat.le_refl _)]
      exact HP.out.mem_iff.2 (List.mem_map.2 ⟨e, he, rfl⟩)
end Go.Proofs.YtdaoeplblkfapaaGreatDoor.Ta

/- A tape as the laws see it: what each name holds. -/
namespace Go.Proofs.YtdaoeplblkfapaaGreatDoor.Ta
open Go.RowKit Go.Maps

abbrev View := Key → Option (List UInt8 × Nat)
def upd (f : View) (k : Key) (v : Option (List UInt8 × Nat)) : View := fun x => if x = k then v else f x
def Vw (E : List Ent) (f : View) : Prop := ∀ k L sf, f k = some (L, sf) ↔ ∃ e ∈ E, e.key = k ∧ e.L = L ∧ e.safe = sf
theorem Vw.perm {E E' : List Ent} {f : View} (h : Vw E f) (hp : E.Perm E') : Vw E' f := fun k L sf => (h k L sf).trans ⟨fun ⟨e, he, r⟩ => ⟨e, hp.mem_iff.1 he, r⟩, fun ⟨e, he, r⟩ => ⟨e, hp.mem_iff.2 he, r⟩⟩
theorem Vw.no {E : List Ent} {f : View} (h : Vw E f) {k : Key} (hk : f k = none) : k ∉ E.map (·.key) := by
  intro hm
  obtain ⟨e, he, rfl⟩ := List.mem_map.1 hm
  rw [(h e.key e.L e.safe).2 ⟨e, he, rfl, rfl, rfl⟩] at hk
  cases hk
theorem Vw.yes {E : List Ent} {f : View} (h : Vw E f) {k : Key} {L : List UInt8} {sf : Nat} (hk : f k = some (L, sf)) : ∃ e R, E.Perm (e :: R) ∧ e.key = k ∧ e.L = L ∧ e.safe = sf := by
  obtain ⟨e, he, h1⟩ := (h k L sf).1 hk
  obtain ⟨a, b, rfl⟩ := List.append_of_mem he
  exact ⟨e, a ++ b, List.perm_middle, h1⟩
theorem Vw.eq_none {E : List Ent} {f : View} (h : Vw E f) {k : Key} (hk : k ∉ E.map (·.key)) : f k = none := by
  cases hf : f k with
  | none => rfl
  | some p =>
    obtain ⟨e, he, h1, -⟩ := (h k p.1 p.2).1 hf
    exact absurd (List.mem_map.2 ⟨e, he, h1⟩) hk
/-- The first file holds other things, or has another name. -/
theorem Vw.head {e e' : Ent} {R : List Ent} {f : View} (h : Vw (e :: R) f) (hn : ((e :: R).map (·.key)).Nodup) (hk : e'.key = e.key) : Vw (e' :: R) (upd f e.key (.some (e'.L, e'.safe))) := by
  have hnd := (List.nodup_cons.1 (show (e.key :: R.map (·.key)).Nodup from hn)).1
  intro k L sf
  unfold upd
  by_cases hkk : k = e.key
  · subst hkk
    simp only [if_true, Option.some.injEq, Prod.mk.injEq]
    constructor
    · rintro ⟨rfl, rfl⟩
      exact ⟨e', by simp, hk, rfl, rfl⟩
    · rintro ⟨x, hx, h1, h2, h3⟩
      rcases List.mem_cons.1 hx with rfl | hx
      · exact ⟨h2, h3⟩
      · exact absurd (List.mem_map.2 ⟨x, hx, h1⟩) hnd
  · rw [if_neg hkk, h k L sf]
    constructor
    · rintro ⟨x, hx, h1, h2⟩
      rcases List.mem_cons.1 hx with rfl | hx
      · exact absurd h1.symm hkk
      · exact ⟨x, List.mem_cons_of_mem _ hx, h1, h2⟩
    · rintro ⟨x, hx, h1, h2⟩
      rcases List.mem_cons.1 hx with rfl | hx
      · exact absurd (h1.symm.trans hk) hkk
      · exact ⟨x, List.mem_cons_of_mem _ hx, h1, h2⟩
theorem Vw.fresh {e : Ent} {E : List Ent} {f : View} (h : Vw E f) (hk : e.key ∉ E.map (·.key)) : Vw (e :: E) (upd f e.key (.some (e.L, e.safe))) := by
  intro k L sf
  unfold upd
  by_cases hkk : k = e.key
  · subst hkk
    simp only [if_true, Option.some.injEq, Prod.mk.injEq]
    constructor
    · rintro ⟨rfl, rfl⟩
      exact ⟨e, by simp, rfl, rfl, rfl⟩
    · rintro ⟨x, hx, h1, h2, h3⟩
      rcases List.mem_cons.1 hx with rfl | hx
      · exact ⟨h2, h3⟩
      · exact absurd (List.mem_map.2 ⟨x, hx, h1⟩) hk
  · rw [if_neg hkk, h k L sf]
    constructor
    · rintro ⟨x, hx, h1, h2⟩
      exact ⟨x, List.mem_cons_of_mem _ hx, h1, h2⟩
    · rintro ⟨x, hx, h1, h2⟩
      rcases List.mem_cons.1 hx with rfl | hx
      · exact absurd h1.symm hkk
      · exact ⟨x, hx, h1, h2⟩
theorem Vw.swapped {e : Ent} {R : List Ent} {f : View} {k : Key} (h : Vw (e :: R) f) (hn : ((e :: R).map (·.key)).Nodup) : Vw ({ e with key := k } :: R.filter fun x => !(x.key == k)) (upd (upd f e.key .none) k (.some (e.L, e.safe))) := by
  have hnd := (List.nodup_cons.1 (show (e.key :: R.map (·.key)).Nodup from hn)).1
  intro j L sf
  unfold upd
  by_cases hj : j = k
  · subst hj
    simp only [if_true, Option.some.injEq, Prod.mk.injEq]
    constructor
    · rintro ⟨rfl, rfl⟩
      exact ⟨_, List.mem_cons_self, rfl, rfl, rfl⟩
    · rintro ⟨x, hx, h1, h2, h3⟩
      rcases List.mem_cons.1 hx with rfl | hx
      · exact ⟨h2, h3⟩
      · have := (List.mem_filter.1 hx).2
        simp [h1] at this
  · rw [if_neg hj]
    by_cases hj2 : j = e.key
    · subst hj2
      rw [if_pos rfl]
      constructor
      · intro h1; cases h1
      · rintro ⟨x, hx, h1, h2⟩
        rcases List.mem_cons.1 hx with rfl | hx
        · exact absurd h1.symm hj
        · exact absurd (List.mem_map.2 ⟨x, (List.mem_filter.1 hx).1, h1⟩) hnd
    · rw [if_neg hj2, h j L sf]
      constructor
      · rintro ⟨x, hx, h1, h2⟩
        rcases List.mem_cons.1 hx with rfl | hx
        · exact absurd h1.symm hj2
        · exact ⟨x, List.mem_cons_of_mem _ (List.mem_filter.2 ⟨hx, by simp [h1, hj]⟩), h1, h2⟩
      · rintro ⟨x, hx, h1, h2⟩
        rcases List.mem_cons.1 hx with rfl | hx
        · exact absurd h1.symm hj
        · exact ⟨x, List.mem_cons_of_mem _ (List.mem_filter.1 hx).1, h1, h2⟩

/-- The tape in block t, its blocks B, what its names hold, how many bytes, how many files. -/
def St (w : World) (t : Nat) (B : Nat → Prop) (f : View) (tot n : Nat) (s : Sc) : Prop := ∃ m E, Tp w t m E s ∧ (∀ b, B b ↔ Of t m E b) ∧ Vw E f ∧ total E = tot ∧ E.length = n
section
variable {w w' : World} {t : Nat} {B : Nat → Prop} {f : View} {tot n : Nat} {s : Sc}
theorem St.same (h : St w t B f tot n s) (hs : ∀ b, B b → w'.heap[b]? = w.heap[b]?) : St w' t B f tot n s :=
  let ⟨m, E, h1, h2, h3⟩ := h; ⟨m, E, h1.same fun b hb => hs b ((h2 b).2 hb), h2, h3⟩
theorem St.lt (h : St w t B f tot n s) : ∀ b, B b → b < w.heap.size := let ⟨_, _, h1, h2, _⟩ := h; fun b hb => h1.lt b ((h2 b).1 hb)
theorem St.below (h : St w t B f tot n s) (hb : RowKit.Below w.heap.size w w') : St w' t B f tot n s := h.same fun b hx => hb.block b (h.lt b hx)
/-- A block that is none of its is written. -/
theorem St.beside (h : St w t B f tot n s) {x : Nat} (hx : ¬ B x) (i : Nat) (v : Value) : St (w.setCell ⟨x, i, none⟩ v) t B f tot n s := h.same fun b hb => Below.heap_setCell _ _ _ _ (by rintro rfl; exact hx hb)
theorem St.fit (h : St w t B f tot n s) : tot ≤ s.room ∧ s.room ≤ 4194304 := let ⟨_, _, h1, _, _, h4, _⟩ := h; ⟨h4 ▸ h1.fit, h1.room⟩
theorem St.safe (h : St w t B f tot n s) {k : Key} {L : List UInt8} {sf : Nat} (hk : f k = some (L, sf)) : sf ≤ L.length := by
  obtain ⟨m, E, h1, h2, h3, h4⟩ := h
  obtain ⟨e, he, -, rfl, rfl⟩ := (h3 k L sf).1 hk
  exact h1.safe e he
theorem St.sized (h : St w t B f tot n s) {k : Key} {L : List UInt8} {sf : Nat} (hk : f k = some (L, sf)) : L.length ≤ tot := by
  obtain ⟨m, E, h1, h2, h3, h4, h5⟩ := h
  obtain ⟨e, he, -, rfl, rfl⟩ := (h3 k L sf).1 hk
  rw [← h4]; exact total_mem he
theorem St.one (h : St w t B f tot 1 s) {k : Key} {L : List UInt8} {sf : Nat} (hk : f k = some (L, sf)) : tot = L.length := by
  obtain ⟨m, E, h1, h2, h3, h4, h5⟩ := h
  obtain ⟨e, he, -, rfl, rfl⟩ := (h3 k L sf).1 hk
  obtain ⟨a, rfl⟩ := List.length_eq_one_iff.1 h5
  simp at he
  subst he
  rw [← h4]
  simp [total]
theorem Of.iff {m : Nat} {E E' : List Ent} (hp : E.Perm E') (b : Nat) : Of t m E b ↔ Of t m E' b := ⟨fun h => h.perm hp, fun h => h.perm hp.symm⟩

def more (v : Option (List UInt8 × Nat)) (M : List UInt8) : List UInt8 × Nat := match v with
  | none => (M, 0)
  | some (L, sf) => (L ++ M, sf)
theorem s_append (h : St w t B f tot n s) (q : Small s) (k : Key) (M : List UInt8) (hn : okName k = true) (hE : n < 256) (hM : tot + M.length ≤ s.room) :
    Calls Tryz.prog 16 #[.pointer (some ⟨t, 0, none⟩), .string ⟨k.toArray⟩, .string ⟨M.toArray⟩] w fun x w' => x = .returned (.int .i64 (actR s)) ∧
      ∃ B', St w' t B' (upd f k (some (more (f k) M))) (tot + M.length) (if (f k).isSome then n else n + 1) (actS s) ∧ Moved B B' w w' := by
  obtain ⟨m, E, h1, h2, h3, h4, h5⟩ := h
  rcases hf : f k with _ | ⟨L, sf⟩
  · refine (append_new k M w t m E s h1 q (h3.no hf) hn (by omega) (by omega)).mono ?_
    rintro x w' ⟨rfl, j, jb, h6, h7⟩
    exact ⟨rfl, _, ⟨m, _, h6, fun b => Iff.rfl, h3.fresh (e := ⟨k, j, jb, M, 0⟩) (h3.no hf), by simp only [total]; omega, by simp [h5]⟩, h7.iff h2 fun b => Iff.rfl⟩
  · obtain ⟨e, R, hp, rfl, rfl, rfl⟩ := h3.yes hf
    have hl := hp.length_eq
    have ht := total_perm hp
    refine (append_old M w t m e R s (h1.perm hp) q (by omega)).mono ?_
    rintro x w' ⟨rfl, jb, h6, h7⟩
    refine ⟨rfl, _, ⟨m, _, h6, fun b => Iff.rfl, (h3.perm hp).head (e' := { e with L := e.L ++ M, jb := jb }) (h1.perm hp).keys rfl, ?_, ?_⟩, h7.iff (fun b => (h2 b).trans (Of.iff hp b)) fun b => Iff.rfl⟩
    · simp only [total, List.length_append] at ht ⊢; omega
    · simp only [List.length_cons] at hl ⊢; simp; omega
theorem s_append_full (h : St w t B f tot n s) (hd : s.down = false) (k : Key) (M : List UInt8) (hn : okName k = true) (hE : n < 256) (hM : s.room < tot + M.length) :
    Calls Tryz.prog 16 #[.pointer (some ⟨t, 0, none⟩), .string ⟨k.toArray⟩, .string ⟨M.toArray⟩] w fun x w' => x = .returned (.int .i64 11) ∧ RowKit.Below w.heap.size w w' := by
  obtain ⟨m, E, h1, h2, h3, h4, h5⟩ := h
  exact append_full k M w t m E s h1 hd hn (by omega) (by omega)
theorem s_append_bad (h : St w t B f tot n s) (hd : s.down = false) (k : Key) (M : List UInt8) (hk : k.length ≤ 1048576) (hn : okName k = false) :
    Calls Tryz.prog 16 #[.pointer (some ⟨t, 0, none⟩), .string ⟨k.toArray⟩, .string ⟨M.toArray⟩] w fun x w' => x = .returned (.int .i64 1) ∧ w = w' := by
  obtain ⟨m, E, h1, -⟩ := h
  exact append_bad k M w t m E s h1 hd hk hn
theorem s_sync_none (h : St w t B f tot n s) (hd : s.down = false) (k : Key) (hk : k.length ≤ 1048576) (hf : f k = none) :
    Calls Tryz.prog 83 #[.pointer (some ⟨t, 0, none⟩), .string ⟨k.toArray⟩] w fun e w' => e = .returned (.int .i64 12) ∧ w = w' := by
  obtain ⟨m, E, h1, h2, h3, -⟩ := h
  exact sync_none k w t m E s h1 hd hk (h3.no hf)
theorem s_sync (h : St w t B f tot n s) (q : Small s) (k : Key) (L : List UInt8) (sf : Nat) (hf : f k = some (L, sf)) :
    Calls Tryz.prog 83 #[.pointer (some ⟨t, 0, none⟩), .string ⟨k.toArray⟩] w fun x w' => x = .returned (.int .i64 (actR s)) ∧
      ∃ B', St w' t B' (upd f k (some (L, if s.armed = 1 then sf else L.length))) tot n (actS s) ∧ Moved B B' w w' := by
  obtain ⟨m, E, h1, h2, h3, h4, h5⟩ := h
  obtain ⟨e, R, hp, rfl, rfl, rfl⟩ := h3.yes hf
  have hl := hp.length_eq
  have ht := total_perm hp
  refine (sync_some w t m e R s (h1.perm hp) q).mono ?_
  rintro x w' ⟨rfl, h6, h7⟩
  refine ⟨rfl, _, ⟨m, _, h6, fun b => Iff.rfl, ?_, ?_, ?_⟩, (h7.mono (fun _ h => h) (fun b hb => ?_)).iff (fun b => (h2 b).trans (Of.iff hp b)) fun b => Iff.rfl⟩
  · by_cases ha : s.armed = 1
    · simp only [if_pos ha]
      exact (h3.perm hp).head (e' := e) (h1.perm hp).keys rfl
    · simp only [if_neg ha]
      exact (h3.perm hp).head (e' := { e with safe := e.L.length }) (h1.perm hp).keys rfl
  · rw [← h4, ht]
    split <;> rfl
  · rw [← h5, hl]
    split <;> rfl
  · refine Of.file (N := w.heap.size) (e := e) ?_ ?_ hb
    · split <;> rfl
    · split <;> exact .inl rfl
theorem s_read (h : St w t B f tot n s) (hd : s.down = false) (k : Key) (L : List UInt8) (sf : Nat) (hf : f k = some (L, sf)) :
    Calls Tryz.prog 144 #[.pointer (some ⟨t, 0, none⟩), .string ⟨k.toArray⟩] w fun x w' => x = .returned (.tuple #[.string ⟨L.toArray⟩, .int .i64 0]) ∧ w = w' := by
  obtain ⟨m, E, h1, h2, h3, h4, h5⟩ := h
  obtain ⟨e, R, hp, rfl, rfl, rfl⟩ := h3.yes hf
  exact read_some w t m e R s (h1.perm hp) hd
theorem s_read_none (h : St w t B f tot n s) (hd : s.down = false) (k : Key) (hk : k.length ≤ 1048576) (hf : f k = none) :
    Calls Tryz.prog 144 #[.pointer (some ⟨t, 0, none⟩), .string ⟨k.toArray⟩] w fun x w' => x = .returned (.tuple #[.string ⟨#[]⟩, .int .i64 12]) ∧ w = w' := by
  obtain ⟨m, E, h1, h2, h3, -⟩ := h
  exact read_none k w t m E s h1 hd hk (h3.no hf)
theorem s_read_down (h : St w t B f tot n s) (hd : s.down = true) (k : Key) :
    Calls Tryz.prog 144 #[.pointer (some ⟨t, 0, none⟩), .string ⟨k.toArray⟩] w fun x w' => x = .returned (.tuple #[.string ⟨#[]⟩, .int .i64 10]) ∧ w = w' := by
  obtain ⟨m, E, h1, -⟩ := h
  exact read_down k w t m s h1.head hd
theorem s_swap (h : St w t B f tot n s) (q : Small s) (a k : Key) (v : List UInt8 × Nat) (hf : f a = some v) (hn : okName k = true) :
    Calls Tryz.prog 92 #[.pointer (some ⟨t, 0, none⟩), .string ⟨a.toArray⟩, .string ⟨k.toArray⟩] w fun x w' => x = .returned (.int .i64 (actR s)) ∧
      ∃ B' tot' n', St w' t B' (upd (upd f a none) k (some v)) tot' n' (actS s) ∧ Moved B B' w w' := by
  obtain ⟨m, E, h1, h2, h3, h4, h5⟩ := h
  obtain ⟨e, R, hp, rfl, hL, hS⟩ := h3.yes (L := v.1) (sf := v.2) hf
  refine (swap_some k w t m e R s (h1.perm hp) q hn).mono ?_
  rintro x w' ⟨rfl, h6, h7⟩
  have := (h3.perm hp).swapped (k := k) (h1.perm hp).keys
  rw [show (e.L, e.safe) = v by rw [hL, hS]] at this
  exact ⟨rfl, _, _, _, ⟨m, _, h6, fun b => Iff.rfl, this, rfl, rfl⟩, h7.iff (fun b => (h2 b).trans (Of.iff hp b)) fun b => Iff.rfl⟩
theorem s_head (h : St w t B f tot n s) : ∃ m, Hd w t m s := let ⟨m, _, h1, _⟩ := h; ⟨m, h1.head⟩
theorem s_arm (h : St w t B f tot n s) (i : Int) :
    Calls Tryz.prog 27 #[.pointer (some ⟨t, 0, none⟩), .int .i64 i] w fun e w' => (∃ v, e = .returned v) ∧ ∃ B', St w' t B' f tot n { s with armed := max i 0 } ∧ Moved B B' w w' := by
  obtain ⟨m, E, h1, h2, h3, h4, h5⟩ := h
  refine (arm_any i w t m s h1.head).mono ?_
  rintro x w' ⟨hx, h6, h7⟩
  exact ⟨hx, _, ⟨m, E, h1.acted h6 h7 rfl, fun b => Iff.rfl, h3, h4, h5⟩, h7.of.iff h2 fun b => Iff.rfl⟩
theorem s_off (h : St w t B f tot n s) (hl : s.life ≤ 1099511627776) :
    Calls Tryz.prog 32 #[.pointer (some ⟨t, 0, none⟩)] w fun e w' => (∃ v, e = .returned v) ∧ ∃ B', St w' t B' f tot n (offS s) ∧ Moved B B' w w' := by
  obtain ⟨m, E, h1, h2, h3, h4, h5⟩ := h
  refine (off_any w t m s h1.head hl).mono ?_
  rintro x w' ⟨hx, h6, h7⟩
  exact ⟨hx, _, ⟨m, E, h1.acted h6 h7 (offS_room s), fun b => Iff.rfl, h3, h4, h5⟩, h7.of.iff h2 fun b => Iff.rfl⟩
/-- What the names hold when the power is back. -/
def Left (zs : List Int) (f f' : View) : Prop := ∀ k, match f k with
  | none => f' k = none
  | some (L, sf) => ∃ x, f' k = some (L.take x, x) ∧ sf ≤ x ∧ x ≤ L.length ∧ (zs = [1] → sf < L.length → x = sf + 1)
theorem s_on (h : St w t B f tot n s) (hd : s.down = true) (fv : Value) (zs : List Int) (hf : Nums w fv zs) (hfo : 0 < zs.length → ∀ a c d, fv = .slice (some a) c d → ¬ B a.block) :
    Calls Tryz.prog 33 #[.pointer (some ⟨t, 0, none⟩), fv] w fun x w' => (∃ v, x = .returned v) ∧
      ∃ B' f' tot', St w' t B' f' tot' n { s with down := false } ∧ Left zs f f' ∧ Moved B B' w w' := by
  obtain ⟨m, E, h1, h2, h3, h4, h5⟩ := h
  refine (on_any w t m E s fv zs h1 hd hf (fun h0 a c d h => fun ho => hfo h0 a c d h ((h2 _).2 ho))).mono ?_
  rintro x w' ⟨hx, E', h6, h7, h8, h9⟩
  have hnd := h6.keys
  have hview : ∃ f', Vw E' f' := by
    refine ⟨fun k => (E'.find? fun e => e.key == k).map fun e => (e.L, e.safe), fun k L sf => ?_⟩
    constructor
    · intro hk
      simp only [Option.map_eq_some_iff, Prod.mk.injEq] at hk
      obtain ⟨e, he, h1, h2⟩ := hk
      exact ⟨e, List.mem_of_find?_eq_some he, by simpa using List.find?_some he, h1, h2⟩
    · rintro ⟨e, he, rfl, rfl, rfl⟩
      cases hf : E'.find? fun x => x.key == e.key with
      | none => have := List.find?_eq_none.1 hf e he; simp at this
      | some x =>
        have h1 := List.mem_of_find?_eq_some hf
        have h2 : x.key = e.key := by simpa using List.find?_some hf
        have : x = e := by
          clear hf h8 h9 h7 h6
          induction E' with
          | nil => cases he
          | cons a E ih =>
            simp only [List.map_cons, List.nodup_cons] at hnd
            rcases List.mem_cons.1 he with e1 | h3
            · rcases List.mem_cons.1 h1 with e2 | h4
              · rw [e1, e2]
              · exact absurd (List.mem_map.2 ⟨x, h4, by rw [h2, e1]⟩) hnd.1
            · rcases List.mem_cons.1 h1 with e2 | h4
              · exact absurd (List.mem_map.2 ⟨e, h3, by rw [← h2, e2]⟩) hnd.1
              · exact ih hnd.2 h3 h4
        show Option.map (fun e => (e.L, e.safe)) (E'.find? fun x => x.key == e.key) = _
        rw [hf, this]
        rfl
  obtain ⟨f', hv⟩ := hview
  refine ⟨hx, _, f', _, ⟨m, E', h6, fun b => Iff.rfl, hv, rfl, by have := h7.length_eq; simp only [List.length_map] at this; omega⟩, fun k => ?_, h9.iff h2 fun b => Iff.rfl⟩
  rcases hfk : f k with _ | ⟨L, sf⟩
  · exact hv.eq_none fun hm => h3.no hfk (h7.mem_iff.1 hm)
  · obtain ⟨e, he, rfl, rfl, rfl⟩ := (h3 k L sf).1 hfk
    obtain ⟨e', he', hk'⟩ := List.mem_map.1 (h7.mem_iff.2 (List.mem_map.2 ⟨e, he, rfl⟩))
    obtain ⟨e0, he0, hk0, x, hx1, hx2, hx3, hx4, hx5⟩ := h8 e' he'
    have h10 := (h3 e.key e0.L e0.safe).2 ⟨e0, he0, hk0.symm.trans hk', rfl, rfl⟩
    rw [hfk] at h10
    injection h10 with h10
    injection h10 with h11 h12
    exact ⟨x, (hv e.key _ _).2 ⟨e', he', hk', by rw [hx1, h11], hx2⟩, by rw [h12]; exact hx3, by rw [h11]; exact hx4, fun hz1 hz2 => by rw [h12]; exact hx5 hz1 (by rw [← h11, ← h12]; exact hz2)⟩
theorem s_down (h : St w t B f tot n s) : Calls Tryz.prog 58 #[.pointer (some ⟨t, 0, none⟩)] w fun e w' => e = .returned (.bool s.down) ∧ w = w' := let ⟨m, h1⟩ := s_head h; down_any w t m s h1
theorem s_life (h : St w t B f tot n s) : Calls Tryz.prog 59 #[.pointer (some ⟨t, 0, none⟩)] w fun e w' => e = .returned (.int .i64 s.life) ∧ w = w' := let ⟨m, h1⟩ := s_head h; life_any w t m s h1
theorem s_left (h : St w t B f tot n s) : Calls Tryz.prog 23 #[.pointer (some ⟨t, 0, none⟩)] w fun e w' => e = .returned (.int .i64 ((s.room : Int) - (tot : Int))) ∧ RowKit.Below w.heap.size w w' := by
  obtain ⟨m, E, h1, h2, h3, h4, h5⟩ := h
  rw [← h4]
  exact left_any w t m E s h1
theorem s_names (h : St w t B f tot n s) : Calls Tryz.prog 21 #[.pointer (some ⟨t, 0, none⟩)] w fun e w' => ∃ (v : Value) (ss : List Key), e = .returned v ∧ w'.ownsRow w.heap.size 9 1 v n (ss.map encStr) ∧ ss.length = n ∧ ss.Pairwise (fun x y : Key => x ≤ y) ∧ ss.Nodup ∧ (∀ k, k ∈ ss ↔ f k ≠ none) ∧ RowKit.Below w.heap.size w w' := by
  obtain ⟨m, E, h1, h2, h3, h4, h5⟩ := h
  rw [← h5]
  refine (names_any w t m E s h1).mono ?_
  rintro x w' ⟨v, ss, rfl, hp, hs, hr, hb⟩
  refine ⟨v, ss, rfl, hr, by rw [hp.length_eq, List.length_map], hs, hp.nodup_iff.2 h1.keys, fun k => ?_, hb⟩
  rw [hp.mem_iff]
  constructor
  · intro hk hn
    exact h3.no hn hk
  · intro hk
    rcases hf : f k with _ | ⟨L, sf⟩
    · exact absurd hf hk
    · obtain ⟨e, he, h6, -⟩ := (h3 k L sf).1 hf
      exact List.mem_map.2 ⟨e, he, h6⟩
theorem s_new (r : Int) (w : World) (h0 : 0 ≤ r) (h1 : r ≤ 4194304) :
    Calls Tryz.prog 12 #[.int .i64 r] w fun x w' => ∃ t B, x = .returned (.pointer (some ⟨t, 0, none⟩)) ∧ St w' t B (fun _ => none) 0 0 ⟨r.toNat, false, 0, 0, 0⟩ ∧ RowKit.Below w.heap.size w w' ∧ ∀ b, B b → w.heap.size ≤ b := by
  refine (new_any r w h0 h1).mono ?_
  rintro x w' ⟨t, m, rfl, h2, h3, h4, h5⟩
  refine ⟨t, _, rfl, ⟨m, [], h2, fun b => Iff.rfl, fun k L sf => ⟨(fun h => by cases h), (fun ⟨e, he, _⟩ => by cases he)⟩, rfl, rfl⟩, h3, ?_⟩
  rintro b (rfl | rfl | ⟨e, he, _⟩)
  · exact h4
  · exact h5
  · cases he
end
end Go.Proofs.YtdaoeplblkfapaaGreatDoor.Ta

/- The document's example: awake is true. -/
namespace Go.Proofs.YtdaoeplblkfapaaGreatDoor.Ta
open Go.RowKit Go.Maps

/-- The tape's blocks are the call's own, and so is all that has changed. -/
structure Own (w0 w : World) (B : Nat → Prop) : Prop where
  low : RowKit.Below w0.heap.size w0 w
  own : ∀ b, B b → w0.heap.size ≤ b
theorem Own.moved {w0 w w' : World} {B B' : Nat → Prop} (h : Own w0 w B) (m : Moved B B' w w') : Own w0 w' B' := let ⟨a, b⟩ := m.below h.low h.own; ⟨a, b⟩
theorem Own.below {w0 w w' : World} {B : Nat → Prop} (h : Own w0 w B) (b : RowKit.Below w.heap.size w w') : Own w0 w' B := ⟨h.low.trans (b.mono h.low.size), h.own⟩
theorem upd_same (f : View) (k : Key) (v : Option (List UInt8 × Nat)) : upd f k v k = v := by simp [upd]
theorem upd_other (f : View) {k j : Key} (v : Option (List UInt8 × Nat)) (h : j ≠ k) : upd f k v j = f j := by simp [upd, h]
end Go.Proofs.YtdaoeplblkfapaaGreatDoor.Ta
