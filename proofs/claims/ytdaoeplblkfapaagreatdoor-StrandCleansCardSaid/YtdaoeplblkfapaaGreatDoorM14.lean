import Derived.Test.YtdaoeplblkfapaaGreatDoorM04
import Derived.Test.YtdaoeplblkfapaaGreatDoorM08
import Derived.Test.YtdaoeplblkfapaaGreatDoorM13
import Derived.Test.YtdaoeplblkfapaaGreatDoorM06
import Derived.Test.YtdaoeplblkfapaaGreatDoorM09

/- A strand over its tape. -/
namespace Go.Proofs.YtdaoeplblkfapaaGreatDoor
open Go.RowKit

/-- What lies where of a strand: its segments, their slice and its block; of what records' blocks are known. -/
structure Kx where
  X : List Sx
  v : Value
  gb : Option Nat
  A : Nat → Prop
def Kx.G (K : Kx) : List Sg := K.X.map Sx.sg
/-- A strand in block s over its tape: B their blocks, f what the tape's names hold. -/
def Sd (w : World) (s : Nat) (h : Hs) (B : Nat → Prop) (f : Ta.View) (tot n : Nat) (c : Ta.Sc) (K : Kx) : Prop :=
  ∃ T, Ta.St w h.t T f tot n c ∧ Lies w s h K.X K.v K.gb (fun b => ¬ B b ∧ K.A b) ∧ (∀ b, B b ↔ T b ∨ Os s K.gb K.X b) ∧ ∀ b, T b → ¬ Os s K.gb K.X b
section
variable {w w' : World} {s : Nat} {h : Hs} {B : Nat → Prop} {f : Ta.View} {tot n : Nat} {c : Ta.Sc} {K : Kx}
theorem Sd.lt (k : Sd w s h B f tot n c K) : ∀ b, B b → b < w.heap.size := by
  obtain ⟨T, h1, h2, h4, -⟩ := k
  intro b hb
  rcases (h4 b).1 hb with h5 | h5
  · exact h1.lt b h5
  · exact h2.lt b h5
theorem Sd.below (k : Sd w s h B f tot n c K) (hb : Below w.heap.size w w') : Sd w' s h B f tot n c K := by
  obtain ⟨T, h1, h2, h4, h5⟩ := k
  exact ⟨T, h1.below hb, h2.below hb, h4, h5⟩
/-- More, or less, is known of the records' blocks. -/
theorem Sd.known (k : Sd w s h B f tot n c K) (A : Nat → Prop) (hA : ∀ b, b < w.heap.size → K.A b → A b) : Sd w s h B f tot n c { K with A := A } := by
  obtain ⟨T, h1, h2, h4, h5⟩ := k
  exact ⟨T, h1, h2.keep (Nat.le_refl _) (fun _ _ => rfl) fun b hb hl => ⟨rfl, hb.1, hA b hl hb.2⟩, h4, h5⟩
theorem Sd.lies (k : Sd w s h B f tot n c K) : Lies w s h K.X K.v K.gb (fun b => ¬ B b ∧ K.A b) := let ⟨_, _, h2, _⟩ := k; h2
theorem Sd.os (k : Sd w s h B f tot n c K) : ∀ b, Os s K.gb K.X b → B b := let ⟨_, _, _, h3, _⟩ := k; fun b hb => (h3 b).2 (.inr hb)
end
/-- The tape has changed. -/
theorem taped {w w' : World} {s : Nat} {h : Hs} {X : List Sx} {v : Value} {gb : Option Nat} {A B T T' : Nat → Prop} (k : Lies w s h X v gb (fun b => ¬ B b ∧ A b)) (h4 : ∀ b, B b ↔ T b ∨ Os s gb X b) (h5 : ∀ b, T b → ¬ Os s gb X b) (m : Moved T T' w w') :
    ∃ B', Lies w' s h X v gb (fun b => ¬ B' b ∧ A b) ∧ (∀ b, B' b ↔ T' b ∨ Os s gb X b) ∧ (∀ b, T' b → ¬ Os s gb X b) ∧ Moved B B' w w' := by
  have hT : ∀ b, T' b → T b ∨ w.heap.size ≤ b := m.new
  refine ⟨fun b => T' b ∨ Os s gb X b, ?_, fun b => Iff.rfl, ?_, ?_⟩
  · refine k.keep m.size (fun b hb => m.block b (k.lt b hb) fun ht => h5 b ht hb) fun b hb hl => ?_
    have h1 : ¬ T b := fun ht => hb.1 ((h4 b).2 (.inl ht))
    refine ⟨m.block b hl h1, ?_, hb.2⟩
    rintro (h2 | h2)
    · rcases hT b h2 with h3 | h3
      · exact h1 h3
      · omega
    · exact hb.1 ((h4 b).2 (.inr h2))
  · intro b hb ho
    rcases hT b hb with h3 | h3
    · exact h5 b h3 ho
    · have := k.lt b ho; omega
  · refine m.mono (fun b hb => (h4 b).2 (.inl hb)) ?_
    rintro b (h2 | h2)
    · exact (hT b h2).imp (fun h3 => (h4 b).2 (.inl h3)) id
    · exact .inl ((h4 b).2 (.inr h2))
/-- What a call on the tape leaves. -/
theorem Sd.tape {w : World} {s : Nat} {h : Hs} {B : Nat → Prop} {f : Ta.View} {tot n : Nat} {c : Ta.Sc} {K : Kx} (k : Sd w s h B f tot n c K) :
    ∃ T, Ta.St w h.t T f tot n c ∧ ∀ (w' : World) (T' : Nat → Prop) (f' : Ta.View) (tot' n' : Nat) (c' : Ta.Sc), Ta.St w' h.t T' f' tot' n' c' → Moved T T' w w' → ∃ B', Sd w' s h B' f' tot' n' c' K ∧ Moved B B' w w' := by
  obtain ⟨T, h1, h2, h4, h5⟩ := k
  refine ⟨T, h1, fun w' T' f' tot' n' c' hs hm => ?_⟩
  obtain ⟨B', k1, k2, k3, k4⟩ := taped h2 h4 h5 hm
  exact ⟨B', ⟨T', hs, k1, k2, k3⟩, k4⟩
theorem Sd.head {w : World} {s : Nat} {h : Hs} {B : Nat → Prop} {f : Ta.View} {tot n : Nat} {c : Ta.Sc} {K : Kx} (k : Sd w s h B f tot n c K) : ∃ v, Blk w s (hcells h v) 99 := ⟨_, k.lies.head⟩
theorem Lb.moved {w w' : World} {B B' : Nat → Prop} (lb : Lb w) (hB : ∀ b, B b → 8 ≤ b) (m : Moved B B' w w') : Lb w' ∧ ∀ b, B' b → 8 ≤ b :=
  ⟨lb.of_low m.size fun k hk => m.block k (by have := lb.size; omega) fun h => by have := hB k h; omega, fun b h => by
    rcases m.new b h with h1 | h1
    · exact hB b h1
    · have := lb.size; omega⟩

/-- A tape that is on, and may go off. -/
structure Run (c : Ta.Sc) (a l : Nat) : Prop where
  on : c.down = false
  acts : c.acts ≤ a
  life : c.life = l
  armed : 0 ≤ c.armed ∧ c.armed ≤ 1000
/-- One that has gone off. -/
structure Gone (c : Ta.Sc) (a l : Nat) : Prop where
  off : c.down = true
  acts : c.acts ≤ a
  life : c.life = l + 1
theorem Run.small {c : Ta.Sc} {a l : Nat} (h : Run c a l) (ha : a ≤ 1099511627776) (hl : l ≤ 1099511627776) : Ta.Small c := ⟨h.on, by have := h.acts; omega, by rw [h.life]; exact hl, by have := h.armed; omega⟩
theorem Run.split {c : Ta.Sc} {a l : Nat} (h : Run c a l) : (Ta.actR c = 0 ∧ Run (Ta.actS c) (a + 1) l ∧ (c.armed = 0 → (Ta.actS c).armed = 0)) ∨ (Ta.actR c = 10 ∧ Gone (Ta.actS c) (a + 1) l ∧ c.armed = 1) := by
  obtain ⟨h1, h2, h3, h4⟩ := h
  unfold Ta.actR Ta.actS
  by_cases h0 : c.armed = 0
  · left
    rw [if_neg (by omega), if_pos h0]
    exact ⟨rfl, ⟨h1, by simp only; omega, h3, by simp only; omega⟩, fun _ => h0⟩
  · by_cases h5 : c.armed = 1
    · right
      rw [if_pos h5, if_neg h0, if_pos h5]
      exact ⟨rfl, ⟨rfl, by simp only; omega, by simp only; omega⟩, h5⟩
    · left
      rw [if_neg h5, if_neg h0, if_neg h5]
      exact ⟨rfl, ⟨h1, by simp only; omega, h3, by simp only; omega⟩, fun h => absurd h h0⟩
theorem Run.more {c : Ta.Sc} {a a' l : Nat} (h : Run c a l) (k : a ≤ a') : Run c a' l := ⟨h.on, Nat.le_trans h.acts k, h.life, h.armed⟩
theorem Gone.more {c : Ta.Sc} {a a' l : Nat} (h : Gone c a l) (k : a ≤ a') : Gone c a' l := ⟨h.off, Nat.le_trans h.acts k, h.life⟩

set_option maxHeartbeats 1000000 in
set_option maxRecDepth 100000 in
theorem readyS_ok {w : World} {s : Nat} {h : Hs} {B : Nat → Prop} {f : Ta.View} {tot n : Nat} {c : Ta.Sc} {K : Kx} (k : Sd w s h B f tot n c K) (hl : c.life = h.life) (_hb : h.life ≤ 1099511627776) :
    Calls Tryz.prog 78 #[.pointer (some ⟨s, 0, none⟩)] w fun e w' => e = .returned (.int .i64 0) ∧ Below w.heap.size w w' := by
  obtain ⟨T, hst, -⟩ := k.tape
  obtain ⟨v, hk⟩ := k.head
  have c0 : w.cell? ⟨s, 0, none⟩ = some (.pointer (some ⟨h.t, 0, none⟩)) := hk.cell rfl
  have c1 : w.cell? ⟨s, 1, none⟩ = some (.int .i64 h.life) := hk.cell rfl
  obtain ⟨m, hm⟩ := Ta.s_head hst
  have HL : ∀ wx : World, Below w.heap.size w wx → Calls Tryz.prog 59 #[.pointer (some ⟨h.t, 0, none⟩)] wx fun e w' => e = .returned (.int .i64 c.life) ∧ Below wx.heap.size wx w' := fun wx hb => (Ta.life_any wx h.t m c (Blk.below hm hb)).mono fun _ _ ⟨he, hw⟩ => ⟨he, hw ▸ Below.refl _ _⟩
  rw [hl] at HL
  obtain ⟨l, hll⟩ : ∃ l, h.life = l := ⟨_, rfl⟩
  obtain ⟨t, ht⟩ : ∃ t, h.t = t := ⟨_, rfl⟩
  rw [hll] at c1 HL
  rw [ht] at c0 HL
  have hne : ((l : Int) != (l : Int)) = false := by simp
  have k0 : ∀ d os, _ := cell_regrown c0
  have k1 : ∀ d os, _ := cell_regrown c1
  have HLL := Lib.hid fun d os => Calls.regrown_of (HL _ (below_regrown w d os))
  clear hk k hm hst hl hll ht HL
  go_enter Tryz.func78, Tryz.ntmps78
  go_wp2_with fail
  refine wp_region_quiet_below (by kernel_rfl) (by kernel_rfl) ?_
  repeat (go_big_quiet_step ((go_at_call 59; with_reducible exact HLL.out _ _)))
  refine wpQuiet_nil ?_
  intro _ hw'
  obtain ⟨⟨dq, osq⟩, hw''⟩ := hw'
  subst hw''
  go_wp2_with fail
  go_ret
  exact ⟨rfl, below_regrown w dq osq⟩
theorem readyS_nil (w : World) : Calls Tryz.prog 78 #[.pointer none] w fun e w' => e = .returned (.int .i64 2) ∧ w = w' := by
  go_enter Tryz.func78, Tryz.ntmps78
  go_wp2_with fail
  go_ret
  exact ⟨rfl, rfl⟩
end Go.Proofs.YtdaoeplblkfapaaGreatDoor

/- THE CONTRACTS OF strand's drop and write. -/
namespace Go.Proofs.YtdaoeplblkfapaaGreatDoor
open Go.RowKit

/-- What names hold when segments' files are gone. -/
def fdrop (P : List UInt8) (f : Ta.View) (zs : List Int) : Ta.View := fun k => if zs.any (fun z => nm P z == k) then none else f k
theorem fdrop_nil (P : List UInt8) (f : Ta.View) : fdrop P f [] = f := rfl
theorem fdrop_snoc (P : List UInt8) (f : Ta.View) (zs : List Int) (z : Int) : Ta.upd (fdrop P f zs) (nm P z) none = fdrop P f (zs ++ [z]) := by
  funext k
  unfold Ta.upd fdrop
  by_cases hk : k = nm P z
  · subst hk
    simp
  · have : (nm P z == k) = false := by simpa using fun e => hk e.symm
    simp [hk, this]
theorem fdrop_other {P : List UInt8} {f : Ta.View} {zs : List Int} {k : List UInt8} (h : ∀ z ∈ zs, nm P z ≠ k) : fdrop P f zs k = f k := by
  unfold fdrop
  rw [if_neg]
  simpa using h
theorem fdrop_gone {P : List UInt8} {f : Ta.View} {zs : List Int} {z : Int} (h : z ∈ zs) : fdrop P f zs (nm P z) = none := by
  unfold fdrop
  rw [if_pos]
  rw [List.any_eq_true]
  exact ⟨z, h, by simp⟩
theorem not_take {α : Type} {l : List α} {j : Nat} {z : α} (h : l.Nodup) (hz : l[j]? = some z) : z ∉ l.take j := by
  intro hm
  have hl := (List.getElem?_eq_some_iff.1 hz).1
  rw [← List.take_append_drop j l, List.nodup_append] at h
  refine h.2.2 z hm z ?_ rfl
  rw [List.drop_eq_getElem_cons hl]
  rw [List.getElem?_eq_getElem hl] at hz
  rw [Option.some.inj hz]
  exact List.mem_cons_self
/-- What drop leaves. -/
def DropOut (w : World) (s : Nat) (h : Hs) (B : Nat → Prop) (f : Ta.View) (tot n : Nat) (c : Ta.Sc) (K : Kx) (zs : List Int) (a l : Nat) (e : Ending) (w' : World) : Prop :=
  ∃ (j : Nat) (B' : Nat → Prop) (tot' n' : Nat) (c' : Ta.Sc) (er : Int), j ≤ zs.length ∧ e = .returned (.int .i64 er) ∧ Sd w' s h B' (fdrop h.P f (zs.take j)) tot' n' c' K ∧ Moved B B' w w' ∧ tot' ≤ tot ∧ n' ≤ n ∧ c'.room = c.room ∧
    ((er = 0 ∧ j = zs.length ∧ Run c' (a + j) l ∧ (c.armed = 0 → c'.armed = 0)) ∨ (er = 10 ∧ Gone c' (a + j) l ∧ c.armed ≠ 0))
/-- While files are dropped: k are. -/
structure Dg (w : World) (s : Nat) (h : Hs) (B : Nat → Prop) (f : Ta.View) (tot n : Nat) (c : Ta.Sc) (K : Kx) (zs : List Int) (a l : Nat) (v : Value) (k : Nat) (wr : World) (Bk : Nat → Prop) (tk nk : Nat) (ck : Ta.Sc) : Prop where
  sd : Sd wr s h Bk (fdrop h.P f (zs.take k)) tk nk ck K
  mv : Moved B Bk w wr
  rd : Rds (fun b => ¬ Bk b) wr v 1 zs.length (zs.map icell)
  tot : tk ≤ tot
  few : nk ≤ n
  room : ck.room = c.room
  run : Run ck (a + k) l
  arm : c.armed = 0 → ck.armed = 0

set_option maxHeartbeats 4000000 in
set_option maxRecDepth 100000 in
theorem drop_any {w : World} {s : Nat} {h : Hs} {B : Nat → Prop} {f : Ta.View} {tot n : Nat} {c : Ta.Sc} {K : Kx} (k : Sd w s h B f tot n c K) (lb : Lb w) (hB : ∀ b, B b → 8 ≤ b) (hP : h.P.length ≤ 1048576) {a l : Nat} (q : Run c a l) (v : Value) (zs : List Int)
    (hr : Rds (fun b => ¬ B b) w v 1 zs.length (zs.map icell)) (hz : ∀ z ∈ zs, 0 ≤ z ∧ z ≤ 1099511627776) (hnd : zs.Nodup) (hf : ∀ z ∈ zs, ∃ L sf, f (nm h.P z) = some (L, sf)) (ha : a + zs.length ≤ 1099511627776) (hl : l ≤ 1099511627776) (hn : zs.length ≤ 1048576) :
    Calls Tryz.prog 93 #[.pointer (some ⟨s, 0, none⟩), v] w (DropOut w s h B f tot n c K zs a l) := by
  have h0 : Dg w s h B f tot n c K zs a l v 0 w B tot n c := ⟨k, Moved.refl _ _, hr, Nat.le_refl _, Nat.le_refl _, rfl, q, id⟩
  have H0 := Lib.hid h0
  have HLB := Lib.hid lb
  have HB := Lib.hid hB
  have HZ := Lib.hid hz
  have HND := Lib.hid hnd
  have HF := Lib.hid hf
  obtain ⟨va, vc, rfl⟩ := hr.form
  obtain ⟨N, hN⟩ : ∃ N, zs.length = N := ⟨_, rfl⟩
  have HN := Lib.hid hN
  rw [hN] at ha hn H0 ⊢
  clear k lb hB q hr hz hnd hf h0 hN
  go_enter Tryz.func93, Tryz.ntmps93
  go_wp2_with fail
  go_loopw [10] (fun iv wr => ∃ (j : Nat) (Bk : Nat → Prop) (tk nk : Nat) (ck : Ta.Sc), j ≤ N ∧ iv = .int .i64 j ∧ Dg w s h B f tot n c K zs a l (.slice va N vc) j wr Bk tk nk ck) (fun iv _ => N - (intOf iv).toNat)
  case atStart => exact ⟨0, B, tot, n, c, Nat.zero_le _, rfl, H0.out⟩
  case round =>
    obtain ⟨j, Bk, tk, nk, ck, hj, rfl, hD⟩ := hrel
    have HD := Lib.hid hD
    by_cases hlt : j < N
    · obtain ⟨z, hz⟩ : ∃ z, zs[j]? = some z := ⟨_, List.getElem?_eq_getElem (by rw [HN.out]; exact hlt)⟩
      have hzm := List.mem_of_getElem? hz
      obtain ⟨hz0, hz1⟩ := HZ.out z hzm
      obtain ⟨b, p, cap', e, -, hb, hc⟩ := Rds.at hD.rd (by rw [HN.out]; omega)
      injection e with e1 e2 e3
      subst e1 e3
      have c0 : wr.cell? ⟨b, p + j, none⟩ = some (.int .i64 z) := hc j _ (by rw [List.getElem?_map, hz]; rfl)
      obtain ⟨hv, hk⟩ := hD.sd.head
      have c1 : wr.cell? ⟨s, 0, none⟩ = some (.pointer (some ⟨h.t, 0, none⟩)) := hk.cell rfl
      obtain ⟨lbr, h8⟩ := HLB.out.moved HB.out hD.mv
      have hnm : ∀ wx, Below wr.heap.size wr wx → Calls Tryz.prog 81 #[.pointer (some ⟨s, 0, none⟩), .int .i64 z] wx fun e w' => e = .returned (.string ⟨(nm h.P z).toArray⟩) ∧ Below wx.heap.size wx w' := fun wx hbx =>
        name_any wx (lbr.below lbr.size hbx) s h hv (hk.below hbx) hP z hz0 hz1
      have htk : zs.take (j + 1) = zs.take j ++ [z] := by
        have hl := (List.getElem?_eq_some_iff.1 hz).1
        rw [List.take_succ_eq_append_getElem hl]
        rw [List.getElem?_eq_getElem hl] at hz
        rw [Option.some.inj hz]
      have hznot := not_take HND.out hz
      obtain ⟨L, sf, hfz⟩ := HF.out z hzm
      have hfk : fdrop h.P f (zs.take j) (nm h.P z) = some (L, sf) := by
        rw [fdrop_other fun y hy e => ?_]
        · exact hfz
        · have hy2 := HZ.out y (List.mem_of_mem_take hy)
          have := nm_inj hy2 ⟨hz0, hz1⟩ e
          exact hznot (this ▸ hy)
      have k1 : ∀ d os, _ := cell_regrown c1
      obtain ⟨M, hM⟩ : ∃ M : ByteArray, (⟨(nm h.P z).toArray⟩ : ByteArray) = M := ⟨_, rfl⟩
      rw [hM] at hnm
      have HNM := Lib.hid fun d os => Calls.regrown_of (hnm _ (below_regrown wr d os))
      have HFK := Lib.hid hfk
      have HTK := Lib.hid htk
      have HMM := Lib.hid hM
      clear hD hc e2 hz hzm hk lbr h8 hnm htk hznot hfz hfk hM c1
      go_wp2_with fail
      refine wp_region_below_tail 7 (by kernel_rfl) (by kernel_rfl) ?_
      simp only [List.take_succ_cons, List.take_zero, List.drop_succ_cons, List.drop_zero]
      repeat (go_big_quiet_step ((go_at_call 81; with_reducible exact HNM.out _ _)))
      refine wpQuiet_nil ?_
      intro w1 hw1
      obtain ⟨⟨dq, osq⟩, hw1'⟩ := hw1
      have HB1 : Hid (Below wr.heap.size wr w1) := by rw [hw1']; exact below_regrown wr dq osq
      clear hw1' HNM k1 c0
      have k2 := HD.out.sd.below HB1.out
      obtain ⟨T, hst, hup⟩ := k2.tape
      have hdr := Ta.s_drop hst (HD.out.run.small (by omega) hl) _ _ _ HFK.out
      rw [HMM.out] at hdr
      have HDR := Lib.hid hdr
      have HUP := Lib.hid hup
      clear k2 hst hdr hup
      go_wp2_with fail
      refine HDR.out.mono ?_
      rintro e w3 ⟨rfl, T', hS3, hm3⟩
      obtain ⟨B', hSd, hmv⟩ := HUP.out _ _ _ _ _ _ hS3 hm3
      rw [fdrop_snoc, ← HTK.out] at hSd
      have hmvw := HD.out.mv.trans ((Moved.of_below HB1.out).trans hmv)
      have hroom : (Ta.actS ck).room = c.room := (Ta.actS_room ck).trans HD.out.room
      rcases HD.out.run.split with ⟨ha0, hrun, harm⟩ | ⟨ha0, hgone, harm⟩
      · rw [ha0]
        have hnext : Dg w s h B f tot n c K zs a l (.slice (some ⟨b, p, none⟩) N vc) (j + 1) w3 B' (tk - L.length) (nk - 1) (Ta.actS ck) :=
          ⟨hSd, hmvw, (HD.out.rd.below HB1.out).moved hmv, by have := HD.out.tot; omega, by have := HD.out.few; omega, hroom, by rw [← Nat.add_assoc]; exact hrun, fun h => harm (HD.out.arm h)⟩
        have HNX := Lib.hid hnext
        clear ha0 hrun harm hSd hmv hmvw hroom hS3 hm3 hnext
        go_wp2_with fail
        go_roundw
        case rel => exact ⟨j + 1, B', _, _, _, hlt, by go_num, HNX.out⟩
        case measure => simp [intOf]; omega
      · rw [ha0]
        have hres : DropOut w s h B f tot n c K zs a l (.returned (.int .i64 10)) w3 :=
          ⟨j + 1, B', _, _, _, 10, by rw [HN.out]; exact hlt, rfl, hSd, hmvw, by have := HD.out.tot; omega, by have := HD.out.few; omega, hroom, .inr ⟨rfl, by rw [← Nat.add_assoc]; exact hgone, fun h => by have := HD.out.arm h; omega⟩⟩
        have HRES := Lib.hid hres
        clear ha0 hgone harm hSd hmv hmvw hroom hS3 hm3 hres
        go_wp2_with fail
        go_ret
        exact HRES.out
    · obtain rfl : j = N := by omega
      have hres : DropOut w s h B f tot n c K zs a l (.returned (.int .i64 0)) wr :=
        ⟨j, Bk, _, _, _, 0, by rw [HN.out]; exact Nat.le_refl _, rfl, hD.sd, hD.mv, hD.tot, hD.few, hD.room, .inl ⟨rfl, HN.out.symm, hD.run, hD.arm⟩⟩
      have HRES := Lib.hid hres
      clear hD hres
      go_wp2_with fail
      go_ret
      exact HRES.out
end Go.Proofs.YtdaoeplblkfapaaGreatDoor

/- THE CONTRACTS OF strand's write and Sync. -/
namespace Go.Proofs.YtdaoeplblkfapaaGreatDoor
open Go.RowKit

/-- What write leaves. -/
def WriteOut (w : World) (s : Nat) (h : Hs) (B : Nat → Prop) (f : Ta.View) (tot n : Nat) (c : Ta.Sc) (K : Kx) (k M : List UInt8) (a l : Nat) (e : Ending) (w' : World) : Prop :=
  ∃ (B' : Nat → Prop) (c' : Ta.Sc) (er : Int), e = .returned (.int .i64 er) ∧ Moved B B' w w' ∧ c'.room = c.room ∧
    ((er = 0 ∧ Sd w' s h B' (Ta.upd f k (some (M, M.length))) (tot + M.length) (n + 1) c' K ∧ Run c' (a + 2) l ∧ (c.armed = 0 → c'.armed = 0)) ∨
     (er = 10 ∧ Sd w' s h B' (Ta.upd f k (some (M, 0))) (tot + M.length) (n + 1) c' K ∧ Gone c' (a + 2) l ∧ c.armed ≠ 0))
theorem upd_upd (f : Ta.View) (k : List UInt8) (x y : Option (List UInt8 × Nat)) : Ta.upd (Ta.upd f k x) k y = Ta.upd f k y := by
  funext j
  unfold Ta.upd
  split <;> rfl
set_option maxHeartbeats 2000000 in
set_option maxRecDepth 100000 in
theorem writeS_any {w : World} {s : Nat} {h : Hs} {B : Nat → Prop} {f : Ta.View} {tot n : Nat} {c : Ta.Sc} {K : Kx} (kk : Sd w s h B f tot n c K) {a l : Nat} (q : Run c a l) (ha : a + 2 ≤ 1099511627776) (hl : l ≤ 1099511627776)
    (k M : List UInt8) (hk : Ta.okName k = true) (hf : f k = none) (hn : n < 256) (hM : tot + M.length ≤ c.room) :
    Calls Tryz.prog 90 #[.pointer (some ⟨s, 0, none⟩), .string ⟨k.toArray⟩, .string ⟨M.toArray⟩] w (WriteOut w s h B f tot n c K k M a l) := by
  obtain ⟨hv, hb⟩ := kk.head
  have c0 : w.cell? ⟨s, 0, none⟩ = some (.pointer (some ⟨h.t, 0, none⟩)) := hb.cell rfl
  obtain ⟨T, hst, hup⟩ := kk.tape
  have hap := Ta.s_append hst (q.small (by omega) hl) k M hk hn hM
  rw [hf] at hap
  simp only [Ta.more] at hap
  have HAP := Lib.hid hap
  have HUP := Lib.hid hup
  have HQ := Lib.hid q
  have HF := Lib.hid hf
  have HA := Lib.hid ha
  obtain ⟨kb, hK⟩ : ∃ kb : ByteArray, (⟨k.toArray⟩ : ByteArray) = kb := ⟨_, rfl⟩
  have HK := Lib.hid hK
  rw [hK] at HAP ⊢
  clear kk hb hst hap hup q hf hK ha hM
  go_enter Tryz.func90, Tryz.ntmps90
  go_wp2_with fail
  refine HAP.out.mono ?_
  rintro e w1 ⟨rfl, T1, hS1, hm1⟩
  obtain ⟨B1, hSd1, hmv1⟩ := HUP.out _ _ _ _ _ _ hS1 hm1
  have hroom1 : (Ta.actS c).room = c.room := Ta.actS_room c
  rcases HQ.out.split with ⟨ha0, hrun, harm⟩ | ⟨ha0, hgone, harm⟩
  · rw [ha0]
    obtain ⟨hv1, hb1⟩ := hSd1.head
    have c1 : w1.cell? ⟨s, 0, none⟩ = some (.pointer (some ⟨h.t, 0, none⟩)) := hb1.cell rfl
    obtain ⟨T, hst, hup⟩ := hSd1.tape
    have hsy := Ta.s_sync hst (hrun.small (by have := HA.out; omega) hl) k M 0 (Ta.upd_same _ _ _)
    rw [HK.out, upd_upd] at hsy
    have HSY := Lib.hid hsy
    have HUP1 := Lib.hid hup
    have HMV := Lib.hid hmv1
    have HRUN := Lib.hid hrun
    have HARM := Lib.hid harm
    clear ha0 hrun harm hSd1 hmv1 hb1 hst hup hsy hS1 hm1 HAP HUP c0
    go_wp2_with fail
    refine HSY.out.mono ?_
    rintro e w2 ⟨rfl, T2, hS2, hm2⟩
    obtain ⟨B2, hSd2, hmv2⟩ := HUP1.out _ _ _ _ _ _ hS2 hm2
    have hroom2 : (Ta.actS (Ta.actS c)).room = c.room := (Ta.actS_room _).trans hroom1
    have hn1 : (if (f k).isSome = true then n else n + 1) = n + 1 := by rw [HF.out]; rfl
    have hres : WriteOut w s h B f tot n c K k M a l (.returned (.int .i64 (Ta.actR (Ta.actS c)))) w2 := by
      refine ⟨B2, _, _, rfl, HMV.out.trans hmv2, hroom2, ?_⟩
      rcases HRUN.out.split with ⟨hb0, hrun2, harm2⟩ | ⟨hb0, hgone2, harm2⟩
      · left
        have hne : (Ta.actS c).armed ≠ 1 := fun h => by simp [Ta.actR, h] at hb0
        rw [if_neg hne] at hSd2
        simp only [Option.isSome_none, Bool.false_eq_true, if_false] at hSd2
        exact ⟨hb0, hSd2, hrun2, fun h => harm2 (HARM.out h)⟩
      · right
        rw [if_pos harm2] at hSd2
        simp only [Option.isSome_none, Bool.false_eq_true, if_false] at hSd2
        exact ⟨hb0, hSd2, hgone2, fun h => by have := HARM.out h; omega⟩
    have HRES := Lib.hid hres
    clear hres hSd2 hmv2 hS2 hm2 hroom2 hroom1 hn1
    go_wp2_with fail
    go_ret
    exact HRES.out
  · rw [ha0]
    simp only [Option.isSome_none, Bool.false_eq_true, if_false] at hSd1
    have hres : WriteOut w s h B f tot n c K k M a l (.returned (.int .i64 10)) w1 := ⟨B1, _, _, rfl, hmv1, hroom1, .inr ⟨rfl, hSd1, hgone.more (by omega), by omega⟩⟩
    have HRES := Lib.hid hres
    clear hres hSd1 hmv1 hS1 hm1 ha0 hgone harm hroom1
    go_wp2_with fail
    go_ret
    exact HRES.out

theorem first_of (a b : Int) (x : Option Addr) (n c : Nat) (w : World) : (Instr.field 119 (.agg #[.int .i64 a, .int .i64 b, .slice x n c]) 0).run Tryz.prog w = .ok (.int .i64 a) w := by kernel_rfl
/-- What Sync leaves. -/
def SyncOut (w : World) (s : Nat) (h : Hs) (B : Nat → Prop) (f : Ta.View) (tot n : Nat) (c : Ta.Sc) (K : Kx) (k M : List UInt8) (sf a l : Nat) (e : Ending) (w' : World) : Prop :=
  ∃ (B' : Nat → Prop) (c' : Ta.Sc) (er : Int), e = .returned (.int .i64 er) ∧ Moved B B' w w' ∧ c'.room = c.room ∧
    ((er = 0 ∧ Sd w' s h B' (Ta.upd f k (some (M, M.length))) tot n c' K ∧ Run c' (a + 1) l ∧ (c.armed = 0 → c'.armed = 0)) ∨
     (er = 10 ∧ Sd w' s h B' (Ta.upd f k (some (M, sf))) tot n c' K ∧ Gone c' (a + 1) l ∧ c.armed ≠ 0))
/-- How many and how great a strand's parts may be. -/
structure Fit (G : List Sg) : Prop where
  segs : G.length ≤ 1048576
  lists : ∀ g ∈ G, g.l.length ≤ 1048576
  firsts : ∀ g ∈ G, 0 ≤ g.first ∧ g.first ≤ 1099511627776
theorem syncS_none {w : World} {s : Nat} {h : Hs} {B : Nat → Prop} {f : Ta.View} {tot n : Nat} {c : Ta.Sc} {K : Kx} (kk : Sd w s h B f tot n c K) (hK : K.X = []) (hlf : c.life = h.life) (hl : h.life ≤ 1099511627776) :
    Calls Tryz.prog 31 #[.pointer (some ⟨s, 0, none⟩)] w fun e w' => e = .returned (.int .i64 0) ∧ Below w.heap.size w w' := by
  have HR := Lib.hid (readyS_ok kk hlf hl)
  obtain ⟨X, v, gb, A⟩ := K
  obtain rfl : X = [] := hK
  have k2 := kk.lies
  simp only at k2
  obtain ⟨a, cap, rfl⟩ := k2.segs.form
  have c4 : w.cell? ⟨s, 4, none⟩ = some (.slice a 0 cap) := k2.head.cell rfl
  have hs := k2.head.lt
  clear k2 kk hlf
  go_enter Tryz.func31, Tryz.ntmps31
  go_wp2_with fail
  refine HR.out.mono ?_
  rintro e w1 ⟨rfl, b1⟩
  have c4' : w1.cell? ⟨s, 4, none⟩ = some (.slice a 0 cap) := (b1.cell (p := ⟨s, 4, none⟩) hs).trans c4
  have HB := Lib.hid b1
  clear b1 c4
  go_wp2_with fail
  go_ret
  exact ⟨rfl, HB.out⟩
set_option maxHeartbeats 2000000 in
set_option maxRecDepth 100000 in
theorem syncS_any {w : World} {s : Nat} {h : Hs} {B : Nat → Prop} {f : Ta.View} {tot n : Nat} {c : Ta.Sc} {K : Kx} {G : List Sg} {g : Sg} (kk : Sd w s h B f tot n c K) (hKG : K.G = G ++ [g]) (lb : Lb w) (_hB : ∀ b, B b → 8 ≤ b) (hP : h.P.length ≤ 1048576) (hfit : Fit (G ++ [g])) {a : Nat} (hlf : c.life = h.life) (q : Run c a h.life) (ha : a + 1 ≤ 1099511627776) (hl : h.life ≤ 1099511627776)
    (L : List UInt8) (sf : Nat) (hf : f (nm h.P g.first) = some (L, sf)) :
    Calls Tryz.prog 31 #[.pointer (some ⟨s, 0, none⟩)] w (SyncOut w s h B f tot n c K (nm h.P g.first) L sf a h.life) := by
  have HR := Lib.hid (readyS_ok kk hlf hl)
  have HKK := Lib.hid kk
  have k2 := kk.lies
  have k3 : K.X.map Sx.sg = G ++ [g] := hKG
  obtain ⟨X, hXe⟩ : ∃ X, K.X = X := ⟨_, rfl⟩
  obtain ⟨v, hve⟩ : ∃ v, K.v = v := ⟨_, rfl⟩
  obtain ⟨gb, hge⟩ : ∃ gb, K.gb = gb := ⟨_, rfl⟩
  rw [hXe, hve, hge] at k2
  rw [hXe] at k3
  clear hXe hge
  obtain ⟨va, cap, hva⟩ := k2.segs.form
  rw [hva] at k2
  clear hva hve
  have hX : X.length = G.length + 1 := by rw [← List.length_map (f := Sx.sg), k3, List.length_append]; rfl
  obtain ⟨x, hx, hxe⟩ := snoc_of hX
  have hxg : x.sg = g := by
    have h1 : (X.map Sx.sg)[G.length]? = some x.sg := by rw [List.getElem?_map, hx]; rfl
    rw [k3, List.getElem?_append_right (Nat.le_refl _), Nat.sub_self] at h1
    exact (Option.some.inj h1).symm
  have hfst : x.first = g.first := by rw [← hxg]; rfl
  have hgm : g ∈ G ++ [g] := by simp
  obtain ⟨hz0, hz1⟩ := hfit.firsts g hgm
  have hXs : X.length ≤ 1048576 := by have := hfit.segs; rw [hX]; simpa using this
  have c4 : w.cell? ⟨s, 4, none⟩ = some (.slice va X.length cap) := k2.head.cell rfl
  have c0 : w.cell? ⟨s, 0, none⟩ = some (.pointer (some ⟨h.t, 0, none⟩)) := k2.head.cell rfl
  have hs := k2.head.lt
  have HLA := Lib.hid fun (wx : World) (hbx : Below w.heap.size w wx) => last_any (k2.below hbx) hX hx hXs
  have HNM := Lib.hid fun (wx : World) (hbx : Below w.heap.size w wx) => name_any wx (lb.below lb.size hbx) s h _ (k2.head.below hbx) hP g.first hz0 hz1
  have HQ := Lib.hid q
  have HF := Lib.hid hf
  have HA := Lib.hid ha
  unfold sv at HLA
  rw [hfst] at HLA
  obtain ⟨la, lc, hlv⟩ := (k2.list (List.mem_of_getElem? hx)).form
  rw [hlv] at HLA
  obtain ⟨y, hy⟩ : ∃ y, (frs x.bts).length = y := ⟨_, rfl⟩
  obtain ⟨m, hm⟩ : ∃ m, x.L.length = m := ⟨_, rfl⟩
  rw [hy, hm] at HLA
  obtain ⟨N, hN⟩ : ∃ N, X.length = N := ⟨_, rfl⟩
  have hN0 : ((N : Int) == 0) = false := by simp; omega
  rw [hN] at c4
  obtain ⟨F, hF⟩ : ∃ F, g.first = F := ⟨_, rfl⟩
  rw [hF] at HLA HNM HF ⊢
  obtain ⟨M, hM⟩ : ∃ M : ByteArray, (⟨(nm h.P F).toArray⟩ : ByteArray) = M := ⟨_, rfl⟩
  rw [hM] at HNM
  have HMM := Lib.hid hM
  clear k2 k3 hKG kk hx hxe hxg hfst hgm hz0 hz1 hXs lb hfit q hf ha hlv hy hm hN hF hX hM hlf
  have hfd := first_of
  go_enter Tryz.func31, Tryz.ntmps31
  go_wp2_with fail
  refine HR.out.mono ?_
  rintro e w1 ⟨rfl, b1⟩
  have d4 : w1.cell? ⟨s, 4, none⟩ = some (.slice va N cap) := (b1.cell (p := ⟨s, 4, none⟩) hs).trans c4
  have d0 : w1.cell? ⟨s, 0, none⟩ = some (.pointer (some ⟨h.t, 0, none⟩)) := (b1.cell (p := ⟨s, 0, none⟩) hs).trans c0
  have k0 : ∀ d os, _ := cell_regrown d0
  have HB := Lib.hid b1
  have HL1 := Lib.hid fun d os => Calls.regrown_of (HLA.out _ (b1.trans ((below_regrown w1 d os).mono b1.size)))
  have HN1 := Lib.hid fun d os => Calls.regrown_of (HNM.out _ (b1.trans ((below_regrown w1 d os).mono b1.size)))
  clear b1 c4 c0 HLA HNM HR
  go_wp2_with fail
  refine wp_region_below_tail 9 (by kernel_rfl) (by kernel_rfl) ?_
  simp only [List.take_succ_cons, List.take_zero, List.drop_succ_cons, List.drop_zero]
  repeat (go_big_quiet_step (first | (go_at_call 76; with_reducible exact HL1.out _ _) | (go_at_call 81; with_reducible exact HN1.out _ _)))
  refine wpQuiet_nil ?_
  intro w2 hw2
  obtain ⟨⟨dq, osq⟩, hw2'⟩ := hw2
  have HB2 : Hid (Below w.heap.size w w2) := by rw [hw2']; exact HB.out.trans ((below_regrown w1 dq osq).mono HB.out.size)
  clear hw2' HL1 HN1 k0 d0 d4
  have k2 := HKK.out.below HB2.out
  obtain ⟨T, hst, hup⟩ := k2.tape
  have hsy := Ta.s_sync hst (HQ.out.small (by have := HA.out; omega) hl) _ L sf HF.out
  rw [HMM.out] at hsy
  have HSY := Lib.hid hsy
  have HUP := Lib.hid hup
  clear k2 hst hup hsy
  go_wp2_with fail
  refine HSY.out.mono ?_
  rintro e w3 ⟨rfl, T3, hS3, hm3⟩
  obtain ⟨B3, hSd3, hmv3⟩ := HUP.out _ _ _ _ _ _ hS3 hm3
  have hres : SyncOut w s h B f tot n c K (nm h.P F) L sf a h.life (.returned (.int .i64 (Ta.actR c))) w3 := by
    refine ⟨B3, _, _, rfl, (Moved.of_below HB2.out).trans hmv3, Ta.actS_room c, ?_⟩
    rcases HQ.out.split with ⟨hb0, hrun2, harm2⟩ | ⟨hb0, hgone2, harm2⟩
    · left
      have hne : c.armed ≠ 1 := fun h => by simp [Ta.actR, h] at hb0
      rw [if_neg hne] at hSd3
      exact ⟨hb0, hSd3, hrun2, harm2⟩
    · right
      rw [if_pos harm2] at hSd3
      exact ⟨hb0, hSd3, hgone2, by omega⟩
  have HRES := Lib.hid hres
  clear hres hSd3 hmv3 hS3 hm3
  go_wp2_with fail
  go_ret
  exact HRES.out
end Go.Proofs.YtdaoeplblkfapaaGreatDoor

/- A strand's last segment is put anew: what lies then. -/
namespace Go.Proofs.YtdaoeplblkfapaaGreatDoor
open Go.RowKit

/-- Blocks o and the block ch alone have changed. -/
def Chg (own : Nat → Prop) (ch : Option Nat) (w w' : World) : Prop := Moved (fun b => own b ∨ ch = some b) (fun b => own b ∨ ch = some b) w w'
theorem Chg.refl (own : Nat → Prop) (ch : Option Nat) (w : World) : Chg own ch w w := Moved.refl _ _
theorem Chg.below {own : Nat → Prop} {ch : Option Nat} {w w1 w2 : World} (h : Chg own ch w w1) (k : Below w1.heap.size w1 w2) : Chg own ch w w2 := Moved.trans h (.of_below k)
theorem Chg.alloc {own : Nat → Prop} {ch : Option Nat} {w w1 : World} (h : Chg own ch w w1) (o : Obj) : Chg own ch w (w1.alloc o) := Moved.trans h (.alloc _ _)
theorem Chg.set {own : Nat → Prop} {ch : Option Nat} {w w1 : World} (h : Chg own ch w w1) {b i : Nat} (v : Value) (hb : own b) : Chg own ch w (w1.setCell ⟨b, i, none⟩ v) := Moved.trans h (.setCell _ _ _ (.inl hb))
theorem Chg.grown {own : Nat → Prop} {ch : Option Nat} {w w1 w2 : World} (h : Chg own ch w w1) (k : w1.grownBy w2 ch) : Chg own ch w w2 := Moved.trans h (.of_grown k fun _ hk => .inr hk)
theorem flat_snoc3 (X : List Sx) (x : Sx) : (X ++ [x]).flatMap sc3 = X.flatMap sc3 ++ sc3 x := by simp
theorem Sd.putA {w1 w3 w5 : World} {s : Nat} {h : Hs} {B : Nat → Prop} {f : Ta.View} {tot n : Nat} {c : Ta.Sc} {K : Kx} (k : Sd w1 s h B f tot n c K) {own : Nat → Prop} (hown : ∀ b, own b → b < w1.heap.size ∧ ¬ B b ∧ ¬ K.A b) {i : Nat} (hi : i ≤ K.X.length) {ch : Option Nat} (hch : ∀ g, ch = some g → ∃ x, K.X[i]? = some x ∧ x.lb = some g)
    (m1 : Chg own ch w1 w3) (x' : Sx) (hl : Sl w3 x'.lv x'.lb 34 6 x'.L.length (x'.L.flatMap bc6)) (hlb : ∀ g, x'.lb = some g → ch = some g ∨ w1.heap.size ≤ g)
    (hr : All (fun b => (b < w1.heap.size ∧ ¬ B b ∧ K.A b) ∨ (w1.heap.size ≤ b ∧ x'.lb ≠ some b)) w3 x'.L)
    (m2 : Chg own K.gb w3 w5) (v' : Value) (gb' : Option Nat) (hs : Sl w5 v' gb' 119 3 (i + 1) ((K.X.take i).flatMap sc3 ++ sc3 x')) (hgb : ∀ g, gb' = some g → K.gb = some g ∨ w3.heap.size ≤ g) :
    ∃ B', Sd (w5.setCell ⟨s, 4, none⟩ v') s h B' f tot n c ⟨K.X.take i ++ [x'], v', gb', fun b => K.A b ∨ w1.heap.size ≤ b⟩ ∧ Moved (fun b => own b ∨ B b) B' w1 (w5.setCell ⟨s, 4, none⟩ v') := by
  obtain ⟨T, k1, k2, k4, k5⟩ := k
  have hsB : B s := (k4 s).2 (.inr (.inl rfl))
  have hgB : ∀ g, K.gb = some g → B g := fun g hg => (k4 g).2 (.inr (.inr (.inl hg)))
  have hxB : ∀ x ∈ K.X, ∀ g, x.lb = some g → B g := fun x hx g hg => (k4 g).2 (.inr (.inr (.inr ⟨x, hx, hg⟩)))
  have hTB : ∀ b, T b → B b := fun b hb => (k4 b).2 (.inl hb)
  have hBl : ∀ b, B b → b < w1.heap.size := fun b hb => by
    rcases (k4 b).1 hb with h5 | h5
    · exact k1.lt b h5
    · exact k2.lt b h5
  have hcB : ∀ g, ch = some g → B g := fun g hg => let ⟨x, hx, e⟩ := hch g hg; hxB x (List.mem_of_getElem? hx) g e
  have hs1 : w1.heap.size ≤ w3.heap.size := m1.size
  have hs2 : w3.heap.size ≤ w5.heap.size := m2.size
  -- what is of B, and neither changed block, is as it was
  have keep1 : ∀ b, b < w1.heap.size → ¬ own b → ch ≠ some b → w3.heap[b]? = w1.heap[b]? := fun b hb h1 h2 => m1.block b hb fun h => h.elim h1 h2
  have keep2 : ∀ b, b < w3.heap.size → ¬ own b → K.gb ≠ some b → w5.heap[b]? = w3.heap[b]? := fun b hb h1 h2 => m2.block b hb fun h => h.elim h1 h2
  have keep3 : ∀ b, b ≠ s → (w5.setCell ⟨s, 4, none⟩ v').heap[b]? = w5.heap[b]? := fun b hb => Below.heap_setCell _ _ _ _ hb
  have nown : ∀ b, B b → ¬ own b := fun b hb ho => (hown b ho).2.1 hb
  have keep : ∀ b, B b → b ≠ s → ch ≠ some b → K.gb ≠ some b → (w5.setCell ⟨s, 4, none⟩ v').heap[b]? = w1.heap[b]? := fun b hb h1 h2 h3 =>
    (keep3 b h1).trans ((keep2 b (Nat.lt_of_lt_of_le (hBl b hb) hs1) (nown b hb) h3).trans (keep1 b (hBl b hb) (nown b hb) h2))
  have hcs : ch ≠ some s := fun e => let ⟨x, hx, e'⟩ := hch s e; (k2.sl x (List.mem_of_getElem? hx)).1 e'
  have hcg : ∀ g, ch = some g → K.gb ≠ some g := fun g e => let ⟨x, hx, e'⟩ := hch g e; (k2.sl x (List.mem_of_getElem? hx)).2 g e'
  have hgs : gb' ≠ some s := fun e => by
    rcases hgb s e with h1 | h1
    · exact k2.sg h1
    · have := hBl s hsB; omega
  have hls : x'.lb ≠ some s := fun e => by
    rcases hlb s e with h1 | h1
    · exact hcs h1
    · have := hBl s hsB; omega
  have hl3 : ∀ g, x'.lb = some g → g < w3.heap.size := fun g e => hl.lt g e
  have hlown : ∀ g, x'.lb = some g → ¬ own g := fun g e ho => by
    rcases hlb g e with h1 | h1
    · exact nown g (hcB g h1) ho
    · have := (hown g ho).1; omega
  have hlg : ∀ g, x'.lb = some g → K.gb ≠ some g := fun g e e2 => by
    rcases hlb g e with h1 | h1
    · exact hcg g h1 e2
    · have := hBl g (hgB g e2); omega
  have hlg' : ∀ g, x'.lb = some g → gb' ≠ some g := fun g e e2 => by
    rcases hgb g e2 with h1 | h1
    · exact hlg g e h1
    · have := hl3 g e; omega
  -- the segments ahead
  have htm : ∀ y ∈ K.X.take i, y ∈ K.X := fun y hy => List.mem_of_mem_take hy
  have htch : ∀ y ∈ K.X.take i, ∀ g, y.lb = some g → ch ≠ some g := fun y hy g e e2 => by
    obtain ⟨x, hx, e'⟩ := hch g e2
    obtain ⟨j, hj⟩ := List.getElem?_of_mem hy
    have hjl := (List.getElem?_eq_some_iff.1 hj).1
    rw [List.length_take] at hjl
    have hji : j < i := by omega
    rw [List.getElem?_take_of_lt hji] at hj
    have hil := (List.getElem?_eq_some_iff.1 hx).1
    have hjl' := (List.getElem?_eq_some_iff.1 hj).1
    have := List.pairwise_iff_getElem.1 k2.apart j i hjl' hil hji g
    rw [(List.getElem?_eq_some_iff.1 hj).2, (List.getElem?_eq_some_iff.1 hx).2] at this
    exact this e e'
  have hB' : ∀ b, (T b ∨ Os s gb' (K.X.take i ++ [x']) b) → B b ∨ w1.heap.size ≤ b := by
    rintro b (hb | rfl | hb | ⟨y, hy, hb⟩)
    · exact .inl (hTB b hb)
    · exact .inl hsB
    · exact (hgb b hb).imp (hgB b) (fun h => Nat.le_trans hs1 h)
    · rcases List.mem_append.1 hy with hy | hy
      · exact .inl (hxB y (htm y hy) b hb)
      · rw [List.mem_singleton.1 hy] at hb
        exact (hlb b hb).imp (hcB b) id
  have hTn : ∀ b, T b → (w5.setCell ⟨s, 4, none⟩ v').heap[b]? = w1.heap[b]? := fun b hb => keep b (hTB b hb) (fun e => k5 b hb (.inl e)) (fun e => by
      obtain ⟨x, hx, e'⟩ := hch b e
      exact k5 b hb (.inr (.inr ⟨x, List.mem_of_getElem? hx, e'⟩))) (fun e => k5 b hb (.inr (.inl e)))
  have hTO : ∀ b, T b → ¬ Os s gb' (K.X.take i ++ [x']) b := by
    rintro b hb (rfl | h1 | ⟨y, hy, h1⟩)
    · exact k5 b hb (.inl rfl)
    · rcases hgb b h1 with h2 | h2
      · exact k5 b hb (.inr (.inl h2))
      · have := k1.lt b hb; omega
    · rcases List.mem_append.1 hy with hy | hy
      · exact k5 b hb (.inr (.inr ⟨y, htm y hy, h1⟩))
      · rw [List.mem_singleton.1 hy] at h1
        rcases hlb b h1 with h2 | h2
        · obtain ⟨x, hx, e'⟩ := hch b h2
          exact k5 b hb (.inr (.inr ⟨x, List.mem_of_getElem? hx, e'⟩))
        · have := k1.lt b hb; omega
  refine ⟨fun b => T b ∨ Os s gb' (K.X.take i ++ [x']) b, ⟨T, k1.same hTn, ?_, fun b => Iff.rfl, hTO⟩, ?_⟩
  · refine ⟨?_, ?_, ?_, ?_, hgs, ?_, ?_⟩
    · have h1 : Blk w5 s (hcells h K.v) 99 := k2.head.same (((keep2 s (Nat.lt_of_lt_of_le (hBl s hsB) hs1) (nown s hsB) k2.sg)).trans (keep1 s (hBl s hsB) (nown s hsB) hcs))
      exact h1.set (i := 4) v'
    · have e : (K.X.take i ++ [x']).length = i + 1 := by simp [Nat.min_eq_left hi]
      show Sl _ v' gb' _ 3 (K.X.take i ++ [x']).length ((K.X.take i ++ [x']).flatMap sc3)
      rw [e, flat_snoc3]
      exact hs.same fun b hb => keep3 b (by rintro rfl; exact hgs hb)
    · intro y hy
      rcases List.mem_append.1 hy with hy | hy
      · refine (k2.lists y (htm y hy)).same fun b hb => ?_
        have hyl := k2.sl y (htm y hy)
        exact keep b (hxB y (htm y hy) b hb) (by rintro rfl; exact hyl.1 hb) (htch y hy b hb) (hyl.2 b hb)
      · rw [List.mem_singleton.1 hy]
        exact hl.same fun b hb => (keep3 b (by rintro rfl; exact hls hb)).trans (keep2 b (hl3 b hb) (hlown b hb) (hlg b hb))
    · intro y hy
      have hsz : w1.heap.size ≤ (w5.setCell ⟨s, 4, none⟩ v').heap.size := by
        have : (w5.setCell ⟨s, 4, none⟩ v').heap.size = w5.heap.size := by simp [World.setCell]
        omega
      have hold : ∀ b, b < w1.heap.size → ¬ B b → K.A b → (w5.setCell ⟨s, 4, none⟩ v').heap[b]? = w1.heap[b]? ∧ ¬ (T b ∨ Os s gb' (K.X.take i ++ [x']) b) ∧ (K.A b ∨ w1.heap.size ≤ b) := fun b hl hb hA => by
        have ho : ¬ own b := fun ho => (hown b ho).2.2 hA
        refine ⟨(keep3 b (by rintro rfl; exact hb hsB)).trans ((keep2 b (Nat.lt_of_lt_of_le hl hs1) ho fun e => hb (hgB b e)).trans (keep1 b hl ho fun e => hb (hcB b e))), fun h' => ?_, .inl hA⟩
        rcases hB' b h' with h1 | h1
        · exact hb h1
        · omega
      rcases List.mem_append.1 hy with hy | hy
      · exact (k2.recs y (htm y hy)).keep hsz fun b hb hl => hold b hl hb.1 hb.2
      · rw [List.mem_singleton.1 hy]
        refine hr.keep (by simp only [World.setCell, Array.size_modify]; omega) fun b hb hl => ?_
        rcases hb with ⟨h1, h2, h3⟩ | ⟨h1, h2⟩
        · have ho : ¬ own b := fun ho => (hown b ho).2.2 h3
          exact ⟨(hold b h1 h2 h3).1.trans (keep1 b h1 ho fun e => h2 (hcB b e)).symm, (hold b h1 h2 h3).2⟩
        · have hnB : ¬ B b := fun hb => by have := hBl b hb; omega
          refine ⟨(keep3 b (by rintro rfl; exact hnB hsB)).trans (keep2 b hl (fun ho => by have := (hown b ho).1; omega) fun e => hnB (hgB b e)), ?_, .inr h1⟩
          rintro (h3 | rfl | h3 | ⟨z, hz, h3⟩)
          · exact hnB (hTB b h3)
          · exact hnB hsB
          · rcases hgb b h3 with h4 | h4
            · exact hnB (hgB b h4)
            · omega
          · rcases List.mem_append.1 hz with hz | hz
            · exact hnB (hxB z (htm z hz) b h3)
            · rw [List.mem_singleton.1 hz] at h3
              exact h2 h3
    · intro y hy
      rcases List.mem_append.1 hy with hy | hy
      · have hyl := k2.sl y (htm y hy)
        refine ⟨hyl.1, fun g hg e => ?_⟩
        rcases hgb g e with h1 | h1
        · exact hyl.2 g hg h1
        · have := hBl g (hxB y (htm y hy) g hg); omega
      · rw [List.mem_singleton.1 hy]
        exact ⟨hls, hlg'⟩
    · rw [List.pairwise_append]
      refine ⟨k2.apart.sublist (List.take_sublist _ _), List.pairwise_singleton _ _, fun y hy z hz g hg e => ?_⟩
      rw [List.mem_singleton.1 hz] at e
      rcases hlb g e with h1 | h1
      · exact htch y hy g hg h1
      · have := hBl g (hxB y (htm y hy) g hg); omega
  · refine ⟨m2.os.trans m1.os, m2.tape.trans m1.tape, m2.output.trans m1.output, by simp only [World.setCell, Array.size_modify]; omega, fun b hb hn => ?_, fun b hb => (hB' b hb).imp .inr id⟩
    have ho : ¬ own b := fun ho => hn (.inl ho)
    have hb' : ¬ B b := fun hb => hn (.inr hb)
    exact (keep3 b (by rintro rfl; exact hb' hsB)).trans ((keep2 b (Nat.lt_of_lt_of_le hb hs1) ho fun e => hb' (hgB b e)).trans (keep1 b hb ho fun e => hb' (hcB b e)))
theorem Sd.put {w1 w3 w5 : World} {s : Nat} {h : Hs} {B : Nat → Prop} {f : Ta.View} {tot n : Nat} {c : Ta.Sc} {K : Kx} (k : Sd w1 s h B f tot n c K) {own : Nat → Prop} (hown : ∀ b, own b → b < w1.heap.size ∧ ¬ B b ∧ ¬ K.A b) {i : Nat} (hi : i ≤ K.X.length) {ch : Option Nat} (hch : ∀ g, ch = some g → ∃ x, K.X[i]? = some x ∧ x.lb = some g)
    (m1 : Chg own ch w1 w3) (x' : Sx) (hl : Sl w3 x'.lv x'.lb 34 6 x'.L.length (x'.L.flatMap bc6)) (hlb : ∀ g, x'.lb = some g → ch = some g ∨ w1.heap.size ≤ g)
    (hr : All (fun b => (b < w1.heap.size ∧ ¬ B b ∧ K.A b) ∨ (w1.heap.size ≤ b ∧ x'.lb ≠ some b)) w3 x'.L)
    (m2 : Chg own K.gb w3 w5) (v' : Value) (gb' : Option Nat) (hs : Sl w5 v' gb' 119 3 (i + 1) ((K.X.take i).flatMap sc3 ++ sc3 x')) (hgb : ∀ g, gb' = some g → K.gb = some g ∨ w3.heap.size ≤ g) :
    ∃ B', Sd (w5.setCell ⟨s, 4, none⟩ v') s h B' f tot n c ⟨K.X.take i ++ [x'], v', gb', fun _ => True⟩ ∧ Moved (fun b => own b ∨ B b) B' w1 (w5.setCell ⟨s, 4, none⟩ v') :=
  let ⟨B', h1, h2⟩ := k.putA hown hi hch m1 x' hl hlb hr m2 v' gb' hs hgb
  ⟨B', h1.known (fun _ => True) fun _ _ _ => trivial, h2⟩
end Go.Proofs.YtdaoeplblkfapaaGreatDoor

/- THE CONTRACT OF strand's left. -/
namespace Go.Proofs.YtdaoeplblkfapaaGreatDoor
open Go.RowKit

/-- First offsets never fall. -/
def Rises (G : List Sg) : Prop := ∀ (i j : Nat) (g h : Sg), i ≤ j → G[i]? = some g → G[j]? = some h → g.first ≤ h.first
set_option maxHeartbeats 1000000 in
set_option maxRecDepth 100000 in
theorem left1 {w : World} {s : Nat} {h : Hs} {X : List Sx} {v : Value} {gb : Option Nat} {A : Nat → Prop} (k : Lies w s h X v gb A) (b2 b3 : Nat) (off : Int) (hb2 : Blk w b2 #[.pointer (some ⟨s, 0, none⟩)] 42) (hb3 : Blk w b3 #[.int .i64 off] 3) {j : Nat} {x : Sx} (hx : X[j]? = some x) (_hX : X.length ≤ 1048576) :
    Calls Tryz.prog 136 #[.int .i64 j, .pointer (some ⟨b2, 0, none⟩), .pointer (some ⟨b3, 0, none⟩)] w fun e w' => e = .returned (.bool (decide (off ≤ x.first))) ∧ Below w.heap.size w w' := by
  obtain ⟨g, o, cap, rfl, rfl, hc, hg, c0, c1, c2⟩ := k.get hx
  have d4 : w.cell? ⟨s, 4, none⟩ = some (.slice (some ⟨g, o, none⟩) X.length cap) := k.head.cell rfl
  have p2 : w.cell? ⟨b2, 0, none⟩ = some (.pointer (some ⟨s, 0, none⟩)) := hb2.cell rfl
  have p3 : w.cell? ⟨b3, 0, none⟩ = some (.int .i64 off) := hb3.cell rfl
  have hjl := (List.getElem?_eq_some_iff.1 hx).1
  obtain ⟨N, hN⟩ : ∃ N, X.length = N := ⟨_, rfl⟩
  rw [hN] at d4 hjl
  have i0 : (0 : Int) ≤ (j : Int) := by omega
  have i1 : (j : Int) < (N : Int) := by omega
  obtain ⟨f, hf⟩ : ∃ f, x.first = f := ⟨_, rfl⟩
  rw [hf] at c0 ⊢
  clear k hb2 hb3 hx hN hc hf c1 c2
  go_enter Tryz.func136, Tryz.ntmps136
  go_wp2_with fail
  go_quiet (fail)
  go_wp2_with fail
  go_ret
  exact ⟨rfl, below_drewN w _⟩
set_option maxHeartbeats 400000 in
set_option maxRecDepth 100000 in
theorem left_any {w : World} {s : Nat} {h : Hs} {X : List Sx} {v : Value} {gb : Option Nat} {A : Nat → Prop} (kk : Lies w s h X v gb A) (off : Int) (hX : X.length ≤ 1048576) (hr : Rises (X.map Sx.sg)) :
    Calls Tryz.prog 95 #[.pointer (some ⟨s, 0, none⟩), .int .i64 off] w fun e w' => e = .returned (.int .i64 (leftN (X.map Sx.sg) off - 1 : Nat)) ∧ Below w.heap.size w w' := by
  have hslt := kk.head.lt
  obtain ⟨a, cap, rfl⟩ := kk.segs.form
  have d4 : w.cell? ⟨s, 4, none⟩ = some (.slice a X.length cap) := kk.head.cell rfl
  obtain ⟨W0, hW0⟩ : ∃ W0, w.alloc (.cells #[.pointer (some ⟨s, 0, none⟩)] 42) = W0 := ⟨_, rfl⟩
  have hw0 : Below w.heap.size w W0 := by rw [← hW0]; exact (Below.refl _ _).alloc (Nat.le_refl _) _
  have hsz : W0.heap.size = w.heap.size + 1 := by rw [← hW0]; simp
  have hb2 : Blk W0 w.heap.size #[.pointer (some ⟨s, 0, none⟩)] 42 := by rw [← hW0]; exact Blk.new _ _ _
  obtain ⟨W1, hW1⟩ : ∃ W1, W0.alloc (.cells #[.int .i64 off] 3) = W1 := ⟨_, rfl⟩
  have hw1 : Below w.heap.size w W1 := by rw [← hW1]; exact hw0.alloc (by omega) _
  have hb2 : Blk W1 w.heap.size #[.pointer (some ⟨s, 0, none⟩)] 42 := by rw [← hW1]; exact hb2.alloc _
  have hb3 : Blk W1 W0.heap.size #[.int .i64 off] 3 := by rw [← hW1]; exact Blk.new _ _ _
  have hs := searchLf (fun i => match X[i]? with | some x => decide (off ≤ x.first) | none => true) X.length (.pointer (some ⟨w.heap.size, 0, none⟩)) (.pointer (some ⟨W0.heap.size, 0, none⟩)) W1 hX
    (fun i hi wx hbx => by
      obtain ⟨x, hx⟩ : ∃ x, X[i]? = some x := ⟨_, List.getElem?_eq_getElem hi⟩
      simp only [hx]
      exact left1 ((kk.below hw1).below hbx) _ _ off (hb2.below hbx) (hb3.below hbx) hx hX)
    (fun i j hij hj hi => by
      obtain ⟨x, hx⟩ : ∃ x, X[i]? = some x := ⟨_, List.getElem?_eq_getElem (by omega)⟩
      obtain ⟨y, hy⟩ : ∃ y, X[j]? = some y := ⟨_, List.getElem?_eq_getElem hj⟩
      simp only [hx, decide_eq_true_eq] at hi
      simp only [hy, decide_eq_true_eq]
      have := hr i j x.sg y.sg hij (by rw [List.getElem?_map, hx]; rfl) (by rw [List.getElem?_map, hy]; rfl)
      simp only [Sx.sg] at this
      omega)
  have HS := Lib.hid hs
  have HW1 := Lib.hid hw1
  have c2 : W1.cell? ⟨w.heap.size, 0, none⟩ = some (.pointer (some ⟨s, 0, none⟩)) := hb2.cell rfl
  have d4' : W1.cell? ⟨s, 4, none⟩ = some (.slice a X.length cap) := (hw1.cell (p := ⟨s, 4, none⟩) hslt).trans d4
  obtain ⟨N, hN⟩ : ∃ N, X.length = N := ⟨_, rfl⟩
  rw [hN] at HS hX d4 d4'
  have HN := Lib.hid hN
  clear kk hr hw0 hw1 hb2 hb3 hsz hs hN hslt d4
  go_enter Tryz.func95, Tryz.ntmps95
  go_wp2_with fail
  ((with_reducible refine HS.out.mono ?_); rintro e w2 ⟨k, hk, rfl, h1, h2, hb⟩)
  have HB := Lib.hid hb
  have hkk : k = leftN (X.map Sx.sg) off := by
    refine leftN_eq (by rw [List.length_map, HN.out]; exact hk) (fun j b hj hb => ?_) (fun b hb => ?_)
    · rw [List.getElem?_map] at hb
      obtain ⟨p, hp, rfl⟩ := Option.map_eq_some_iff.1 hb
      have := h1 j hj
      simp only [hp, decide_eq_false_iff_not] at this
      show p.first < off
      omega
    · rw [List.getElem?_map] at hb
      obtain ⟨p, hp, rfl⟩ := Option.map_eq_some_iff.1 hb
      have hkl := (List.getElem?_eq_some_iff.1 hp).1
      have := h2 k (Nat.le_refl _) (by rw [← HN.out]; exact hkl)
      simp only [hp, decide_eq_true_eq] at this
      exact this
  have HKK := Lib.hid hkk
  have hmax : max ((k : Int) - 1) 0 = ((k - 1 : Nat) : Int) := by omega
  clear h1 h2 hb hkk
  go_wp2_with fail
  go_ret
  exact ⟨by rw [← HKK.out]; rfl, HW1.out.trans (HB.out.mono HW1.out.size)⟩
end Go.Proofs.YtdaoeplblkfapaaGreatDoor
