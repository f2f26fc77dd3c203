import Derived.Test.YtdaoeplblkfapaaGreatDoorM22
import Derived.Test.YtdaoeplblkfapaaGreatDoorM19
import Derived.Test.YtdaoeplblkfapaaGreatDoorM16
import Derived.Test.YtdaoeplblkfapaaGreatDoorM08
import Derived.Test.YtdaoeplblkfapaaGreatDoorM06

/- THE CONTRACT OF strand's Read. -/
namespace Go.Proofs.YtdaoeplblkfapaaGreatDoor
open Go.RowKit Go.Shelf
attribute [local go_sem] Oper.semAt_some

/-- What Read answers. -/
def ReadOut (w : World) (ls : List Pl.Rc) (e : Ending) (w' : World) : Prop :=
  ∃ v gb, e = .returned v ∧ Sl w' v gb 75 4 ls.length (ls.flatMap cells4) ∧ (∀ b, gb = some b → w.heap.size ≤ b) ∧ Below w.heap.size w w'
set_option maxRecDepth 100000 in
set_option maxHeartbeats 4000000 in
theorem readS_any {w : World} {s : Nat} {h : Hs} {X : List Sx} {v : Value} {gb : Option Nat} {A : Nat → Prop} (k : Lies w s h X v gb A) (hch : Chs (X.map Sx.sg)) (hgood : ∀ b ∈ fla (X.map Sx.sg), Pl.goodB b = true) (hsm : X.length ≤ 1048576 ∧ ∀ x ∈ X, x.L.length ≤ 1048576) (off most : Int) (hmo : 1 ≤ most ∧ most ≤ 1048576) :
    Calls Tryz.prog 42 #[.pointer (some ⟨s, 0, none⟩), .int .i64 off, .int .i64 most] w (ReadOut w ((fromF off (rcs (fla (X.map Sx.sg)))).take most.toNat)) := by
  have HK := Lib.hid k
  refine (callsIn_wide (n := 6)).1 ?_
  refine callsIn_of_wp_marks Tryz.func42 rfl trivial ?_ rfl
  simp only [Tryz.ntmps42, List.size_toArray, List.length_cons, List.length_nil, Nat.reduceAdd, Nat.reduceSub, Array.replicate_succ, Array.replicate_zero, List.push_toArray, List.append_toArray, List.nil_append, List.cons_append]
  gi_wp2_with fail
  refine ⟨trivial, (callsIn_wide.2 (batches_fn _ _ _)).mono ?_⟩
  rintro e w3 ⟨rfl, rfl⟩
  gi_wp2_with fail
  have hnew := fun (V : World) (cs : Array Value) (T : TypeId) => Blk.new V cs T
  obtain ⟨z, hz⟩ : ∃ z, w.heap.size = z := ⟨_, rfl⟩
  rw [hz]
  simp only [Nat.add_assoc, Nat.reduceAdd]
  obtain ⟨W1, hW1⟩ : ∃ V, w.alloc (.cells #[.int .i64 off] 3) = V := ⟨_, rfl⟩
  obtain ⟨W2, hW2⟩ : ∃ V, W1.alloc (.cells #[.int .i64 most] 3) = V := ⟨_, rfl⟩
  obtain ⟨W3, hW3⟩ : ∃ V, W2.alloc (.cells #[.slice none 0 0] 32) = V := ⟨_, rfl⟩
  obtain ⟨W4, hW4⟩ : ∃ V, W3.alloc (.cells #[.slice none 0 0] 32) = V := ⟨_, rfl⟩
  obtain ⟨W5, hW5⟩ : ∃ V, W4.alloc (.cells #[.pointer (some ⟨s, 0, none⟩)] 42) = V := ⟨_, rfl⟩
  obtain ⟨WL, hWL⟩ : ∃ V, W5.alloc (.cells #[.int .i64 off] 3) = V := ⟨_, rfl⟩
  rw [hW1, hW2, hW3, hW4, hW5, hWL]
  have s1 : W1.heap.size = z + 1 := by rw [← hW1, World.size_alloc, hz]
  have s2 : W2.heap.size = z + 2 := by rw [← hW2, World.size_alloc, s1]
  have s3 : W3.heap.size = z + 3 := by rw [← hW3, World.size_alloc, s2]
  have s4 : W4.heap.size = z + 4 := by rw [← hW4, World.size_alloc, s3]
  have s5 : W5.heap.size = z + 5 := by rw [← hW5, World.size_alloc, s4]
  have s6 : WL.heap.size = z + 6 := by rw [← hWL, World.size_alloc, s5]
  have b1 : Below z w W1 := by rw [← hW1, ← hz]; exact (Below.refl _ _).alloc (Nat.le_refl _) _
  have b2 : Below z w W2 := by rw [← hW2]; exact b1.alloc (by omega) _
  have b3 : Below z w W3 := by rw [← hW3]; exact b2.alloc (by omega) _
  have b4 : Below z w W4 := by rw [← hW4]; exact b3.alloc (by omega) _
  have b5 : Below z w W5 := by rw [← hW5]; exact b4.alloc (by omega) _
  have b6 : Below z w WL := by rw [← hWL]; exact b5.alloc (by omega) _
  have k1 : Blk W1 z #[.int .i64 off] 3 := by have := hnew w #[.int .i64 off] 3; rwa [hW1, hz] at this
  have k2 : Blk W2 (z + 1) #[.int .i64 most] 3 := by have := hnew W1 #[.int .i64 most] 3; rwa [hW2, s1] at this
  have k3 : Blk W3 (z + 2) #[.slice none 0 0] 32 := by have := hnew W2 #[.slice none 0 0] 32; rwa [hW3, s2] at this
  have k4 : Blk W4 (z + 3) #[.slice none 0 0] 32 := by have := hnew W3 #[.slice none 0 0] 32; rwa [hW4, s3] at this
  have k5 : Blk W5 (z + 4) #[.pointer (some ⟨s, 0, none⟩)] 42 := by have := hnew W4 #[.pointer (some ⟨s, 0, none⟩)] 42; rwa [hW5, s4] at this
  have k6 : Blk WL (z + 5) #[.int .i64 off] 3 := by have := hnew W5 #[.int .i64 off] 3; rwa [hWL, s5] at this
  have q5 : Blk WL (z + 4) #[.pointer (some ⟨s, 0, none⟩)] 42 := by rw [← hWL]; exact k5.alloc _
  have q4 : Blk WL (z + 3) #[.slice none 0 0] 32 := by rw [← hWL, ← hW5]; exact (k4.alloc _).alloc _
  have q3 : Blk WL (z + 2) #[.slice none 0 0] 32 := by rw [← hWL, ← hW5, ← hW4]; exact ((k3.alloc _).alloc _).alloc _
  have q2 : Blk WL (z + 1) #[.int .i64 most] 3 := by rw [← hWL, ← hW5, ← hW4, ← hW3]; exact (((k2.alloc _).alloc _).alloc _).alloc _
  have q1 : Blk WL z #[.int .i64 off] 3 := by rw [← hWL, ← hW5, ← hW4, ← hW3, ← hW2]; exact ((((k1.alloc _).alloc _).alloc _).alloc _).alloc _
  have hrl : Rl w z off most [] (.slice none 0 0) none WL := ⟨b6, q1, q2, ⟨_, q3⟩, q4, Sl.nil _ _ _, fun k hk => by cases hk⟩
  have hbk : bk WL (z + 3) = none := bk_box q4 (Sl.nil _ 75 4)
  have hnw : ∀ b, b ≠ z + 2 → b ≠ z + 3 → Nown (z + 3) (fun b => b = z + 2) WL b := fun b h2 h3 => ⟨h2, h3, by rw [hbk]; simp⟩
  have hbL : Below w.heap.size w WL := hz ▸ b6
  have hgo : Goes WL s (z + 4) (z + 5) off h X v gb (z + 3) (fun b => b = z + 2) (fun b => A b ∧ b < z) :=
    ⟨(HK.out.keep (Nat.le_refl _) (fun _ _ => rfl) fun b hb hl => ⟨rfl, hb, hz ▸ hl⟩).below hbL, q5.cell rfl, k6.cell rfl, hnw _ (by omega) (by omega), fun b hb => by have := HK.out.lt b hb; exact hnw b (by omega) (by omega), fun b _ hb => hnw b (by omega) (by omega), ⟨_, q4.cell rfl⟩, fun k hk => (by rw [hbk] at hk; cases hk), fun b hb => by omega, hch, hsm⟩
  have hgv := gives_any (lo := z) 5 (by omega) hgo (by omega)
  obtain ⟨i0, hi0, hz0, hz1, hz2⟩ := infoRec
  have hNW : ∀ (W : World) (cs : Array Value) j u, cs.toList[j]? = some u → World.cell? (W.alloc (.cells cs 75)) (Addr.add ⟨W.heap.size, 0, none⟩ j) = some u := fun W cs => World.news_of_block (cs := cs) (t := 75) (fr := (0, 0)) (heap_alloc_new W _)
  have hseq := rcs_seqF hgood off
  have HNW := Lib.hid hNW
  have HGV := Lib.hid hgv
  have HRL := Lib.hid hrl
  have HSZ := Lib.hid s6
  have HZ := Lib.hid hz
  have HSEQ := Lib.hid hseq
  have HGD := Lib.hid hgood
  obtain ⟨mo, hmoe⟩ : ∃ mo : Nat, most.toNat = mo := ⟨_, rfl⟩
  have hmn : most = (mo : Int) := by omega
  rw [hmoe]
  clear hnew hNW hgv hrl hbk hnw hgo hbL hch hsm hgood HK k hW1 hW2 hW3 hW4 hW5 hWL s1 s2 s3 s4 s5 s6 b1 b2 b3 b4 b5 b6 k1 k2 k3 k4 k5 k6 q1 q2 q3 q4 q5 hseq hz hmoe
  subst hmn
  refine wpIn_gives rfl (by omega) (gf := 115) (lb := #[.pointer (some ⟨z + 4, 0, none⟩), .pointer (some ⟨z + 5, 0, none⟩)]) rfl trivial (enters_of Tryz.func115 (by kernel_rfl) rfl)
    HGV.out (Below.refl _ _) (fun _ => rfl) (fun h k => h.trans k) (fun W l o o' hl h1 h2 => Kp.book (n := WL.heap.size) (by rw [HSZ.out]; omega) o' hl h1 h2)
    (fun pre W => RlI w z off mo (rcs (pre.map (·.1))) W)
    (fun c pre W => c = .ret ∧ RlX w z off mo (rcs (pre.map (·.1))) W)
    (fun x a' W => ∃ b, a' = { tmps := #[.pointer (some ⟨s, 0, none⟩), .int .i64 off, .int .i64 mo, undef, .pointer (some ⟨z, 0, none⟩), .pointer (some ⟨z + 1, 0, none⟩), .pointer (some ⟨z + 2, 0, none⟩), .pointer (some ⟨z + 3, 0, none⟩), .pointer (some ⟨b, 0, none⟩), undef, undef, .pointer (some ⟨s, 0, none⟩), .int .i64 off, Value.func (.func 115) #[] #[.pointer (some ⟨z + 4, 0, none⟩), .pointer (some ⟨z + 5, 0, none⟩)], bv x, undef, undef, undef, undef, undef, undef, undef, undef, undef, undef, undef, undef, undef, undef, undef, undef, undef, undef, undef, undef, undef, undef], defers := [] } ∧ Blk W b #[.int .i64 x.1.base, .int .i64 x.1.count, .int .i64 x.1.prod, .int .i64 x.1.seq, .int .i64 x.1.time, x.2] 34)
    ?hI ?hIx (fun pre => comes_own _ pre) ?hAx ⟨_, _, HRL.out, Nat.zero_le _⟩ ?assign ?body ?done ?stop
  case hI =>
    rintro pre W W' row ⟨v, gb, hA, hl⟩ hg hr
    exact ⟨v, gb, hA.turn (by rw [HZ.out]; exact Nat.le_refl _) hg (by rw [HSZ.out]; omega) hr, hl⟩
  case hIx =>
    rintro c pre W W' row ⟨hc, v, gb, h1, h2, h3, h4, h5⟩ hg hr
    have hr2 := fun r e => (hr r e).2
    refine ⟨hc, v, gb, h1.grown hg (by rw [← HZ.out]; exact (HZ.out ▸ h1.size)) fun k e => by have := (hr k e).1; rw [HSZ.out] at this; omega, h2.same (turn_block h2 rfl hg hr2), h3.same fun b hb => ?_, h4, h5⟩
    obtain ⟨o, ho, hc⟩ := h3.cells hb
    exact turn_block ho hc hg hr2
  case hAx =>
    rintro a' x W W' row ⟨b, e, hb⟩ hg hr
    exact ⟨b, e, hb.same (turn_block hb rfl hg fun r e => (hr r e).2)⟩
  case assign =>
    rintro l pre x W K ⟨v, gb, hA, hl⟩ hc hK
    obtain ⟨b, rv⟩ := x
    obtain ⟨ra, rc, hrv⟩ := hc.2.1.slice
    simp only at hrv
    subst hrv
    have hb : Below W.heap.size W (W.alloc (.cells #[.int .i64 b.base, .int .i64 b.count, .int .i64 b.prod, .int .i64 b.seq, .int .i64 b.time, .slice ra b.recs.length rc] 34)) := (Below.refl _ _).alloc (Nat.le_refl _) _
    have HF := Lib.hid (hK { tmps := #[.pointer (some ⟨s, 0, none⟩), .int .i64 off, .int .i64 mo, undef, .pointer (some ⟨z, 0, none⟩), .pointer (some ⟨z + 1, 0, none⟩), .pointer (some ⟨z + 2, 0, none⟩), .pointer (some ⟨z + 3, 0, none⟩), .pointer (some ⟨W.heap.size, 0, none⟩), undef, undef, .pointer (some ⟨s, 0, none⟩), .int .i64 off, Value.func (.func 115) #[] #[.pointer (some ⟨z + 4, 0, none⟩), .pointer (some ⟨z + 5, 0, none⟩)], bv (b, .slice ra b.recs.length rc), undef, undef, undef, undef, undef, undef, undef, undef, undef, undef, undef, undef, undef, undef, undef, undef, undef, undef, undef, undef, undef, undef], defers := [] } _ ((KeepsOthers.alloc W _).from _) (Kp.below hA.box.lt hb) ⟨v, gb, hA.below (by rw [HZ.out]; exact Nat.le_refl _) hb, hl⟩ (hc.below hb) ⟨W.heap.size, rfl, Blk.new _ _ _⟩)
    clear hA hc hK hb
    gi_wp2_with fail
    exact HF.out
  case body =>
    rintro l pre x a' W hl ⟨v, gb, hA, hlen⟩ hc ⟨b, rfl, hb⟩
    obtain ⟨⟨base, count, prod, seq, time, recs⟩, rv⟩ := x
    obtain ⟨ra, rc, hrv⟩ := hc.2.1.slice
    simp only at hrv
    subst hrv
    have hrc : RcIn (fun b => Nown (z + 3) (fun b => b = z + 2) W b) W (.slice ra recs.length rc) recs := Rds.mono hc.2.1 fun k hk => hk.1
    have hgd : Pl.goodB ⟨base, count, prod, seq, time, recs⟩ = true := by
      obtain ⟨ys, hys⟩ := hc.1
      exact HGD.out _ (seqF_sub _ off _ (by rw [← hys]; simp))
    have hr8 := (Pl.enc_short hgd).2.2
    simp only at hr8
    obtain ⟨rl, hrl⟩ : ∃ rl, recs.length = rl := ⟨_, rfl⟩
    have e5 : W.cell? ⟨b, 5, none⟩ = some (.slice ra rl rc) := by rw [← hrl]; exact hb.cell rfl
    rw [hrl] at hr8 hrc
    have HA := Lib.hid hA
    have HC := Lib.hid hc
    have HRC := Lib.hid hrc
    have HRLN := Lib.hid hrl
    have HLEN := Lib.hid hlen
    have hzW := hA.box.lt
    clear hA hc hrc hrl hlen hgd hb
    gi_wp2_with fail
    gi_loopw [18] (fun jv wr => ∃ j : Nat, j ≤ rl ∧ jv = .int .i64 j ∧ RlJ w z off mo (rcs (pre.map (·.1)) ++ recs.take j) W wr) (fun jv _ => rl - (intOf jv).toNat)
    case atStart => exact ⟨0, Nat.zero_le _, rfl, ⟨v, gb, by rw [List.take_zero, List.append_nil]; exact ⟨HA.out, HLEN.out⟩⟩, Kp.refl _ _ _, KeepsOthers.refl _⟩
    case round =>
      obtain ⟨j, hj, rfl, ⟨v, gb, hR, hlm⟩, hkp, hko⟩ := hrel
      obtain ⟨ls, hls⟩ : ∃ ls, fromF off (rcs (pre.map (·.1)) ++ recs.take j) = ls := ⟨_, rfl⟩
      rw [hls] at hR hlm
      replace hls := hls.symm
      have hRr := hR.row
      obtain ⟨va, vc, rfl⟩ := hRr.form
      obtain ⟨u, hu⟩ := hR.res
      obtain ⟨m, hm⟩ : ∃ m, ls.length = m := ⟨_, rfl⟩
      rw [hm] at hR hRr hlm
      have c0 : wr.cell? ⟨z, 0, none⟩ = some (.int .i64 off) := hR.bo.cell rfl
      have c1 : wr.cell? ⟨z + 1, 0, none⟩ = some (.int .i64 mo) := hR.bm.cell rfl
      have c2 : wr.cell? ⟨z + 2, 0, none⟩ = some u := hu.cell rfl
      have f2 : wr.frozen? ⟨z + 2, 0, none⟩ = false := hu.free
      have c3 : wr.cell? ⟨z + 3, 0, none⟩ = some (.slice va m vc) := hR.box.cell rfl
      have hz3 : z + 3 < wr.heap.size := hR.box.lt
      have hz2' : z + 2 < wr.heap.size := by omega
      have hz1' : z + 1 < wr.heap.size := by omega
      have hz0' : z < wr.heap.size := by omega
      have HR := Lib.hid hR
      have HLS := Lib.hid hls
      have HKP := Lib.hid hkp
      have HKO := Lib.hid hko
      have HM := Lib.hid hm
      by_cases hlt : j < rl
      · obtain ⟨⟨ro, rk, rvv, rg⟩, hrj⟩ : ∃ r, recs[j]? = some r := ⟨_, List.getElem?_eq_getElem (by rw [HRLN.out]; exact hlt)⟩
        have hrz : RcIn (fun _ => True) wr (.slice ra rl rc) recs := by
          have := HRC.out
          rw [← HRLN.out] at this ⊢
          exact hkp.rds this (by decide) fun b hb _ => ⟨hb, trivial⟩
        obtain ⟨ra', rcap', hve, hcells⟩ := hrz.recs
        injection hve with hv1 hv2 hv3
        clear hv2 hv3
        obtain ⟨rb, rp, hra, -, d0, d1, d2, d3⟩ := hcells j _ hrj
        rw [← hv1] at hra
        subst hra
        simp only at d0 d1 d2 d3
        have hb1 : Below wr.heap.size wr (wr.alloc (.cells #[.int .i64 ro, .string ⟨rk.toArray⟩, .string ⟨rvv.toArray⟩, .bool rg] 75)) := (Below.refl _ _).alloc (Nat.le_refl _) _
        have hR1 := hR.below (by rw [HZ.out]; exact Nat.le_refl _) hb1
        have hk1 := hkp.trans (Kp.below hR.box.lt hb1)
        have hko1 := hko.trans (KeepsOthers.alloc wr (.cells #[.int .i64 ro, .string ⟨rk.toArray⟩, .string ⟨rvv.toArray⟩, .bool rg] 75))
        have hsp : rcs (pre.map (·.1)) ++ recs = (rcs (pre.map (·.1)) ++ recs.take j) ++ (⟨ro, rk, rvv, rg⟩ :: recs.drop (j + 1)) := by
          rw [List.append_assoc]
          congr 1
          conv => lhs; rw [← List.take_append_drop j recs, drop_at hrj]
        obtain ⟨K, hK⟩ : ∃ K : ByteArray, (⟨rk.toArray⟩ : ByteArray) = K := ⟨_, rfl⟩
        obtain ⟨V, hV⟩ : ∃ V : ByteArray, (⟨rvv.toArray⟩ : ByteArray) = V := ⟨_, rfl⟩
        have hcx : cells4 ⟨ro, rk, rvv, rg⟩ = [.int .i64 ro, .string K, .string V, .bool rg] := by unfold cells4; rw [hK, hV]
        rw [hK] at d1 hb1 hR1 hk1 hko1
        rw [hV] at d2 hb1 hR1 hk1 hko1
        have HR1 := Lib.hid hR1
        have HK1 := Lib.hid hk1
        have HKO1 := Lib.hid hko1
        have HSP := Lib.hid hsp
        have HRJ := Lib.hid hrj
        have HCX := Lib.hid hcx
        have j0 : (0 : Int) ≤ (j : Int) := by omega
        have j1 : (j : Int) < (rl : Int) := by omega
        clear hR hRr hu hls hkp hko hm hrz hcells hv1 hrj hb1 hR1 hk1 hko1 hsp hK hV hcx
        by_cases hfull : mo ≤ m
        · have hd : decide ((mo : Int) ≤ (m : Int)) = true := by simp; omega
          have hans : Hid ((fromF off (rcs ((pre ++ [((⟨base, count, prod, seq, time, recs⟩ : Pl.Bt), Value.slice (some ⟨rb, rp, none⟩) recs.length rc)]).map (·.1)))).take mo = ls ∧ mo ≤ (fromF off (rcs ((pre ++ [((⟨base, count, prod, seq, time, recs⟩ : Pl.Bt), Value.slice (some ⟨rb, rp, none⟩) recs.length rc)]).map (·.1)))).length) := Lib.hid (by
            have h1 : fromF off (rcs ((pre ++ [((⟨base, count, prod, seq, time, recs⟩ : Pl.Bt), Value.slice (some ⟨rb, rp, none⟩) recs.length rc)]).map (·.1))) = ls ++ fromF off (⟨ro, rk, rvv, rg⟩ :: recs.drop (j + 1)) := by
              rw [List.map_append, rcs_append]
              show fromF off (_ ++ rcs [_]) = _
              rw [rcs_one, HSP.out, fromF_append, HLS.out]
            have h2 := HM.out
            rw [h1]
            refine ⟨?_, by rw [List.length_append]; omega⟩
            rw [List.take_append_of_le_length (by omega), List.take_of_length_le (by omega)])
          gi_wp2_with fail
          obtain ⟨n1, n2, n3, -, -⟩ := HR.out.answer
          rw [HM.out] at n3
          have hsz : (wr.setCell ⟨z + 2, 0, none⟩ (.slice va m vc)).heap.size = wr.heap.size := by simp [World.setCell]
          refine ⟨((HKO.out.trans (KeepsOthers.setCell _ _ _)).trans (KeepsOthers.alloc _ _)).from _, rfl, _, gb, n1.alloc (by rw [hsz]; omega) _, n2.alloc _, ?_, fun b hb => ?_, hans.out.2⟩
          · rw [hans.out.1, HM.out]; exact n3.same fun k hk => Below.heap_alloc _ _ _ (n3.lt k hk)
          · have := HR1.out.gbl b hb; omega
        · have hd : decide ((mo : Int) ≤ (m : Int)) = false := by simp; omega
          by_cases hoff : off ≤ ro
          · have hd2 : decide (off ≤ ro) = true := by simpa using hoff
            have hsl1 := HR1.out.row
            rw [HM.out] at hsl1
            have HSL : ∀ o, Hid (Sl ((wr.alloc (.cells #[.int .i64 ro, .string K, .string V, .bool rg] 75)).alloc o) (.slice va m vc) gb 75 4 m (ls.flatMap cells4)) := fun o => Lib.hid (hsl1.same fun k hk => Below.heap_alloc _ _ _ (hsl1.lt k hk))
            have HNW2 : ∀ (cs : Array Value), Hid (∀ j u, cs.toList[j]? = some u → World.cell? ((wr.alloc (.cells #[.int .i64 ro, .string K, .string V, .bool rg] 75)).alloc (.cells cs 75)) (Addr.add ⟨wr.heap.size + 1, 0, none⟩ j) = some u) := fun cs => Lib.hid (by have := HNW.out (wr.alloc (.cells #[.int .i64 ro, .string K, .string V, .bool rg] 75)) cs; rw [World.size_alloc] at this; exact this)
            have HBY : Hid ((m + 1) * 48 ≤ 140737488355328) := Lib.hid (by omega)
            have H63 : Hid (m + 1 ≤ 9223372036854775807) := Lib.hid (by omega)
            clear hsl1
            gi_wp2_with (gi_at_builtin; refine wpListIn_append_sl (by rfl) _ _ _ (by rfl) 75 i0 (.agg zeroR) 4 48 Tryz.underlying32 hi0 hz0 hz1 hz2 rfl (.slice va m vc) gb m (ls.flatMap cells4) (by rfl) (HSL _).out ⟨wr.heap.size + 1, 0, none⟩ 1 1 [.int .i64 ro, .string K, .string V, .bool rg] (by rfl) (by rfl) (HNW2 #[.int .i64 ro, .string K, .string V, .bool rg]).out (by simp [Value.oneCell']) (by decide) HBY.out H63.out ?_)
            intro g9 q9 cap9 w9 gb9 hs9 hg9 hgb9 hn9
            rw [← HCX.out] at hs9
            obtain ⟨hA9, hk9, k0, z0⟩ := HR1.out.more (x := ⟨ro, rk, rvv, rg⟩) (by rw [HZ.out]; exact Nat.le_refl _) (by rw [HM.out]; exact hs9) _ hg9 hgb9 (by simpa using hn9)
            have hko9 : KeepsOthers W (w9.setCell ⟨z + 3, 0, none⟩ (.slice (some ⟨g9, q9, none⟩) (m + 1) cap9)) := ((HKO1.out.trans (KeepsOthers.alloc _ _)).trans (KeepsOthers.of_grownBy hg9 fun j o hj ho => by
              obtain ⟨o', ho', hc'⟩ := (HSL _).out.cells hj
              rw [ho] at ho'
              cases ho'
              exact hc')).trans (KeepsOthers.setCell _ _ _)
            have HF := Lib.hid (And.intro hko9 (And.intro (HK1.out.trans hk9) hA9))
            have hls1 : Hid (ls ++ [⟨ro, rk, rvv, rg⟩] = fromF off (rcs (pre.map (·.1)) ++ recs.take (j + 1))) := Lib.hid (by
              rw [take_next HRJ.out, ← List.append_assoc, fromF_append, HLS.out]
              congr 1
              exact (fromF_all (l := [(⟨ro, rk, rvv, rg⟩ : Pl.Rc)]) fun r hr => by rw [List.mem_singleton.1 hr]; exact hoff).symm)
            have hlen9 : Hid ((ls ++ [(⟨ro, rk, rvv, rg⟩ : Pl.Rc)]).length ≤ mo) := Lib.hid (by rw [List.length_append, HM.out]; simp; omega)
            clear hs9 hg9 hgb9 hn9 hA9 hk9 hko9
            gi_wp2_with fail
            go_roundw
            case rel => exact ⟨j + 1, by omega, by go_num, ⟨_, _, by rw [← hls1.out]; exact ⟨HF.out.2.2, hlen9.out⟩⟩, HF.out.2.1, HF.out.1⟩
            case measure => simp [intOf]; omega
          · have hd2 : decide (off ≤ ro) = false := by simpa using hoff
            have hls1 : Hid (ls = fromF off (rcs (pre.map (·.1)) ++ recs.take (j + 1))) := Lib.hid (by
              rw [take_next HRJ.out, ← List.append_assoc, fromF_append, ← HLS.out, fromF_none (l := [(⟨ro, rk, rvv, rg⟩ : Pl.Rc)]) fun r hr => by rw [List.mem_singleton.1 hr]; exact Int.not_le.1 hoff, List.append_nil])
            gi_wp2_with fail
            go_roundw
            case rel => exact ⟨j + 1, by omega, by go_num, ⟨_, _, by rw [← hls1.out]; exact ⟨HR1.out, by rw [HM.out]; exact hlm⟩⟩, HK1.out, HKO1.out⟩
            case measure => simp [intOf]; omega
      · obtain rfl : j = rl := by omega
        have hfin : ls = fromF off (rcs ((pre ++ [((⟨base, count, prod, seq, time, recs⟩ : Pl.Bt), Value.slice ra recs.length rc)]).map (·.1))) := by
          rw [hls, List.map_append, rcs_append, List.take_of_length_le (Nat.le_of_eq HRLN.out)]
          show _ = fromF off (_ ++ rcs [_])
          rw [rcs_one]
        have HFIN : Hid (Rl w z off mo (fromF off (rcs ((pre ++ [((⟨base, count, prod, seq, time, recs⟩ : Pl.Bt), Value.slice ra recs.length rc)]).map (·.1)))) (.slice va m vc) gb wr ∧ (fromF off (rcs ((pre ++ [((⟨base, count, prod, seq, time, recs⟩ : Pl.Bt), Value.slice ra recs.length rc)]).map (·.1)))).length ≤ mo) := Lib.hid (by rw [← hfin, hm]; exact ⟨hR, hlm⟩)
        clear hR hRr hu hls hkp hko hm hfin
        gi_wp2_with fail
        exact ⟨HKO.out.from _, HKP.out, _, _, HFIN.out⟩
  case done =>
    rintro D xs W hD hS ⟨v, gb, hA, hl⟩ hK
    rw [hS, HSEQ.out] at hA hl
    obtain ⟨ls, hls⟩ : ∃ ls, fromF off (rcs (fla (X.map Sx.sg))) = ls := ⟨_, rfl⟩
    rw [hls] at hA hl
    have HLS : Hid ((fromF off (rcs (fla (X.map Sx.sg)))).take mo = ls) := Lib.hid (by rw [hls]; exact List.take_of_length_le hl)
    have hA2 := hA.row
    obtain ⟨va, vc, rfl⟩ := hA2.form
    obtain ⟨u, hu⟩ := hA.res
    have c0 : W.cell? ⟨z + 3, 0, none⟩ = some (.slice va ls.length vc) := hA.box.cell rfl
    have c1 : W.cell? ⟨z + 2, 0, none⟩ = some u := hu.cell rfl
    have f1 : W.frozen? ⟨z + 2, 0, none⟩ = false := hu.free
    have HA := Lib.hid hA
    have HU := Lib.hid hu
    have HK := Lib.hid hK
    have HD := Lib.hid hD
    obtain ⟨m, hm⟩ : ∃ m, ls.length = m := ⟨_, rfl⟩
    have HM := Lib.hid hm
    rw [hm] at c0
    clear hA hA2 hK hD hS hm hls hl hu
    gi_wp2_with fail
    obtain ⟨n1, n2, n3, -, -⟩ := HA.out.answer
    rw [HM.out] at n1 n2 n3
    have hk1 : (W.setCell ⟨z + 2, 0, none⟩ (.slice va m vc)).heap[D]? = some (.deferred (some [])) := (KeepsOthers.setCell W ⟨z + 2, 0, none⟩ (.slice va m vc)).same D _ HK.out rfl
    have hgr := grownBy_putObj' (W.setCell ⟨z + 2, 0, none⟩ (.slice va m vc)) D (.deferred none)
    have hrr : ∀ r, some D = some r → ∃ o : Obj, (W.setCell ⟨z + 2, 0, none⟩ (.slice va m vc)).heap[r]? = some o ∧ o.isCells = false := fun r e => by cases e; exact ⟨_, hk1, rfl⟩
    refine ⟨by simp, .inl ⟨_, _, rfl, run_takeDeferred hk1, ?_⟩⟩
    have m2 := n2.same (turn_block n2 rfl hgr hrr)
    have c5 := m2.cell (i := 0) rfl
    have n3' := n3.same fun b hb => (let ⟨_, ho, hc⟩ := n3.cells hb; turn_block ho hc hgr hrr)
    refine ⟨.slice va m vc, ?_, _, gb, rfl, by rw [HLS.out, HM.out]; exact n3', fun b hb => by have := HA.out.gbl b hb; rw [HZ.out]; omega, ?_⟩
    · simp [results, Tryz.f42, go_sem, c5]
    · rw [HZ.out]
      exact n1.grown hgr (by have := n1.size; rw [HZ.out] at this; exact this) fun k e => by cases e; have := HD.out; rw [HSZ.out] at this; omega
  case stop =>
    rintro D c pre W hD ⟨ys, hys⟩ ⟨rfl, v, gb, n1, n2, n3, n4, n5⟩ hK
    have hls : (fromF off (rcs (fla (X.map Sx.sg)))).take mo = (fromF off (rcs (pre.map (·.1)))).take mo := by
      rw [← HSEQ.out, ← hys, rcs_append, fromF_append, List.take_append_of_le_length n5]
    rw [hls]
    obtain ⟨ls, hlse⟩ : ∃ ls, (fromF off (rcs (pre.map (·.1)))).take mo = ls := ⟨_, rfl⟩
    rw [hlse] at n3 ⊢
    have HK := Lib.hid hK
    have HD := Lib.hid hD
    have HN := Lib.hid (And.intro n1 (And.intro n2 (And.intro n3 n4)))
    clear hls hys n1 n2 n3 n4 n5 hlse hK hD
    gi_wp2_with fail
    obtain ⟨n1, n2, n3, n4⟩ := HN.out
    have hgr := grownBy_putObj' W D (.deferred none)
    have hrr : ∀ r, some D = some r → ∃ o : Obj, W.heap[r]? = some o ∧ o.isCells = false := fun r e => by cases e; exact ⟨_, HK.out, rfl⟩
    refine ⟨by simp, .inl ⟨_, _, rfl, run_takeDeferred HK.out, ?_⟩⟩
    have m2 := n2.same (turn_block n2 rfl hgr hrr)
    have c5 := m2.cell (i := 0) rfl
    refine ⟨v, ?_, _, gb, rfl, n3.same fun b hb => ?_, fun b hb => by rw [HZ.out]; exact n4 b hb, ?_⟩
    · simp [results, Tryz.f42, go_sem, c5]
    · obtain ⟨o, ho, hc⟩ := n3.cells hb
      exact turn_block ho hc hgr hrr
    · rw [HZ.out]
      exact n1.grown hgr (by have := n1.size; rw [HZ.out] at this; exact this) fun k e => by cases e; have := HD.out; rw [HSZ.out] at this; omega
end Go.Proofs.YtdaoeplblkfapaaGreatDoor

/- THE CONTRACT of the laws' 'awake'. -/
namespace Go.Proofs.YtdaoeplblkfapaaGreatDoor
open Go.RowKit

theorem good0 : Pl.goodB (btB 0 2) = true := by decide
theorem good2 : Pl.goodB (btB 2 3) = true := by decide
theorem good3 : Pl.goodB (btB 3 1) = true := by decide
def gW1 : List Sg := [⟨0, [btB 0 2]⟩]
def gW2 : List Sg := [⟨0, [btB 0 2]⟩, ⟨2, [btB 2 3]⟩]
theorem end1 : gsEnd gW1 = 2 := rfl
theorem end2 : gsEnd gW2 = 5 := rfl
theorem wI_len (n : Int) : 2 ≤ (Pl.wInt n).length := by unfold Pl.wInt; simp
theorem long0 : ¬ (((frs [btB 0 2]).length : Nat) : Int) < 30 := by
  have h1 : (frs [btB 0 2]).length = 8 + (Pl.enc (btB 0 2)).length := by rw [frs_one, fr_length]
  have e : (Pl.enc (btB 0 2)).length = 1 + ((Pl.wInt 0).length + ((Pl.wInt 2).length + ((Pl.wInt 0).length + ((Pl.wInt 0).length + ((Pl.wInt 0).length + ((Pl.encR (btR 0 0)).length + ((Pl.encR (btR 0 1)).length + 1))))))) := by
    unfold Pl.enc
    rw [show (btB 0 2).recs = [btR 0 0, btR 0 1] from rfl, show (btB 0 2).base = 0 from rfl, show (btB 0 2).count = 2 from rfl, show (btB 0 2).prod = 0 from rfl, show (btB 0 2).seq = 0 from rfl, show (btB 0 2).time = 0 from rfl]
    simp [Pl.encRs]
    omega
  have hr : ∀ r : Pl.Rc, 6 ≤ (Pl.encR r).length := fun r => by
    have h1 := wI_len r.off
    have h2 := wI_len (Pl.goneN r.gone)
    unfold Pl.encR
    simp only [List.length_cons, List.length_append, List.length_nil]
    omega
  have := wI_len 0
  have := wI_len 2
  have := hr (btR 0 0)
  have := hr (btR 0 1)
  omega
theorem push1 : push [] 30 (btB 0 2) = gW1 := rfl
theorem push2 : push gW1 30 (btB 2 3) = gW2 := by
  have := push_more (G := []) (g := ⟨0, [btB 0 2]⟩) (seg := 30) (b := btB 2 3) long0
  exact this
theorem read2 : (fromF 1 (rcs (fla gW2))).take 2 = [⟨1, [107], [118], false⟩, ⟨2, [107], [118], false⟩] := rfl
theorem nm2 : nm [112] 2 = [112, 46, 48, 48, 48, 48, 48, 48, 48, 48, 48, 48, 48, 48, 50] := by
  unfold nm
  rw [pad_dg (by omega) (by omega)]
  rfl
theorem two_sorted {ss : List (List UInt8)} {a b : List UInt8} (hab : a < b) (hs : ss.Pairwise fun x y => x ≤ y) (hn : ss.Nodup) (hm : ∀ k, k ∈ ss ↔ k = a ∨ k = b) (hl : ss.length = 2) : ss = [a, b] := by
  match ss, hl with
  | [x, y], _ =>
    have hx := (hm x).1 (by simp)
    have hy := (hm y).1 (by simp)
    have hne : x ≠ y := by simpa using hn
    have hle : x ≤ y := by simpa using hs
    rcases hx with rfl | rfl
    · rcases hy with rfl | rfl
      · exact absurd rfl hne
      · rfl
    · rcases hy with rfl | rfl
      · exact absurd hab (List.not_lt.2 hle)
      · exact absurd rfl hne
def enW : En := ⟨30, [112], 65536, 50⟩
theorem enW_ok : enW.ok := by
  refine ⟨?_, ?_, ?_, ?_, ?_⟩
  · show (1 : Int) ≤ 30 ∧ (30 : Int) ≤ 1048576; omega
  · show 1 ≤ 1 ∧ 1 ≤ 16; omega
  · show 50 ≤ 200; omega
  · show 1130 * (50 + 1) ≤ 65536; omega
  · show 65536 ≤ 1048576; omega
end Go.Proofs.YtdaoeplblkfapaaGreatDoor

/- THE CONTRACT of the laws' 'awake': the walk. -/
namespace Go.Proofs.YtdaoeplblkfapaaGreatDoor
open Go.RowKit Go.Shelf

section
variable {w0 W : World} {t s m l : Nat} {E : En} {G : List Sg} {Q : Nat → Prop} {y : Bool}
theorem Opd.names (L : Opd w0 t s E m l G Q y W) :
    Calls Tryz.prog 21 #[.pointer (some ⟨t, 0, none⟩)] W fun e W' => ∃ (v : Value) (ss : List (List UInt8)), e = .returned v ∧ Rds (fun b => W.heap.size ≤ b) W' v 1 ss.length (ss.map encStr) ∧ ss.length = G.length ∧ ss.Pairwise (fun x y => x ≤ y) ∧ ss.Nodup ∧ (∀ k, k ∈ ss ↔ ∃ g ∈ G, nm E.P g.first = k) ∧ Below W.heap.size W W' := by
  obtain ⟨B, f, tot, n, c, K, sf, h1, rfl, h3, h4, h5⟩ := L
  obtain ⟨T, hs, -⟩ := h1.sd.tape
  have hsz := h1.sizes
  refine (Ta.s_names hs).mono ?_
  rintro e W' ⟨v, ss, rfl, h6, h7, h8, h9, h10, h11⟩
  refine ⟨v, ss, rfl, ?_, by rw [h7]; exact hsz.1, h8, h9, fun k => ?_, h11⟩
  · rw [h7]
    refine Rds.of_sl (Sl.of_own h6) fun b hb => ?_
    obtain ⟨-, h⟩ := h6
    rcases h with ⟨rfl, -⟩ | ⟨g, cap, cur, rfl, hg, -⟩
    · cases hb
    · cases hb; exact hg
  · rw [h10]
    constructor
    · intro hk
      refine Classical.byContradiction fun hno => hk (h1.fl.rest k fun g hg e => hno ⟨g, hg, e⟩)
    · rintro ⟨g, hg, rfl⟩
      obtain ⟨j, hj⟩ := List.getElem?_of_mem hg
      rw [h1.fl.hold j g hj]
      simp
theorem Opd.bases (L : Opd w0 t s E m l G Q y W) :
    Calls Tryz.prog 37 #[.pointer (some ⟨s, 0, none⟩)] W fun e W' => ∃ v, e = .returned v ∧ Rds (fun b => W.heap.size ≤ b) W' v 1 G.length ((G.map Sg.first).map icell) ∧ Below W.heap.size W W' := by
  obtain ⟨B, f, tot, n, c, K, sf, h1, rfl, h3, h4, h5⟩ := L
  refine (bases_of h1.sd h1.small.1).mono ?_
  rintro e W' ⟨v, gb, rfl, hs, hn, hb⟩
  refine ⟨v, rfl, ?_, hb⟩
  have e1 : (firstsOf K).length = K.G.length := List.length_map _
  rw [e1] at hs
  exact Rds.of_sl hs hn
theorem Opd.read (L : Opd w0 t s E m l G Q y W) (off most : Int) (hmo : 1 ≤ most ∧ most ≤ 1048576) :
    Calls Tryz.prog 42 #[.pointer (some ⟨s, 0, none⟩), .int .i64 off, .int .i64 most] W (ReadOut W ((fromF off (rcs (fla G))).take most.toNat)) := by
  obtain ⟨B, f, tot, n, c, K, sf, h1, rfl, h3, h4, h5⟩ := L
  exact readS_any h1.sd.lies h1.log.chs h1.log.good h1.small off most hmo
theorem Opd.all (L : Opd w0 t s E m l G Q y W) : Calls Tryz.prog 34 #[.pointer (some ⟨s, 0, none⟩)] W (AllOut W (fla G)) := by
  obtain ⟨B, f, tot, n, c, K, sf, h1, rfl, h3, h4, h5⟩ := L
  exact all_any h1.sd.lies h1.log.chs h1.log.pos h1.small (by have := h1.len; have := h1.max_; have := h1.ok.2.2.1; show (fla K.G).length ≤ _; omega)
/-- A batch that doesn't stand at the end. -/
theorem Opd.order {W' : World} {rv : Value} {base count prod seq time : Int} {recs : List Pl.Rc} (L : Opd w0 t s E m l G Q y W) (b : Below W.heap.size W W') (hr : RcIn (fun k => W.heap.size ≤ k) W' rv recs) (hg : Pl.goodB ⟨base, count, prod, seq, time, recs⟩ = true) (hb : base ≠ gsEnd G) :
    Calls Tryz.prog 30 #[.pointer (some ⟨s, 0, none⟩), .agg #[.int .i64 base, .int .i64 count, .int .i64 prod, .int .i64 seq, .int .i64 time, rv]] W' fun e W'' => e = .returned (.int .i64 20) ∧ Below W'.heap.size W' W'' := by
  obtain ⟨B, f, tot, n, c, K, sf, h1, rfl, h3, h4, h5⟩ := L
  have h2 := h1.below b
  have hlm := h1.life
  have hmx := h1.max_
  have hok3 := h1.ok.2.2.1
  exact appendS_order h2.sd h2.lbW h2.log h2.fit h2.run.life (by show l ≤ _; omega) base count prod seq time recs rv (Rds.mono hr fun k hk hB => by have := h1.sd.lt k hB; omega) (by have := (Pl.enc_short hg).2.2; simp only at this; omega) hg hb
theorem Opd.bad {W' : World} {rv : Value} {base count prod seq time : Int} {recs : List Pl.Rc} (L : Opd w0 t s E m l G Q y W) (b : Below W.heap.size W W') (hr : RcIn (fun k => W.heap.size ≤ k) W' rv recs) (hrl : recs.length ≤ 1048576) (hg : Pl.goodB ⟨base, count, prod, seq, time, recs⟩ = false) :
    Calls Tryz.prog 30 #[.pointer (some ⟨s, 0, none⟩), .agg #[.int .i64 base, .int .i64 count, .int .i64 prod, .int .i64 seq, .int .i64 time, rv]] W' fun e W'' => e = .returned (.int .i64 1) ∧ Below W'.heap.size W' W'' := by
  obtain ⟨B, f, tot, n, c, K, sf, h1, rfl, h3, h4, h5⟩ := L
  have h2 := h1.below b
  have hlm := h1.life
  have hmx := h1.max_
  have hok3 := h1.ok.2.2.1
  exact appendS_bad h2.sd h2.lbW h2.run.life (by show l ≤ _; omega) base count prod seq time recs rv (Rds.mono hr fun k hk hB => by have := h1.sd.lt k hB; omega) hrl hg
end

set_option maxRecDepth 100000 in
set_option maxHeartbeats 4000000 in
theorem awake_any (w : World) (lb : Lb w) : Calls Tryz.prog 11 #[] w fun e w' => e = .returned (.bool true) ∧ Below w.heap.size w w' := by
  have HLB := Lib.hid lb
  have HN := Lib.hid (Ta.s_new 65536 w (by decide) (by decide))
  clear lb
  go_enter Tryz.func11, Tryz.ntmps11
  go_wp2_with fail
  refine HN.out.mono ?_
  rintro e w1 ⟨t, B, rfl, hS, hb, hB⟩
  have HOP := Lib.hid (open_fresh (E := enW) hS HLB.out hb hB enW_ok (by show 1 ≤ 50; omega))
  rw [show enW.sv = 30 from rfl, show enW.P.toArray = #[112] from rfl] at HOP
  clear hS hb hB HN
  go_wp2_with fail
  refine HOP.out.mono ?_
  rintro e w2 ⟨s, rfl, ho⟩
  have HO := Lib.hid ho
  clear ho HOP
  go_wp2_with fail
  refine (batch_any 0 2 _ (by omega) (by omega)).mono ?_
  rintro e w3 ⟨rv, rfl, hr, hb⟩
  have HA := Lib.hid (HO.out.append (base := 0) (count := 2) (prod := 0) (seq := 0) (time := 0) (recs := (btB 0 2).recs) hb (by show 1 < 50; omega) hr good0 rfl)
  clear hr hb HO
  go_wp2_with fail
  refine HA.out.mono ?_
  rintro e w4 ⟨rfl, ho, -⟩
  have ho1 := ho
  rw [show push [] enW.sv (⟨0, 2, 0, 0, 0, (btB 0 2).recs⟩ : Pl.Bt) = gW1 from rfl] at ho1
  have HO := Lib.hid (ho1.mono (Q' := fun _ => False) fun _ _ h => h.elim)
  clear ho HA ho1
  go_wp2_with fail
  refine (batch_any 3 1 _ (by omega) (by omega)).mono ?_
  rintro e w5 ⟨rv5, rfl, hr, hb⟩
  have HA := Lib.hid (HO.out.order (base := 3) (count := 1) (prod := 0) (seq := 0) (time := 0) (recs := (btB 3 1).recs) hb hr good3 (by rw [end1]; decide))
  have HO5 := Lib.hid ((HO.out.below hb).mono (Q' := fun _ => False) fun _ _ h => h.elim)
  clear hr hb HO
  go_wp2_with fail
  refine HA.out.mono ?_
  rintro e w6 ⟨rfl, hb⟩
  have HO := Lib.hid ((HO5.out.below hb).mono (Q' := fun _ => False) fun _ _ h => h.elim)
  clear hb HO5 HA
  go_wp2_with fail
  refine (batch_any 2 3 _ (by omega) (by omega)).mono ?_
  rintro e w7 ⟨rv7, rfl, hr, hb⟩
  have HA := Lib.hid (HO.out.append (base := 2) (count := 3) (prod := 0) (seq := 0) (time := 0) (recs := (btB 2 3).recs) hb (by show 2 < 50; omega) hr good2 end1.symm)
  clear hr hb HO
  go_wp2_with fail
  refine HA.out.mono ?_
  rintro e w8 ⟨rfl, ho, -⟩
  have ho1 := ho
  rw [show enW.sv = 30 from rfl, show (⟨2, 3, 0, 0, 0, (btB 2 3).recs⟩ : Pl.Bt) = btB 2 3 from rfl, push2] at ho1
  have HO := Lib.hid (ho1.mono (Q' := fun _ => False) fun _ _ h => h.elim)
  clear ho HA ho1
  have HSY := Lib.hid (HO.out.sync (by show 3 < 50; omega))
  go_wp2_with fail
  refine HSY.out.mono ?_
  rintro e w9 ⟨rfl, ho, -⟩
  have HO9 := Lib.hid (ho.mono (Q' := fun _ => False) fun _ _ h => h.elim)
  clear ho HSY HO
  go_wp2_with fail
  refine HO9.out.bases.mono ?_
  rintro e w10 ⟨lv, rfl, hl, hb10⟩
  have HO10 := Lib.hid (HO9.out.below hb10)
  have HL := Lib.hid hl
  have HB10 := Lib.hid hb10
  clear hl hb10
  go_wp2_with fail
  refine HO10.out.names.mono ?_
  rintro e w11 ⟨nv, ss, rfl, hn, h1, h2, h3, h4, hb11⟩
  have hss : ss = [nm [112] 0, nm [112] 2] := two_sorted (nm_lt (by omega) (by omega) (by omega)) h2 h3 (fun k => by
    rw [h4]
    constructor
    · rintro ⟨g, hg, rfl⟩
      rcases List.mem_cons.1 hg with rfl | hg
      · exact .inl rfl
      · rw [List.mem_singleton.1 hg]; exact .inr rfl
    · rintro (rfl | rfl)
      · exact ⟨⟨0, [btB 0 2]⟩, by simp [gW2], rfl⟩
      · exact ⟨⟨2, [btB 2 3]⟩, by simp [gW2], rfl⟩) h1
  subst hss
  have HO11 := Lib.hid (((HO10.out.below hb11).mono (Q' := fun k => w9.heap.size ≤ k ∧ k < w11.heap.size) fun k _ hk => by
    rcases Nat.lt_or_ge k w10.heap.size with h | h
    · exact .inl (.inr hk.1)
    · exact .inr h))
  have HQ := Lib.hid (And.intro (Rds.keep (A' := fun k => w9.heap.size ≤ k ∧ k < w11.heap.size) (HL.out.below hb11) (Nat.le_refl _) fun k hk hl => ⟨rfl, hk, hl⟩) (Rds.keep (A' := fun k => w9.heap.size ≤ k ∧ k < w11.heap.size) hn (Nat.le_refl _) fun k hk hl => ⟨rfl, by have := HB10.out.size; omega, hl⟩))
  clear hn h1 h2 h3 h4 hb11 HO10 HO9 HL HB10
  go_wp2_with fail
  refine HO11.out.off.mono ?_
  rintro e w12 ⟨⟨vo, rfl⟩, ho, hk12⟩
  have HO12 := Lib.hid ho
  have HK12 := Lib.hid hk12
  clear ho hk12
  have HON := Lib.hid (HO12.out.on (.slice none 0 0) [] ⟨none, 0, rfl, fun j z h => by simp at h⟩ (fun h => absurd h (by decide)))
  go_wp2_with fail
  refine HON.out.mono ?_
  rintro e w13 ⟨⟨vo, rfl⟩, ho, hk13⟩
  have HOO := Lib.hid (ho.open_ (by show 4 < 50; omega))
  rw [show enW.sv = 30 from rfl, show enW.P.toArray = #[112] from rfl] at HOO
  have HK13 := Lib.hid hk13
  clear ho hk13 HON HO12 HO11
  go_wp2_with fail
  refine HOO.out.mono ?_
  rintro e w14 ⟨p, rfl, ho, hk14, X, v, gb, hlies, hX⟩
  have HK := Lib.hid ((HK12.out.mono (Q' := fun k => w9.heap.size ≤ k ∧ k < w11.heap.size) fun k hk h => ⟨h, hk⟩).trans ((HK13.out.mono fun k hk h => ⟨⟨h, h.2⟩, hk⟩).trans (hk14.mono fun k hk h => ⟨⟨⟨h, h.2⟩, Nat.lt_of_lt_of_le h.2 HK12.out.size⟩, hk⟩)))
  have HO := Lib.hid ho
  have HLI := Lib.hid (And.intro hlies hX)
  clear ho hk14 hlies hX HOO HK12 HK13
  have HRD := Lib.hid (HO.out.read 1 2 (by omega))
  rw [show (2 : Int).toNat = 2 from rfl, read2] at HRD
  go_wp2_with fail
  refine HRD.out.mono ?_
  rintro e w15 ⟨rvv, gb', rfl, hs, hn, hb15⟩
  have hrr : Rds (fun _ => True) w15 rvv 4 2 [.int .i64 1, .string ⟨#[107]⟩, .string ⟨#[118]⟩, .bool false, .int .i64 2, .string ⟨#[107]⟩, .string ⟨#[118]⟩, .bool false] := Rds.of_sl hs fun _ _ => trivial
  have hl15 := (HK.out.rds HQ.out.1).below hb15
  have hn15 := (HK.out.rds HQ.out.2).below hb15
  obtain ⟨rb, rp, rcap, rfl, -, -, hrc⟩ := hrr.at (by decide)
  obtain ⟨lb', lp, lcap, rfl, -, -, hlc⟩ := hl15.at (by decide)
  obtain ⟨nb, np, ncap, rfl, -, -, hnc⟩ := hn15.at (by decide)
  have hr0 : w15.cell? ⟨rb, rp, none⟩ = some (.int .i64 1) := hrc 0 _ rfl
  have hr1 : w15.cell? ⟨rb, rp + 4, none⟩ = some (.int .i64 2) := hrc 4 _ rfl
  have hl1 : w15.cell? ⟨lb', lp + 1, none⟩ = some (.int .i64 2) := hlc 1 _ rfl
  have hn1 : w15.cell? ⟨nb, np + 1, none⟩ = some (.string ⟨#[112, 46, 48, 48, 48, 48, 48, 48, 48, 48, 48, 48, 48, 48, 50]⟩) := by
    have := hnc 1 (encStr (nm [112] 2)) rfl
    rw [nm2] at this
    exact this
  have hch : Chs (X.map Sx.sg) := by rw [HLI.out.2]; exact HO.out.log.chs
  have hXl : X.length ≤ 1048576 := by have e : (X.map Sx.sg).length = X.length := List.length_map _; rw [HLI.out.2] at e; rw [← e]; decide
  have hLl : ∀ x ∈ X, x.L.length ≤ 1048576 := fun x hx => by
    have h1 : x.sg ∈ gW2 := by rw [← HLI.out.2]; exact List.mem_map.2 ⟨x, hx, rfl⟩
    have h2 : x.sg.l.length = x.L.length := by simp [Sx.sg, Sx.bts]
    have h3 : ∀ g ∈ gW2, g.l.length ≤ 1048576 := by
      intro g hg
      rcases List.mem_cons.1 hg with rfl | hg
      · show 1 ≤ _; omega
      · rw [List.mem_singleton.1 hg]; show 1 ≤ _; omega
    rw [← h2]
    exact h3 _ h1
  have HLX := Lib.hid (HLI.out.1.below hb15)
  have HST := Lib.hid (start_any HLX.out hXl)
  have HEN := Lib.hid (endS_any HLX.out hXl hch hLl)
  rw [HLI.out.2] at HST HEN
  rw [show gsStart gW2 = 0 from rfl] at HST
  rw [end2] at HEN
  have HOP := Lib.hid (HO.out.below hb15)
  have HC := Lib.hid (And.intro hr0 (And.intro hr1 (And.intro hl1 hn1)))
  clear hs hn hb15 hrr hl15 hn15 hrc hlc hnc hr0 hr1 hl1 hn1 hch hXl hLl HLI HO HK HQ HRD
  go_wp2_with fail
  refine HST.out.mono ?_
  rintro e _ ⟨rfl, rfl⟩
  go_wp2_with fail
  refine HEN.out.mono ?_
  rintro e w16 ⟨rfl, hb16⟩
  have hl1 : w16.cell? ⟨lb', lp + 1, none⟩ = some (.int .i64 2) := (hb16.cell (block_lt_of_cell HC.out.2.2.1)).trans HC.out.2.2.1
  have hn1 : w16.cell? ⟨nb, np + 1, none⟩ = some (.string ⟨#[112, 46, 48, 48, 48, 48, 48, 48, 48, 48, 48, 48, 48, 48, 50]⟩) := (hb16.cell (block_lt_of_cell HC.out.2.2.2)).trans HC.out.2.2.2
  have HOQ := Lib.hid (HOP.out.below hb16)
  have HB16 := Lib.hid hb16
  have HEQ := Lib.hid HOQ.out.end_
  rw [end2] at HEQ
  clear hb16 HOP HST HEN HLX
  go_wp2_with fail
  refine HEQ.out.mono ?_
  rintro e w17 ⟨rfl, hb17⟩
  have hr0 : w17.cell? ⟨rb, rp, none⟩ = some (.int .i64 1) := ((HB16.out.trans (hb17.mono HB16.out.size)).cell (block_lt_of_cell HC.out.1)).trans HC.out.1
  have hr1 : w17.cell? ⟨rb, rp + 4, none⟩ = some (.int .i64 2) := ((HB16.out.trans (hb17.mono HB16.out.size)).cell (block_lt_of_cell HC.out.2.1)).trans HC.out.2.1
  have HF := Lib.hid (HOQ.out.below hb17).low
  clear hb17 hl1 hn1 HEQ
  go_wp2_with fail
  go_ret
  exact ⟨rfl, HF.out⟩
end Go.Proofs.YtdaoeplblkfapaaGreatDoor

/- THE LAWS' ACTS as they lie. -/
namespace Go.Proofs.YtdaoeplblkfapaaGreatDoor
open Go.RowKit

/-- An act: its batch's records, what is left out, the fates as they lie. -/
structure Ac where
  kind : Int
  b : Pl.Bt
  rv : Value
  nx : Bool
  n : Int
  less : List Int
  lv : Value
  fates : List Int
  fv : Value
  name : ByteArray
def acells (x : Ac) : List Value := [.int .i64 x.kind, .int .i64 x.b.base, .int .i64 x.b.count, .int .i64 x.b.prod, .int .i64 x.b.seq, .int .i64 x.b.time, x.rv, .bool x.nx, .int .i64 x.n, x.lv, x.fv, .string x.name]
/-- What an act's slices are, in blocks below l. -/
structure AcIn (l : Nat) (w : World) (x : Ac) : Prop where
  recs : RcIn (fun k => k < l) w x.rv x.b.recs
  less : Ta.Nums w x.lv x.less
  fates : Ta.Nums w x.fv x.fates
  old : 0 < x.fates.length → ∀ a n c, x.fv = .slice (some a) n c → a.block < l
/-- Acts as they lie, in blocks below l. -/
structure Acts (l : Nat) (w : World) (v : Value) (zs : List Ac) : Prop where
  lies : ∃ a cap, v = .slice a zs.length cap ∧ ∀ j x, zs[j]? = some x → ∃ b o, a = some ⟨b, o, none⟩ ∧ b < l ∧ (∀ i u, i < 12 → (acells x)[i]? = some u → w.cell? ⟨b, o + j * 12 + i, none⟩ = some u) ∧ AcIn l w x
section
variable {l : Nat} {w w' : World}
theorem Nums.below {v : Value} {zs : List Int} (h : Ta.Nums w v zs) (b : Below w.heap.size w w') : Ta.Nums w' v zs :=
  h.keep fun _ k x hk _ => by rw [b.cell (block_lt_of_cell hk)]; exact hk
theorem AcIn.below {x : Ac} (h : AcIn l w x) (b : Below w.heap.size w w') : AcIn l w' x := { h with recs := h.recs.below b, less := Nums.below h.less b, fates := Nums.below h.fates b }
theorem Acts.below {v : Value} {zs : List Ac} (h : Acts l w v zs) (b : Below w.heap.size w w') : Acts l w' v zs := by
  obtain ⟨a, cap, e, hc⟩ := h.lies
  refine ⟨a, cap, e, fun j x hj => ?_⟩
  obtain ⟨bb, o, e1, e2, e3, e4⟩ := hc j x hj
  exact ⟨bb, o, e1, e2, fun i u hi hu => by rw [b.cell (block_lt_of_cell (e3 i u hi hu))]; exact e3 i u hi hu, e4.below b⟩
end
end Go.Proofs.YtdaoeplblkfapaaGreatDoor
