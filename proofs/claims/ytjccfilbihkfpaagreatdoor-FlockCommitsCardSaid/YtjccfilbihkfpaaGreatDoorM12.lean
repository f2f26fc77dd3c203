import Derived.Test.YtjccfilbihkfpaaGreatDoorM09
import Derived.Test.YtjccfilbihkfpaaGreatDoorM11

/- THE CONTRACT OF read. -/
namespace Go.Proofs.YtjccfilbihkfpaaGreatDoor
open Go.RowKit

theorem undWord' : (Tryz.prog.underlying 61).map (fun d => match d with | .struct _ | .array _ _ => true | _ => false) = some true := by kernel_rfl
theorem sizeWord : (Tryz.prog.info? 61).map (·.size) = some 9 := by kernel_rfl
theorem undWord : ∃ d, Tryz.prog.underlying 61 = some d ∧ (match d with | .struct _ | .array _ _ => true | _ => false) = true := by
  have h := undWord'
  cases hd : Tryz.prog.underlying 61 with
  | none => rw [hd] at h; cases h
  | some d => rw [hd] at h; exact ⟨d, rfl, Option.some.inj h⟩
theorem read_ret {W : World} {rb : Nat} {cs : Array Value} {tmps : Array Value} (hb : Blk W rb cs 61) (hc : cs.size = 9) (h2 : tmps.getD 2 undef = .pointer (some ⟨rb, 0, none⟩)) :
    (results Tryz.f24 tmps).run Tryz.prog W = .ok (.agg cs) W := by
  obtain ⟨d, hd, hs⟩ := undWord
  have hl := run_loadVar_row (P := Tryz.prog) W rb 61 61 cs (0, 0) d hb hd (by cases d <;> exact hs) (by rw [hc]; exact sizeWord)
  simp only [results, Tryz.results24]
  rw [Array.getD_eq_getD_getElem?] at h2
  simp [asAddr, hl, h2]
abbrev zero9 : Array Value := #[.string ⟨#[]⟩, .string ⟨#[]⟩, .int .i64 0, .int .i64 0, .slice none 0 0, .slice none 0 0, .int .i64 0, .int .i64 0, .int .i64 0]
/-- While read goes on: the record's box, the answer's, the word's, the reader. -/
structure RSt (w : World) (bx br bw c : Nat) (rc cs : Array Value) (u : St) (wr : World) : Prop where
  low : Below w.heap.size w wr
  kx : Blk wr bx rc 28
  kr : Blk wr br zero9 61
  kw : Blk wr bw cs 61
  hr : Rd c wr u
  lx : w.heap.size ≤ bx
  lr : bx < br
  lw : br < bw
  lc : bw < c
section
variable {w wr w' : World} {bx br bw c : Nat} {rc cs : Array Value} {u u' : St}
theorem RSt.call (h : RSt w bx br bw c rc cs u wr) (hr : Rd c w' u') (k : Kb c wr w') : RSt w bx br bw c rc cs u' w' :=
  ⟨h.low.trans (k.below (by have := h.lx; have := h.lr; have := h.lw; have := h.lc; omega) h.hr.lt), h.kx.kb k (by have := h.lr; have := h.lw; have := h.lc; omega), h.kr.kb k (by have := h.lw; have := h.lc; omega), h.kw.kb k (by have := h.lc; omega), hr, h.lx, h.lr, h.lw, h.lc⟩
theorem RSt.below (h : RSt w bx br bw c rc cs u wr) (b : Below wr.heap.size wr w') : RSt w bx br bw c rc cs u w' :=
  ⟨h.low.trans (b.mono h.low.size), h.kx.below b, h.kr.below b, h.kw.below b, h.hr.same b, h.lx, h.lr, h.lw, h.lc⟩
theorem RSt.set (h : RSt w bx br bw c rc cs u wr) (i : Nat) (v : Value) : RSt w bx br bw c rc (cs.setIfInBounds i v) u (wr.setCell ⟨bw, i, none⟩ v) :=
  ⟨h.low.setCell (p := ⟨bw, i, none⟩) (by have := h.lx; have := h.lr; have := h.lw; show w.heap.size ≤ bw; omega) v, h.kx.setOther v (by have := h.lr; have := h.lw; omega), h.kr.setOther v (by have := h.lw; omega), h.kw.set v, Rd.other h.hr (Kb.setCell _ _) (by have := h.lc; omega), h.lx, h.lr, h.lw, h.lc⟩
end
/-- What read answers. -/
def RdOut (w : World) (x : Fk.Wd) (e : Ending) (w' : World) : Prop := Below w.heap.size w w' ∧ ∃ wv, e = .returned wv ∧ WdV (fun b => w.heap.size ≤ b) w' x wv
theorem nine_kb (W : World) (b : Nat) (v0 v1 v2 v3 v4 v5 v6 v7 v8 : Value) : Kb b W (((((((((W.setCell ⟨b, 0, none⟩ v0).setCell ⟨b, 1, none⟩ v1).setCell ⟨b, 2, none⟩ v2).setCell ⟨b, 3, none⟩ v3).setCell ⟨b, 4, none⟩ v4).setCell ⟨b, 5, none⟩ v5).setCell ⟨b, 6, none⟩ v6).setCell ⟨b, 7, none⟩ v7).setCell ⟨b, 8, none⟩ v8) :=
  ((((((((Kb.setCell W v0).trans (Kb.setCell _ v1)).trans (Kb.setCell _ v2)).trans (Kb.setCell _ v3)).trans (Kb.setCell _ v4)).trans (Kb.setCell _ v5)).trans (Kb.setCell _ v6)).trans (Kb.setCell _ v7)).trans (Kb.setCell _ v8)
theorem Blk.nine {w : World} {r : Nat} {a0 a1 a2 a3 a4 a5 a6 a7 a8 : Value} {T : TypeId} (h : Blk w r #[a0, a1, a2, a3, a4, a5, a6, a7, a8] T) (v0 v1 v2 v3 v4 v5 v6 v7 v8 : Value) :
    Blk (((((((((w.setCell ⟨r, 0, none⟩ v0).setCell ⟨r, 1, none⟩ v1).setCell ⟨r, 2, none⟩ v2).setCell ⟨r, 3, none⟩ v3).setCell ⟨r, 4, none⟩ v4).setCell ⟨r, 5, none⟩ v5).setCell ⟨r, 6, none⟩ v6).setCell ⟨r, 7, none⟩ v7).setCell ⟨r, 8, none⟩ v8) r #[v0, v1, v2, v3, v4, v5, v6, v7, v8] T := by
  have q0 : Blk (w.setCell ⟨r, 0, none⟩ v0) r #[v0, a1, a2, a3, a4, a5, a6, a7, a8] T := h.set (i := 0) v0
  have q1 : Blk ((w.setCell ⟨r, 0, none⟩ v0).setCell ⟨r, 1, none⟩ v1) r #[v0, v1, a2, a3, a4, a5, a6, a7, a8] T := q0.set (i := 1) v1
  have q2 : Blk (((w.setCell ⟨r, 0, none⟩ v0).setCell ⟨r, 1, none⟩ v1).setCell ⟨r, 2, none⟩ v2) r #[v0, v1, v2, a3, a4, a5, a6, a7, a8] T := q1.set (i := 2) v2
  have q3 : Blk ((((w.setCell ⟨r, 0, none⟩ v0).setCell ⟨r, 1, none⟩ v1).setCell ⟨r, 2, none⟩ v2).setCell ⟨r, 3, none⟩ v3) r #[v0, v1, v2, v3, a4, a5, a6, a7, a8] T := q2.set (i := 3) v3
  have q4 : Blk (((((w.setCell ⟨r, 0, none⟩ v0).setCell ⟨r, 1, none⟩ v1).setCell ⟨r, 2, none⟩ v2).setCell ⟨r, 3, none⟩ v3).setCell ⟨r, 4, none⟩ v4) r #[v0, v1, v2, v3, v4, a5, a6, a7, a8] T := q3.set (i := 4) v4
  have q5 : Blk ((((((w.setCell ⟨r, 0, none⟩ v0).setCell ⟨r, 1, none⟩ v1).setCell ⟨r, 2, none⟩ v2).setCell ⟨r, 3, none⟩ v3).setCell ⟨r, 4, none⟩ v4).setCell ⟨r, 5, none⟩ v5) r #[v0, v1, v2, v3, v4, v5, a6, a7, a8] T := q4.set (i := 5) v5
  have q6 : Blk (((((((w.setCell ⟨r, 0, none⟩ v0).setCell ⟨r, 1, none⟩ v1).setCell ⟨r, 2, none⟩ v2).setCell ⟨r, 3, none⟩ v3).setCell ⟨r, 4, none⟩ v4).setCell ⟨r, 5, none⟩ v5).setCell ⟨r, 6, none⟩ v6) r #[v0, v1, v2, v3, v4, v5, v6, a7, a8] T := q5.set (i := 6) v6
  have q7 : Blk ((((((((w.setCell ⟨r, 0, none⟩ v0).setCell ⟨r, 1, none⟩ v1).setCell ⟨r, 2, none⟩ v2).setCell ⟨r, 3, none⟩ v3).setCell ⟨r, 4, none⟩ v4).setCell ⟨r, 5, none⟩ v5).setCell ⟨r, 6, none⟩ v6).setCell ⟨r, 7, none⟩ v7) r #[v0, v1, v2, v3, v4, v5, v6, v7, a8] T := q6.set (i := 7) v7
  have q8 : Blk (((((((((w.setCell ⟨r, 0, none⟩ v0).setCell ⟨r, 1, none⟩ v1).setCell ⟨r, 2, none⟩ v2).setCell ⟨r, 3, none⟩ v3).setCell ⟨r, 4, none⟩ v4).setCell ⟨r, 5, none⟩ v5).setCell ⟨r, 6, none⟩ v6).setCell ⟨r, 7, none⟩ v7).setCell ⟨r, 8, none⟩ v8) r #[v0, v1, v2, v3, v4, v5, v6, v7, v8] T := q7.set (i := 8) v8
  exact q8
abbrev recC (off : Int) (k v : ByteArray) (gone : Bool) : Array Value := #[.int .i64 off, .string k, .string v, .bool gone]
/-- The first three boxes, and the reader. -/
theorem read_start (off : Int) (k v : ByteArray) (gone : Bool) (w : World) : ∃ W1 W2 W3 : World, w.alloc (.cells (recC off k v gone) 28) = W1 ∧ W1.alloc (.cells zero9 61) = W2 ∧ W2.alloc (.cells zero9 61) = W3 ∧
    Below w.heap.size w W3 ∧ W3.cell? ⟨w.heap.size, 2, none⟩ = some (.string v) ∧ ∀ w4 u, Rd W3.heap.size w4 u → Below W3.heap.size W3 w4 → RSt w w.heap.size W1.heap.size W2.heap.size W3.heap.size (recC off k v gone) zero9 u w4 := by
  have h1 := (Below.refl w.heap.size w).alloc (Nat.le_refl _) (.cells (recC off k v gone) 28)
  refine ⟨_, _, _, rfl, rfl, rfl, ?_, ?_, fun w4 u hr hb => ?_⟩
  · exact (h1.alloc h1.size _).alloc (by simp; omega) _
  · have k1 := Blk.new w (recC off k v gone) 28
    have k2 := k1.alloc (.cells zero9 61)
    have k3 := k2.alloc (.cells zero9 61)
    exact k3.cell rfl
  · have k1 := Blk.new w (recC off k v gone) 28
    have k2 := k1.alloc (.cells zero9 61)
    have k3 := k2.alloc (.cells zero9 61)
    have q2 := Blk.new (w.alloc (.cells (recC off k v gone) 28)) zero9 61
    have q3 := q2.alloc (.cells zero9 61)
    have s3 := Blk.new ((w.alloc (.cells (recC off k v gone) 28)).alloc (.cells zero9 61)) zero9 61
    refine ⟨?_, k3.below hb, q3.below hb, s3.below hb, hr, Nat.le_refl _, by simp, by simp, by simp⟩
    have hl : Below w.heap.size w (((w.alloc (.cells (recC off k v gone) 28)).alloc (.cells zero9 61)).alloc (.cells zero9 61)) := (h1.alloc h1.size _).alloc (by simp; omega) _
    exact hl.trans (hb.mono hl.size)
end Go.Proofs.YtjccfilbihkfpaaGreatDoor

/- THE CONTRACT OF read: records that tell nothing. -/
namespace Go.Proofs.YtjccfilbihkfpaaGreatDoor
open Go.RowKit

set_option maxHeartbeats 4000000 in
set_option maxRecDepth 100000 in
theorem read_gone (off : Int) (k v : ByteArray) (w : World) (lb : Lb w) :
    Calls Tryz.prog 24 #[.agg #[.int .i64 off, .string k, .string v, .bool true]] w fun e w' => RdOut w .none e w' := by
  obtain ⟨W1, W2, W3, h1, h2, h3, hb3, hc2, hst⟩ := read_start off k v true w
  have HLB3 := Lib.hid (lb.below lb.size hb3)
  have HST := Lib.hid hst
  have hl6 := lb.size
  have HNW := Lib.hid (rd_new v W3)
  have HLB := Lib.hid lb
  clear hb3 hst lb
  go_enter Tryz.func24, Tryz.ntmps24
  go_wp2_with fail
  refine wp_scope_fwd 0 rfl ?_
  go_wp2_with fail
  refine HNW.out.mono ?_
  rintro e w4 ⟨rfl, r4, b4⟩
  obtain ⟨bx, hbx⟩ : ∃ b, w.heap.size = b := ⟨_, rfl⟩
  have HS4 := Lib.hid (HST.out w4 _ r4 b4)
  have q1 : w4.cell? ⟨w.heap.size, 1, none⟩ = some (.string k) := HS4.out.kx.cell rfl
  have q3 : w4.cell? ⟨w.heap.size, 3, none⟩ = some (.bool true) := HS4.out.kx.cell rfl
  clear r4 b4 HNW HST hbx
  go_wp2_with fail
  obtain ⟨z0, z1, z2, z3, z4, z5, z6, z7, z8⟩ := HS4.out.kr.cells9
  have y0 := HS4.out.kr.free (i := 0)
  have y1 := HS4.out.kr.free (i := 1)
  have y2 := HS4.out.kr.free (i := 2)
  have y3 := HS4.out.kr.free (i := 3)
  have y4 := HS4.out.kr.free (i := 4)
  have y5 := HS4.out.kr.free (i := 5)
  have y6 := HS4.out.kr.free (i := 6)
  have y7 := HS4.out.kr.free (i := 7)
  have y8 := HS4.out.kr.free (i := 8)
  have HNK := Lib.hid (HS4.out.kr.nine (.string ⟨#[]⟩) (.string ⟨#[]⟩) (.int .i64 0) (.int .i64 0) (.slice none 0 0) (.slice none 0 0) (.int .i64 0) (.int .i64 0) (.int .i64 0))
  have HNL := Lib.hid (HS4.out.low.trans (((nine_kb _ _ (.string ⟨#[]⟩) (.string ⟨#[]⟩) (.int .i64 0) (.int .i64 0) (.slice none 0 0) (.slice none 0 0) (.int .i64 0) (.int .i64 0) (.int .i64 0)).below (Nat.le_of_lt (Nat.lt_of_le_of_lt HS4.out.lx HS4.out.lr)) HS4.out.kr.lt)))
  go_step3
  refine And.intro rfl ?_
  go_wp2_with fail
  rw [Exit.noGoto_ret]
  refine bodyPost_ret (read_ret HNK.out rfl rfl) rfl ?_
  exact ⟨HNL.out, _, rfl, rfl⟩
set_option maxHeartbeats 4000000 in
set_option maxRecDepth 100000 in
theorem read_empty (off : Int) (v : ByteArray) (w : World) (lb : Lb w) :
    Calls Tryz.prog 24 #[.agg #[.int .i64 off, .string ⟨#[]⟩, .string v, .bool false]] w fun e w' => RdOut w .none e w' := by
  obtain ⟨W1, W2, W3, h1, h2, h3, hb3, hc2, hst⟩ := read_start off ⟨#[]⟩ v false w
  have HLB3 := Lib.hid (lb.below lb.size hb3)
  have HST := Lib.hid hst
  have hl6 := lb.size
  have HNW := Lib.hid (rd_new v W3)
  have HLB := Lib.hid lb
  clear hb3 hst lb
  go_enter Tryz.func24, Tryz.ntmps24
  go_wp2_with fail
  refine wp_scope_fwd 0 rfl ?_
  go_wp2_with fail
  refine HNW.out.mono ?_
  rintro e w4 ⟨rfl, r4, b4⟩
  obtain ⟨bx, hbx⟩ : ∃ b, w.heap.size = b := ⟨_, rfl⟩
  have HS4 := Lib.hid (HST.out w4 _ r4 b4)
  have q1 : w4.cell? ⟨w.heap.size, 1, none⟩ = some (.string ⟨#[]⟩) := HS4.out.kx.cell rfl
  have q3 : w4.cell? ⟨w.heap.size, 3, none⟩ = some (.bool false) := HS4.out.kx.cell rfl
  clear r4 b4 HNW HST hbx
  go_wp2_with fail
  obtain ⟨z0, z1, z2, z3, z4, z5, z6, z7, z8⟩ := HS4.out.kr.cells9
  have y0 := HS4.out.kr.free (i := 0)
  have y1 := HS4.out.kr.free (i := 1)
  have y2 := HS4.out.kr.free (i := 2)
  have y3 := HS4.out.kr.free (i := 3)
  have y4 := HS4.out.kr.free (i := 4)
  have y5 := HS4.out.kr.free (i := 5)
  have y6 := HS4.out.kr.free (i := 6)
  have y7 := HS4.out.kr.free (i := 7)
  have y8 := HS4.out.kr.free (i := 8)
  have HNK := Lib.hid (HS4.out.kr.nine (.string ⟨#[]⟩) (.string ⟨#[]⟩) (.int .i64 0) (.int .i64 0) (.slice none 0 0) (.slice none 0 0) (.int .i64 0) (.int .i64 0) (.int .i64 0))
  have HNL := Lib.hid (HS4.out.low.trans (((nine_kb _ _ (.string ⟨#[]⟩) (.string ⟨#[]⟩) (.int .i64 0) (.int .i64 0) (.slice none 0 0) (.slice none 0 0) (.int .i64 0) (.int .i64 0) (.int .i64 0)).below (Nat.le_of_lt (Nat.lt_of_le_of_lt HS4.out.lx HS4.out.lr)) HS4.out.kr.lt)))
  go_step3
  refine And.intro rfl ?_
  go_wp2_with fail
  rw [Exit.noGoto_ret]
  refine bodyPost_ret (read_ret HNK.out rfl rfl) rfl ?_
  exact ⟨HNL.out, _, rfl, rfl⟩
end Go.Proofs.YtjccfilbihkfpaaGreatDoor

/- THE CONTRACT OF read: a key of another letter. -/
namespace Go.Proofs.YtjccfilbihkfpaaGreatDoor
open Go.RowKit

theorem cellD1 {w : World} {b c o o' : Nat} {v x : Value} (h : b ≠ c) (k : w.drew.cell? ⟨b, o, none⟩ = some x) : (w.setCell ⟨c, o', none⟩ v).drew.cell? ⟨b, o, none⟩ = some x := (cell_far (w := w) h).trans k
theorem cellD2 {w : World} {b c d o o' o2 : Nat} {v v2 x : Value} (h : b ≠ c) (h2 : b ≠ d) (k : w.drew.cell? ⟨b, o, none⟩ = some x) : ((w.setCell ⟨c, o', none⟩ v).setCell ⟨d, o2, none⟩ v2).drew.cell? ⟨b, o, none⟩ = some x := (cell_far (w := w.setCell ⟨c, o', none⟩ v) h2).trans ((cell_far (w := w) h).trans k)
theorem data_len' (s : ByteArray) : s.data.toList.length = s.size := Array.length_toList
set_option maxHeartbeats 4000000 in
set_option maxRecDepth 100000 in
theorem read_other (off : Int) (k v : ByteArray) (c : UInt8) (r : List UInt8) (w : World) (lb : Lb w) (hkl : k.size ≤ 1000) (hvl : v.size ≤ 1000) (hk : k.data.toList = c :: r) (gt1 : c ≠ 116) (gt2 : c ≠ 99) (gt3 : c ≠ 110) :
    Calls Tryz.prog 24 #[.agg #[.int .i64 off, .string k, .string v, .bool false]] w fun e w' => RdOut w .none e w' := by
  obtain ⟨W1, W2, W3, g1, g2, g3, hb3, hc2, hst⟩ := read_start off k v false w
  have HLB3 := Lib.hid (lb.below lb.size hb3)
  have HST := Lib.hid hst
  have hl6 := lb.size
  have HNW := Lib.hid (rd_new v W3)
  have HLB := Lib.hid lb
  clear hb3 hst lb
  obtain ⟨S, hS⟩ : ∃ S : ByteArray, (⟨#[c]⟩ : ByteArray) = S := ⟨_, rfl⟩
  obtain ⟨N, hN⟩ : ∃ N : ByteArray, (⟨r.toArray⟩ : ByteArray) = N := ⟨_, rfl⟩
  have hk1 : k.extract 0 1 = S := by rw [← hS, ofList_eq k _ hk.symm]; exact ext_take (c :: r) 1
  have hks : k.size = r.length + 1 := by rw [← data_len', hk]; rfl
  have hk2 : k.extract 1 k.size = N := by rw [hks, ← hN, ofList_eq k _ hk.symm]; exact ext_drop (c :: r) 1
  have hkn : (k.toList == []) = false := by rw [Lib.toList_data, hk]; rfl
  have hn1 : 1 ≤ k.size := by omega
  have hn1' : (1 : Int) ≤ (k.size : Int) := by omega
  have HKS := Lib.hid hks
  clear hks
  have t1 : (S.toList == [116]) = false := by rw [← hS, Lib.toList_data]; simpa using gt1
  have t2 : (S.toList == [99]) = false := by rw [← hS, Lib.toList_data]; simpa using gt2
  have t3 : (S.toList == [110]) = false := by rw [← hS, Lib.toList_data]; simpa using gt3
  clear gt1 gt2 gt3 hS hN hk
  go_enter Tryz.func24, Tryz.ntmps24
  go_wp2_with fail
  refine wp_scope_fwd 0 rfl ?_
  go_wp2_with fail
  refine HNW.out.mono ?_
  rintro e w4 ⟨rfl, r4, b4⟩
  obtain ⟨bx, hbx⟩ : ∃ b, w.heap.size = b := ⟨_, rfl⟩
  have HS4 := Lib.hid (HST.out w4 _ r4 b4)
  have q1 : w4.cell? ⟨w.heap.size, 1, none⟩ = some (.string k) := HS4.out.kx.cell rfl
  have q3 : w4.cell? ⟨w.heap.size, 3, none⟩ = some (.bool false) := HS4.out.kx.cell rfl
  clear r4 b4 HNW HST hbx
  go_wp2_with fail
  go_upto_region 4 with fail
  have HS5 := Lib.hid (HS4.out.below ((Below.refl w4.heap.size w4).drew))
  have HNE : Hid (w.heap.size ≠ W2.heap.size) := Lib.hid (by have := HS5.out.lr; have := HS5.out.lw; omega)
  have q1 : w4.drew.cell? ⟨w.heap.size, 1, none⟩ = some (.string k) := q1
  have u0' : w4.cell? ⟨W2.heap.size, 0, none⟩ = some (.string ⟨#[]⟩) := HS5.out.kw.cell rfl
  have u1 : w4.cell? ⟨W2.heap.size, 1, none⟩ = some (.string ⟨#[]⟩) := HS5.out.kw.cell rfl
  have p0 : w4.frozen? ⟨W2.heap.size, 0, none⟩ = false := HS5.out.kw.free
  have p1 : w4.frozen? ⟨W2.heap.size, 1, none⟩ = false := HS5.out.kw.free
  have x0 : w4.drew.cell? ⟨W2.heap.size, 0, none⟩ = some (.string ⟨#[]⟩) := HS5.out.kw.cell rfl
  have x1 : w4.drew.cell? ⟨W2.heap.size, 1, none⟩ = some (.string ⟨#[]⟩) := HS5.out.kw.cell rfl
  have y0 : w4.drew.frozen? ⟨W2.heap.size, 0, none⟩ = false := HS5.out.kw.free
  have y1 : w4.drew.frozen? ⟨W2.heap.size, 1, none⟩ = false := HS5.out.kw.free
  go_region_held3 (fun w' => w'.cell? ⟨w.heap.size, 1, none⟩ = some (.string k)) (first | exact q1 | exact cellD1 HNE.out q1 | exact cellD2 HNE.out HNE.out q1 | go_keep | fail) (fail)
  have hS6 : RSt w w.heap.size W1.heap.size W2.heap.size W3.heap.size (recC off k v false) #[.string S, .string N, .int .i64 0, .int .i64 0, .slice none 0 0, .slice none 0 0, .int .i64 0, .int .i64 0, .int .i64 0] ⟨v.data.toList, false⟩ ((w4.setCell ⟨W2.heap.size, 0, none⟩ (.string S)).setCell ⟨W2.heap.size, 1, none⟩ (.string N)).drew := ((HS4.out.set 0 (.string S)).set 1 (.string N)).below ((Below.refl _ _).drew)
  obtain ⟨W5, hW5⟩ : ∃ W, ((w4.setCell ⟨W2.heap.size, 0, none⟩ (.string S)).setCell ⟨W2.heap.size, 1, none⟩ (.string N)).drew = W := ⟨_, rfl⟩
  rw [hW5] at hS6
  rw [hW5]
  have HS6 := Lib.hid hS6
  have hvl : v.data.toList.length ≤ 281474976710656 := by rw [data_len']; omega
  have HOP := Lib.hid (rd_open W3.heap.size _ W5 hS6.hr hvl)
  have h0l := byte_len 108 ⟨v.data.toList, false⟩
  obtain ⟨u0, hu0⟩ : ∃ u, St.byte 108 ⟨v.data.toList, false⟩ = u := ⟨_, rfl⟩
  rw [hu0] at HOP h0l
  have HU0 := Lib.hid hu0
  have HL0 : Hid (u0.s.length ≤ 281474976710656) := Lib.hid (Nat.le_trans h0l hvl)
  clear q1 q3 u0' u1 p0 p1 x0 x1 y0 y1 hS6 hW5 HS5 HS4 hu0 hvl h0l g1 g2 g3 hc2
  go_wp2_with fail
  refine HOP.out.mono ?_
  rintro e w6 ⟨rfl, r6, k6⟩
  have HS7 := Lib.hid (HS6.out.call r6 k6)
  have d0 : w6.cell? ⟨W2.heap.size, 0, none⟩ = some (.string S) := HS7.out.kw.cell rfl
  clear r6 k6 HOP
  go_wp2_with fail
  obtain ⟨z0, z1, z2, z3, z4, z5, z6, z7, z8⟩ := HS7.out.kr.cells9
  have y0 := HS7.out.kr.free (i := 0)
  have y1 := HS7.out.kr.free (i := 1)
  have y2 := HS7.out.kr.free (i := 2)
  have y3 := HS7.out.kr.free (i := 3)
  have y4 := HS7.out.kr.free (i := 4)
  have y5 := HS7.out.kr.free (i := 5)
  have y6 := HS7.out.kr.free (i := 6)
  have y7 := HS7.out.kr.free (i := 7)
  have y8 := HS7.out.kr.free (i := 8)
  have HNK := Lib.hid (HS7.out.kr.nine (.string ⟨#[]⟩) (.string ⟨#[]⟩) (.int .i64 0) (.int .i64 0) (.slice none 0 0) (.slice none 0 0) (.int .i64 0) (.int .i64 0) (.int .i64 0))
  have HNL := Lib.hid (HS7.out.low.trans (((nine_kb _ _ (.string ⟨#[]⟩) (.string ⟨#[]⟩) (.int .i64 0) (.int .i64 0) (.slice none 0 0) (.slice none 0 0) (.int .i64 0) (.int .i64 0) (.int .i64 0)).below (Nat.le_of_lt (Nat.lt_of_le_of_lt HS7.out.lx HS7.out.lr)) HS7.out.kr.lt)))
  go_step3
  refine And.intro rfl ?_
  go_wp2_with fail
  rw [Exit.noGoto_ret]
  refine bodyPost_ret (read_ret HNK.out rfl rfl) rfl ?_
  exact ⟨HNL.out, _, rfl, rfl⟩
end Go.Proofs.YtjccfilbihkfpaaGreatDoor
