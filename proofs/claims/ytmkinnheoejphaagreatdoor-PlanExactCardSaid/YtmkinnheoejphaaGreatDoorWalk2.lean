/- THE CONTRACTS OF (*bead.Reader).take: for each thing that it is asked for: what it takes, or that it goes wrong. -/
import Derived.Test.YtmkinnheoejphaaGreatDoorWalk1
namespace Go.Proofs.YtmkinnheoejphaaGreatDoor
open Go.RowKit

/-- A scope out of which the run jumps forward to one label: what stands behind the label is walked at the jump. -/
theorem wp_scope_fwd {P : Program} {a : Act} {w : World} {Q : Exit → Act → World → Prop} {c rest : Code} (l : Nat) (hf : findLabel c l = some rest)
    (first : c.wp P (Exit.jump l (fun a w => rest.wp P (Exit.noGoto Q) a w) Q) a w) : (Code.scope c).wp P Q a w :=
  wp_scope_jumps l _ (fun _ _ => 0) hf first (fun a w h => wp_mono h (by intro e a w hq; cases e <;> first | exact hq | exact hq.elim))

theorem jump_ret {l : Nat} {J : Act → World → Prop} {Q : Exit → Act → World → Prop} {a : Act} {w : World} : Exit.jump l J Q .ret a w = Q .ret a w := rfl
theorem jump_goto {l : Nat} {J : Act → World → Prop} {Q : Exit → Act → World → Prop} {a : Act} {w : World} (h : J a w) : Exit.jump l J Q (.goto l) a w := ⟨rfl, h⟩

set_option maxHeartbeats 400000 in
set_option maxRecDepth 100000 in
set_option maxRecDepth 100000 in
/-- A number stands there. -/
theorem take_int_ok (b : Nat) (s : ByteArray) (n : Int) (r : List UInt8) (hr : Pl.rInt s.data.toList = some (n, r)) (w : World) (hl : Lb w) (h : Rdr b w s false) (hs : s.size ≤ 281474976710656) :
    Calls Tryz.prog 67 #[.pointer (some ⟨b, 0, none⟩), .int .u8 105, .int .i64 0] w fun e w' =>
      e = .returned (.tuple #[.int .i64 n, .string ⟨#[]⟩]) ∧ Rdr b w' ⟨r.toArray⟩ false ∧ Kb b w w' := by
  obtain ⟨body, ds, p1, p2, p3, p4⟩ := Pl.rInt_parts hr
  have hsz : body.length ≤ s.size := by rw [← p1, Lib.size_eq]; unfold Lib.trimPrefix; split <;> simp
  have hsd : ds.length ≤ body.length := by
    have := (Pl.cut_true (s := body) (c := 101) (by rw [p3])).1
    rw [this, p3]; simp
  have C1 := Lib.hid (cutprev s 105 body true p1 p2 w)
  have C2 := Lib.hid (fun w => cut1v ⟨body.toArray⟩ 101 ds r true p3 w (by show body.toArray.size ≤ _; simp; omega))
  have C3 := Lib.hid (fun w hl => decimal_ok ⟨ds.toArray⟩ n p4 w hl (by show ds.toArray.size ≤ _; simp; omega))
  have HS := Lib.hid hs
  clear hr p1 p2 p3 p4 hsz hsd hs
  have c0 := h.rest
  have c1 := h.wrong
  go_enter Tryz.func67, Tryz.ntmps67
  go_wp2_with fail
  refine wp_scope_fwd 0 rfl ?_
  go_wp2_with fail
  refine C1.out.mono ?_
  rintro e w' ⟨rfl, rfl⟩
  go_wp2_with fail
  refine (C2.out _).mono ?_
  rintro e w1 ⟨rfl, hb1⟩
  go_wp2_with fail
  refine (C3.out _ (hl.below hl.size hb1)).mono ?_
  rintro e w2 ⟨rfl, hb2⟩
  have hb3 := hb1.trans (hb2.mono hb1.size)
  have h3 := h.same hb3
  have f0 := h3.free0
  have d0 := h3.rest
  clear hb1 hb2 c0 c1 C1 C2 C3
  go_wp2_with fail
  rw [jump_ret]
  go_ret2
  exact ⟨rfl, h3.set0 _, (Kb.of_below hb3).trans (Kb.setCell _ _)⟩

set_option maxHeartbeats 1000000 in
set_option maxRecDepth 100000 in
set_option maxRecDepth 100000 in
/-- No number stands there: it goes wrong. -/
theorem take_int_no (b : Nat) (s : ByteArray) (hr : Pl.rInt s.data.toList = none) (w : World) (hl : Lb w) (h : Rdr b w s false) (hs : s.size ≤ 281474976710656) :
    Calls Tryz.prog 67 #[.pointer (some ⟨b, 0, none⟩), .int .u8 105, .int .i64 0] w fun e w' =>
      e = .returned (.tuple #[.int .i64 0, .string ⟨#[]⟩]) ∧ Rdr b w' s true ∧ Kb b w w' := by
  obtain ⟨body, ds, bh, p, f, p1, p2, p3, p4⟩ := Pl.rInt_none hr
  have hsz : body.length ≤ s.size := by rw [← p1, Lib.size_eq]; unfold Lib.trimPrefix; split <;> simp
  have hsd : ds.length ≤ body.length := by
    by_cases hm : (101 : UInt8) ∈ body
    · obtain ⟨x, y, e, hx⟩ := Pl.split_at 101 body hm
      rw [e, Pl.cut_hit x y 101 hx] at p3
      injection p3 with p3
      rw [← p3, e]; simp
    · rw [Pl.cut_miss body 101 hm] at p3
      injection p3 with p3
      rw [← p3]; omega
  have C1 := Lib.hid (cutprev s 105 body p p1 p2 w)
  have C2 := Lib.hid (fun w => cut1v ⟨body.toArray⟩ 101 ds bh f p3 w (by show body.toArray.size ≤ _; simp; omega))
  obtain ⟨g, hg⟩ : ∃ g, (Pl.dec ds).isSome = g := ⟨_, rfl⟩
  have C3 := Lib.hid (fun w hl => decimalv ⟨ds.toArray⟩ g hg w hl (by show ds.toArray.size ≤ _; simp; omega))
  rw [hg] at p4
  have hcase : p = false ∨ (p = true ∧ f = false) ∨ (p = true ∧ f = true ∧ g = false) := by
    cases p <;> cases f <;> cases g <;> simp_all
  clear hr p1 p2 p3 p4 hsz hsd hs hg
  have c0 := h.rest
  have c1 := h.wrong
  rcases hcase with rfl | ⟨rfl, rfl⟩ | ⟨rfl, rfl, rfl⟩
  all_goals
    go_enter Tryz.func67, Tryz.ntmps67
    go_wp2_with fail
    refine wp_scope_fwd 0 rfl ?_
    go_wp2_with fail
    refine C1.out.mono ?_
    rintro e w' ⟨rfl, rfl⟩
    go_wp2_with fail
    refine (C2.out _).mono ?_
    rintro e w1 ⟨rfl, hb1⟩
    go_wp2_with fail
    refine (C3.out _ (hl.below hl.size hb1)).mono ?_
    rintro e w2 ⟨m, rfl, hb2⟩
    have hb3 := hb1.trans (hb2.mono hb1.size)
    have h3 := h.same hb3
    have f0 := h3.free1
    have d1 := h3.wrong
    clear hb1 hb2 c0 c1 C1 C2 C3
    go_wp2_with fail
    go_step3
    refine And.intro rfl ?_
    go_wp2_with fail
    rw [Exit.noGoto_ret]
    go_ret2
    exact ⟨rfl, h3.set1 _, (Kb.of_below hb3).trans (Kb.setCell _ _)⟩

set_option maxHeartbeats 1000000 in
set_option maxRecDepth 100000 in
set_option maxRecDepth 100000 in
/-- A text stands there. -/
theorem take_text_ok (b : Nat) (s : ByteArray) (most : Int) (x r : List UInt8) (hr : Pl.rText most s.data.toList = some (x, r)) (w : World) (hl : Lb w) (h : Rdr b w s false) (hs : s.size ≤ 281474976710656) :
    Calls Tryz.prog 67 #[.pointer (some ⟨b, 0, none⟩), .int .u8 58, .int .i64 most] w fun e w' =>
      e = .returned (.tuple #[.int .i64 0, .string ⟨x.toArray⟩]) ∧ Rdr b w' ⟨r.toArray⟩ false ∧ Kb b w w' := by
  obtain ⟨ds, bh, n, p3, p4, q1, q2, q3, q4, q5⟩ := Pl.rText_parts hr
  have hall := (Pl.cut_true (s := s.data.toList) (c := 58) (by rw [p3])).1
  rw [p3] at hall
  have hlen : s.size = ds.length + bh.length + 1 := by rw [Lib.size_eq, hall]; simp; omega
  have C2 := Lib.hid (fun w => cut1v s 58 ds bh true p3 w (by omega))
  have C3 := Lib.hid (fun w hl => decimal_ok ⟨ds.toArray⟩ n p4 w hl (by show ds.toArray.size ≤ _; simp; omega))
  obtain ⟨k, rfl⟩ : ∃ k : Nat, n = k := ⟨n.toNat, by omega⟩
  have hk : k ≤ bh.length := by omega
  have E := Lib.hid (show x = bh.take k ∧ r = bh.drop k by simpa using And.intro q4 q5)
  have HS := Lib.hid hs
  have HL := Lib.hid hlen
  have hbh : bh.length ≤ 281474976710656 := by omega
  clear hr p3 p4 hs hall hlen q4 q5 q3
  have c0 := h.rest
  have c1 := h.wrong
  go_enter Tryz.func67, Tryz.ntmps67
  go_wp2_with fail
  refine wp_scope_fwd 0 rfl ?_
  go_wp2_with fail
  refine (C2.out _).mono ?_
  rintro e w1 ⟨rfl, hb1⟩
  go_wp2_with fail
  refine (C3.out _ (hl.below hl.size hb1)).mono ?_
  rintro e w2 ⟨rfl, hb2⟩
  have hb3 := hb1.trans (hb2.mono hb1.size)
  have h3 := h.same hb3
  have f0 := h3.free0
  have d0 := h3.rest
  clear hb1 hb2 c0 c1 C2 C3
  go_wp2_with fail
  go_region
  go_wp2_with fail
  rw [jump_ret]
  go_ret2
  obtain ⟨rfl, rfl⟩ := E.out
  rw [ext_drop]
  exact ⟨by rw [← ext_take]; rfl, (h3.set0 _).drewN 1, ((Kb.of_below hb3).trans (Kb.setCell _ _)).drewN 1⟩

set_option maxHeartbeats 1000000 in
set_option maxRecDepth 100000 in
set_option maxRecDepth 100000 in
/-- No text stands there, or a longer one: it goes wrong. -/
theorem take_text_no (b : Nat) (s : ByteArray) (most : Int) (hr : Pl.rText most s.data.toList = none) (w : World) (hl : Lb w) (h : Rdr b w s false) (hs : s.size ≤ 281474976710656) :
    Calls Tryz.prog 67 #[.pointer (some ⟨b, 0, none⟩), .int .u8 58, .int .i64 most] w fun e w' =>
      e = .returned (.tuple #[.int .i64 0, .string ⟨#[]⟩]) ∧ Rdr b w' s true ∧ Kb b w w' := by
  obtain ⟨ds, bh, f, p3, hcase⟩ := Pl.rText_none hr
  have hsd : ds.length ≤ s.size ∧ bh.length ≤ s.size := by
    rw [Lib.size_eq]
    by_cases hm : (58 : UInt8) ∈ s.data.toList
    · obtain ⟨x, y, e, hx⟩ := Pl.split_at 58 _ hm
      rw [e, Pl.cut_hit x y 58 hx] at p3
      injection p3 with p3 p4
      injection p4 with p4
      rw [← p3, ← p4, e]; simp; omega
    · rw [Pl.cut_miss _ 58 hm] at p3
      injection p3 with p3 p4
      injection p4 with p4
      rw [← p3, ← p4]; simp
  obtain ⟨hsd, hsb⟩ := hsd
  have hbh : bh.length ≤ 281474976710656 := by omega
  have C2 := Lib.hid (fun w => cut1v s 58 ds bh f p3 w (by omega))
  have HD := Lib.hid (show (⟨ds.toArray⟩ : ByteArray).size ≤ 281474976710656 by show ds.toArray.size ≤ _; simp; omega)
  have c0 := h.rest
  have c1 := h.wrong
  clear hr p3 hs hsd hsb
  rcases hcase with hf | ⟨hf, hd⟩ | ⟨n, hf, hd, hn⟩
  · subst hf
    have C3 := Lib.hid (fun w hl => decimalv ⟨ds.toArray⟩ _ rfl w hl HD.out)
    obtain ⟨g, hg⟩ : ∃ g, (Pl.dec (⟨ds.toArray⟩ : ByteArray).data.toList).isSome = g := ⟨_, rfl⟩
    rw [hg] at C3
    clear hg
    go_enter Tryz.func67, Tryz.ntmps67
    go_wp2_with fail
    refine wp_scope_fwd 0 rfl ?_
    go_wp2_with fail
    refine (C2.out _).mono ?_
    rintro e w1 ⟨rfl, hb1⟩
    go_wp2_with fail
    refine (C3.out _ (hl.below hl.size hb1)).mono ?_
    rintro e w2 ⟨m, rfl, hb2⟩
    have hb3 := hb1.trans (hb2.mono hb1.size)
    have h3 := h.same hb3
    have f0 := h3.free1
    have d1 := h3.wrong
    clear hb1 hb2 c0 c1 C2 C3
    go_wp2_with fail
    go_step3
    refine And.intro rfl ?_
    go_wp2_with fail
    rw [Exit.noGoto_ret]
    go_ret2
    exact ⟨rfl, h3.set1 _, (Kb.of_below hb3).trans (Kb.setCell _ _)⟩
  · subst hf
    have C3 := Lib.hid (fun w hl => decimal_no ⟨ds.toArray⟩ hd w hl HD.out)
    clear hd
    go_enter Tryz.func67, Tryz.ntmps67
    go_wp2_with fail
    refine wp_scope_fwd 0 rfl ?_
    go_wp2_with fail
    refine (C2.out _).mono ?_
    rintro e w1 ⟨rfl, hb1⟩
    go_wp2_with fail
    refine (C3.out _ (hl.below hl.size hb1)).mono ?_
    rintro e w2 ⟨m, rfl, hb2⟩
    have hb3 := hb1.trans (hb2.mono hb1.size)
    have h3 := h.same hb3
    have f0 := h3.free1
    have d1 := h3.wrong
    clear hb1 hb2 c0 c1 C2 C3
    go_wp2_with fail
    go_step3
    refine And.intro rfl ?_
    go_wp2_with fail
    rw [Exit.noGoto_ret]
    go_ret2
    exact ⟨rfl, h3.set1 _, (Kb.of_below hb3).trans (Kb.setCell _ _)⟩
  · subst hf
    have C3 := Lib.hid (fun w hl => decimal_ok ⟨ds.toArray⟩ n hd w hl (by have := HD.out; omega))
    clear hd
    have hn2 : n < 0 ∨ ∃ k : Nat, n = k ∧ (most < k ∨ ((k : Int) ≤ most ∧ bh.length < k)) := by
      rcases hn with h | h | h
      · exact Or.inl h
      · exact Or.inr ⟨n.toNat, by omega, by omega⟩
      · exact Or.inr ⟨n.toNat, by omega, by omega⟩
    clear hn
    rcases hn2 with hn | ⟨k, rfl, hn⟩
    rotate_left
    rcases hn with hn | ⟨hn, hk⟩
    all_goals
      go_enter Tryz.func67, Tryz.ntmps67
      go_wp2_with fail
      refine wp_scope_fwd 0 rfl ?_
      go_wp2_with fail
      refine (C2.out _).mono ?_
      rintro e w1 ⟨rfl, hb1⟩
      go_wp2_with fail
      refine (C3.out _ (hl.below hl.size hb1)).mono ?_
      rintro e w2 ⟨rfl, hb2⟩
      have hb3 := hb1.trans (hb2.mono hb1.size)
      have h3 := h.same hb3
      have f0 := h3.free1
      have d1 := h3.wrong
      clear hb1 hb2 c0 c1 C2 C3
      go_wp2_with fail
      go_step3
      refine And.intro rfl ?_
      go_wp2_with fail
      rw [Exit.noGoto_ret]
      go_ret2
      exact ⟨rfl, h3.set1 _, (Kb.of_below hb3).trans (Kb.setCell _ _)⟩
end Go.Proofs.YtmkinnheoejphaaGreatDoor
