/- The walk of the law GaugeExact. -/
import Derived.Test.YtdkngocinimjdaaRef8
import Derived.Deep.CutRange
import Derived.Deep.CutBlock
import Derived.Deep.QuietTactic
import Derived.BigQuiet
namespace Go.Proofs.Ytdkngocinimjdaa
open Go.RowKit
theorem run_store_float (P : Program) (w : World) (a : Addr) (m : Mode) (k : FloatKind) (x : Nat) : (store a (.float k x) m).run P w = stored P w a (.float k x) m := run_store P w a _ m rfl
attribute [local go_sem] run_store_complex run_store_float

theorem head_ok {L : List P2} (h : ∀ p ∈ L, Ok p) : Ok (L.headD (0, 0)) := by
  cases L with
  | nil => exact ⟨by decide, by decide, by decide, by decide⟩
  | cons p L => exact h p (by simp)

set_option maxRecDepth 100000 in
set_option maxHeartbeats 4000000 in
theorem exact_law (v : Value) (ac : List Ac) (w : World) (h : Acts w w.heap.size v ac) :
    Calls Try.prog 3 #[v] w fun e w' => e = .returned (.bool true) ∧ Below w.heap.size w w' := by
  obtain ⟨a, cap, rfl, hcells⟩ := h
  obtain ⟨n, hn⟩ : ∃ n, ac.length = n := ⟨_, rfl⟩
  rw [hn]
  have HCE := Lib.hid hcells
  have HN := Lib.hid hn
  clear hcells hn
  go_enter Try.func3, Try.ntmps3
  go_wp2_with fail
  refine (awake_any w).mono ?_
  rintro e w1 ⟨rfl, b1⟩
  have B1 := Lib.hid b1
  clear b1
  go_wp2_with fail
  refine (new_any w1).mono ?_
  rintro e w2 ⟨rfl, b2, hr2⟩
  have hu := Blk.new w2 #[.slice none 0 0] 29
  have hal : Below w2.heap.size w2 (w2.alloc (.cells #[.slice none 0 0] 29)) := (Below.refl _ _).alloc (Nat.le_refl _) _
  have hg2 := hr2.lt
  have hs : St w (w2.alloc (.cells #[.slice none 0 0] 29)) w1.heap.size none w2.heap.size none none #[] [] [] :=
    ⟨hr2.below hal, ⟨by simp, _, hu, rfl, .inl ⟨rfl, rfl, rfl⟩⟩, (fun p hp => by simp at hp), (by simp), (B1.out.trans (b2.mono B1.out.size)).trans (hal.mono (Nat.le_trans B1.out.size b2.size)), B1.out.size, Nat.le_trans B1.out.size b2.size, (fun k hk => by cases hk), (fun k hk => by cases hk), (by omega), (fun x hx => by cases hx)⟩
  have S0 := Lib.hid hs
  clear hs hu hal hg2 hr2 b2
  obtain ⟨g, hg⟩ : ∃ g, w1.heap.size = g := ⟨_, rfl⟩
  obtain ⟨h, hh⟩ : ∃ g, w2.heap.size = g := ⟨_, rfl⟩
  rw [hg, hh] at S0
  rw [hg]
  clear hg
  go_wp2_with fail
  go_loopw [5] (fun iv wr => ∃ (k : Nat) (gb hb : Option Nat) (L : List P2), k ≤ min n 150 ∧ iv = .int .i64 k ∧ St w wr g gb h hb none #[] L L) (fun iv _ => min n 150 - (intOf iv).toNat)
  case atStart => exact ⟨0, none, none, [], Nat.zero_le _, rfl, S0.out⟩
  case round =>
    obtain ⟨k, gb, hb, L, hk, rfl, hst⟩ := hrel
    have S1 := Lib.hid hst
    clear hst
    by_cases hlt : k < min n 150
    · have h1 : k < n := by omega
      have h2 : k < 150 := by omega
      have h3 : (k : Int) < 150 := by omega
      obtain ⟨x, hx⟩ : ∃ x, ac[k]? = some x := ⟨_, List.getElem?_eq_getElem (by rw [HN.out]; exact h1)⟩
      obtain ⟨b, off, rfl, hbl, c0, c1, c2, c3⟩ := HCE.out k x hx
      obtain ⟨kind, re, im, pl⟩ := x
      simp only at c0 c1 c2 c3
      have e : ∀ o, wr.cell? ⟨b, o, none⟩ = w.cell? ⟨b, o, none⟩ := fun o => S1.out.low.cell (p := ⟨b, o, none⟩) hbl
      have c0' := (e _).trans c0
      have c1' := (e _).trans c1
      have c2' := (e _).trans c2
      have c3' := (e _).trans c3
      have hst := S1.out.newbox (cs := #[.int .i64 kind, .float .f64 re, .float .f64 im, .int .i64 pl])
      obtain ⟨W, hW⟩ : ∃ W, wr.alloc (.cells #[.int .i64 kind, .float .f64 re, .float .f64 im, .int .i64 pl] 32) = W := ⟨_, rfl⟩
      rw [hW] at hst
      obtain ⟨xb, hxb⟩ : ∃ xb, wr.heap.size = xb := ⟨_, rfl⟩
      rw [hxb] at hst
      have q0 := (hst.box _ rfl).1.cell (i := 0) rfl
      have q1 := (hst.box _ rfl).1.cell (i := 1) rfl
      have q2 := (hst.box _ rfl).1.cell (i := 2) rfl
      have S2 := Lib.hid hst
      clear c0 c1 c2 c3 e hx hbl hst
      go_upto_block 2 with fail
      go_cut [8, 9, 10, 11] from 21 to 163 (fun _ _ _ _ wx => ∃ gb' hb' L', St w wx g gb' h hb' (some xb) #[.int .i64 kind, .float .f64 re, .float .f64 im, .int .i64 pl] L' L')
      case first =>
        by_cases k1 : kind = 1
        · subst k1
          go_wp2_with fail
          refine (pushR S2.out re im).mono ?_
          rintro e w3 ⟨rfl, gb3, S⟩
          have S3 := Lib.hid S
          clear S
          go_wp2_with fail
          refine (pushU S3.out re im).mono ?_
          rintro e w4 ⟨rfl, hb4, S⟩
          have S4 := Lib.hid S
          clear S
          obtain ⟨c, hc⟩ : ∃ c, (pushed re im L).1 = c := ⟨_, rfl⟩
          rw [hc]
          clear hc
          have nc : (c != c) = false := by simp
          go_wp2_with fail
          go_meet
          case rel => exact ⟨gb3, hb4, _, S4.out⟩
        · have b1 : (kind == 1) = false := beq_eq_false_iff_ne.2 k1
          by_cases k2 : kind = 2
          · subst k2
            have hok := head_ok S2.out.r.ok
            have CR := shiftR S2.out
            have CU := fun w' (s : St w w' g gb h hb (some xb) #[.int .i64 2, .float .f64 re, .float .f64 im, .int .i64 pl] L.tail L) => shiftU s
            obtain ⟨p, hp⟩ : ∃ p, L.headD (0, 0) = p := ⟨_, rfl⟩
            obtain ⟨bb, hbb⟩ : ∃ bb, (!L.isEmpty) = bb := ⟨_, rfl⟩
            rw [hp, hbb] at CR
            rw [hp] at hok
            simp only [hp, hbb] at CU
            obtain ⟨p1, p2⟩ := p
            unfold Ok at hok
            simp only at CR CU hok
            have i1' := Fl.ofInt_is (z := p1) (by omega)
            have i2' := Fl.ofInt_is (z := p2) (by omega)
            have HCR := Lib.hid CR
            have HCU := Lib.hid CU
            have nb : (bb != bb) = false := by simp
            have HOF := Lib.hid (And.intro i1' i2')
            clear CR CU hp hbb hok i1' i2' b1
            go_wp2_with fail
            refine HCR.out.mono ?_
            rintro e w3 ⟨⟨vv, rfl, x1, y1, rfl, i1, i2⟩, S⟩
            have o1 := ord_is i1 HOF.out.1
            have o2 := ord_is i2 HOF.out.2
            have S3 := Lib.hid S
            clear S i1 i2 HCR
            go_wp2_with fail
            refine (HCU.out _ S3.out).mono ?_
            rintro e w4 ⟨rfl, S⟩
            have hd := Blk.new w4 #[.int .i64 p1, .int .i64 p2] 39
            have S5 := S.below ((Below.refl _ _).alloc (Nat.le_refl _) (.cells #[.int .i64 p1, .int .i64 p2] 39))
            obtain ⟨W4, hW4⟩ : ∃ W, w4.alloc (.cells #[.int .i64 p1, .int .i64 p2] 39) = W := ⟨_, rfl⟩
            rw [hW4] at hd S5
            have d0 := hd.cell (i := 0) rfl
            have d1 := hd.cell (i := 1) rfl
            have S4 := Lib.hid S5
            clear S S5 hd HCU
            go_wp2_with fail
            refine (rcomplex_any p1 p2 _).mono ?_
            rintro e w6 ⟨rfl, b6⟩
            have S6 := Lib.hid (S4.out.below b6)
            clear b6 d0 d1 hW4
            go_wp2_with fail
            go_meet
            case rel => exact ⟨gb, hb, _, S6.out⟩
          · have b2 : (kind == 2) = false := beq_eq_false_iff_ne.2 k2
            by_cases k3 : kind = 3
            · subst k3
              have q3 := (S2.out.box _ rfl).1.cell (i := 3) rfl
              have SD := S2.out.below (below_drew (B := W.heap.size) W)
              obtain ⟨c, hc⟩ : ∃ c, (putAt pl re im L).1 = c := ⟨_, rfl⟩
              obtain ⟨L', hL'⟩ : ∃ c, (putAt pl re im L).2 = c := ⟨_, rfl⟩
              have CR := fun wx M (s : St w wx g gb h hb (some xb) #[.int .i64 3, .float .f64 re, .float .f64 im, .int .i64 pl] L M) => setR s pl re im
              have CU := fun wx M (s : St w wx g gb h hb (some xb) #[.int .i64 3, .float .f64 re, .float .f64 im, .int .i64 pl] M L) => setU s pl re im
              simp only [hc, hL'] at CR CU
              have HCR := Lib.hid CR
              have HCU := Lib.hid CU
              have nc : (c != c) = false := by simp
              clear CR CU hc hL' b1 b2
              go_wp2_with fail
              go_region_with (first | (go_at_call 16; refine (HCR.out _ _ (by assumption)).mono ?_; rintro e w5 ⟨rfl, S5⟩; have q5 := (S5.box _ rfl).1.cell (i := 3) rfl) | (go_at_call 17; refine (HCU.out _ _ (by assumption)).mono ?_; rintro e w6 ⟨rfl, S6⟩; have q6 := (S6.box _ rfl).1.cell (i := 3) rfl))
              all_goals (
                go_wp2_with fail
                go_meet
                case rel => first | exact ⟨gb, hb, _, S6⟩ | exact ⟨gb, hb, _, S5⟩)
            · have b3 : (kind == 3) = false := beq_eq_false_iff_ne.2 k3
              by_cases k4 : kind = 4
              · subst k4
                obtain ⟨n0, hn0⟩ := over_is L pl
                have q3 := cell_regrown ((S2.out.box _ rfl).1.cell (i := 3) rfl)
                have hw : ∀ d os, St w (Sort.grow (redrawn W d) os) g gb h hb (some xb) #[.int .i64 4, .float .f64 re, .float .f64 im, .int .i64 pl] L L := fun d os => S2.out.below (below_regrown W d os)
                have C1 : ∀ d os, _ := fun d os => Calls.regrown_of (overR (hw d os) hn0)
                have C2 : ∀ d os, _ := fun d os => Calls.regrown_of (overU (hw d os) hn0)
                have HC1 := Lib.hid C1
                have HC2 := Lib.hid C2
                have nc : ((n0 : Int) != (n0 : Int)) = false := by simp
                clear C1 C2 hw hn0 b1 b2 b3
                go_wp2_with fail
                refine wp_region_quiet_below (by kernel_rfl) (by kernel_rfl) ?_
                repeat (go_big_quiet_step (first | (go_at_call 18; with_reducible exact HC1.out _ _) | (go_at_call 19; with_reducible exact HC2.out _ _)))
                refine wpQuiet_nil ?_
                intro w6 hw6
                obtain ⟨⟨dq, osq⟩, hw6'⟩ := hw6
                have S6 := Lib.hid (S2.out.below (below_regrown W dq osq))
                rw [← hw6'] at S6
                clear hw6'
                go_wp2_with fail
                go_meet
                case rel => exact ⟨gb, hb, _, S6.out⟩
              · have b4 : (kind == 4) = false := beq_eq_false_iff_ne.2 k4
                go_wp2_with fail
                go_meet
                case rel => exact ⟨gb, hb, _, S2.out⟩
      case rest =>
        obtain ⟨gb2, hb2, L2, hst2⟩ := hcut
        have S3 := Lib.hid hst2
        clear hst2 S2 S1
        cases hv : ((Fl.part re).isSome && (Fl.part im).isSome) with
        | true =>
          rw [Bool.and_eq_true] at hv
          obtain ⟨m, hm⟩ := Option.isSome_iff_exists.1 hv.1
          obtain ⟨n', hn'⟩ := Option.isSome_iff_exists.1 hv.2
          have HF := Lib.hid (fun w => from_ok hm hn' w)
          have HP := Lib.hid (fun w => parts_ok re im m n' hm hn' w)
          have nm : ((m : Int) != (m : Int)) = false := by simp
          have nn : ((n' : Int) != (n' : Int)) = false := by simp
          clear hv hm hn'
          go_wp2_with fail
          refine (HF.out _).mono ?_
          rintro e w7 ⟨rfl, b7⟩
          have hd := Blk.new w7 #[.int .i64 m, .int .i64 n'] 39
          have hs7 := (S3.out.below b7).below ((Below.refl _ _).alloc (Nat.le_refl _) (.cells #[.int .i64 m, .int .i64 n'] 39))
          obtain ⟨W7, hW7⟩ : ∃ W, w7.alloc (.cells #[.int .i64 m, .int .i64 n'] 39) = W := ⟨_, rfl⟩
          rw [hW7] at hd hs7
          have d0 := hd.cell (i := 0) rfl
          have d1 := hd.cell (i := 1) rfl
          have S4 := Lib.hid hs7
          clear hs7 hd b7
          go_wp2_with fail
          refine (HP.out _).mono ?_
          rintro e w8 ⟨rfl, rfl⟩
          go_upto_region 29 with fail
          obtain ⟨a1, b1', a2, b2', T1, T2, U1, U2, A⟩ := asks_of S4.out pl
          obtain ⟨v, hu1, hu2⟩ := S4.out.u.lies
          obtain ⟨ao, cap2, rfl, -, -⟩ := hu2.make
          obtain ⟨N, hNN⟩ : ∃ N, L2.length = N := ⟨_, rfl⟩
          rw [hNN] at A hu1
          have c0 := cell_regrown (hu1.cell (i := 0) rfl)
          have q3 := cell_regrown ((S4.out.box _ rfl).1.cell (i := 3) rfl)
          have o1 := A.o1
          have o2 := A.o2
          have o3 := A.o3
          have o4 := A.o4
          have nN : ((N : Int) != (N : Int)) = false := by simp
          have HA := Lib.hid A
          clear A hu1 hu2 hNN c0' c1' c2' c3' q0 q1 q2 hW7 d0 d1
          go_wp2_with fail
          refine wp_region_quiet_below (by kernel_rfl) (by kernel_rfl) ?_
          repeat (go_big_quiet_step (first | (go_at_call 22; with_reducible exact HA.out.len _ _) | (go_at_call 23; with_reducible exact HA.out.sum _ _) | (go_at_call 25; with_reducible exact HA.out.ahead _ _) | (go_at_call 24; with_reducible exact HA.out.all _ _) | (go_at_call 24; with_reducible exact HA.out.some_ _ _) | (go_at_call 15; with_reducible exact HA.out.cx _ _ _ _)))
          refine wpQuiet_nil ?_
          intro w9 hw9
          obtain ⟨⟨dq, osq⟩, hw9'⟩ := hw9
          have S6 := Lib.hid (S4.out.below (below_regrown W7 dq osq))
          rw [← hw9'] at S6
          clear hw9'
          go_wp2_with fail
          go_roundw
          case rel => exact ⟨k + 1, gb2, hb2, L2, by omega, by go_num, S6.out.nobox⟩
          case measure => simp [intOf]; omega
        | false =>
          have hno : Fl.part re = none ∨ Fl.part im = none := by
            cases h1 : Fl.part re with
            | none => exact .inl rfl
            | some m =>
              cases h2 : Fl.part im with
              | none => exact .inr rfl
              | some n' => rw [h1, h2] at hv; cases hv
          have HF := Lib.hid (fun w => from_no hv w)
          have HP := Lib.hid (fun w => parts_no re im hno w)
          clear hv hno
          go_wp2_with fail
          refine (HF.out _).mono ?_
          rintro e w7 ⟨⟨m, n', rfl⟩, b7⟩
          have hd := Blk.new w7 #[.int .i64 m, .int .i64 n'] 39
          have hs7 := (S3.out.below b7).below ((Below.refl _ _).alloc (Nat.le_refl _) (.cells #[.int .i64 m, .int .i64 n'] 39))
          obtain ⟨W7, hW7⟩ : ∃ W, w7.alloc (.cells #[.int .i64 m, .int .i64 n'] 39) = W := ⟨_, rfl⟩
          rw [hW7] at hd hs7
          have d0 := hd.cell (i := 0) rfl
          have d1 := hd.cell (i := 1) rfl
          have S4 := Lib.hid hs7
          clear hs7 hd b7
          go_wp2_with fail
          refine (HP.out _).mono ?_
          rintro e w8 ⟨rfl, rfl⟩
          go_upto_region 29 with fail
          obtain ⟨a1, b1', a2, b2', T1, T2, U1, U2, A⟩ := asks_of S4.out pl
          obtain ⟨v, hu1, hu2⟩ := S4.out.u.lies
          obtain ⟨ao, cap2, rfl, -, -⟩ := hu2.make
          obtain ⟨N, hNN⟩ : ∃ N, L2.length = N := ⟨_, rfl⟩
          rw [hNN] at A hu1
          have c0 := cell_regrown (hu1.cell (i := 0) rfl)
          have q3 := cell_regrown ((S4.out.box _ rfl).1.cell (i := 3) rfl)
          have o1 := A.o1
          have o2 := A.o2
          have o3 := A.o3
          have o4 := A.o4
          have nN : ((N : Int) != (N : Int)) = false := by simp
          have HA := Lib.hid A
          clear A hu1 hu2 hNN c0' c1' c2' c3' q0 q1 q2 hW7 d0 d1
          go_wp2_with fail
          refine wp_region_quiet_below (by kernel_rfl) (by kernel_rfl) ?_
          repeat (go_big_quiet_step (first | (go_at_call 22; with_reducible exact HA.out.len _ _) | (go_at_call 23; with_reducible exact HA.out.sum _ _) | (go_at_call 25; with_reducible exact HA.out.ahead _ _) | (go_at_call 24; with_reducible exact HA.out.all _ _) | (go_at_call 24; with_reducible exact HA.out.some_ _ _) | (go_at_call 15; with_reducible exact HA.out.cx _ _ _ _)))
          refine wpQuiet_nil ?_
          intro w9 hw9
          obtain ⟨⟨dq, osq⟩, hw9'⟩ := hw9
          have S6 := Lib.hid (S4.out.below (below_regrown W7 dq osq))
          rw [← hw9'] at S6
          clear hw9'
          go_wp2_with fail
          go_roundw
          case rel => exact ⟨k + 1, gb2, hb2, L2, by omega, by go_num, S6.out.nobox⟩
          case measure => simp [intOf]; omega
    · obtain rfl : k = min n 150 := by omega
      by_cases h60 : n ≤ 150
      · have e1 : min n 150 = n := by omega
        rw [e1] at *
        go_wp2_with fail
        go_ret
        exact ⟨rfl, S1.out.low⟩
      · have e1 : min n 150 = 150 := by omega
        rw [e1] at *
        go_wp2_with fail
        go_ret
        exact ⟨rfl, S1.out.low⟩
end Go.Proofs.Ytdkngocinimjdaa
