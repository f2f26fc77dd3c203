import Derived.Test.YtjccfilbihkfpaaGreatDoorM22
import Derived.Deep.RegionHeld3
import Derived.Deep.DrawnRows

/- TWO LISTS OF GROUPS: all, and those of one name. -/
namespace Go.Proofs.YtjccfilbihkfpaaGreatDoor
open Go.RowKit

def sh : ByteArray := ⟨#[104]⟩
def ghB (n : ByteArray) : Bool := n.toList == [103] || n.toList == [104]
theorem ghB_iff {n : ByteArray} (h : ghB n = true) : n = sg ∨ n = sh := by
  unfold ghB at h
  rw [Bool.or_eq_true, beq_iff_eq, beq_iff_eq] at h
  rcases h with h | h
  · exact .inl (Fk.list_ext (h.trans (by rw [Lib.toList_data]; rfl)))
  · exact .inr (Fk.list_ext (h.trans (by rw [Lib.toList_data]; rfl)))
/-- Two lists of groups: all, and those of one name. -/
structure LkI (n : ByteArray) (i : Nat) (A B : List Fk.G) : Prop where
  a : Gk i A
  b : Gk i B
  same : Fk.fnd A n = Fk.fnd B n
  na : ∀ g ∈ A, g.name = sg ∨ g.name = sh
  nb : ∀ g ∈ B, g.name = sg ∨ g.name = sh
theorem LkI.nil (n : ByteArray) : LkI n 0 [] [] := ⟨Gk.nil, Gk.nil, rfl, fun g h => (by cases h), fun g h => (by cases h)⟩
theorem LkI.skip {n : ByteArray} {i : Nat} {A B : List Fk.G} (h : LkI n i A B) : LkI n (i + 1) A B := ⟨h.a.mono (by omega), h.b.mono (by omega), h.same, h.na, h.nb⟩
theorem names_next {k : Int} {L : List Fk.G} (h : Gk k L) (h0 : 0 ≤ k) (hk : k ≤ 1000) (hn : ∀ g ∈ L, g.name = sg ∨ g.name = sh) (parts : Int) (q : Fk.Q) (hq : ghB q.group = true) : ∀ g ∈ Fk.next L parts q, g.name = sg ∨ g.name = sh := fun g hg => by
  rcases h.next_names h0 hk parts q hg with e | ⟨o, ho, e⟩
  · rw [e]; exact ghB_iff hq
  · rw [← e]; exact hn o ho
theorem LkI.other {n : ByteArray} {i : Nat} {A B : List Fk.G} (h : LkI n i A B) (hi : i ≤ 100) (parts : Int) (q : Fk.Q) (hq : ghB q.group = true) (hne : q.group ≠ n) : LkI n (i + 1) (Fk.next A parts q) B :=
  ⟨h.a.next (by omega) (by omega) parts q, h.b.mono (by omega), by rw [h.a.next_other (by omega) parts q fun e => hne e.symm]; exact h.same, names_next h.a (by omega) (by omega) h.na parts q hq, h.nb⟩
theorem LkI.own {n : ByteArray} {i : Nat} {A B : List Fk.G} (h : LkI n i A B) (hi : i ≤ 100) (parts : Int) (q : Fk.Q) (hq : ghB q.group = true) (he : q.group = n) : LkI n (i + 1) (Fk.next A parts q) (Fk.next B parts q) := by
  have ha := Fk.two h.a.ok _ _ h.na
  have hb := Fk.two h.b.ok _ _ h.nb
  subst he
  refine ⟨h.a.next (by omega) (by omega) parts q, h.b.next (by omega) (by omega) parts q, ?_, names_next h.a (by omega) (by omega) h.na parts q hq, names_next h.b (by omega) (by omega) h.nb parts q hq⟩
  rw [h.a.next_same (by omega) parts q fun _ => by omega, h.b.next_same (by omega) parts q fun _ => by omega, h.same, Fk.decide_own parts q h.same (by omega) (by omega)]
end Go.Proofs.YtjccfilbihkfpaaGreatDoor

/- THE WALK OF FlockLooks. -/
namespace Go.Proofs.YtjccfilbihkfpaaGreatDoor
open Go.RowKit

theorem look_len (L : List Fk.G) (q : Fk.Q) : (Fk.look L q).parts.length ≤ 64 := by
  have ho : ∀ g y, (Fk.own g y).length ≤ 64 := fun g y => by
    have h1 := Sh.pOf_len 0 (Sh.msOf g.parts g.mem) y
    have h2 : (Sh.msOf g.parts g.mem).length ≤ 3 := Sh.msOf_len
    unfold Fk.own
    omega
  unfold Fk.look
  split
  · split
    · exact Nat.zero_le _
    · exact ho _ _
  · split
    · split <;> exact Nat.zero_le _
    · exact Nat.zero_le _
set_option maxHeartbeats 4000000 in
set_option maxRecDepth 100000 in
theorem looks_any {A : Nat → Prop} (parts : Int) (v : Value) (l : List (Fk.Q × Value)) (wq : Fk.Q) (wv : Value) (w : World) (lb : Lb w) (h : Rqs A w v l) :
    Calls Tryz.prog 7 #[.int .i64 parts, v, qval wq wv] w fun e w' => e = .returned (.bool true) ∧ Below w.heap.size w w' := by
  obtain ⟨wcl, wqn, wkd, wpt, wsq, wof, wmx, wgn, WN, WM⟩ := wq
  obtain ⟨a, cap, rfl⟩ := h.form
  obtain ⟨m, hm⟩ : ∃ m, l.length = m := ⟨_, rfl⟩
  have HM := Lib.hid hm
  obtain ⟨W1, hW1⟩ : ∃ W, w.alloc (.cells #[.int .i64 wcl, .int .i64 wqn, .int .i64 wkd, .int .i64 wpt, .int .i64 wsq, .int .i64 wof, .int .i64 wmx, .int .i64 wgn, .string WN, .string WM, wv] 34) = W := ⟨_, rfl⟩
  have hb1 : Below w.heap.size w W1 := by rw [← hW1]; exact (Below.refl _ _).alloc (Nat.le_refl _) _
  have k1 : Blk W1 w.heap.size #[.int .i64 wcl, .int .i64 wqn, .int .i64 wkd, .int .i64 wpt, .int .i64 wsq, .int .i64 wof, .int .i64 wmx, .int .i64 wgn, .string WN, .string WM, wv] 34 := by rw [← hW1]; exact Blk.new _ _ _
  have HLB : Hid (∀ wx, Below w.heap.size w wx → Lb wx) := Lib.hid fun wx hb => lb.below lb.size hb
  have HAW := Lib.hid (awake_any W1 (lb.below lb.size hb1))
  have HV := Lib.hid (h.below hb1)
  have HB1 := Lib.hid hb1
  have HQ1 := Lib.hid k1
  rw [hm] at HV ⊢
  clear lb h hm hb1 k1
  go_enter Tryz.func7, Tryz.ntmps7
  go_wp2_with fail
  refine HAW.out.mono ?_
  rintro e w2 ⟨rfl, hb2⟩
  have HB2 := Lib.hid (HB1.out.trans (hb2.mono HB1.out.size))
  have HQ2 := Lib.hid (HQ1.out.below hb2)
  have HV2 := Lib.hid (HV.out.below hb2)
  obtain ⟨d0, d1, d2, d3, d4, d5, d6, d7, d8, d9, d10⟩ := HQ2.out.cells11
  clear hb2 HAW HV HQ1
  by_cases h80 : 80 < m
  · have h80i : (80 : Int) < (m : Int) := by omega
    go_wp2_with fail
    go_ret
    exact ⟨rfl, HB2.out⟩
  have h80i : ¬ ((80 : Int) < (m : Int)) := by omega
  by_cases hwn : 200 < WN.size
  · have hwni : (200 : Int) < (WN.size : Int) := by omega
    go_wp2_with fail
    go_ret
    exact ⟨rfl, HB2.out⟩
  have hwni : ¬ ((200 : Int) < (WN.size : Int)) := by omega
  by_cases hwm : 200 < WM.size
  · have hwmi : (200 : Int) < (WM.size : Int) := by omega
    go_wp2_with fail
    go_ret
    exact ⟨rfl, HB2.out⟩
  have hwmi : ¬ ((200 : Int) < (WM.size : Int)) := by omega
  go_upto_region 7 with fail
  obtain ⟨W3, hW3⟩ : ∃ W, (w2.alloc (.cells #[] 44)).alloc (.cells #[] 44) = W := ⟨_, rfl⟩
  have hb3 : Below w2.heap.size w2 W3 := by rw [← hW3]; exact ((Below.refl _ _).alloc (Nat.le_refl _) _).alloc (by simp) _
  rw [hW3]
  clear hW3
  have HB3 := Lib.hid (HB2.out.trans (hb3.mono HB2.out.size))
  have HQ3 := Lib.hid (HQ2.out.below hb3)
  have HV3 := Lib.hid (HV2.out.below hb3)
  have HR3 := Lib.hid (Below.refl W3.heap.size W3)
  clear hb3 d0 d1 d2 d3 d4 d5 d6 d7 d8 d9 d10 HV2 HQ2 HB2
  go_wp2_with fail
  go_loopw [7, 8, 9, 10] (fun s7 s8 s9 _ wr => ∃ (i : Nat) (GA GB : List Fk.G), i ≤ m ∧ s9 = .int .i64 i ∧ GsR (fun _ => True) wr s7 GA ∧ GsR (fun _ => True) wr s8 GB ∧ LkI WN i GA GB ∧ Below W3.heap.size W3 wr) (fun _ _ s9 _ _ => m - (intOf s9).toNat)
  case atStart => exact ⟨0, [], [], Nat.zero_le _, rfl, GsR.empty _ _ _ _, GsR.empty _ _ _ _, LkI.nil _, HR3.out⟩
  case round =>
    obtain ⟨i, GA, GB, hi, rfl, hA, hB, hI, hb⟩ := hrel
    obtain ⟨aA, cA, rfl⟩ := hA.form
    obtain ⟨aB, cB, rfl⟩ := hB.form
    obtain ⟨nA, hnA⟩ : ∃ n, GA.length = n := ⟨_, rfl⟩
    obtain ⟨nB, hnB⟩ : ∃ n, GB.length = n := ⟨_, rfl⟩
    rw [hnA] at hA ⊢
    rw [hnB] at hB ⊢
    have HI := Lib.hid hI
    have HBW := Lib.hid (HB3.out.trans (hb.mono HB3.out.size))
    have HB := Lib.hid hb
    have HQR := Lib.hid (HQ3.out.below hb)
    clear hI
    by_cases hlt : i < m
    · obtain ⟨x, hx⟩ : ∃ x, l[i]? = some x := ⟨_, List.getElem?_eq_getElem (by rw [HM.out]; exact hlt)⟩
      obtain ⟨b, p, cap', ev, -, hbl, hc⟩ := (HV3.out.below hb).at hx
      rw [HM.out] at ev
      obtain rfl : a = some ⟨b, p, none⟩ := by injection ev
      obtain ⟨ra, rn, rc, hrv⟩ := HV3.out.2 x (List.mem_of_getElem? hx)
      obtain ⟨⟨cl, qn, kd, pt, sq, of, mx, gn, N, M⟩, rv⟩ := x
      simp only at hrv
      subst hrv
      have e0 := hc 0 _ rfl
      rw [Nat.add_zero] at e0
      have e1 := hc 1 _ rfl
      have e2 := hc 2 _ rfl
      have e3 := hc 3 _ rfl
      have e4 := hc 4 _ rfl
      have e5 := hc 5 _ rfl
      have e6 := hc 6 _ rfl
      have e7 := hc 7 _ rfl
      have e8 := hc 8 _ rfl
      have e9 := hc 9 _ rfl
      have e10 := hc 10 _ rfl
      simp only at e0 e1 e2 e3 e4 e5 e6 e7 e8 e9 e10
      have i0 : (0 : Int) ≤ (i : Int) := by omega
      have i1 : (i : Int) < (m : Int) := by omega
      clear ev hx hc hb
      go_upto_region 11 with fail
      obtain ⟨W4, hW4⟩ : ∃ W, wr.alloc (.cells #[.int .i64 cl, .int .i64 qn, .int .i64 kd, .int .i64 pt, .int .i64 sq, .int .i64 of, .int .i64 mx, .int .i64 gn, .string N, .string M, .slice ra rn rc] 34) = W := ⟨_, rfl⟩
      have hb4 : Below wr.heap.size wr W4 := by rw [← hW4]; exact (Below.refl _ _).alloc (Nat.le_refl _) _
      have k4 : Blk W4 wr.heap.size #[.int .i64 cl, .int .i64 qn, .int .i64 kd, .int .i64 pt, .int .i64 sq, .int .i64 of, .int .i64 mx, .int .i64 gn, .string N, .string M, .slice ra rn rc] 34 := by rw [← hW4]; exact Blk.new _ _ _
      rw [hW4]
      clear hW4 e0 e1 e2 e3 e4 e5 e6 e7 e8 e9 e10
      have HBW4 := Lib.hid (HBW.out.trans (hb4.mono HBW.out.size))
      have HB4 := Lib.hid (HB.out.trans (hb4.mono HB.out.size))
      have HQR4 := Lib.hid (HQR.out.below hb4)
      have HK4 := Lib.hid k4
      have HA4 := Lib.hid (hA.below hb4)
      have HBB4 := Lib.hid (hB.below hb4)
      obtain ⟨d0, d1, d2, d3, d4, d5, d6, d7, d8, d9, d10⟩ := k4.cells11
      clear hb4 k4 hA hB
      by_cases hn2 : 200 < N.size
      · have hni : (200 : Int) < (N.size : Int) := by omega
        go_wp2_with fail
        go_ret
        exact ⟨rfl, HBW4.out⟩
      have hni : ¬ ((200 : Int) < (N.size : Int)) := by omega
      by_cases hm2 : 200 < M.size
      · have hmi : (200 : Int) < (M.size : Int) := by omega
        go_wp2_with fail
        go_ret
        exact ⟨rfl, HBW4.out⟩
      have hmi : ¬ ((200 : Int) < (M.size : Int)) := by omega
      go_upto_region 13 with fail
      go_cut [57] (fun s57 wx => s57 = .bool (!ghB N) ∧ Eqw W4 wx)
      case first =>
        cases h1 : (N.toList == [103]) with
        | true =>
          go_wp2_with fail
          go_meet
          case rel => exact ⟨by unfold ghB; rw [h1] <;> rfl, rfl⟩
        | false =>
          cases h2 : (N.toList == [104]) with
          | true =>
            go_wp2_with fail
            go_meet
            case rel => exact ⟨by unfold ghB; rw [h1, h2] <;> rfl, rfl⟩
          | false =>
            go_wp2_with fail
            go_meet
            case rel => exact ⟨by unfold ghB; rw [h1, h2] <;> rfl, rfl⟩
      case rest =>
        obtain ⟨rfl, he⟩ := hcut
        have hwe : W4 = wc := he.symm
        subst hwe
        clear he
        cases hgh : ghB N with
        | false =>
          go_wp2_with fail
          go_roundw
          case rel => exact ⟨i + 1, GA, GB, by omega, by go_num, HA4.out, HBB4.out, HI.out.skip, HB4.out⟩
          case measure => simp [intOf]; omega
        | true =>
          have HGH := Lib.hid hgh
          have HDA := Lib.hid (dec_any _ GA parts ⟨cl, qn, kd, pt, sq, of, mx, gn, N, M⟩ (.slice ra rn rc) i W4 (HLB.out _ HBW4.out) HA4.out HI.out.a (by omega))
          clear hgh
          go_wp2_with fail
          refine HDA.out.mono ?_
          rintro e w5 ⟨K, V, rfl, hKV, hb5⟩
          have HKV := Lib.hid hKV
          have HBW5 := Lib.hid (HBW4.out.trans (hb5.mono HBW4.out.size))
          have HB5 := Lib.hid (HB4.out.trans (hb5.mono HB4.out.size))
          have HNA := Lib.hid (next_any _ GA parts ⟨cl, qn, kd, pt, sq, of, mx, gn, N, M⟩ K V i w5 (HLB.out _ HBW5.out) (HA4.out.below hb5) HI.out.a (by omega) hKV.1 hKV.2.1 hKV.2.2)
          have HBB5 := Lib.hid (HBB4.out.below hb5)
          have HQR5 := Lib.hid (HQR4.out.below hb5)
          have HK5 := Lib.hid (HK4.out.below hb5)
          clear hb5 hKV HDA d0 d1 d2 d3 d4 d5 d6 d7 d8 d9 d10
          go_wp2_with fail
          refine HNA.out.mono ?_
          rintro e w6 ⟨hb6, lab, v6, rfl, hO⟩
          have HA6 := Lib.hid (hO.rd.mono (A' := fun _ => True) fun _ _ => trivial)
          obtain ⟨a6, c6, rfl⟩ := hO.form
          have HBW6 := Lib.hid (HBW5.out.trans (hb6.mono HBW5.out.size))
          have HB6 := Lib.hid (HB5.out.trans (hb6.mono HB5.out.size))
          have HBB6 := Lib.hid (HBB5.out.below hb6)
          have HK6 := Lib.hid (HK5.out.below hb6)
          have w8 : w6.cell? ⟨w.heap.size, 8, none⟩ = some (.string WN) := (HQR5.out.below hb6).cell rfl
          obtain ⟨d0, d1, d2, d3, d4, d5, d6, d7, d8, d9, d10⟩ := HK6.out.cells11
          clear hb6 hO HNA
          by_cases hnw : N = WN
          · subst hnw
            have hd : (N.toList == N.toList) = true := by simp
            have HDB := Lib.hid (dec_any _ GB parts ⟨cl, qn, kd, pt, sq, of, mx, gn, N, M⟩ (.slice ra rn rc) i w6 (HLB.out _ HBW6.out) HBB6.out HI.out.b (by omega))
            go_wp2_with fail
            refine HDB.out.mono ?_
            rintro e w7 ⟨K7, V7, rfl, hKV7, hb7⟩
            have HBW7 := Lib.hid (HBW6.out.trans (hb7.mono HBW6.out.size))
            have HB7 := Lib.hid (HB6.out.trans (hb7.mono HB6.out.size))
            have HNB := Lib.hid (next_any _ GB parts ⟨cl, qn, kd, pt, sq, of, mx, gn, N, M⟩ K7 V7 i w7 (HLB.out _ HBW7.out) (HBB6.out.below hb7) HI.out.b (by omega) hKV7.1 hKV7.2.1 hKV7.2.2)
            have HA7 := Lib.hid (HA6.out.below hb7)
            clear hb7 hKV7 HDB w8 d0 d1 d2 d3 d4 d5 d6 d7 d8 d9 d10
            go_wp2_with fail
            refine HNB.out.mono ?_
            rintro e w8 ⟨hb8, lab8, v8, rfl, hO8⟩
            have HB8 := Lib.hid (hO8.rd.mono (A' := fun _ => True) fun _ _ => trivial)
            have HA8 := Lib.hid (HA7.out.below hb8)
            have HBE := Lib.hid (HB7.out.trans (hb8.mono HB7.out.size))
            obtain ⟨a8, c8, rfl⟩ := hO8.form
            clear hb8 hO8 HNB
            go_wp2_with fail
            go_roundw
            case rel => exact ⟨i + 1, _, _, by omega, by go_num, HA8.out, HB8.out, HI.out.own (by omega) parts ⟨cl, qn, kd, pt, sq, of, mx, gn, N, M⟩ HGH.out rfl, HBE.out⟩
            case measure => simp [intOf]; omega
          · have hd := str_ne hnw
            go_wp2_with fail
            go_roundw
            case rel => exact ⟨i + 1, _, _, by omega, by go_num, HA6.out, HBB6.out, HI.out.other (by omega) parts ⟨cl, qn, kd, pt, sq, of, mx, gn, N, M⟩ HGH.out hnw, HB6.out⟩
            case measure => simp [intOf]; omega
    · have him : i = m := by omega
      have hlo := Fk.look_own ⟨wcl, wqn, wkd, wpt, wsq, wof, wmx, wgn, WN, WM⟩ HI.out.same
      obtain ⟨t, ht⟩ : ∃ t, Fk.look GA ⟨wcl, wqn, wkd, wpt, wsq, wof, wmx, wgn, WN, WM⟩ = t := ⟨_, rfl⟩
      have HTL : Hid (t.parts.length ≤ 64) := Lib.hid (by rw [← ht]; exact look_len _ _)
      have HCA : Hid (∀ wx, Below wr.heap.size wr.drew wx → Calls Tryz.prog 20 #[.slice aA nA cA, qval ⟨wcl, wqn, wkd, wpt, wsq, wof, wmx, wgn, WN, WM⟩ wv] wx fun e w' => RspOut wx wcl wqn t e w') := Lib.hid fun wx hb => by rw [← ht]; exact look_any _ GA ⟨wcl, wqn, wkd, wpt, wsq, wof, wmx, wgn, WN, WM⟩ wv i wx (hA.below (of_drew hb)) HI.out.a (by omega)
      have HCB : Hid (∀ wx, Below wr.heap.size wr.drew wx → Calls Tryz.prog 20 #[.slice aB nB cB, qval ⟨wcl, wqn, wkd, wpt, wsq, wof, wmx, wgn, WN, WM⟩ wv] wx fun e w' => RspOut wx wcl wqn t e w') := Lib.hid fun wx hb => by rw [← ht, hlo]; exact look_any _ GB ⟨wcl, wqn, wkd, wpt, wsq, wof, wmx, wgn, WN, WM⟩ wv i wx (hB.below (of_drew hb)) HI.out.b (by omega)
      obtain ⟨d0, d1, d2, d3, d4, d5, d6, d7, d8, d9, d10⟩ := HQR.out.cells11
      have HX0 := Lib.hid (drew_refl wr)
      clear hlo ht hA hB hb HI
      go_upto_region 17 with fail
      have hB := HX0.out
      go_region_held3 (fun w' => w'.cell? ⟨w.heap.size, 0, none⟩ = some (.int .i64 wcl) ∧ w'.cell? ⟨w.heap.size, 1, none⟩ = some (.int .i64 wqn) ∧ w'.cell? ⟨w.heap.size, 2, none⟩ = some (.int .i64 wkd) ∧ w'.cell? ⟨w.heap.size, 3, none⟩ = some (.int .i64 wpt) ∧ w'.cell? ⟨w.heap.size, 4, none⟩ = some (.int .i64 wsq) ∧ w'.cell? ⟨w.heap.size, 5, none⟩ = some (.int .i64 wof) ∧ w'.cell? ⟨w.heap.size, 6, none⟩ = some (.int .i64 wmx) ∧ w'.cell? ⟨w.heap.size, 7, none⟩ = some (.int .i64 wgn) ∧ w'.cell? ⟨w.heap.size, 8, none⟩ = some (.string WN) ∧ w'.cell? ⟨w.heap.size, 9, none⟩ = some (.string WM) ∧ w'.cell? ⟨w.heap.size, 10, none⟩ = some wv)
        (first | with_reducible exact ⟨dcell hB d0, dcell hB d1, dcell hB d2, dcell hB d3, dcell hB d4, dcell hB d5, dcell hB d6, dcell hB d7, dcell hB d8, dcell hB d9, dcell hB d10⟩ | go_keep | fail)
        (first
          | (go_at_call 20; ((with_reducible refine (HCA.out _ hB).mono ?_); rintro e wA ⟨pA, rfl, hpA, hbA⟩; have hB := drew_trans hB hbA))
          | (go_at_call 20; ((with_reducible refine (HCB.out _ hB).mono ?_); rintro e wB ⟨pB, rfl, hpB, hbB⟩; have hB := drew_trans hB hbB))
          | (go_at_call 21; ((with_reducible refine (resps_same wcl wqn t _ _ pA pB _ (by first | exact hpA | exact hpA.below hbB) (by first | exact hpB | exact hpB.below hbA) HTL.out).mono ?_); rintro e wC ⟨rfl, hbC⟩; have hB := drew_trans hB hbC))
          | fail)
      all_goals
        have HE := Lib.hid (HBW.out.trans ((of_drew hB).mono HBW.out.size))
        clear hB
        go_wp2_with fail
        go_ret
        exact ⟨rfl, HE.out⟩
end Go.Proofs.YtjccfilbihkfpaaGreatDoor
