import Derived.Test.YtnkgdklmmhhkgaaGreatDoorM25
import Derived.Deep.RegionHeld3
import Derived.Deep.DrawnRows
import Derived.Deep.CutBlock
import Derived.Deep.CutRange

/- THE WALK OF FlockTurns. -/
namespace Go.Proofs.YtnkgdklmmhhkgaaGreatDoor
open Go.RowKit

theorem modN (x : Int) (k : Int) (hk : 0 < k) (hk2 : k ≤ 1048576) : ∃ H : Nat, (H : Int) < k ∧ wrap64 ((IntKind.u64.wrap x).tmod k) = (H : Int) := by
  have h0 : 0 ≤ IntKind.u64.wrap x := by
    show 0 ≤ x % _
    exact Int.emod_nonneg _ (by decide)
  have h1 : (IntKind.u64.wrap x).tmod k = (IntKind.u64.wrap x) % k := Int.tmod_eq_emod_of_nonneg h0
  have h2 : 0 ≤ (IntKind.u64.wrap x) % k := Int.emod_nonneg _ (by omega)
  have h3 : (IntKind.u64.wrap x) % k < k := Int.emod_lt_of_pos _ hk
  refine ⟨((IntKind.u64.wrap x) % k).toNat, by omega, ?_⟩
  rw [h1, Int.toNat_of_nonneg h2]
  generalize (IntKind.u64.wrap x) % k = y at h2 h3
  unfold wrap64
  omega
theorem GsR.single {A : Nat → Prop} {w : World} {b p n cap c j : Nat} {L : List Fk.G} {g : Fk.G} (h : GsR A w (.slice (some ⟨b, p, none⟩) n cap) L) (hj : L[j]? = some g) (hc : 1 ≤ c) : GsR A w (.slice (some ⟨b, p + j * 5, none⟩) 1 c) [g] := by
  obtain ⟨b', p', cap', mv, pv, ev, hA, hbl, hen, c0, c1, c2, c3, c4⟩ := h.at hj
  injection ev with e1 e2 e3
  injection e1 with e1
  injection e1 with e1 e4
  subst e1 e4
  refine ⟨[⟨g, mv, pv⟩], rfl, ⟨rfl, .inr ⟨_, c, rfl, hc, fun _ => ⟨b, p + j * 5, rfl, hA, hbl, fun i x hx => ?_⟩⟩⟩, fun e he => ?_⟩
  · simp only [List.flatMap_cons, List.flatMap_nil, List.append_nil, En.cells] at hx
    match i, hx with
    | 0, hx => injection hx with hx; subst hx; exact c0
    | 1, hx => injection hx with hx; subst hx; exact c1
    | 2, hx => injection hx with hx; subst hx; exact c2
    | 3, hx => injection hx with hx; subst hx; exact c3
    | 4, hx => injection hx with hx; subst hx; exact c4
    | i + 5, hx => simp at hx
  · simp only [List.mem_singleton] at he
    subst he
    exact hen
theorem GsR.capLe {A : Nat → Prop} {w : World} {a : Option Addr} {n c : Nat} {L : List Fk.G} (h : GsR A w (.slice a n c) L) : L.length ≤ c := by
  obtain ⟨E, rfl, h2, -⟩ := h
  rw [List.length_map]
  exact (Rds.cap h2).2.1
theorem GsR.lit {A : Nat → Prop} {w : World} {f : Fk.G} {mv pv : Value} (h : EnAt A w f mv pv) : GsR (fun _ => True) (w.alloc (.cells #[.string f.name, .int .i64 f.gen, .int .i64 f.parts, mv, pv] 44)) (.slice (some ⟨w.heap.size, 0, none⟩) 1 1) [f] :=
  ⟨[⟨f, mv, pv⟩], rfl, Rds.mono (Rds.lit (w := w) (n := 1) (size := 5) (cs := En.cells ⟨f, mv, pv⟩) 44 rfl) (fun _ _ => trivial), fun e he => by
    simp only [List.mem_singleton] at he
    subst he
    exact (EnAt.below h ((Below.refl _ _).alloc (Nat.le_refl _) _)).mono fun _ _ => trivial⟩
set_option maxHeartbeats 40000000 in
set_option maxRecDepth 100000 in
theorem turns_any {A : Nat → Prop} (parts : Int) (v : Value) (l : List (Fk.Q × Value)) (w : World) (lb : Lb w) (h : Rqs A w v l) :
    Calls Tryz.prog 4 #[.int .i64 parts, v] w fun e w' => e = .returned (.bool true) ∧ Below w.heap.size w w' := by
  obtain ⟨a, cap, rfl⟩ := h.form
  obtain ⟨m, hm⟩ : ∃ m, l.length = m := ⟨_, rfl⟩
  have HM := Lib.hid hm
  have HLB : Hid (∀ wx, Below w.heap.size w wx → Lb wx) := Lib.hid fun wx hb => lb.below lb.size hb
  have HAW := Lib.hid (awake_any w lb)
  have HV := Lib.hid h
  obtain ⟨P, hP5, hP⟩ := modN parts 5 (by decide) (by decide)
  have HP := Lib.hid hP
  have HP5 := Lib.hid hP5
  rw [hm] at HV ⊢
  clear lb h hm hP hP5
  go_enter Tryz.func4, Tryz.ntmps4
  go_wp2_with fail
  refine HAW.out.mono ?_
  rintro e w2 ⟨rfl, hb2⟩
  have HB2 := Lib.hid hb2
  have HV2 := Lib.hid (HV.out.below hb2)
  clear hb2 HAW HV
  by_cases h80 : 80 < m
  · have h80i : (80 : Int) < (m : Int) := by omega
    go_wp2_with fail
    go_ret
    exact ⟨rfl, HB2.out⟩
  have h80i : ¬ ((80 : Int) < (m : Int)) := by omega
  go_upto_region 6 with fail
  rw [HP.out]
  clear HP
  go_upto_region 7 with fail
  obtain ⟨W3, hW3⟩ : ∃ W, w2.alloc (.cells #[] 44) = W := ⟨_, rfl⟩
  have hb3 : Below w2.heap.size w2 W3 := by rw [← hW3]; exact (Below.refl _ _).alloc (Nat.le_refl _) _
  rw [hW3]
  clear hW3
  have HB3 := Lib.hid (HB2.out.trans (hb3.mono HB2.out.size))
  have HV3 := Lib.hid (HV2.out.below hb3)
  have HR3 := Lib.hid (Below.refl W3.heap.size W3)
  clear hb3 HV2 HB2
  have HP0 : Hid ((0 : Int) ≤ (P : Int)) := Lib.hid (by omega)
  go_wp2_with fail
  go_loopw [5, 6, 7, 8, 9, 10, 11, 12, 13, 14, 15, 16, 17, 18, 19, 20, 21, 22] (fun s5 s6 _ _ _ _ _ _ _ _ _ _ _ _ _ _ _ _ wr => ∃ (i : Nat) (L : List Fk.G), i ≤ m ∧ s6 = .int .i64 i ∧ GsR (fun _ => True) wr s5 L ∧ Gk i L ∧ Below W3.heap.size W3 wr) (fun _ s6 _ _ _ _ _ _ _ _ _ _ _ _ _ _ _ _ _ => m - (intOf s6).toNat)
  case atStart => exact ⟨0, [], Nat.zero_le _, rfl, GsR.empty _ _ _ _, Gk.nil, HR3.out⟩
  case round =>
    obtain ⟨i, L, hi, rfl, hL, hG, hb⟩ := hrel
    obtain ⟨aL, cL, rfl⟩ := hL.form
    obtain ⟨nL, hnL⟩ : ∃ n, L.length = n := ⟨_, rfl⟩
    rw [hnL] at hL ⊢
    have HNL := Lib.hid hnL
    have HG := Lib.hid hG
    have HBW := Lib.hid (HB3.out.trans (hb.mono HB3.out.size))
    have HB := Lib.hid hb
    clear hnL hG
    by_cases hlt : i < m
    · obtain ⟨x, hx⟩ : ∃ x, l[i]? = some x := ⟨_, List.getElem?_eq_getElem (by rw [HM.out]; exact hlt)⟩
      obtain ⟨b, p, cap', ev, -, hbl, hc⟩ := (HV3.out.below hb).at hx
      rw [HM.out] at ev
      obtain rfl : a = some ⟨b, p, none⟩ := by injection ev
      obtain ⟨ra, rn, rc, hrv⟩ := HV3.out.2 x (List.mem_of_getElem? hx)
      obtain ⟨⟨cl, qn, kd, pt, sq, of, mx, gn, N, M⟩, rv⟩ := x
      simp only at hrv
      subst hrv
      have e0 := hc 0 _ rfl
      rw [Nat.add_zero] at e0
      have e1 := hc 1 _ rfl
      have e2 := hc 2 _ rfl
      have e3 := hc 3 _ rfl
      have e4 := hc 4 _ rfl
      have e5 := hc 5 _ rfl
      have e6 := hc 6 _ rfl
      have e7 := hc 7 _ rfl
      have e8 := hc 8 _ rfl
      have e9 := hc 9 _ rfl
      have e10 := hc 10 _ rfl
      simp only at e0 e1 e2 e3 e4 e5 e6 e7 e8 e9 e10
      have i0 : (0 : Int) ≤ (i : Int) := by omega
      have i1 : (i : Int) < (m : Int) := by omega
      clear ev hx hc hb
      go_upto_region 11 with fail
      obtain ⟨W4, hW4⟩ : ∃ W, wr.alloc (.cells #[.int .i64 cl, .int .i64 qn, .int .i64 kd, .int .i64 pt, .int .i64 sq, .int .i64 of, .int .i64 mx, .int .i64 gn, .string N, .string M, .slice ra rn rc] 34) = W := ⟨_, rfl⟩
      have hb4 : Below wr.heap.size wr W4 := by rw [← hW4]; exact (Below.refl _ _).alloc (Nat.le_refl _) _
      have k4 : Blk W4 wr.heap.size #[.int .i64 cl, .int .i64 qn, .int .i64 kd, .int .i64 pt, .int .i64 sq, .int .i64 of, .int .i64 mx, .int .i64 gn, .string N, .string M, .slice ra rn rc] 34 := by rw [← hW4]; exact Blk.new _ _ _
      obtain ⟨bq, hbq⟩ : ∃ n, wr.heap.size = n := ⟨_, rfl⟩
      rw [hbq] at k4
      rw [hW4, hbq]
      clear hW4 e0 e1 e2 e3 e4 e5 e6 e7 e8 e9 e10
      have HBW4 := Lib.hid (HBW.out.trans (hb4.mono HBW.out.size))
      have HB4 := Lib.hid (HB.out.trans (hb4.mono HB.out.size))
      have HK4 := Lib.hid k4
      have HL4 := Lib.hid (hL.below hb4)
      have HBQ : Hid (w.heap.size ≤ bq) := Lib.hid (by rw [← hbq]; exact HBW.out.size)
      obtain ⟨d0, d1, d2, d3, d4, d5, d6, d7, d8, d9, d10⟩ := k4.cells11
      clear hb4 k4 hL hbq
      by_cases hn2 : 200 < N.size
      · have hni : (200 : Int) < (N.size : Int) := by omega
        go_wp2_with fail
        go_ret
        exact ⟨rfl, HBW4.out⟩
      have hni : ¬ ((200 : Int) < (N.size : Int)) := by omega
      by_cases hm2 : 200 < M.size
      · have hmi : (200 : Int) < (M.size : Int) := by omega
        go_wp2_with fail
        go_ret
        exact ⟨rfl, HBW4.out⟩
      have hmi : ¬ ((200 : Int) < (M.size : Int)) := by omega
      obtain ⟨q, hq⟩ : ∃ q : Fk.Q, (⟨cl, qn, kd, pt, sq, of, mx, gn, N, M⟩ : Fk.Q) = q := ⟨_, rfl⟩
      have HQ := Lib.hid hq
      have HDA := Lib.hid (dec_any _ L P ⟨cl, qn, kd, pt, sq, of, mx, gn, N, M⟩ (.slice ra rn rc) i W4 (HLB.out _ HBW4.out) HL4.out HG.out (by omega))
      clear hq
      go_wp2_with fail
      refine HDA.out.mono ?_
      rintro e w5 ⟨K, V, rfl, hKV, hb5⟩
      have HKV := Lib.hid hKV
      obtain ⟨W5, hW5⟩ : ∃ W, w5.alloc (.cells #[.int .i64 0, .string K, .string V, .bool false] 28) = W := ⟨_, rfl⟩
      have hbx : Below w5.heap.size w5 W5 := by rw [← hW5]; exact (Below.refl _ _).alloc (Nat.le_refl _) _
      have kx : Blk W5 w5.heap.size #[.int .i64 0, .string K, .string V, .bool false] 28 := by rw [← hW5]; exact Blk.new _ _ _
      have hb5' : Below W4.heap.size W4 W5 := hb5.trans (hbx.mono hb5.size)
      obtain ⟨bx, hbxe⟩ : ∃ n, w5.heap.size = n := ⟨_, rfl⟩
      rw [hbxe] at kx
      have HBW5 := Lib.hid (HBW4.out.trans (hb5'.mono HBW4.out.size))
      have HB5 := Lib.hid (HB4.out.trans (hb5'.mono HB4.out.size))
      have HL5 := Lib.hid (HL4.out.below hb5')
      have HK5 := Lib.hid (HK4.out.below hb5')
      have HX5 := Lib.hid kx
      have HNA := Lib.hid (next_any _ L P ⟨cl, qn, kd, pt, sq, of, mx, gn, N, M⟩ K V i W5 (HLB.out _ HBW5.out) HL5.out HG.out (by omega) hKV.1 hKV.2.1 hKV.2.2)
      have HW5 := Lib.hid hW5
      clear hW5 d1 d2 d3 d4 d5 d6 d7 d8 d9 d10 d0 hKV HDA hb5 hb5' hbx
      go_upto_region 14 with fail
      rw [HW5.out]
      clear HW5 hbxe
      have x0 : W5.cell? ⟨bx, 0, none⟩ = some (.int .i64 0) := kx.cell rfl
      have x1 : W5.cell? ⟨bx, 1, none⟩ = some (.string K) := kx.cell rfl
      have x2 : W5.cell? ⟨bx, 2, none⟩ = some (.string V) := kx.cell rfl
      have x3 : W5.cell? ⟨bx, 3, none⟩ = some (.bool false) := kx.cell rfl
      clear kx
      go_wp2_with fail
      refine HNA.out.mono ?_
      rintro e w6 ⟨hb6, lab, v6, rfl, hO⟩
      have HL6 := Lib.hid (hO.rd.mono (A' := fun _ => True) fun _ _ => trivial)
      obtain ⟨a6, k6, rfl⟩ := hO.form
      have HG6 := Lib.hid (HG.out.next (by omega) (by omega) P ⟨cl, qn, kd, pt, sq, of, mx, gn, N, M⟩)
      have HBW6 := Lib.hid (HBW5.out.trans (hb6.mono HBW5.out.size))
      have HB6 := Lib.hid (HB5.out.trans (hb6.mono HB5.out.size))
      have HL56 := Lib.hid (HL5.out.below hb6)
      have HK6 := Lib.hid (HK5.out.below hb6)
      have HX6 := Lib.hid (HX5.out.below hb6)
      obtain ⟨d0, d1, d2, d3, d4, d5, d6, d7, d8, d9, d10⟩ := HK6.out.cells11
      clear x0 x1 x2 x3 hb6 hO HNA HK5 HX5
      have x0 : w6.cell? ⟨bx, 0, none⟩ = some (.int .i64 0) := HX6.out.cell rfl
      have x1 : w6.cell? ⟨bx, 1, none⟩ = some (.string K) := HX6.out.cell rfl
      have x2 : w6.cell? ⟨bx, 2, none⟩ = some (.string V) := HX6.out.cell rfl
      have x3 : w6.cell? ⟨bx, 3, none⟩ = some (.bool false) := HX6.out.cell rfl
      have htf := HG.out.turnF (by omega) (P : Int) HP0.out (by have := HP5.out; omega) ⟨cl, qn, kd, pt, sq, of, mx, gn, N, M⟩
      have hstill := fun (g : Fk.G) (hg : g ∈ L) => HG.out.still (by omega) (P : Int) ⟨cl, qn, kd, pt, sq, of, mx, gn, N, M⟩ hg
      have HAN := answer_any (A := fun _ => True) (.slice a6 (Fk.next L P ⟨cl, qn, kd, pt, sq, of, mx, gn, N, M⟩).length k6) (Fk.next L P ⟨cl, qn, kd, pt, sq, of, mx, gn, N, M⟩) 0 K V false ⟨cl, qn, kd, pt, sq, of, mx, gn, N, M⟩ (.slice ra rn rc) ((i : Int) + 1) w6 (HLB.out _ HBW6.out) HL6.out HG6.out (by omega) (by have := HKV.out.2.1; omega) (by have := HKV.out.2.2; omega)
      rw [HKV.out.1] at HAN
      obtain ⟨L', hL'⟩ : ∃ L', Fk.next L P ⟨cl, qn, kd, pt, sq, of, mx, gn, N, M⟩ = L' := ⟨_, rfl⟩
      obtain ⟨t, ht⟩ : ∃ t, Fk.answer L' (Fk.decide L P ⟨cl, qn, kd, pt, sq, of, mx, gn, N, M⟩) ⟨cl, qn, kd, pt, sq, of, mx, gn, N, M⟩ = t := ⟨_, rfl⟩
      rw [hL'] at HAN HL6 HG6 htf hstill ⊢
      rw [ht] at HAN htf
      obtain ⟨tc, tof, tg, tp⟩ := t
      obtain ⟨gW, hgW⟩ : ∃ g, Fk.fndD L N = g := ⟨_, rfl⟩
      obtain ⟨gN, hgN⟩ : ∃ g, Fk.fndD L' N = g := ⟨_, rfl⟩
      obtain ⟨fN, hfN⟩ : ∃ g, (Fk.fnd L' N).isSome = g := ⟨_, rfl⟩
      have hdW := HG.out.gd (by omega) N
      have hdN := HG6.out.gd (by omega) N
      have hgen : gW.gen ≤ 1000 := by
        rw [← hgW]
        unfold Fk.fndD
        cases hf : Fk.fnd L N with
        | none => decide
        | some g => have := HG.out.gens g (Fk.hit_mem hf); simp only [Option.getD_some]; omega
      rw [show (⟨cl, qn, kd, pt, sq, of, mx, gn, N, M⟩ : Fk.Q).group = N from rfl, hgW, hgN] at htf
      rw [hgW] at hdW
      rw [hgN] at hdN
      have HGA := fun wx (hb : Below w6.heap.size w6 wx) => group_any (.slice aL nL cL) L N wx (GsR.bound (HL56.out.below hb)) (fun b hb => hb) HG.out.ok
      have HGB := fun wx (hb : Below w6.heap.size w6 wx) => group_any _ L' N wx (GsR.bound (HL6.out.below hb)) (fun b hb => hb) HG6.out.ok
      rw [hgW] at HGA
      rw [hgN, hfN] at HGB
      have HTF := Lib.hid htf
      have HST := Lib.hid hstill
      have HDW := Lib.hid hdW
      have HDN := Lib.hid hdN
      have HGEN := Lib.hid hgen
      have HHN := Lib.hid hgN
      have HAN := Lib.hid HAN
      have HGA := Lib.hid HGA
      have HGB := Lib.hid HGB
      clear htf hstill hdW hdN hgen hgN hgW ht hL' hfN
      go_wp2_with fail
      refine HAN.out.mono ?_
      rintro e w7 ⟨pv, rfl, hpv, hb7⟩
      obtain ⟨pva, pvc, rfl⟩ := hpv.form
      simp only at hpv hb7 ⊢
      obtain ⟨W7, hW7⟩ : ∃ W, w7.alloc (.cells (rsp cl qn tc tof tg (.slice pva tp.length pvc)) 39) = W := ⟨_, rfl⟩
      have hbx : Below w7.heap.size w7 W7 := by rw [← hW7]; exact (Below.refl _ _).alloc (Nat.le_refl _) _
      have kr : Blk W7 w7.heap.size (rsp cl qn tc tof tg (.slice pva tp.length pvc)) 39 := by rw [← hW7]; exact Blk.new _ _ _
      have hb67 : Below w6.heap.size w6 W7 := hb7.trans (hbx.mono hb7.size)
      obtain ⟨br, hbr⟩ : ∃ n, w7.heap.size = n := ⟨_, rfl⟩
      rw [hbr] at kr
      have HGA7 := Lib.hid (HGA.out W7 hb67)
      have HB67 := Lib.hid hb67
      have HR7 := Lib.hid kr
      have HK7 := Lib.hid (HK6.out.below hb67)
      have HW7 := Lib.hid hW7
      clear hW7 hbx kr hb67 hb7 hpv HAN x0 x1 x2 x3 d0 d1 d2 d3 d4 d5 d6 d7 d8 d9 d10
      go_upto_region 16 with fail
      rw [HW7.out]
      clear HW7 hbr
      have d8 : W7.cell? ⟨bq, 8, none⟩ = some (.string N) := HK7.out.cell rfl
      go_wp2_with fail
      refine HGA7.out.mono ?_
      rintro e w8 ⟨gv, rfl, ⟨wmv, wpv, rfl, hwe⟩, hb8⟩
      obtain ⟨wnm, wgen, wparts, wmem, wpts⟩ := gW
      obtain ⟨wma, wmc, rfl⟩ := hwe.1.form
      obtain ⟨wpa, wpc, rfl⟩ := hwe.2.form
      simp only at hwe ⊢
      obtain ⟨W8, hW8⟩ : ∃ W, w8.alloc (.cells #[.string wnm, .int .i64 wgen, .int .i64 wparts, .slice wma wmem.length wmc, .slice wpa wpts.length wpc] 44) = W := ⟨_, rfl⟩
      have hbx : Below w8.heap.size w8 W8 := by rw [← hW8]; exact (Below.refl _ _).alloc (Nat.le_refl _) _
      have kw : Blk W8 w8.heap.size #[.string wnm, .int .i64 wgen, .int .i64 wparts, .slice wma wmem.length wmc, .slice wpa wpts.length wpc] 44 := by rw [← hW8]; exact Blk.new _ _ _
      have hb78 : Below W7.heap.size W7 W8 := hb8.trans (hbx.mono hb8.size)
      obtain ⟨bw, hbw⟩ : ∃ n, w8.heap.size = n := ⟨_, rfl⟩
      rw [hbw] at kw
      have HB68 := Lib.hid (HB67.out.trans (hb78.mono HB67.out.size))
      have HGB8 := Lib.hid (HGB.out W8 HB68.out)
      have HR8 := Lib.hid (HR7.out.below hb78)
      have HK8 := Lib.hid (HK7.out.below hb78)
      have HWE8 := Lib.hid (hwe.1.below hbx)
      have HWK8 := Lib.hid kw
      have HW8 := Lib.hid hW8
      clear hW8 hbx kw hb78 hb8 hwe HGA7 HGA HR7 HK7 d8
      go_upto_region 17 with fail
      rw [HW8.out]
      clear HW8 hbw
      have d8 : W8.cell? ⟨bq, 8, none⟩ = some (.string N) := HK8.out.cell rfl
      go_wp2_with fail
      refine HGB8.out.mono ?_
      rintro e w9 ⟨gv, rfl, ⟨nmv, npv, rfl, hne⟩, hb9⟩
      obtain ⟨nnm, ngen, nparts, nmem, npts⟩ := gN
      obtain ⟨nma, nmc, rfl⟩ := hne.1.form
      obtain ⟨npa, npc, rfl⟩ := hne.2.form
      simp only at hne ⊢
      obtain ⟨W9, hW9⟩ : ∃ W, w9.alloc (.cells #[.string nnm, .int .i64 ngen, .int .i64 nparts, .slice nma nmem.length nmc, .slice npa npts.length npc] 44) = W := ⟨_, rfl⟩
      have hbx : Below w9.heap.size w9 W9 := by rw [← hW9]; exact (Below.refl _ _).alloc (Nat.le_refl _) _
      have kn : Blk W9 w9.heap.size #[.string nnm, .int .i64 ngen, .int .i64 nparts, .slice nma nmem.length nmc, .slice npa npts.length npc] 44 := by rw [← hW9]; exact Blk.new _ _ _
      have hb89 : Below W8.heap.size W8 W9 := hb9.trans (hbx.mono hb9.size)
      obtain ⟨bn, hbn⟩ : ∃ n, w9.heap.size = n := ⟨_, rfl⟩
      rw [hbn] at kn
      have HB69 := Lib.hid (HB68.out.trans (hb89.mono HB68.out.size))
      have HR9 := Lib.hid (HR8.out.below hb89)
      have HK9 := Lib.hid (HK8.out.below hb89)
      have HWE9 := Lib.hid (HWE8.out.below hb89)
      have HWK9 := Lib.hid (HWK8.out.below hb89)
      have HNE9 := Lib.hid (hne.1.below hbx)
      have HNK9 := Lib.hid kn
      have HW9 := Lib.hid hW9
      clear hW9 hbx kn hb89 hb9 hne HGB8 HR8 HK8 HWE8 HWK8 d8 HB67 HB68
      go_upto_region 18 with fail
      rw [HW9.out]
      clear HW9 hbn
      have HCL : Hid (∀ wx, Below W9.heap.size W9 wx → wx.cell? ⟨bq, 2, none⟩ = some (.int .i64 kd) ∧ wx.cell? ⟨bq, 8, none⟩ = some (.string N) ∧ wx.cell? ⟨bq, 9, none⟩ = some (.string M) ∧ wx.cell? ⟨br, 2, none⟩ = some (.int .i64 tc) ∧ wx.cell? ⟨br, 5, none⟩ = some (.int .i64 tg) ∧
          wx.cell? ⟨bw, 1, none⟩ = some (.int .i64 wgen) ∧ wx.cell? ⟨bw, 2, none⟩ = some (.int .i64 wparts) ∧ wx.cell? ⟨bw, 3, none⟩ = some (.slice wma wmem.length wmc) ∧
          wx.cell? ⟨bn, 1, none⟩ = some (.int .i64 ngen) ∧ wx.cell? ⟨bn, 2, none⟩ = some (.int .i64 nparts) ∧ wx.cell? ⟨bn, 3, none⟩ = some (.slice nma nmem.length nmc)) := Lib.hid fun wx hb =>
        ⟨(HK9.out.below hb).cell rfl, (HK9.out.below hb).cell rfl, (HK9.out.below hb).cell rfl, (HR9.out.below hb).cell rfl, (HR9.out.below hb).cell rfl, (HWK9.out.below hb).cell rfl, (HWK9.out.below hb).cell rfl, (HWK9.out.below hb).cell rfl, (HNK9.out.below hb).cell rfl, (HNK9.out.below hb).cell rfl, (HNK9.out.below hb).cell rfl⟩
      have HMW : Hid (∀ wx y, Below W9.heap.size W9 wx → Calls Tryz.prog 17 #[.slice wma wmem.length wmc, .string y] wx fun e w' => SmeOut wx (Fk.hasB wmem y) e w') := Lib.hid fun wx y hb => member_any _ wmem y wx (HWE9.out.below hb) (by have := HDW.out.l4; simp only at this; omega)
      have HMN : Hid (∀ wx y, Below W9.heap.size W9 wx → Calls Tryz.prog 17 #[.slice nma nmem.length nmc, .string y] wx fun e w' => SmeOut wx (Fk.hasB nmem y) e w') := Lib.hid fun wx y hb => member_any _ nmem y wx (HNE9.out.below hb) (by have := HDN.out.l4; simp only at this; omega)
      obtain ⟨mw, hmw⟩ : ∃ n, wmem.length = n := ⟨_, rfl⟩
      obtain ⟨mn, hmn⟩ : ∃ n, nmem.length = n := ⟨_, rfl⟩
      rw [hmw] at HCL HMW
      rw [hmn] at HCL HMN
      have hmw8 : mw ≤ 8 := by have := HDW.out.l4; simp only at this; omega
      have hmn8 : mn ≤ 8 := by have := HDN.out.l4; simp only at this; omega
      have hnL8 : nL ≤ 8 := by have := HG.out.ok.len; have := HNL.out; omega
      have HMWL := Lib.hid hmw
      have HMNL := Lib.hid hmn
      have HR := Lib.hid (Below.refl W9.heap.size W9)
      obtain ⟨c1, c2, c3, c4, c5, c6, c7, c8, c9, c10, c11⟩ := HCL.out W9 HR.out
      have hg0 : 0 ≤ wgen := HDW.out.g0
      have hg1 : wgen ≤ 1000 := HGEN.out
      obtain ⟨tB, htB⟩ : ∃ b, (ngen == wgen + 1) = b := ⟨_, rfl⟩
      clear hmw hmn
      go_upto_region 19 with fail
      obtain ⟨fg, ft, fj, fl, fs, fp1, fp0⟩ := HTF.out
      simp only at fg ft fj fl fs fp1 fp0
      have HFJ := Lib.hid fj
      have HFL := Lib.hid fl
      have HFS := Lib.hid fs
      have HF1 := Lib.hid fp1
      have HF0 := Lib.hid fp0
      have HFT := Lib.hid ft
      have HFG := Lib.hid fg
      have HTB := Lib.hid htB
      clear fj fl fs fp1 fp0 ft fg htB HTF hg0 hg1
      go_cut [117] from 84 to 117 (fun s wx => s = .bool false ∧ Below W9.heap.size W9 wx)
      case first => as_aux_lemma =>
          by_cases hT : ngen = wgen + 1
          · obtain ⟨t1, t2⟩ := HFT.out.1 hT
            obtain rfl : tB = true := by rw [← HTB.out, hT]; simp
            subst t1
            have hne : (ngen != wgen) = true := by rw [hT]; exact bne_iff_ne.2 (by omega)
            rcases t2 with k4 | ⟨k3, hnot⟩
            · subst k4
              clear hT
              go_wp2_with fail
              go_meet
              case rel => exact ⟨rfl, HR.out⟩
            · subst k3
              have HMM := Lib.hid (HMW.out W9 M HR.out)
              rw [Fk.hasB_not hnot] at HMM
              clear hT hnot
              go_wp2_with fail
              refine HMM.out.mono ?_
              rintro e w10 ⟨rfl, rfl⟩
              go_wp2_with fail
              go_meet
              case rel => exact ⟨rfl, HR.out⟩
          · have hgw : ngen = wgen := by rcases HFG.out with h | h; exact h; exact absurd h hT
            obtain rfl : tB = false := by rw [← HTB.out]; simpa using hT
            have hnT := fun h => hT (HFT.out.2 h)
            have hne : (ngen != wgen) = false := by simp [hgw]
            clear hT hgw
            by_cases htc : tc = 0
            · subst htc
              have k4 : ¬ (kd = 4) := fun h => hnT ⟨rfl, .inl h⟩
              have k4b : (kd == 4) = false := by simp [k4]
              by_cases k3 : kd = 3
              · subst k3
                have hin : Fk.hasB wmem M = true := Fk.hasB_iff.2 (Classical.byContradiction fun h => hnT ⟨rfl, .inr ⟨rfl, h⟩⟩)
                have HMM := Lib.hid (HMW.out W9 M HR.out)
                rw [hin] at HMM
                clear hin hnT k4 k4b
                go_wp2_with fail
                refine HMM.out.mono ?_
                rintro e w10 ⟨rfl, rfl⟩
                go_wp2_with fail
                go_meet
                case rel => exact ⟨rfl, HR.out⟩
              · have k3b : (kd == 3) = false := by simp [k3]
                clear hnT k4 k3
                go_wp2_with fail
                go_meet
                case rel => exact ⟨rfl, HR.out⟩
            · have htcb : (tc == 0) = false := by simp [htc]
              clear hnT htc
              go_wp2_with fail
              go_meet
              case rel => exact ⟨rfl, HR.out⟩
      case rest =>
      obtain ⟨rfl, hbc⟩ := hcut
      have HBC := Lib.hid hbc
      clear hbc c1 c2 c3 c4 c5 c6 c7 c8 c9 c10 c11
      obtain ⟨c1, c2, c3, c4, c5, c6, c7, c8, c9, c10, c11⟩ := HCL.out wc HBC.out
      go_upto_region 21 with fail
      go_cut [157] from 118 to 157 (fun s wx => s = .bool false ∧ Below W9.heap.size W9 wx)
      case first => as_aux_lemma =>
          by_cases htc : tc = 0
          · subst htc
            by_cases k3 : kd = 3
            · subst k3
              obtain ⟨hin, htg⟩ := HFJ.out rfl rfl
              have HMM := Lib.hid (HMN.out wc M HBC.out)
              rw [Fk.hasB_iff.2 hin] at HMM
              have htgb : (tg != ngen) = false := by simp [htg]
              clear hin htg
              go_wp2_with fail
              refine HMM.out.mono ?_
              rintro e w10 ⟨rfl, rfl⟩
              go_wp2_with fail
              go_meet
              case rel => exact ⟨rfl, HBC.out⟩
            · have k3b : (kd == 3) = false := by simp [k3]
              by_cases k4 : kd = 4
              · subst k4
                have hno := HFL.out rfl rfl
                have HMM := Lib.hid (HMN.out wc M HBC.out)
                rw [Fk.hasB_not hno] at HMM
                clear hno k3 k3b
                go_wp2_with fail
                refine HMM.out.mono ?_
                rintro e w10 ⟨rfl, rfl⟩
                go_wp2_with fail
                go_meet
                case rel => exact ⟨rfl, HBC.out⟩
              · have k4b : (kd == 4) = false := by simp [k4]
                clear k3 k4
                go_wp2_with fail
                go_meet
                case rel => exact ⟨rfl, HBC.out⟩
          · have htcb : (tc == 0) = false := by simp [htc]
            clear htc
            go_wp2_with fail
            go_meet
            case rel => exact ⟨rfl, HBC.out⟩
      case rest =>
      obtain ⟨rfl, hbd⟩ := hcut
      clear HBC c1 c2 c3 c4 c5 c6 c7 c8 c9 c10 c11
      have HBD := Lib.hid hbd
      obtain ⟨WD, hWD⟩ : ∃ W, wc = W := ⟨_, rfl⟩
      have HCD : Hid (∀ wx, Below WD.heap.size WD wx → Below W9.heap.size W9 wx) := Lib.hid fun wx hb => by rw [← hWD] at hb; exact HBD.out.trans (hb.mono HBD.out.size)
      have HRD := Lib.hid (Below.refl WD.heap.size WD)
      rw [hWD]
      clear hWD hbd
      obtain ⟨c1, c2, c3, c4, c5, c6, c7, c8, c9, c10, c11⟩ := HCL.out WD (HCD.out _ HRD.out)
      go_wp2_with fail
      go_loopw [16] (fun s16 wx => ∃ k, k ≤ mw ∧ s16 = .int .i64 (k : Nat) ∧ Below WD.heap.size WD wx) (fun s16 _ => mw - (intOf s16).toNat)
      case atStart => exact ⟨0, Nat.zero_le _, rfl, HRD.out⟩
      case round =>
        obtain ⟨k, hk, rfl, hbk⟩ := hrel
        have HBK := Lib.hid hbk
        clear hbk c1 c2 c3 c4 c5 c6 c7 c8 c9 c10 c11
        obtain ⟨c1, c2, c3, c4, c5, c6, c7, c8, c9, c10, c11⟩ := HCL.out wr (HCD.out _ HBK.out)
        by_cases hkt : k < mw
        · as_aux_lemma =>
            obtain ⟨x, hx⟩ : ∃ x, wmem[k]? = some x := ⟨_, List.getElem?_eq_getElem (by rw [HMWL.out]; exact hkt)⟩
            have he := (HWE9.out.below (HCD.out _ HBK.out) : Nms _ wr _ wmem)
            obtain ⟨f, o, z, ez, -, -, y0⟩ := Nms.at he hx
            rw [HMWL.out] at ez
            obtain rfl : wma = some ⟨f, o, none⟩ := by injection ez
            have k0 : (0 : Int) ≤ (k : Int) := by omega
            have k1 : (k : Int) < (mw : Int) := by omega
            have hxm := List.mem_of_getElem? hx
            by_cases hxM : x = M
            · subst hxM
              clear ez he hx hxm
              go_upto_region 26 with fail
              go_quiet (fail)
              go_wp2_with fail
              go_roundw
              case rel => exact ⟨k + 1, by omega, by go_num, HBK.out.trans ((below_drewN _ _).mono HBK.out.size)⟩
              case measure => simp [intOf]; omega
            · have hd1 : (x.toList == M.toList) = false := str_ne hxM
              have hd : (x.toList != M.toList) = true := by simp [bne, hd1]
              have HMM : Hid (∀ n, Calls Tryz.prog 17 #[.slice nma mn nmc, .string x] (wr.drewN n) fun e w' => SmeOut (wr.drewN n) true e w') := Lib.hid fun n => by
                have := HMN.out (wr.drewN n) x (HCD.out _ (HBK.out.trans ((below_drewN _ _).mono HBK.out.size)))
                rw [Fk.hasB_iff.2 (HFS.out x hxm hxM)] at this
                exact this
              clear ez he hx hxm hxM
              go_upto_region 26 with fail
              go_quiet ((go_at_call 17; exact Calls.quiet_of_same (HMM.out _)))
              go_wp2_with fail
              go_roundw
              case rel => exact ⟨k + 1, by omega, by go_num, HBK.out.trans ((below_drewN _ _).mono HBK.out.size)⟩
              case measure => simp [intOf]; omega
        · clear hk
          have HCE : Hid (∀ wx, Below wr.heap.size wr wx → Below W9.heap.size W9 wx) := Lib.hid fun wx hb => HCD.out _ (HBK.out.trans (hb.mono HBK.out.size))
          obtain ⟨WE, hWE⟩ : ∃ W, wr = W := ⟨_, rfl⟩
          rw [hWE] at HCE c1 c2 c3 c4 c5 c6 c7 c8 c9 c10 c11 ⊢
          have HRE := Lib.hid (Below.refl WE.heap.size WE)
          clear hWE HBK
          go_wp2_with fail
          go_loopw [17, 18, 19] (fun s17 _ _ wx => ∃ k, k ≤ nL ∧ s17 = .int .i64 (k : Nat) ∧ Below WE.heap.size WE wx) (fun s17 _ _ _ => nL - (intOf s17).toNat)
          case atStart => exact ⟨0, Nat.zero_le _, rfl, HRE.out⟩
          case round =>
            obtain ⟨h, hh, rfl, hbk⟩ := hrel
            have HBK := Lib.hid hbk
            have HBC := Lib.hid (HCE.out _ hbk)
            clear hbk c1 c2 c3 c4 c5 c6 c7 c8 c9 c10 c11
            obtain ⟨c1, c2, c3, c4, c5, c6, c7, c8, c9, c10, c11⟩ := HCL.out wr HBC.out
            by_cases hht : h < nL
            · obtain ⟨g, hx⟩ : ∃ g, L[h]? = some g := ⟨_, List.getElem?_eq_getElem (by rw [HNL.out]; exact hht)⟩
              have hl := (HL56.out.below HB69.out).below HBC.out
              rw [← HNL.out] at hl
              obtain ⟨b', p', cap2, gmv, gpv, ev, -, hbl2, hge, y0, y1, y2, y3, y4⟩ := hl.at hx
              rw [HNL.out] at ev
              obtain rfl : aL = some ⟨b', p', none⟩ := by injection ev
              obtain ⟨f, hf1, hf2⟩ := HST.out g (List.mem_of_getElem? hx)
              have hgp := HG.out.ok.all g (List.mem_of_getElem? hx)
              have HGC := Lib.hid (group_any _ L' g.name wr (GsR.bound ((HL6.out.below HB69.out).below HBC.out)) (fun b hb => hb) HG6.out.ok)
              rw [Fk.fndD_of hf1, hf1] at HGC
              have HL0 := Lib.hid hl
              have HX := Lib.hid hx
              have HGE := Lib.hid hge
              have HGS : Hid (g.mem.length ≤ 64 ∧ g.pts.length ≤ 64) := Lib.hid ⟨by have := Sh.good_len hgp.mem; omega, by have := Fk.pts_few hgp.pts fun q hq => ⟨(hgp.low q hq).1, (hgp.low q hq).2.1⟩; omega⟩
              have HF2 := Lib.hid hf2
              have k0 : (0 : Int) ≤ (h : Int) := by omega
              have k1 : (h : Int) < (nL : Int) := by omega
              clear ev hx hf1 hf2 hl hge hgp y1 y2 y3 y4
              go_wp2_with fail
              refine HGC.out.mono ?_
              rintro e wg ⟨gv, rfl, ⟨fmv, fpv, rfl, hfe⟩, hbg⟩
              obtain ⟨fnm, fgen, fparts, fmem, fpts⟩ := f
              obtain ⟨fma, fmc, rfl⟩ := hfe.1.form
              obtain ⟨fpa, fpc, rfl⟩ := hfe.2.form
              simp only at hfe ⊢
              obtain ⟨WG, hWG⟩ : ∃ W, wg.alloc (.cells #[.string fnm, .int .i64 fgen, .int .i64 fparts, .slice fma fmem.length fmc, .slice fpa fpts.length fpc] 44) = W := ⟨_, rfl⟩
              have hbx : Below wg.heap.size wg WG := by rw [← hWG]; exact (Below.refl _ _).alloc (Nat.le_refl _) _
              have kf : Blk WG wg.heap.size #[.string fnm, .int .i64 fgen, .int .i64 fparts, .slice fma fmem.length fmc, .slice fpa fpts.length fpc] 44 := by rw [← hWG]; exact Blk.new _ _ _
              have hbrg : Below wr.heap.size wr WG := hbg.trans (hbx.mono hbg.size)
              obtain ⟨bf, hbf⟩ : ∃ n, wg.heap.size = n := ⟨_, rfl⟩
              rw [hbf] at kf
              have HFE := Lib.hid (EnAt.below hfe hbx)
              have HKF := Lib.hid kf
              have HBRG := Lib.hid hbrg
              have HWG := Lib.hid hWG
              have z0 : WG.cell? ⟨b', p' + h * 5, none⟩ = some (.string g.name) := (hbrg.cell (p := ⟨b', p' + h * 5, none⟩) hbl2).trans y0
              clear c1 c2 c3 c4 c5 c6 c7 c8 c9 c10 c11 y0 hbx kf hbg hfe hWG hbrg
              obtain ⟨c1, c2, c3, c4, c5, c6, c7, c8, c9, c10, c11⟩ := HCL.out WG (HBC.out.trans (HBRG.out.mono HBC.out.size))
              go_upto_region 32 with fail
              rw [HWG.out]
              clear HWG hbf
              by_cases hgn : g.name = N
              · as_aux_lemma =>
                  obtain rfl := hgn
                  go_quiet (fail)
                  go_wp2_with fail
                  go_roundw
                  case rel => exact ⟨h + 1, by omega, by go_num, HBK.out.trans ((HBRG.out.trans ((below_drewN _ _).mono HBRG.out.size)).mono HBK.out.size)⟩
                  case measure => simp [intOf]; omega
              · as_aux_lemma =>
                  have he := HF2.out hgn
                  subst he
                  have hd1 : (fnm.toList == N.toList) = false := str_ne hgn
                  have hd : (fnm.toList != N.toList) = true := by simp [bne, hd1]
                  have hcap : h + 1 ≤ cL := by have := HL0.out.capLe; have := HNL.out; omega
                  have k2 : (h : Int) + 1 ≤ (cL : Int) := by omega
                  have k3 : (h : Int) + 1 ≤ (nL : Int) := by omega
                  have k4 : (h : Int) ≤ (h : Int) + 1 := by omega
                  have k5 : (0 : Int) ≤ (h : Int) + 1 := by omega
                  have k6 : h ≤ h + 1 := by omega
                  have hw1 : IntKind.i64.wrap ((h : Int) + 1) = (h : Int) + 1 := by rw [IntKind.wrap_i64]; omega
                  have htn : ((h : Int) + 1).toNat = h + 1 := by omega
                  have hc0 : ¬ (cL = 0) := by omega
                  have hc1 : ¬ (cL = h) := by omega
                  have hc2 : h + 1 - h = 1 := by omega
                  obtain ⟨f0, f1, f2, f3, f4⟩ := HKF.out.cells5
                  have HSM : Hid (∀ c, 1 ≤ c → Calls Tryz.prog 12 #[.slice (some ⟨WG.heap.size, 0, none⟩) 1 1, .slice (some ⟨b', p' + h * 5, none⟩) 1 c] (WG.alloc (.cells #[.string fnm, .int .i64 fgen, .int .i64 fparts, .slice fma fmem.length fmc, .slice fpa fpts.length fpc] 44)).drew fun e w' => SmOut (WG.alloc (.cells #[.string fnm, .int .i64 fgen, .int .i64 fparts, .slice fma fmem.length fmc, .slice fpa fpts.length fpc] 44)).drew e w') := Lib.hid fun c hc => by
                    refine same_any (A := fun _ => True) (B := fun _ => True) _ _ [⟨fnm, fgen, fparts, fmem, fpts⟩] _ (GsR.below (GsR.lit HFE.out) ((Below.refl _ _).drew)) ?_ (by simp) (fun g hg => ?_)
                    · refine GsR.single (n := nL) (cap := cL) ?_ HX.out hc
                      · have := (HL0.out.below HBRG.out).below (((Below.refl WG.heap.size WG).alloc (Nat.le_refl _) (.cells #[.string fnm, .int .i64 fgen, .int .i64 fparts, .slice fma fmem.length fmc, .slice fpa fpts.length fpc] 44)).drew)
                        rw [HNL.out] at this
                        exact this
                    · simp only [List.mem_singleton] at hg
                      subst hg
                      exact HGS.out
                  have HX0 := Lib.hid (drew_refl WG)
                  clear hgn
                  have hB := HX0.out
                  go_region_held3 (fun w' => w'.cell? ⟨b', p' + h * 5, none⟩ = some (.string fnm) ∧ w'.cell? ⟨bq, 8, none⟩ = some (.string N) ∧ w'.cell? ⟨bf, 0, none⟩ = some (.string fnm) ∧ w'.cell? ⟨bf, 1, none⟩ = some (.int .i64 fgen) ∧ w'.cell? ⟨bf, 2, none⟩ = some (.int .i64 fparts) ∧ w'.cell? ⟨bf, 3, none⟩ = some (.slice fma fmem.length fmc) ∧ w'.cell? ⟨bf, 4, none⟩ = some (.slice fpa fpts.length fpc))
                    (first | with_reducible exact ⟨dcell hB z0, dcell hB c2, dcell hB f0, dcell hB f1, dcell hB f2, dcell hB f3, dcell hB f4⟩ | go_keep | fail)
                    (first
                      | (go_at_call 12; ((with_reducible refine (HSM.out _ (by omega)).mono ?_); rintro e ws ⟨rfl, n, rfl⟩))
                      | fail)
                  all_goals
                    have HE : Hid (∀ k, Below wr.heap.size wr ((WG.alloc (.cells #[.string fnm, .int .i64 fgen, .int .i64 fparts, .slice fma fmem.length fmc, .slice fpa fpts.length fpc] 44)).drewN k)) := Lib.hid fun k => HBRG.out.trans ((((Below.refl WG.heap.size WG).alloc (Nat.le_refl _) _).trans (below_drewN _ _)).mono HBRG.out.size)
                    clear hB
                    go_wp2_with fail
                    go_roundw
                    case rel => exact ⟨h + 1, by omega, by go_num, HBK.out.trans ((HE.out _).mono HBK.out.size)⟩
                    case measure => simp [intOf]; omega
            · clear hh
              have HCF : Hid (∀ wx, Below wr.heap.size wr wx → Below W9.heap.size W9 wx) := Lib.hid fun wx hb => HBC.out.trans (hb.mono HBC.out.size)
              obtain ⟨WF, hWF⟩ : ∃ W, wr = W := ⟨_, rfl⟩
              rw [hWF] at HCF c1 c2 c3 c4 c5 c6 c7 c8 c9 c10 c11 ⊢
              have HRF := Lib.hid (Below.refl WF.heap.size WF)
              clear hWF HBK HBC
              go_upto_region 34 with fail
              go_cut [240] from 223 to 240 (fun s wx => s = .bool false ∧ Eqw WF wx)
              case first => as_aux_lemma =>
                  cases hb : tB with
                  | true =>
                    have hT : ngen = wgen + 1 := by have := HTB.out; rw [hb] at this; simpa using this
                    have hp := HF1.out hT
                    have hne : (nparts != (P : Int)) = false := by simp [hp]
                    clear hT hp
                    subst hb
                    go_wp2_with fail
                    go_meet
                    case rel => exact ⟨rfl, rfl⟩
                  | false =>
                    have hT : ngen = wgen := by
                      have := HTB.out
                      rw [hb] at this
                      rcases HFG.out with h | h
                      · exact h
                      · rw [h] at this; simp at this
                    have hp := HF0.out hT
                    have hne : (nparts != wparts) = false := by simp [hp]
                    clear hT hp
                    subst hb
                    go_wp2_with fail
                    go_meet
                    case rel => exact ⟨rfl, rfl⟩
              case rest =>
              obtain ⟨rfl, hbe⟩ := hcut
              have hwe : WF = wc := hbe.symm
              subst hwe
              clear hbe
              go_wp2_with fail
              go_loopw [20, 21, 22] (fun s20 _ _ wx => ∃ k, s20 = .int .i64 k ∧ 1 ≤ k ∧ k ≤ 5 ∧ Below WF.heap.size WF wx) (fun s20 _ _ _ => (5 - intOf s20).toNat)
              case atStart => exact ⟨1, rfl, by omega, by omega, HRF.out⟩
              case round =>
                obtain ⟨k, rfl, hk1, hk5, hbk⟩ := hrel
                have HBK := Lib.hid hbk
                have HBC := Lib.hid (HCF.out _ hbk)
                clear hbk c1 c2 c3 c4 c5 c6 c7 c8 c9 c10 c11
                obtain ⟨c1, c2, c3, c4, c5, c6, c7, c8, c9, c10, c11⟩ := HCL.out wr HBC.out
                go_upto_region 37 with fail
                go_cut [253] from 241 to 253 (fun s wx => ∃ c : Bool, s = .bool c ∧ (c = true → k < nparts ∧ 0 < mn) ∧ Eqw wr wx)
                case first => as_aux_lemma =>
                    by_cases hkp : k < nparts
                    · cases fN with
                      | false =>
                        go_wp2_with fail
                        go_meet
                        case rel => exact ⟨false, rfl, (fun h => by cases h), rfl⟩
                      | true =>
                        by_cases hm0 : 0 < mn
                        · have hm0i : (0 : Int) < (mn : Int) := by omega
                          have HKP := Lib.hid hkp
                          go_wp2_with fail
                          go_meet
                          case rel => exact ⟨true, rfl, (fun _ => ⟨HKP.out, hm0⟩), rfl⟩
                        · have hm0i : ¬ ((0 : Int) < (mn : Int)) := by omega
                          go_wp2_with fail
                          go_meet
                          case rel => exact ⟨false, rfl, (fun h => by cases h), rfl⟩
                    · go_wp2_with fail
                      go_meet
                      case rel => exact ⟨false, rfl, (fun h => by cases h), rfl⟩
                case rest =>
                obtain ⟨c, rfl, hc, hbe⟩ := hcut
                have hwe : wr = wc := hbe.symm
                subst hwe
                clear hbe
                cases c with
                | true =>
                  obtain ⟨hkp, hm0⟩ := hc rfl
                  have hp4 : nparts ≤ 4 := HDN.out.p4
                  obtain ⟨o, ho, hin⟩ := Fk.owned HDN.out.mem hp4 hk1 hkp (by have := HMNL.out; simp only; omega)
                  have HOW := Lib.hid (owner_any nparts (.slice nma mn nmc) nmem k wr (by have := HNE9.out.below HBC.out; simp only [HMNL.out] at this; exact this))
                  simp only at ho
                  rw [ho] at HOW
                  have HIN := Lib.hid (Fk.hasB_iff.2 hin)
                  clear ho hin hc
                  go_wp2_with fail
                  refine HOW.out.mono ?_
                  rintro e wo ⟨hbo, rfl⟩
                  have HBO := Lib.hid (HBK.out.trans (hbo.mono HBK.out.size))
                  have HBP := Lib.hid (HCF.out _ HBO.out)
                  have HMM := Lib.hid (HMN.out wo o HBP.out)
                  rw [HIN.out] at HMM
                  clear hbo c1 c2 c3 c4 c5 c6 c7 c8 c9 c10 c11
                  obtain ⟨c1, c2, c3, c4, c5, c6, c7, c8, c9, c10, c11⟩ := HCL.out wo HBP.out
                  go_wp2_with fail
                  refine HMM.out.mono ?_
                  rintro e wp ⟨rfl, rfl⟩
                  go_wp2_with fail
                  go_roundw
                  case rel => exact ⟨k + 1, by go_num, by omega, by omega, HBO.out⟩
                  case measure => simp [intOf]; omega
                | false =>
                  have HLF := Lib.hid ((HL6.out.below HB69.out).below HBC.out)
                  have HBF := Lib.hid (HB6.out.trans ((HB69.out.trans (HBC.out.mono HB69.out.size)).mono HB6.out.size))
                  have HGF := Lib.hid (HG6.out.mono (m' := ((i + 1 : Nat) : Int)) (by omega))
                  clear hc c1 c2 c3 c4 c5 c6 c7 c8 c9 c10 c11
                  go_wp2_with fail
                  go_roundw
                  case rel => exact ⟨i + 1, L', by omega, by go_num, HLF.out, HGF.out, HBF.out⟩
                  case measure => simp [intOf]; omega
    · go_wp2_with fail
      go_ret
      exact ⟨rfl, HBW.out⟩
end Go.Proofs.YtnkgdklmmhhkgaaGreatDoor
