import Derived.Test.YtjccfilbihkfpaaGreatDoorM16
import Derived.Deep.RegionHeld3
import Derived.Deep.DrawnRows

/- THE CONTRACT OF join. -/
namespace Go.Proofs.YtjccfilbihkfpaaGreatDoor
open Go.RowKit

set_option maxHeartbeats 4000000 in
set_option maxRecDepth 100000 in
theorem join_any {A : Nat → Prop} (v : Value) (L : List Fk.G) (parts : Int) (q : Fk.Q) (rv : Value) (k : Int) (w : World) (lb : Lb w) (h : GsR A w v L) (hG : Gk k L) (hk : k ≤ 1099511627776) :
    Calls Tryz.prog 28 #[v, .int .i64 parts, qval q rv] w fun e w' => RecN w (Fk.decJ L parts q) e w' := by
  obtain ⟨cl, qn, kd, pt, sq, of, mx, gn, N, M⟩ := q
  obtain ⟨X, hX⟩ : ∃ X, Fk.decJ L parts ⟨cl, qn, kd, pt, sq, of, mx, gn, N, M⟩ = X := ⟨_, rfl⟩
  rw [hX]
  have hgd := hG.gd hk N
  obtain ⟨gg, hgg⟩ : ∃ gg, Fk.fndD L N = gg := ⟨_, rfl⟩
  obtain ⟨th, hth⟩ : ∃ th, (Fk.fnd L N).isSome = th := ⟨_, rfl⟩
  obtain ⟨W1, W2, e1, e2, hq2⟩ := QSt.start w #[.int .i64 cl, .int .i64 qn, .int .i64 kd, .int .i64 pt, .int .i64 sq, .int .i64 of, .int .i64 mx, .int .i64 gn, .string N, .string M, rv]
  have HNO : Hid (∀ (c : Int) wx, Pl.I64 c → Below w.heap.size w wx → Calls Tryz.prog 31 #[.int .i64 c] wx fun e w' => RecN wx (.no c) e w') := Lib.hid fun c wx hc hb => (noOf_any c hc wx (lb.below lb.size hb)).mono fun _ _ h => h.named
  have HLB := Lib.hid lb
  have hl6 := lb.size
  have hR : X = if Sh.nameB N = true ∧ Sh.nameB M = true then (if (Fk.hit (Fk.cS M) gg.mem).isSome = true then .no 0 else if 4 ≤ gg.mem.length ∨ (th = false ∧ 4 ≤ L.length) then .no 32 else .turn N (gg.gen + 1) (Fk.clamp parts) (Fk.ins gg.mem (Fk.low (Fk.cS M) gg.mem) M)) else .no 1 := by
    rw [← hX, ← hgg, ← hth]; rfl
  rw [hgg] at hgd
  obtain ⟨a, ha⟩ : ∃ a, Sh.nameB N = a := ⟨_, rfl⟩
  obtain ⟨b, hb⟩ : ∃ b, Sh.nameB M = b := ⟨_, rfl⟩
  have HN1 : Hid (∀ wx, Calls Tryz.prog 48 #[.string N] wx fun e w' => BooOut wx a e w') := Lib.hid fun wx => by rw [← ha]; exact fisName N wx
  have HN2 : Hid (∀ wx, Calls Tryz.prog 48 #[.string M] wx fun e w' => BooOut wx b e w') := Lib.hid fun wx => by rw [← hb]; exact fisName M wx
  have HFD : Hid (∀ wx, Below w.heap.size w wx → Calls Tryz.prog 32 #[v, .string N] wx fun e w' => FndOut (fun b => b < w.heap.size) wx gg th e w') := Lib.hid fun wx hb => by rw [← hgg, ← hth]; exact find_any v L N wx (h.bound.below hb) (fun b hb' => Nat.lt_of_lt_of_le hb' hb.size) hG.small (hG.ok.mono N)
  have HGD := Lib.hid hgd
  obtain ⟨av, cap, rfl⟩ := h.form
  have HR := Lib.hid hR
  have HAB := Lib.hid (And.intro ha hb)
  have HQ2 := Lib.hid hq2
  have d8 : W2.cell? ⟨w.heap.size, 8, none⟩ = some (.string N) := hq2.kq.cell rfl
  obtain ⟨m, hm⟩ : ∃ m, L.length = m := ⟨_, rfl⟩
  rw [hm] at HR HFD
  rw [hm]
  clear hX hgg hth hR ha hb hgd hq2 lb h hG hm
  go_enter Tryz.func28, Tryz.ntmps28
  go_wp2_with fail
  refine (HN1.out _).mono ?_
  rintro e w3 ⟨rfl, hb3⟩
  have HQ3 := Lib.hid (HQ2.out.below hb3)
  have d9 : w3.cell? ⟨w.heap.size, 9, none⟩ = some (.string M) := HQ3.out.kq.cell rfl
  clear hb3
  cases a with
  | false =>
    have HX : Hid (X = .no 1) := Lib.hid (by rw [HR.out, if_neg (fun h => by have := HAB.out.1.symm.trans h.1; cases this)])
    go_wp2_with fail
    refine (HNO.out 1 _ ⟨by decide, by decide⟩ HQ3.out.low).mono ?_
    rintro e wz ⟨K, V, rfl, hKV, hbz⟩
    have HKV := Lib.hid hKV
    have HQZ := Lib.hid (HQ3.out.below hbz)
    obtain ⟨x0, x1, x2, x3⟩ := HQZ.out.kr.cells4
    obtain ⟨y0, y1, y2, y3⟩ := HQZ.out.kr.free4
    have HQF := Lib.hid (HQZ.out.fin (.int .i64 0) (.string K) (.string V) (.bool false))
    clear hbz hKV
    go_wp2_with fail
    refine bodyPost_ret (ret_join (HQZ.out.kr.four (.int .i64 0) (.string K) (.string V) (.bool false)) rfl) rfl ?_
    exact ⟨K, V, rfl, by rw [HX.out]; exact HKV.out, HQF.out⟩
  | true =>
    go_wp2_with fail
    refine (HN2.out _).mono ?_
    rintro e w4 ⟨rfl, hb4⟩
    have HQ4 := Lib.hid (HQ3.out.below hb4)
    have d8 : w4.cell? ⟨w.heap.size, 8, none⟩ = some (.string N) := HQ4.out.kq.cell rfl
    clear hb4
    cases b with
    | false =>
      have HX : Hid (X = .no 1) := Lib.hid (by rw [HR.out, if_neg (fun h => by have := HAB.out.2.symm.trans h.2; cases this)])
      go_wp2_with fail
      refine (HNO.out 1 _ ⟨by decide, by decide⟩ HQ4.out.low).mono ?_
      rintro e wz ⟨K, V, rfl, hKV, hbz⟩
      have HKV := Lib.hid hKV
      have HQZ := Lib.hid (HQ4.out.below hbz)
      obtain ⟨x0, x1, x2, x3⟩ := HQZ.out.kr.cells4
      obtain ⟨y0, y1, y2, y3⟩ := HQZ.out.kr.free4
      have HQF := Lib.hid (HQZ.out.fin (.int .i64 0) (.string K) (.string V) (.bool false))
      clear hbz hKV
      go_wp2_with fail
      refine bodyPost_ret (ret_join (HQZ.out.kr.four (.int .i64 0) (.string K) (.string V) (.bool false)) rfl) rfl ?_
      exact ⟨K, V, rfl, by rw [HX.out]; exact HKV.out, HQF.out⟩
    | true =>
      have HR2 : Hid (X = if (Fk.hit (Fk.cS M) gg.mem).isSome = true then .no 0 else if 4 ≤ gg.mem.length ∨ (th = false ∧ 4 ≤ m) then .no 32 else .turn N (gg.gen + 1) (Fk.clamp parts) (Fk.ins gg.mem (Fk.low (Fk.cS M) gg.mem) M)) := Lib.hid (by rw [HR.out, if_pos ⟨HAB.out.1, HAB.out.2⟩])
      have HNM := Lib.hid (And.intro HAB.out.1 HAB.out.2)
      clear HR HAB HN1 HN2
      go_wp2_with fail
      refine (HFD.out _ HQ4.out.low).mono ?_
      rintro e w5 ⟨gv, rfl, ⟨mv, pv, rfl, hmn, hpn⟩, hb5⟩
      obtain ⟨gnm, ggen, gparts, gmem, gpts⟩ := gg
      obtain ⟨ma, mc, rfl⟩ := hmn.form
      obtain ⟨pa, pc, rfl⟩ := hpn.form
      simp only
      have HQ5 := Lib.hid (HQ4.out.below hb5)
      obtain ⟨W6, hW6⟩ : ∃ W, w5.alloc (.cells #[.string gnm, .int .i64 ggen, .int .i64 gparts, .slice ma gmem.length mc, .slice pa gpts.length pc] 44) = W := ⟨_, rfl⟩
      have hb56 : Below w5.heap.size w5 W6 := by rw [← hW6]; exact (Below.refl _ _).alloc (Nat.le_refl _) _
      have kg6 : Blk W6 w5.heap.size #[.string gnm, .int .i64 ggen, .int .i64 gparts, .slice ma gmem.length mc, .slice pa gpts.length pc] 44 := by rw [← hW6]; exact Blk.new _ _ _
      have HQ6 := Lib.hid (HQ5.out.below hb56)
      have HKG := Lib.hid kg6
      have HMN := Lib.hid (Nms.below hmn hb56)
      have HPN := Lib.hid (Pts.below hpn hb56)
      obtain ⟨c0, c1, c2, c3, c4⟩ := kg6.cells5
      have d9 : W6.cell? ⟨w.heap.size, 9, none⟩ = some (.string M) := HQ6.out.kq.cell rfl
      have hgd := HGD.out
      have HFM := findMember_any _ _ M W6 (⟨_, _, rfl, HMN.out, HPN.out⟩ : GvAt (fun b => b < w.heap.size) W6 (.agg #[.string gnm, .int .i64 ggen, .int .i64 gparts, .slice ma gmem.length mc, .slice pa gpts.length pc]) ⟨gnm, ggen, gparts, gmem, gpts⟩) (by have := hgd.l4; omega) (hgd.sm M)
      simp only at HFM HR2
      have hil := Fk.low_le (c := Fk.cS M) gmem
      obtain ⟨i, hi⟩ : ∃ i, Fk.low (Fk.cS M) gmem = i := ⟨_, rfl⟩
      obtain ⟨inn, hinn⟩ : ∃ f, (Fk.hit (Fk.cS M) gmem).isSome = f := ⟨_, rfl⟩
      obtain ⟨gm, hgm⟩ : ∃ x, gmem.length = x := ⟨_, rfl⟩
      have hl4 : gm ≤ 4 := by rw [← hgm]; exact hgd.l4
      have hs8 := hgd.s8
      have hgr := And.intro hgd.g0 hgd.g1
      simp only at hs8 hgr
      rw [hi, hinn] at HFM
      rw [hi] at hil
      rw [hi, hinn, hgm] at HR2
      rw [hgm] at HFM hil HMN c3 HKG
      rw [hgm] at hW6
      have HFM := Lib.hid HFM
      have HGM := Lib.hid hgm
      have HS8 := Lib.hid hs8
      have HGR := Lib.hid hgr
      rw [hgm]
      clear hmn hpn hb5 hb56 kg6 hi hinn hgd HGD hs8 hgm d8 HFD
      go_wp2_with fail
      refine HFM.out.mono ?_
      rintro e w7 ⟨rfl, hb7⟩
      have HQ7 := Lib.hid (HQ6.out.below hb7)
      have HMN7 := Lib.hid (Nms.below HMN.out hb7)
      have HKG7 := Lib.hid (HKG.out.below hb7)
      obtain ⟨c0, c1, c2, c3, c4⟩ := HKG7.out.cells5
      clear hb7 HFM
      cases inn with
      | true =>
        have HX : Hid (X = .no 0) := Lib.hid (by rw [HR2.out, if_pos rfl])
        go_wp2_with fail
        refine (HNO.out 0 _ ⟨by decide, by decide⟩ HQ7.out.low).mono ?_
        rintro e wz ⟨K, V, rfl, hKV, hbz⟩
        have HKV := Lib.hid hKV
        have HQZ := Lib.hid (HQ7.out.below hbz)
        obtain ⟨x0, x1, x2, x3⟩ := HQZ.out.kr.cells4
        obtain ⟨y0, y1, y2, y3⟩ := HQZ.out.kr.free4
        have HQF := Lib.hid (HQZ.out.fin (.int .i64 0) (.string K) (.string V) (.bool false))
        clear hbz hKV
        go_wp2_with fail
        refine bodyPost_ret (ret_join (HQZ.out.kr.four (.int .i64 0) (.string K) (.string V) (.bool false)) rfl) rfl ?_
        exact ⟨K, V, rfl, by rw [HX.out]; exact HKV.out, HQF.out⟩
      | false =>
        have HR3 : Hid (X = if 4 ≤ gm ∨ (th = false ∧ 4 ≤ m) then .no 32 else .turn N (ggen + 1) (Fk.clamp parts) (Fk.ins gmem i M)) := Lib.hid (by rw [HR2.out, if_neg (by decide)])
        have HQM : Hid (QSt w w.heap.size W1.heap.size #[.int .i64 cl, .int .i64 qn, .int .i64 kd, .int .i64 pt, .int .i64 sq, .int .i64 of, .int .i64 mx, .int .i64 gn, .string N, .string M, rv] w7) := Lib.hid HQ7.out
        clear HR2
        go_upto_region 7 with fail
        go_cut [39] (fun s39 wx => s39 = .bool (decide (4 ≤ gm) || (!th && decide (4 ≤ m))) ∧ Eqw w7 wx)
        case first =>
          by_cases h4 : 4 ≤ gm
          · have h4i : (4 : Int) ≤ (gm : Int) := by omega
            cases th with
            | true =>
              go_wp2_with fail
              go_meet
              case rel => exact ⟨by rw [decide_eq_true h4]; rfl, rfl⟩
            | false =>
              by_cases h5 : 4 ≤ m
              · have h5i : (4 : Int) ≤ (m : Int) := by omega
                go_wp2_with fail
                go_meet
                case rel => exact ⟨by rw [decide_eq_true h4]; rfl, rfl⟩
              · have h5i : ¬ ((4 : Int) ≤ (m : Int)) := by omega
                go_wp2_with fail
                go_meet
                case rel => exact ⟨by rw [decide_eq_true h4]; rfl, rfl⟩
          · have h4i : ¬ ((4 : Int) ≤ (gm : Int)) := by omega
            cases th with
            | true =>
              go_wp2_with fail
              go_meet
              case rel => exact ⟨by rw [decide_eq_false h4]; rfl, rfl⟩
            | false =>
              by_cases h5 : 4 ≤ m
              · have h5i : (4 : Int) ≤ (m : Int) := by omega
                go_wp2_with fail
                go_meet
                case rel => exact ⟨by rw [decide_eq_false h4, decide_eq_true h5]; rfl, rfl⟩
              · have h5i : ¬ ((4 : Int) ≤ (m : Int)) := by omega
                go_wp2_with fail
                go_meet
                case rel => exact ⟨by rw [decide_eq_false h4, decide_eq_false h5]; rfl, rfl⟩
        case rest =>
          obtain ⟨rfl, he⟩ := hcut
          have hwe : w7 = wc := he.symm
          subst hwe
          clear he
          by_cases hmany : 4 ≤ gm ∨ (th = false ∧ 4 ≤ m)
          · have HX : Hid (X = .no 32) := Lib.hid (by rw [HR3.out, if_pos hmany])
            have hbt : (decide (4 ≤ gm) || (!th && decide (4 ≤ m))) = true := by
              rcases hmany with h | ⟨h1, h2⟩
              · rw [decide_eq_true h]; rfl
              · rw [h1, decide_eq_true h2, Bool.or_eq_true]; exact .inr rfl
            rw [hbt]
            clear hbt
            go_wp2_with fail
            refine (HNO.out 32 _ ⟨by decide, by decide⟩ HQ7.out.low).mono ?_
            rintro e wz ⟨K, V, rfl, hKV, hbz⟩
            have HKV := Lib.hid hKV
            have HQZ := Lib.hid (HQ7.out.below hbz)
            obtain ⟨x0, x1, x2, x3⟩ := HQZ.out.kr.cells4
            obtain ⟨y0, y1, y2, y3⟩ := HQZ.out.kr.free4
            have HQF := Lib.hid (HQZ.out.fin (.int .i64 0) (.string K) (.string V) (.bool false))
            clear hbz hKV
            go_wp2_with fail
            refine bodyPost_ret (ret_join (HQZ.out.kr.four (.int .i64 0) (.string K) (.string V) (.bool false)) rfl) rfl ?_
            exact ⟨K, V, rfl, by rw [HX.out]; exact HKV.out, HQF.out⟩
          · have HX : Hid (X = .turn N (ggen + 1) (Fk.clamp parts) (Fk.ins gmem i M)) := Lib.hid (by rw [HR3.out, if_neg hmany])
            have hbt : (decide (4 ≤ gm) || (!th && decide (4 ≤ m))) = false := by
              have h1 : ¬ 4 ≤ gm := fun h => hmany (.inl h)
              rw [decide_eq_false h1]
              cases th with
              | true => rfl
              | false =>
                have h2 : ¬ 4 ≤ m := fun h => hmany (.inr ⟨rfl, h⟩)
                rw [decide_eq_false h2]; rfl
            rw [hbt]
            have h4' : ¬ 4 ≤ gm := fun h => hmany (.inl h)
            clear hbt hmany
            have d8 : w7.cell? ⟨w.heap.size, 8, none⟩ = some (.string N) := HQ7.out.kq.cell rfl
            have d9 : w7.cell? ⟨w.heap.size, 9, none⟩ = some (.string M) := HQ7.out.kq.cell rfl
            have c1 : w7.cell? ⟨w5.heap.size, 1, none⟩ = some (.int .i64 ggen) := HKG7.out.cell rfl
            have c3 : w7.cell? ⟨w5.heap.size, 3, none⟩ = some (.slice ma gm mc) := HKG7.out.cell rfl
            obtain ⟨hca, hcb, hcn⟩ := Rds.cap HMN7.out
            rw [HGM.out] at hcb
            clear hca
            have j0 : (0 : Int) ≤ (i : Int) := by omega
            have j1 : (i : Int) ≤ (gm : Int) := by omega
            have j2 : (i : Int) ≤ (mc : Int) := by omega
            have hil4 : (Fk.ins gmem i M).length ≤ 4 := by rw [Fk.ins_len (by rw [HGM.out]; exact hil), HGM.out]; omega
            have HI4 := Lib.hid hil4
            have HI8 : Hid (∀ m ∈ Fk.ins gmem i M, m.size ≤ 8) := Lib.hid fun m hm => by
              rcases Fk.ins_mem.1 hm with rfl | hm
              · exact (Fk.name_len HNM.out.2).1
              · exact HS8.out m hm
            have HTO : Hid (∀ (u : Value) wx (A : Nat → Prop), Below w.heap.size w wx → Nms A wx u (Fk.ins gmem i M) → Calls Tryz.prog 65 #[.string N, .int .i64 (ggen + 1), .int .i64 parts, u] wx fun e w' => RecN wx (.turn N (ggen + 1) (Fk.clamp parts) (Fk.ins gmem i M)) e w') := Lib.hid fun u wx A hb hn => (turnOf_any N (ggen + 1) parts u _ wx (HLB.out.below hl6 hb) hn (Fk.name_len HNM.out.1).1 ⟨by have := HGR.out; omega, by have := HGR.out; omega⟩ HI4.out HI8.out).mono fun _ _ h => h.named
            have hwg : IntKind.i64.wrap (ggen + 1) = ggen + 1 := by have := HGR.out; rw [IntKind.wrap_i64]; omega
            have HX0 := Lib.hid (drew_refl w7)
            have HQD : Hid (∀ wx, Below w7.heap.size w7.drew wx → QSt w w.heap.size W1.heap.size #[.int .i64 cl, .int .i64 qn, .int .i64 kd, .int .i64 pt, .int .i64 sq, .int .i64 of, .int .i64 mx, .int .i64 gn, .string N, .string M, rv] wx) := Lib.hid fun wx hb => HQ7.out.below (of_drew hb)
            have HNE : Hid (w.heap.size ≠ W1.heap.size ∧ w5.heap.size ≠ W1.heap.size) := Lib.hid ⟨by have := HQ7.out.lr; omega, by have := HQ5.out.kr.lt; omega⟩
            clear hil4 h4' hk HNO HR3 HMN HKG HPN HQ6
            by_cases hmi : mc = i
            · have hgi : gm = i := by omega
              subst hgi
              subst hmi
              have HU1 : Hid (∀ wx, Below w7.heap.size w7 wx → Nms (fun b => b < w.heap.size) wx (.slice ma mc mc) (gmem.take mc)) := Lib.hid fun wx hb => Nms.below (Nms.take HMN7.out hil) hb
              have HU2 : Hid (∀ wx, Below w7.heap.size w7 wx → Nms (fun b => b < w.heap.size) wx (.slice ma 0 0) (gmem.drop mc)) := Lib.hid fun wx hb => Nms.below (Nms.dropz HMN7.out (by rw [HGM.out]; exact Nat.le_refl _)) hb
              have HCC := Lib.hid (join_cat mc gmem M w7 (.slice ma mc mc) (.slice ma 0 0) HU1.out HU2.out (by rw [HGM.out]; omega))
              go_upto_region 9 with fail
              have hB := HX0.out
              go_region_held3 (fun w' => w'.cell? ⟨w.heap.size, 8, none⟩ = some (.string N) ∧ w'.cell? ⟨w.heap.size, 9, none⟩ = some (.string M) ∧ w'.cell? ⟨w5.heap.size, 1, none⟩ = some (.int .i64 ggen) ∧ w'.cell? ⟨w5.heap.size, 3, none⟩ = some (.slice ma mc mc))
                (first
                  | with_reducible exact ⟨dcell hB d8, dcell hB d9, dcell hB c1, dcell hB c3⟩
                  | with_reducible exact ⟨far4 HNE.out.1 (dcell hB d8), far4 HNE.out.1 (dcell hB d9), far4 HNE.out.2 (dcell hB c1), far4 HNE.out.2 (dcell hB c3)⟩
                  | go_keep | fail)
                (first
                  | (go_at_call 66; ((with_reducible refine HCC.out.mono ?_); rintro e w8 ⟨hb8, v8, g8, rfl, hz8⟩; obtain ⟨a8, k8, rfl⟩ := hz8.form; have hn8 := nms_of hz8; have hB := join_low hb8))
                  | (go_at_call 65; ((with_reducible refine (HTO.out _ _ _ (HQ7.out.low.trans ((of_drew hB).mono HQ7.out.low.size)) hn8).mono ?_); rintro e w9 ⟨K, V, rfl, hKV, hb9⟩; have HKV := Lib.hid hKV; clear hKV; have hB := drew_trans hB hb9; obtain ⟨x0, x1, x2, x3⟩ := (HQD.out _ hB).kr.cells4; obtain ⟨y0, y1, y2, y3⟩ := (HQD.out _ hB).kr.free4))
                  | fail)
              all_goals
                have HQZ := Lib.hid (HQD.out _ hB)
                have HQF := Lib.hid (HQZ.out.fin (.int .i64 0) (.string K) (.string V) (.bool false))
                clear hB hb8 hb9 hz8 hn8 x0 x1 x2 x3 y0 y1 y2 y3
                go_wp2_with fail
                refine bodyPost_ret (ret_join (HQZ.out.kr.four (.int .i64 0) (.string K) (.string V) (.bool false)) rfl) rfl ?_
                exact ⟨K, V, rfl, by rw [HX.out]; exact HKV.out, HQF.out⟩
            · have HU1 : Hid (∀ wx, Below w7.heap.size w7 wx → Nms (fun b => b < w.heap.size) wx (.slice ma i mc) (gmem.take i)) := Lib.hid fun wx hb => Nms.below (Nms.take HMN7.out hil) hb
              have HU2 : Hid (∀ wx, Below w7.heap.size w7 wx → Nms (fun b => b < w.heap.size) wx (.slice (ma.map fun x => x.add i) (gm - i) (mc - i)) (gmem.drop i)) := Lib.hid fun wx hb => Nms.below (Nms.dropm HMN7.out hil) hb
              have HCC := Lib.hid (join_cat i gmem M w7 (.slice ma i mc) (.slice (ma.map fun x => x.add i) (gm - i) (mc - i)) HU1.out HU2.out (by rw [HGM.out]; omega))
              go_upto_region 9 with fail
              have hB := HX0.out
              go_region_held3 (fun w' => w'.cell? ⟨w.heap.size, 8, none⟩ = some (.string N) ∧ w'.cell? ⟨w.heap.size, 9, none⟩ = some (.string M) ∧ w'.cell? ⟨w5.heap.size, 1, none⟩ = some (.int .i64 ggen) ∧ w'.cell? ⟨w5.heap.size, 3, none⟩ = some (.slice ma gm mc))
                (first
                  | with_reducible exact ⟨dcell hB d8, dcell hB d9, dcell hB c1, dcell hB c3⟩
                  | with_reducible exact ⟨far4 HNE.out.1 (dcell hB d8), far4 HNE.out.1 (dcell hB d9), far4 HNE.out.2 (dcell hB c1), far4 HNE.out.2 (dcell hB c3)⟩
                  | go_keep | fail)
                (first
                  | (go_at_call 66; ((with_reducible refine HCC.out.mono ?_); rintro e w8 ⟨hb8, v8, g8, rfl, hz8⟩; obtain ⟨a8, k8, rfl⟩ := hz8.form; have hn8 := nms_of hz8; have hB := join_low hb8))
                  | (go_at_call 65; ((with_reducible refine (HTO.out _ _ _ (HQ7.out.low.trans ((of_drew hB).mono HQ7.out.low.size)) hn8).mono ?_); rintro e w9 ⟨K, V, rfl, hKV, hb9⟩; have HKV := Lib.hid hKV; clear hKV; have hB := drew_trans hB hb9; obtain ⟨x0, x1, x2, x3⟩ := (HQD.out _ hB).kr.cells4; obtain ⟨y0, y1, y2, y3⟩ := (HQD.out _ hB).kr.free4))
                  | fail)
              all_goals
                have HQZ := Lib.hid (HQD.out _ hB)
                have HQF := Lib.hid (HQZ.out.fin (.int .i64 0) (.string K) (.string V) (.bool false))
                clear hB hb8 hb9 hz8 hn8 x0 x1 x2 x3 y0 y1 y2 y3
                go_wp2_with fail
                refine bodyPost_ret (ret_join (HQZ.out.kr.four (.int .i64 0) (.string K) (.string V) (.bool false)) rfl) rfl ?_
                exact ⟨K, V, rfl, by rw [HX.out]; exact HKV.out, HQF.out⟩
end Go.Proofs.YtjccfilbihkfpaaGreatDoor

/- THE CONTRACT OF leave. -/
namespace Go.Proofs.YtjccfilbihkfpaaGreatDoor
open Go.RowKit

set_option maxHeartbeats 4000000 in
set_option maxRecDepth 100000 in
theorem leave_any {A : Nat → Prop} (v : Value) (L : List Fk.G) (parts : Int) (q : Fk.Q) (rv : Value) (k : Int) (w : World) (lb : Lb w) (h : GsR A w v L) (hG : Gk k L) (hk : k ≤ 1099511627776) :
    Calls Tryz.prog 29 #[v, .int .i64 parts, qval q rv] w fun e w' => RecN w (Fk.decL L parts q) e w' := by
  obtain ⟨cl, qn, kd, pt, sq, of, mx, gn, N, M⟩ := q
  obtain ⟨X, hX⟩ : ∃ X, Fk.decL L parts ⟨cl, qn, kd, pt, sq, of, mx, gn, N, M⟩ = X := ⟨_, rfl⟩
  rw [hX]
  have hgd := hG.gd hk N
  obtain ⟨gg, hgg⟩ : ∃ gg, Fk.fndD L N = gg := ⟨_, rfl⟩
  obtain ⟨th, hth⟩ : ∃ th, (Fk.fnd L N).isSome = th := ⟨_, rfl⟩
  obtain ⟨W1, W2, e1, e2, hq2⟩ := QSt.start w #[.int .i64 cl, .int .i64 qn, .int .i64 kd, .int .i64 pt, .int .i64 sq, .int .i64 of, .int .i64 mx, .int .i64 gn, .string N, .string M, rv]
  have HNO : Hid (∀ (c : Int) wx, Pl.I64 c → Below w.heap.size w wx → Calls Tryz.prog 31 #[.int .i64 c] wx fun e w' => RecN wx (.no c) e w') := Lib.hid fun c wx hc hb => (noOf_any c hc wx (lb.below lb.size hb)).mono fun _ _ h => h.named
  have HLB := Lib.hid lb
  have hl6 := lb.size
  have hR : X = if Sh.nameB N = true ∧ Sh.nameB M = true then (if (Fk.hit (Fk.cS M) gg.mem).isSome = false then .no 31 else .turn N (gg.gen + 1) (Fk.clamp parts) (gg.mem.take (Fk.low (Fk.cS M) gg.mem) ++ gg.mem.drop (Fk.low (Fk.cS M) gg.mem + 1))) else .no 1 := by
    rw [← hX, ← hgg]; rfl
  rw [hgg] at hgd
  obtain ⟨a, ha⟩ : ∃ a, Sh.nameB N = a := ⟨_, rfl⟩
  obtain ⟨b, hb⟩ : ∃ b, Sh.nameB M = b := ⟨_, rfl⟩
  have HN1 : Hid (∀ wx, Calls Tryz.prog 48 #[.string N] wx fun e w' => BooOut wx a e w') := Lib.hid fun wx => by rw [← ha]; exact fisName N wx
  have HN2 : Hid (∀ wx, Calls Tryz.prog 48 #[.string M] wx fun e w' => BooOut wx b e w') := Lib.hid fun wx => by rw [← hb]; exact fisName M wx
  have HFD : Hid (∀ wx, Below w.heap.size w wx → Calls Tryz.prog 32 #[v, .string N] wx fun e w' => FndOut (fun b => b < w.heap.size) wx gg th e w') := Lib.hid fun wx hb => by rw [← hgg, ← hth]; exact find_any v L N wx (h.bound.below hb) (fun b hb' => Nat.lt_of_lt_of_le hb' hb.size) hG.small (hG.ok.mono N)
  have HGD := Lib.hid hgd
  obtain ⟨av, cap, rfl⟩ := h.form
  have HR := Lib.hid hR
  have HAB := Lib.hid (And.intro ha hb)
  have HQ2 := Lib.hid hq2
  have d8 : W2.cell? ⟨w.heap.size, 8, none⟩ = some (.string N) := hq2.kq.cell rfl
  obtain ⟨m, hm⟩ : ∃ m, L.length = m := ⟨_, rfl⟩
  rw [hm] at HFD
  rw [hm]
  clear hX hgg hth hR ha hb hgd hq2 lb h hG hm
  go_enter Tryz.func29, Tryz.ntmps29
  go_wp2_with fail
  refine (HN1.out _).mono ?_
  rintro e w3 ⟨rfl, hb3⟩
  have HQ3 := Lib.hid (HQ2.out.below hb3)
  have d9 : w3.cell? ⟨w.heap.size, 9, none⟩ = some (.string M) := HQ3.out.kq.cell rfl
  clear hb3
  cases a with
  | false =>
    have HX : Hid (X = .no 1) := Lib.hid (by rw [HR.out, if_neg (fun h => by have := HAB.out.1.symm.trans h.1; cases this)])
    go_wp2_with fail
    refine (HNO.out 1 _ ⟨by decide, by decide⟩ HQ3.out.low).mono ?_
    rintro e wz ⟨K, V, rfl, hKV, hbz⟩
    have HKV := Lib.hid hKV
    have HQZ := Lib.hid (HQ3.out.below hbz)
    obtain ⟨x0, x1, x2, x3⟩ := HQZ.out.kr.cells4
    obtain ⟨y0, y1, y2, y3⟩ := HQZ.out.kr.free4
    have HQF := Lib.hid (HQZ.out.fin (.int .i64 0) (.string K) (.string V) (.bool false))
    clear hbz hKV
    go_wp2_with fail
    refine bodyPost_ret (ret_leave (HQZ.out.kr.four (.int .i64 0) (.string K) (.string V) (.bool false)) rfl) rfl ?_
    exact ⟨K, V, rfl, by rw [HX.out]; exact HKV.out, HQF.out⟩
  | true =>
    go_wp2_with fail
    refine (HN2.out _).mono ?_
    rintro e w4 ⟨rfl, hb4⟩
    have HQ4 := Lib.hid (HQ3.out.below hb4)
    have d8 : w4.cell? ⟨w.heap.size, 8, none⟩ = some (.string N) := HQ4.out.kq.cell rfl
    clear hb4
    cases b with
    | false =>
      have HX : Hid (X = .no 1) := Lib.hid (by rw [HR.out, if_neg (fun h => by have := HAB.out.2.symm.trans h.2; cases this)])
      go_wp2_with fail
      refine (HNO.out 1 _ ⟨by decide, by decide⟩ HQ4.out.low).mono ?_
      rintro e wz ⟨K, V, rfl, hKV, hbz⟩
      have HKV := Lib.hid hKV
      have HQZ := Lib.hid (HQ4.out.below hbz)
      obtain ⟨x0, x1, x2, x3⟩ := HQZ.out.kr.cells4
      obtain ⟨y0, y1, y2, y3⟩ := HQZ.out.kr.free4
      have HQF := Lib.hid (HQZ.out.fin (.int .i64 0) (.string K) (.string V) (.bool false))
      clear hbz hKV
      go_wp2_with fail
      refine bodyPost_ret (ret_leave (HQZ.out.kr.four (.int .i64 0) (.string K) (.string V) (.bool false)) rfl) rfl ?_
      exact ⟨K, V, rfl, by rw [HX.out]; exact HKV.out, HQF.out⟩
    | true =>
      have HR2 : Hid (X = if (Fk.hit (Fk.cS M) gg.mem).isSome = false then .no 31 else .turn N (gg.gen + 1) (Fk.clamp parts) (gg.mem.take (Fk.low (Fk.cS M) gg.mem) ++ gg.mem.drop (Fk.low (Fk.cS M) gg.mem + 1))) := Lib.hid (by rw [HR.out, if_pos ⟨HAB.out.1, HAB.out.2⟩])
      have HNM := Lib.hid (And.intro HAB.out.1 HAB.out.2)
      clear HR HAB HN1 HN2
      go_wp2_with fail
      refine (HFD.out _ HQ4.out.low).mono ?_
      rintro e w5 ⟨gv, rfl, ⟨mv, pv, rfl, hmn, hpn⟩, hb5⟩
      obtain ⟨gnm, ggen, gparts, gmem, gpts⟩ := gg
      obtain ⟨ma, mc, rfl⟩ := hmn.form
      obtain ⟨pa, pc, rfl⟩ := hpn.form
      simp only
      have HQ5 := Lib.hid (HQ4.out.below hb5)
      obtain ⟨W6, hW6⟩ : ∃ W, w5.alloc (.cells #[.string gnm, .int .i64 ggen, .int .i64 gparts, .slice ma gmem.length mc, .slice pa gpts.length pc] 44) = W := ⟨_, rfl⟩
      have hb56 : Below w5.heap.size w5 W6 := by rw [← hW6]; exact (Below.refl _ _).alloc (Nat.le_refl _) _
      have kg6 : Blk W6 w5.heap.size #[.string gnm, .int .i64 ggen, .int .i64 gparts, .slice ma gmem.length mc, .slice pa gpts.length pc] 44 := by rw [← hW6]; exact Blk.new _ _ _
      have HQ6 := Lib.hid (HQ5.out.below hb56)
      have HKG := Lib.hid kg6
      have HMN := Lib.hid (Nms.below hmn hb56)
      have HPN := Lib.hid (Pts.below hpn hb56)
      obtain ⟨c0, c1, c2, c3, c4⟩ := kg6.cells5
      have d9 : W6.cell? ⟨w.heap.size, 9, none⟩ = some (.string M) := HQ6.out.kq.cell rfl
      have hgd := HGD.out
      have HFM := findMember_any _ _ M W6 (⟨_, _, rfl, HMN.out, HPN.out⟩ : GvAt (fun b => b < w.heap.size) W6 (.agg #[.string gnm, .int .i64 ggen, .int .i64 gparts, .slice ma gmem.length mc, .slice pa gpts.length pc]) ⟨gnm, ggen, gparts, gmem, gpts⟩) (by have := hgd.l4; omega) (hgd.sm M)
      simp only at HFM HR2
      have hil := Fk.low_le (c := Fk.cS M) gmem
      obtain ⟨i, hi⟩ : ∃ i, Fk.low (Fk.cS M) gmem = i := ⟨_, rfl⟩
      have hih := Fk.hit_isSome (c := Fk.cS M) (l := gmem)
      obtain ⟨inn, hinn⟩ : ∃ f, (Fk.hit (Fk.cS M) gmem).isSome = f := ⟨_, rfl⟩
      obtain ⟨gm, hgm⟩ : ∃ x, gmem.length = x := ⟨_, rfl⟩
      have hl4 : gm ≤ 4 := by rw [← hgm]; exact hgd.l4
      have hs8 := hgd.s8
      have hgr := And.intro hgd.g0 hgd.g1
      simp only at hs8 hgr
      rw [hi, hinn] at HFM
      rw [hi] at hil
      rw [hi, hinn] at HR2
      rw [hi, hinn] at hih
      have hin : inn = true → i < gm := fun h => by
        rw [h] at hih
        rcases Nat.lt_or_ge i gmem.length with h2 | h2
        · rw [hgm] at h2; exact h2
        · rw [decide_eq_false (by omega)] at hih; cases hih
      clear hih
      rw [hgm] at HFM hil HMN c3 HKG
      rw [hgm] at hW6
      have HFM := Lib.hid HFM
      have HGM := Lib.hid hgm
      have HS8 := Lib.hid hs8
      have HGR := Lib.hid hgr
      rw [hgm]
      clear hmn hpn hb5 hb56 kg6 hi hinn hgd HGD hs8 hgm d8 HFD
      go_wp2_with fail
      refine HFM.out.mono ?_
      rintro e w7 ⟨rfl, hb7⟩
      have HQ7 := Lib.hid (HQ6.out.below hb7)
      have HMN7 := Lib.hid (Nms.below HMN.out hb7)
      have HKG7 := Lib.hid (HKG.out.below hb7)
      obtain ⟨c0, c1, c2, c3, c4⟩ := HKG7.out.cells5
      clear hb7 HFM
      cases inn with
      | false =>
        have HX : Hid (X = .no 31) := Lib.hid (by rw [HR2.out, if_pos rfl])
        go_wp2_with fail
        refine (HNO.out 31 _ ⟨by decide, by decide⟩ HQ7.out.low).mono ?_
        rintro e wz ⟨K, V, rfl, hKV, hbz⟩
        have HKV := Lib.hid hKV
        have HQZ := Lib.hid (HQ7.out.below hbz)
        obtain ⟨x0, x1, x2, x3⟩ := HQZ.out.kr.cells4
        obtain ⟨y0, y1, y2, y3⟩ := HQZ.out.kr.free4
        have HQF := Lib.hid (HQZ.out.fin (.int .i64 0) (.string K) (.string V) (.bool false))
        clear hbz hKV
        go_wp2_with fail
        refine bodyPost_ret (ret_leave (HQZ.out.kr.four (.int .i64 0) (.string K) (.string V) (.bool false)) rfl) rfl ?_
        exact ⟨K, V, rfl, by rw [HX.out]; exact HKV.out, HQF.out⟩
      | true =>
        have HX : Hid (X = .turn N (ggen + 1) (Fk.clamp parts) (gmem.take i ++ gmem.drop (i + 1))) := Lib.hid (by rw [HR2.out, if_neg (by decide)])
        have him := hin rfl
        have d8 : w7.cell? ⟨w.heap.size, 8, none⟩ = some (.string N) := HQ7.out.kq.cell rfl
        have d9 : w7.cell? ⟨w.heap.size, 9, none⟩ = some (.string M) := HQ7.out.kq.cell rfl
        have c1 : w7.cell? ⟨w5.heap.size, 1, none⟩ = some (.int .i64 ggen) := HKG7.out.cell rfl
        have c3 : w7.cell? ⟨w5.heap.size, 3, none⟩ = some (.slice ma gm mc) := HKG7.out.cell rfl
        obtain ⟨hca, hcb, hcn⟩ := Rds.cap HMN7.out
        rw [HGM.out] at hcb
        clear hca
        have j0 : (0 : Int) ≤ (i : Int) := by omega
        have j1 : (i : Int) ≤ (gm : Int) := by omega
        have j2 : (i : Int) ≤ (mc : Int) := by omega
        have hil4 : (gmem.take i ++ gmem.drop (i + 1)).length ≤ 4 := by rw [List.length_append, List.length_take, List.length_drop, HGM.out]; omega
        have HI4 := Lib.hid hil4
        have HI8 : Hid (∀ m ∈ gmem.take i ++ gmem.drop (i + 1), m.size ≤ 8) := Lib.hid fun m hm => by
          rcases List.mem_append.1 hm with hm | hm
          · exact HS8.out m (List.mem_of_mem_take hm)
          · exact HS8.out m (List.mem_of_mem_drop hm)
        obtain ⟨LL, hLL⟩ : ∃ x, gmem.take i ++ gmem.drop (i + 1) = x := ⟨_, rfl⟩
        rw [hLL] at HX HI4 HI8
        have HTO : Hid (∀ (u : Value) wx (A : Nat → Prop), Below w.heap.size w wx → Nms A wx u (LL) → Calls Tryz.prog 65 #[.string N, .int .i64 (ggen + 1), .int .i64 parts, u] wx fun e w' => RecN wx (.turn N (ggen + 1) (Fk.clamp parts) (LL)) e w') := Lib.hid fun u wx A hb hn => (turnOf_any N (ggen + 1) parts u _ wx (HLB.out.below hl6 hb) hn (Fk.name_len HNM.out.1).1 ⟨by have := HGR.out; omega, by have := HGR.out; omega⟩ HI4.out HI8.out).mono fun _ _ h => h.named
        have hwg : IntKind.i64.wrap (ggen + 1) = ggen + 1 := by have := HGR.out; rw [IntKind.wrap_i64]; omega
        have HX0 := Lib.hid (drew_refl w7)
        have HQD : Hid (∀ wx, Below w7.heap.size w7.drew wx → QSt w w.heap.size W1.heap.size #[.int .i64 cl, .int .i64 qn, .int .i64 kd, .int .i64 pt, .int .i64 sq, .int .i64 of, .int .i64 mx, .int .i64 gn, .string N, .string M, rv] wx) := Lib.hid fun wx hb => HQ7.out.below (of_drew hb)
        have HNE : Hid (w.heap.size ≠ W1.heap.size ∧ w5.heap.size ≠ W1.heap.size) := Lib.hid ⟨by have := HQ7.out.lr; omega, by have := HQ5.out.kr.lt; omega⟩
        have j3 : (0 : Int) ≤ (i : Int) + 1 := by omega
        have j4 : (i : Int) + 1 ≤ (gm : Int) := by omega
        have j5 : (i : Int) + 1 ≤ (mc : Int) := by omega
        have hw1 : IntKind.i64.wrap ((i : Int) + 1) = (i : Int) + 1 := by rw [IntKind.wrap_i64]; omega
        have htn : ((i : Int) + 1).toNat = i + 1 := by omega
        have hm0 : ¬ (mc = 0) := by omega
        clear hil4 hk HNO HR2 HMN HKG HPN HQ6 hin
        by_cases hmi : mc = i + 1
        · have hgi : gm = i + 1 := by omega
          subst hgi
          subst hmi
          have j6 : (i : Int) ≤ (i : Int) + 1 := by omega
          have j7 : i ≤ i + 1 := by omega
          have HU1 : Hid (∀ wx, Below w7.heap.size w7 wx → Nms (fun b => b < w.heap.size) wx (.slice ma i (i + 1)) (gmem.take i)) := Lib.hid fun wx hb => Nms.below (Nms.take HMN7.out hil) hb
          have HU2 : Hid (∀ wx, Below w7.heap.size w7 wx → Nms (fun b => b < w.heap.size) wx (.slice ma 0 0) (gmem.drop (i + 1))) := Lib.hid fun wx hb => Nms.below (Nms.dropz HMN7.out (by rw [HGM.out]; exact Nat.le_refl _)) hb
          have HCC := (leave_cat i gmem w7 (.slice ma i (i + 1)) (.slice ma 0 0) HU1.out HU2.out (by rw [HGM.out]; omega))
          rw [hLL] at HCC
          have HCC := Lib.hid HCC
          clear hLL
          go_upto_region 7 with fail
          have hB := HX0.out
          go_region_held3 (fun w' => w'.cell? ⟨w.heap.size, 8, none⟩ = some (.string N) ∧ w'.cell? ⟨w5.heap.size, 1, none⟩ = some (.int .i64 ggen) ∧ w'.cell? ⟨w5.heap.size, 3, none⟩ = some (.slice ma (i + 1) (i + 1)))
            (first
              | with_reducible exact ⟨dcell hB d8, dcell hB c1, dcell hB c3⟩
              | with_reducible exact ⟨far4 HNE.out.1 (dcell hB d8), far4 HNE.out.2 (dcell hB c1), far4 HNE.out.2 (dcell hB c3)⟩
              | go_keep | fail)
            (first
              | (go_at_call 66; ((with_reducible refine HCC.out.mono ?_); rintro e w8 ⟨hb8, v8, g8, rfl, hz8⟩; obtain ⟨a8, k8, rfl⟩ := hz8.form; have hn8 := nms_of hz8; have hB := leave_low hb8))
              | (go_at_call 65; ((with_reducible refine (HTO.out _ _ _ (HQ7.out.low.trans ((of_drew hB).mono HQ7.out.low.size)) hn8).mono ?_); rintro e w9 ⟨K, V, rfl, hKV, hb9⟩; have HKV := Lib.hid hKV; clear hKV; have hB := drew_trans hB hb9; obtain ⟨x0, x1, x2, x3⟩ := (HQD.out _ hB).kr.cells4; obtain ⟨y0, y1, y2, y3⟩ := (HQD.out _ hB).kr.free4))
              | fail)
          all_goals
            have HQZ := Lib.hid (HQD.out _ hB)
            have HQF := Lib.hid (HQZ.out.fin (.int .i64 0) (.string K) (.string V) (.bool false))
            clear hB hb8 hb9 hz8 hn8 x0 x1 x2 x3 y0 y1 y2 y3
            go_wp2_with fail
            refine bodyPost_ret (ret_leave (HQZ.out.kr.four (.int .i64 0) (.string K) (.string V) (.bool false)) rfl) rfl ?_
            exact ⟨K, V, rfl, by rw [HX.out]; exact HKV.out, HQF.out⟩
        · have HU1 : Hid (∀ wx, Below w7.heap.size w7 wx → Nms (fun b => b < w.heap.size) wx (.slice ma i mc) (gmem.take i)) := Lib.hid fun wx hb => Nms.below (Nms.take HMN7.out hil) hb
          have HU2 : Hid (∀ wx, Below w7.heap.size w7 wx → Nms (fun b => b < w.heap.size) wx (.slice (ma.map fun x => ⟨x.block, x.off + (i + 1), none⟩) (gm - (i + 1)) (mc - (i + 1))) (gmem.drop (i + 1))) := Lib.hid fun wx hb => Nms.below (by have := Nms.dropm HMN7.out him; simpa [Addr.add] using this) hb
          have HCC := (leave_cat i gmem w7 (.slice ma i mc) (.slice (ma.map fun x => ⟨x.block, x.off + (i + 1), none⟩) (gm - (i + 1)) (mc - (i + 1))) HU1.out HU2.out (by rw [HGM.out]; omega))
          rw [hLL] at HCC
          have HCC := Lib.hid HCC
          clear hLL
          go_upto_region 7 with fail
          have hB := HX0.out
          go_region_held3 (fun w' => w'.cell? ⟨w.heap.size, 8, none⟩ = some (.string N) ∧ w'.cell? ⟨w5.heap.size, 1, none⟩ = some (.int .i64 ggen) ∧ w'.cell? ⟨w5.heap.size, 3, none⟩ = some (.slice ma gm mc))
            (first
              | with_reducible exact ⟨dcell hB d8, dcell hB c1, dcell hB c3⟩
              | with_reducible exact ⟨far4 HNE.out.1 (dcell hB d8), far4 HNE.out.2 (dcell hB c1), far4 HNE.out.2 (dcell hB c3)⟩
              | go_keep | fail)
            (first
              | (go_at_call 66; ((with_reducible refine HCC.out.mono ?_); rintro e w8 ⟨hb8, v8, g8, rfl, hz8⟩; obtain ⟨a8, k8, rfl⟩ := hz8.form; have hn8 := nms_of hz8; have hB := leave_low hb8))
              | (go_at_call 65; ((with_reducible refine (HTO.out _ _ _ (HQ7.out.low.trans ((of_drew hB).mono HQ7.out.low.size)) hn8).mono ?_); rintro e w9 ⟨K, V, rfl, hKV, hb9⟩; have HKV := Lib.hid hKV; clear hKV; have hB := drew_trans hB hb9; obtain ⟨x0, x1, x2, x3⟩ := (HQD.out _ hB).kr.cells4; obtain ⟨y0, y1, y2, y3⟩ := (HQD.out _ hB).kr.free4))
              | fail)
          all_goals
            have HQZ := Lib.hid (HQD.out _ hB)
            have HQF := Lib.hid (HQZ.out.fin (.int .i64 0) (.string K) (.string V) (.bool false))
            clear hB hb8 hb9 hz8 hn8 x0 x1 x2 x3 y0 y1 y2 y3
            go_wp2_with fail
            refine bodyPost_ret (ret_leave (HQZ.out.kr.four (.int .i64 0) (.string K) (.string V) (.bool false)) rfl) rfl ?_
            exact ⟨K, V, rfl, by rw [HX.out]; exact HKV.out, HQF.out⟩
end Go.Proofs.YtjccfilbihkfpaaGreatDoor
