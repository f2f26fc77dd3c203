import Derived.Test.YtjccfilbihkfpaaGreatDoorM16
import Derived.Deep.RegionHeld3
import Derived.Deep.DrawnRows
import Derived.Test.YtjccfilbihkfpaaGreatDoorM17

/- THE CONTRACT OF commit. -/
namespace Go.Proofs.YtjccfilbihkfpaaGreatDoor
open Go.RowKit

theorem Gk.own {k : Int} {L : List Fk.G} (h : Gk k L) {N y : ByteArray} {p : Int} (ho : Fk.ownD (Fk.fndD L N) p = some y) : N.size ≤ 8 ∧ 0 ≤ p ∧ p < 4 := by
  have hl : (Sh.msOf (Fk.fndD L N).parts (Fk.fndD L N).mem).length ≤ 3 := Sh.msOf_len
  unfold Fk.ownD Sh.ownerOf at ho
  split at ho
  case isFalse => cases ho
  case isTrue h1 =>
    have hm := List.mem_of_getElem? ho
    have hi := (List.getElem?_eq_some_iff.1 ho).1
    refine ⟨?_, by omega, by omega⟩
    cases hf : Fk.fnd L N with
    | none =>
      have hz : Fk.fndD L N = Fk.zeroG := by unfold Fk.fndD; rw [hf]; rfl
      rw [hz] at hm
      have := Sh.msOf_mem hm
      simp [Fk.zeroG] at this
    | some g =>
      have hn := (Fk.fnd_some hf).2
      rw [← hn]
      exact (Fk.name_len (h.ok.all g (Fk.hit_mem hf)).name).1
set_option maxHeartbeats 4000000 in
set_option maxRecDepth 100000 in
theorem commit_any {A : Nat → Prop} (v : Value) (L : List Fk.G) (q : Fk.Q) (rv : Value) (k : Int) (w : World) (lb : Lb w) (h : GsR A w v L) (hG : Gk k L) (hk : k ≤ 1099511627776) :
    Calls Tryz.prog 30 #[v, qval q rv] w fun e w' => RecN w (Fk.decC L q) e w' := by
  obtain ⟨cl, qn, kd, pt, sq, of, mx, gn, N, M⟩ := q
  obtain ⟨X, hX⟩ : ∃ X, Fk.decC L ⟨cl, qn, kd, pt, sq, of, mx, gn, N, M⟩ = X := ⟨_, rfl⟩
  rw [hX]
  have hgd := hG.gd hk N
  obtain ⟨gg, hgg⟩ : ∃ gg, Fk.fndD L N = gg := ⟨_, rfl⟩
  obtain ⟨th, hth⟩ : ∃ th, (Fk.fnd L N).isSome = th := ⟨_, rfl⟩
  obtain ⟨W1, W2, e1, e2, hq2⟩ := QSt.start w #[.int .i64 cl, .int .i64 qn, .int .i64 kd, .int .i64 pt, .int .i64 sq, .int .i64 of, .int .i64 mx, .int .i64 gn, .string N, .string M, rv]
  have HNO : Hid (∀ (c : Int) wx, Pl.I64 c → Below w.heap.size w wx → Calls Tryz.prog 31 #[.int .i64 c] wx fun e w' => RecN wx (.no c) e w') := Lib.hid fun c wx hc hb => (noOf_any c hc wx (lb.below lb.size hb)).mono fun _ _ h => h.named
  have HLB := Lib.hid lb
  have hl6 := lb.size
  have hR : X = if gn = gg.gen ∧ Fk.ownD gg pt = some M then (if 0 ≤ of ∧ of ≤ 1099511627776 then .point N pt of gn else .no 1) else .no 30 := by
    rw [← hX, ← hgg]; rfl
  have hown : ∀ y, Fk.ownD gg pt = some y → N.size ≤ 8 ∧ 0 ≤ pt ∧ pt < 4 := fun y hy => hG.own (by rw [hgg]; exact hy)
  rw [hgg] at hgd
  have HFD : Hid (∀ wx, Below w.heap.size w wx → Calls Tryz.prog 32 #[v, .string N] wx fun e w' => FndOut (fun b => b < w.heap.size) wx gg th e w') := Lib.hid fun wx hb => by rw [← hgg, ← hth]; exact find_any v L N wx (h.bound.below hb) (fun b hb' => Nat.lt_of_lt_of_le hb' hb.size) hG.small (hG.ok.mono N)
  have HGR := Lib.hid (And.intro hgd.g0 hgd.g1)
  obtain ⟨av, cap, rfl⟩ := h.form
  obtain ⟨o, ho⟩ : ∃ o, Fk.ownD gg pt = o := ⟨_, rfl⟩
  have HOW : Hid (∀ (a : Value) wx (A : Nat → Prop), Nms A wx a gg.mem → Calls Tryz.prog 18 #[.int .i64 gg.parts, a, .int .i64 pt] wx fun e w' => OwnOut wx o e w') := Lib.hid fun a wx A hn => by rw [← ho]; exact owner_any gg.parts a gg.mem pt wx hn
  rw [ho] at hR hown
  have HR := Lib.hid hR
  have HWN := Lib.hid hown
  have HQ2 := Lib.hid hq2
  have d8 : W2.cell? ⟨w.heap.size, 8, none⟩ = some (.string N) := hq2.kq.cell rfl
  obtain ⟨m, hm⟩ : ∃ m, L.length = m := ⟨_, rfl⟩
  rw [hm] at HFD
  rw [hm]
  clear hX hgg hth hR hown ho hgd hq2 lb h hG hm
  go_enter Tryz.func30, Tryz.ntmps30
  go_wp2_with fail
  refine (HFD.out _ HQ2.out.low).mono ?_
  rintro e w5 ⟨gv, rfl, ⟨mv, pv, rfl, hmn, hpn⟩, hb5⟩
  obtain ⟨gnm, ggen, gparts, gmem, gpts⟩ := gg
  obtain ⟨ma, mc, rfl⟩ := hmn.form
  obtain ⟨pa, pc, rfl⟩ := hpn.form
  simp only
  have HQ5 := Lib.hid (HQ2.out.below hb5)
  obtain ⟨W6, hW6⟩ : ∃ W, w5.alloc (.cells #[.string gnm, .int .i64 ggen, .int .i64 gparts, .slice ma gmem.length mc, .slice pa gpts.length pc] 44) = W := ⟨_, rfl⟩
  have hb56 : Below w5.heap.size w5 W6 := by rw [← hW6]; exact (Below.refl _ _).alloc (Nat.le_refl _) _
  have kg6 : Blk W6 w5.heap.size #[.string gnm, .int .i64 ggen, .int .i64 gparts, .slice ma gmem.length mc, .slice pa gpts.length pc] 44 := by rw [← hW6]; exact Blk.new _ _ _
  have HQ6 := Lib.hid (HQ5.out.below hb56)
  have HKG := Lib.hid kg6
  have HMN := Lib.hid (Nms.below hmn hb56)
  have HPN := Lib.hid (Pts.below hpn hb56)
  obtain ⟨c0, c1, c2, c3, c4⟩ := kg6.cells5
  have d3 : W6.cell? ⟨w.heap.size, 3, none⟩ = some (.int .i64 pt) := HQ6.out.kq.cell rfl
  simp only at HR HGR HOW
  have HOX := Lib.hid (HOW.out (.slice ma gmem.length mc) W6 _ HMN.out)
  obtain ⟨gm, hgm⟩ : ∃ x, gmem.length = x := ⟨_, rfl⟩
  rw [hgm] at HOX c3 HKG hW6
  rw [hgm]
  clear hmn hpn hb5 hb56 kg6 hgm d8 HFD HOW HMN HPN
  go_wp2_with fail
  refine HOX.out.mono ?_
  rintro e w7 ⟨hb7, rfl⟩
  have HQ7 := Lib.hid (HQ6.out.below hb7)
  have HKG7 := Lib.hid (HKG.out.below hb7)
  have d7 : w7.cell? ⟨w.heap.size, 7, none⟩ = some (.int .i64 gn) := HQ7.out.kq.cell rfl
  have d9 : w7.cell? ⟨w.heap.size, 9, none⟩ = some (.string M) := HQ7.out.kq.cell rfl
  have c1 : w7.cell? ⟨w5.heap.size, 1, none⟩ = some (.int .i64 ggen) := HKG7.out.cell rfl
  clear hb7 HOX
  go_upto_region 3 with fail
  go_cut [26] (fun s26 wx => s26 = .bool (!decide (gn = ggen ∧ o = some M)) ∧ Eqw w7 wx)
  case first =>
    by_cases hg : gn = ggen
    · cases o with
      | none =>
        go_wp2_with fail
        go_meet
        case rel => exact ⟨by rw [decide_eq_false (fun h => by cases h.2)]; rfl, rfl⟩
      | some y =>
        by_cases hy : y = M
        · have hyb : (y.toList == M.toList) = true := by rw [hy]; simp
          go_wp2_with fail
          go_meet
          case rel => exact ⟨by rw [decide_eq_true (And.intro hg (congrArg some hy))] <;> rfl, rfl⟩
        · have hyb : (y.toList == M.toList) = false := by
            rcases he : (y.toList == M.toList) with _ | _
            · rfl
            · exact absurd (Sh.eqB_iff.1 he) hy
          go_wp2_with fail
          go_meet
          case rel => exact ⟨by rw [decide_eq_false (fun h => hy (Option.some.inj h.2))] <;> rfl, rfl⟩
    · go_wp2_with fail
      go_meet
      case rel => exact ⟨by rw [decide_eq_false (fun h => hg h.1)]; rfl, rfl⟩
  case rest =>
    obtain ⟨rfl, he⟩ := hcut
    have hwe : w7 = wc := he.symm
    subst hwe
    clear he
    by_cases hc : gn = ggen ∧ o = some M
    · have hbt : (!decide (gn = ggen ∧ o = some M)) = false := by rw [decide_eq_true hc]; rfl
      rw [hbt]
      have HR2 : Hid (X = if 0 ≤ of ∧ of ≤ 1099511627776 then .point N pt of gn else .no 1) := Lib.hid (by rw [HR.out, if_pos hc])
      have d5 : w7.cell? ⟨w.heap.size, 5, none⟩ = some (.int .i64 of) := HQ7.out.kq.cell rfl
      have HPO : Hid (0 ≤ of ∧ of ≤ 1099511627776 → Calls Tryz.prog 67 #[.string N, .int .i64 gn, .agg #[.int .i64 pt, .int .i64 of]] w7 fun e w' => RecN w7 (.point N pt of gn) e w') := Lib.hid fun ho => (pointOf_any N gn pt of w7 (HLB.out.below hl6 HQ7.out.low) (HWN.out M hc.2).1 ⟨by have := HGR.out; rw [hc.1]; omega, by have := HGR.out; rw [hc.1]; omega⟩ (HWN.out M hc.2).2 ho).mono fun _ _ h => h.named
      have HSO := Lib.hid (fisOffset of w7)
      obtain ⟨t, ht⟩ : ∃ t, decide (0 ≤ of ∧ of ≤ 1099511627776) = t := ⟨_, rfl⟩
      rw [ht] at HSO
      have HT := Lib.hid ht
      clear hbt hc HR HWN HGR ht
      go_wp2_with fail
      refine HSO.out.mono ?_
      rintro e w8 ⟨rfl, rfl⟩
      cases t with
      | false =>
        have HX : Hid (X = .no 1) := Lib.hid (by rw [HR2.out, if_neg (of_decide_eq_false HT.out)])
        go_wp2_with fail
        refine (HNO.out 1 _ ⟨by decide, by decide⟩ HQ7.out.low).mono ?_
        rintro e wz ⟨K, V, rfl, hKV, hbz⟩
        have HKV := Lib.hid hKV
        have HQZ := Lib.hid (HQ7.out.below hbz)
        obtain ⟨x0, x1, x2, x3⟩ := HQZ.out.kr.cells4
        obtain ⟨y0, y1, y2, y3⟩ := HQZ.out.kr.free4
        have HQF := Lib.hid (HQZ.out.fin (.int .i64 0) (.string K) (.string V) (.bool false))
        clear hbz hKV
        go_wp2_with fail
        refine bodyPost_ret (ret_commit (HQZ.out.kr.four (.int .i64 0) (.string K) (.string V) (.bool false)) rfl) rfl ?_
        exact ⟨K, V, rfl, by rw [HX.out]; exact HKV.out, HQF.out⟩
      | true =>
        have HX : Hid (X = .point N pt of gn) := Lib.hid (by rw [HR2.out, if_pos (of_decide_eq_true HT.out)])
        have HPO := Lib.hid (HPO.out (of_decide_eq_true HT.out))
        have d8 : w8.cell? ⟨w.heap.size, 8, none⟩ = some (.string N) := HQ7.out.kq.cell rfl
        have d3 : w8.cell? ⟨w.heap.size, 3, none⟩ = some (.int .i64 pt) := HQ7.out.kq.cell rfl
        go_wp2_with fail
        refine (HPO.out).mono ?_
        rintro e wz ⟨K, V, rfl, hKV, hbz⟩
        have HKV := Lib.hid hKV
        have HQZ := Lib.hid (HQ7.out.below hbz)
        obtain ⟨x0, x1, x2, x3⟩ := HQZ.out.kr.cells4
        obtain ⟨y0, y1, y2, y3⟩ := HQZ.out.kr.free4
        have HQF := Lib.hid (HQZ.out.fin (.int .i64 0) (.string K) (.string V) (.bool false))
        clear hbz hKV
        go_wp2_with fail
        refine bodyPost_ret (ret_commit (HQZ.out.kr.four (.int .i64 0) (.string K) (.string V) (.bool false)) rfl) rfl ?_
        exact ⟨K, V, rfl, by rw [HX.out]; exact HKV.out, HQF.out⟩
    · have hbt : (!decide (gn = ggen ∧ o = some M)) = true := by rw [decide_eq_false hc]; rfl
      rw [hbt]
      have HX : Hid (X = .no 30) := Lib.hid (by rw [HR.out, if_neg hc])
      clear hbt hc
      go_wp2_with fail
      refine (HNO.out 30 _ ⟨by decide, by decide⟩ HQ7.out.low).mono ?_
      rintro e wz ⟨K, V, rfl, hKV, hbz⟩
      have HKV := Lib.hid hKV
      have HQZ := Lib.hid (HQ7.out.below hbz)
      obtain ⟨x0, x1, x2, x3⟩ := HQZ.out.kr.cells4
      obtain ⟨y0, y1, y2, y3⟩ := HQZ.out.kr.free4
      have HQF := Lib.hid (HQZ.out.fin (.int .i64 0) (.string K) (.string V) (.bool false))
      clear hbz hKV
      go_wp2_with fail
      refine bodyPost_ret (ret_commit (HQZ.out.kr.four (.int .i64 0) (.string K) (.string V) (.bool false)) rfl) rfl ?_
      exact ⟨K, V, rfl, by rw [HX.out]; exact HKV.out, HQF.out⟩
end Go.Proofs.YtjccfilbihkfpaaGreatDoor

/- THE CONTRACT OF Decide. -/
namespace Go.Proofs.YtjccfilbihkfpaaGreatDoor
open Go.RowKit

theorem Blk.cells11 {w : World} {b : Nat} {a0 a1 a2 a3 a4 a5 a6 a7 a8 a9 a10 : Value} {T : TypeId} (h : Blk w b #[a0, a1, a2, a3, a4, a5, a6, a7, a8, a9, a10] T) :
    w.cell? ⟨b, 0, none⟩ = some a0 ∧ w.cell? ⟨b, 1, none⟩ = some a1 ∧ w.cell? ⟨b, 2, none⟩ = some a2 ∧ w.cell? ⟨b, 3, none⟩ = some a3 ∧ w.cell? ⟨b, 4, none⟩ = some a4 ∧ w.cell? ⟨b, 5, none⟩ = some a5 ∧ w.cell? ⟨b, 6, none⟩ = some a6 ∧ w.cell? ⟨b, 7, none⟩ = some a7 ∧ w.cell? ⟨b, 8, none⟩ = some a8 ∧ w.cell? ⟨b, 9, none⟩ = some a9 ∧ w.cell? ⟨b, 10, none⟩ = some a10 :=
  ⟨h.cell rfl, h.cell rfl, h.cell rfl, h.cell rfl, h.cell rfl, h.cell rfl, h.cell rfl, h.cell rfl, h.cell rfl, h.cell rfl, h.cell rfl⟩
set_option maxHeartbeats 4000000 in
set_option maxRecDepth 100000 in
theorem decide_any {A : Nat → Prop} (v : Value) (L : List Fk.G) (parts : Int) (q : Fk.Q) (rv : Value) (k : Int) (w : World) (lb : Lb w) (h : GsR A w v L) (hG : Gk k L) (hk : k ≤ 1099511627776) :
    Calls Tryz.prog 14 #[v, .int .i64 parts, qval q rv] w fun e w' => RecN w (Fk.decide L parts q) e w' := by
  have HJ : Hid (∀ wx, Below w.heap.size w wx → Calls Tryz.prog 28 #[v, .int .i64 parts, qval q rv] wx fun e w' => RecN wx (Fk.decJ L parts q) e w') := Lib.hid fun wx hb => join_any v L parts q rv k wx (lb.below lb.size hb) (h.bound.below hb) hG hk
  have HL : Hid (∀ wx, Below w.heap.size w wx → Calls Tryz.prog 29 #[v, .int .i64 parts, qval q rv] wx fun e w' => RecN wx (Fk.decL L parts q) e w') := Lib.hid fun wx hb => leave_any v L parts q rv k wx (lb.below lb.size hb) (h.bound.below hb) hG hk
  have HC : Hid (∀ wx, Below w.heap.size w wx → Calls Tryz.prog 30 #[v, qval q rv] wx fun e w' => RecN wx (Fk.decC L q) e w') := Lib.hid fun wx hb => commit_any v L q rv k wx (lb.below lb.size hb) (h.bound.below hb) hG hk
  obtain ⟨XJ, hXJ⟩ : ∃ X, Fk.decJ L parts q = X := ⟨_, rfl⟩
  obtain ⟨XL, hXL⟩ : ∃ X, Fk.decL L parts q = X := ⟨_, rfl⟩
  obtain ⟨XC, hXC⟩ : ∃ X, Fk.decC L q = X := ⟨_, rfl⟩
  obtain ⟨X, hX⟩ : ∃ X, Fk.decide L parts q = X := ⟨_, rfl⟩
  have hR : X = if q.kind = 3 then XJ else if q.kind = 4 then XL else if q.kind = 6 then XC else .no 1 := by rw [← hX, ← hXJ, ← hXL, ← hXC]; rfl
  rw [hXJ] at HJ
  rw [hXL] at HL
  rw [hXC] at HC
  rw [hX]
  obtain ⟨cl, qn, kd, pt, sq, of, mx, gn, N, M⟩ := q
  simp only at hR
  obtain ⟨W1, W2, e1, e2, hq2⟩ := QSt.start w #[.int .i64 cl, .int .i64 qn, .int .i64 kd, .int .i64 pt, .int .i64 sq, .int .i64 of, .int .i64 mx, .int .i64 gn, .string N, .string M, rv]
  have HNO : Hid (∀ (c : Int) wx, Pl.I64 c → Below w.heap.size w wx → Calls Tryz.prog 31 #[.int .i64 c] wx fun e w' => RecN wx (.no c) e w') := Lib.hid fun c wx hc hb => (noOf_any c hc wx (lb.below lb.size hb)).mono fun _ _ h => h.named
  obtain ⟨av, cap, rfl⟩ := h.form
  obtain ⟨m, hm⟩ : ∃ m, L.length = m := ⟨_, rfl⟩
  rw [hm] at HJ HL HC ⊢
  have HQ2 := Lib.hid hq2
  have HR := Lib.hid hR
  obtain ⟨d0, d1, d2, d3, d4, d5, d6, d7, d8, d9, d10⟩ := hq2.kq.cells11
  clear hX hXJ hXL hXC hR hq2 lb h hG hm hk
  by_cases k3 : kd = 3
  · subst k3
    have HX : Hid (X = XJ) := Lib.hid (by rw [HR.out]; exact if_pos rfl)
    clear HR
    
    go_enter Tryz.func14, Tryz.ntmps14
    go_wp2_with fail
    refine (HJ.out _ HQ2.out.low).mono ?_
    rintro e wz ⟨K, V, rfl, hKV, hbz⟩
    have HKV := Lib.hid hKV
    have HQZ := Lib.hid (HQ2.out.below hbz)
    obtain ⟨x0, x1, x2, x3⟩ := HQZ.out.kr.cells4
    obtain ⟨y0, y1, y2, y3⟩ := HQZ.out.kr.free4
    have HQF := Lib.hid (HQZ.out.fin (.int .i64 0) (.string K) (.string V) (.bool false))
    clear hbz hKV
    go_wp2_with fail
    refine bodyPost_ret (ret_Decide (HQZ.out.kr.four (.int .i64 0) (.string K) (.string V) (.bool false)) rfl) rfl ?_
    exact ⟨K, V, rfl, by rw [HX.out]; exact HKV.out, HQF.out⟩
  · by_cases k4 : kd = 4
    · subst k4
      have HX : Hid (X = XL) := Lib.hid (by rw [HR.out, if_neg (by decide)]; exact if_pos rfl)
      clear HR
      
      go_enter Tryz.func14, Tryz.ntmps14
      go_wp2_with fail
      refine (HL.out _ HQ2.out.low).mono ?_
      rintro e wz ⟨K, V, rfl, hKV, hbz⟩
      have HKV := Lib.hid hKV
      have HQZ := Lib.hid (HQ2.out.below hbz)
      obtain ⟨x0, x1, x2, x3⟩ := HQZ.out.kr.cells4
      obtain ⟨y0, y1, y2, y3⟩ := HQZ.out.kr.free4
      have HQF := Lib.hid (HQZ.out.fin (.int .i64 0) (.string K) (.string V) (.bool false))
      clear hbz hKV
      go_wp2_with fail
      refine bodyPost_ret (ret_Decide (HQZ.out.kr.four (.int .i64 0) (.string K) (.string V) (.bool false)) rfl) rfl ?_
      exact ⟨K, V, rfl, by rw [HX.out]; exact HKV.out, HQF.out⟩
    · by_cases k6 : kd = 6
      · subst k6
        have HX : Hid (X = XC) := Lib.hid (by rw [HR.out, if_neg (by decide), if_neg (by decide)]; exact if_pos rfl)
        clear HR
        
        go_enter Tryz.func14, Tryz.ntmps14
        go_wp2_with fail
        refine (HC.out _ HQ2.out.low).mono ?_
        rintro e wz ⟨K, V, rfl, hKV, hbz⟩
        have HKV := Lib.hid hKV
        have HQZ := Lib.hid (HQ2.out.below hbz)
        obtain ⟨x0, x1, x2, x3⟩ := HQZ.out.kr.cells4
        obtain ⟨y0, y1, y2, y3⟩ := HQZ.out.kr.free4
        have HQF := Lib.hid (HQZ.out.fin (.int .i64 0) (.string K) (.string V) (.bool false))
        clear hbz hKV
        go_wp2_with fail
        refine bodyPost_ret (ret_Decide (HQZ.out.kr.four (.int .i64 0) (.string K) (.string V) (.bool false)) rfl) rfl ?_
        exact ⟨K, V, rfl, by rw [HX.out]; exact HKV.out, HQF.out⟩
      · have HX : Hid (X = .no 1) := Lib.hid (by rw [HR.out, if_neg k3, if_neg k4, if_neg k6])
        clear HR
        
        go_enter Tryz.func14, Tryz.ntmps14
        go_wp2_with fail
        refine (HNO.out 1 _ ⟨by decide, by decide⟩ HQ2.out.low).mono ?_
        rintro e wz ⟨K, V, rfl, hKV, hbz⟩
        have HKV := Lib.hid hKV
        have HQZ := Lib.hid (HQ2.out.below hbz)
        obtain ⟨x0, x1, x2, x3⟩ := HQZ.out.kr.cells4
        obtain ⟨y0, y1, y2, y3⟩ := HQZ.out.kr.free4
        have HQF := Lib.hid (HQZ.out.fin (.int .i64 0) (.string K) (.string V) (.bool false))
        clear hbz hKV
        go_wp2_with fail
        refine bodyPost_ret (ret_Decide (HQZ.out.kr.four (.int .i64 0) (.string K) (.string V) (.bool false)) rfl) rfl ?_
        exact ⟨K, V, rfl, by rw [HX.out]; exact HKV.out, HQF.out⟩
end Go.Proofs.YtjccfilbihkfpaaGreatDoor

/- WHAT IS TOLD OF A GROUP: the contracts of standing and beat. -/
namespace Go.Proofs.YtjccfilbihkfpaaGreatDoor
open Go.RowKit

namespace Fk
def own (g : G) (y : ByteArray) : List Int := Sh.pOf 0 (Sh.msOf g.parts g.mem) y
def beat (g : G) (q : Q) : Int := if (hit (cS q.member) g.mem).isSome = false then 31 else if q.gen = g.gen then 0 else 30
/-- What is told, but for the asker. -/
structure T where
  code : Int
  off : Int
  gen : Int
  parts : List Int
def look (L : List G) (q : Q) : T :=
  if q.kind = 5 then (if beat (fndD L q.group) q = 31 then ⟨31, 0, 0, []⟩ else ⟨beat (fndD L q.group) q, 0, (fndD L q.group).gen, own (fndD L q.group) q.member⟩)
  else if q.kind = 7 then (match hit (cP q.part) (fndD L q.group).pts with
    | none => ⟨12, 0, 0, []⟩
    | some p => ⟨0, p.2, 0, []⟩)
  else ⟨1, 0, 0, []⟩
def answer (L : List G) (x : Wd) (q : Q) : T :=
  match x with
  | .turn _ _ _ _ => ⟨0, 0, (fndD L q.group).gen, own (fndD L q.group) q.member⟩
  | .point _ _ o g => ⟨0, o, g, []⟩
  | .no c => if c = 0 ∧ q.kind = 3 then ⟨c, 0, (fndD L q.group).gen, own (fndD L q.group) q.member⟩ else ⟨c, 0, 0, []⟩
  | .none => ⟨3, 0, 0, []⟩
end Fk
/-- A list of numbers in memory of its own. -/
def IsN (z : Nat) (w : World) (v : Value) (l : List Int) : Prop := ∃ gb, Wz z w v gb 3 1 l.length (l.map (Value.int .i64))
theorem IsN.below {z : Nat} {w w' : World} {v : Value} {l : List Int} (h : IsN z w v l) (b : Below w.heap.size w w') : IsN z w' v l := ⟨_, h.choose_spec.below b⟩
theorem IsN.mono {z z' : Nat} {w : World} {v : Value} {l : List Int} (h : IsN z w v l) (hz : z' ≤ z) : IsN z' w v l := ⟨_, h.choose_spec.mono hz⟩
theorem IsN.nil (z : Nat) (w : World) : IsN z w (.slice none 0 0) [] := ⟨_, Wz.nil z w _ _⟩
theorem IsN.form {z : Nat} {w : World} {v : Value} {l : List Int} (h : IsN z w v l) : ∃ a c, v = .slice a l.length c := h.choose_spec.form
def StdOut (w : World) (n : Int) (l : List Int) (e : Ending) (w' : World) : Prop := ∃ pv, e = .returned (.tuple #[.int .i64 n, pv]) ∧ IsN w.heap.size w' pv l ∧ Below w.heap.size w w'
set_option maxHeartbeats 4000000 in
set_option maxRecDepth 100000 in
theorem standing_any {A : Nat → Prop} (gv : Value) (g : Fk.G) (y : ByteArray) (w : World) (h : GvAt A w gv g) :
    Calls Tryz.prog 33 #[gv, .string y] w fun e w' => StdOut w g.gen (Fk.own g y) e w' := by
  obtain ⟨mv, pv, rfl, hmn, hpn⟩ := h
  obtain ⟨gnm, ggen, gparts, gmem, gpts⟩ := g
  obtain ⟨ma, mc, rfl⟩ := hmn.form
  obtain ⟨pa, pc, rfl⟩ := hpn.form
  simp only
  obtain ⟨W1, hW1⟩ : ∃ W, w.alloc (.cells #[.string gnm, .int .i64 ggen, .int .i64 gparts, .slice ma gmem.length mc, .slice pa gpts.length pc] 44) = W := ⟨_, rfl⟩
  have hb1 : Below w.heap.size w W1 := by rw [← hW1]; exact (Below.refl _ _).alloc (Nat.le_refl _) _
  have k1 : Blk W1 w.heap.size #[.string gnm, .int .i64 ggen, .int .i64 gparts, .slice ma gmem.length mc, .slice pa gpts.length pc] 44 := by rw [← hW1]; exact Blk.new _ _ _
  obtain ⟨l, hl⟩ : ∃ l, Fk.own ⟨gnm, ggen, gparts, gmem, gpts⟩ y = l := ⟨_, rfl⟩
  have HPA : Hid (∀ wx, Below w.heap.size w wx → Calls Tryz.prog 70 #[.int .i64 gparts, .slice ma gmem.length mc, .string y] wx fun e w' => PrtOut wx l e w') := Lib.hid fun wx hb => by rw [← hl]; exact parts_any gparts _ gmem y wx (Nms.below hmn hb)
  rw [hl]
  obtain ⟨gm, hgm⟩ : ∃ x, gmem.length = x := ⟨_, rfl⟩
  rw [hgm] at HPA hW1 k1 ⊢
  obtain ⟨c0, c1, c2, c3, c4⟩ := k1.cells5
  have HB1 := Lib.hid hb1
  have HX0 := Lib.hid (drew_refl W1)
  clear hl hmn hpn k1 hb1 hgm
  go_enter Tryz.func33, Tryz.ntmps33
  go_upto_region 1 with fail
  have hB := HX0.out
  go_region_held3 (fun w' => w'.cell? ⟨w.heap.size, 1, none⟩ = some (.int .i64 ggen) ∧ w'.cell? ⟨w.heap.size, 2, none⟩ = some (.int .i64 gparts) ∧ w'.cell? ⟨w.heap.size, 3, none⟩ = some (.slice ma gm mc))
    (first | with_reducible exact ⟨dcell hB c1, dcell hB c2, dcell hB c3⟩ | go_keep | fail)
    (first
      | (go_at_call 70; ((with_reducible refine (HPA.out _ (HB1.out.trans ((of_drew hB).mono HB1.out.size))).mono ?_); rintro e w8 ⟨hb8, v8, g8, rfl, hz8⟩; have hM := Nat.le_trans HB1.out.size (of_drew hB).size; have hB := drew_trans hB hb8))
      | fail)
  all_goals
    have HZ := Lib.hid (hz8.mono hM)
    have HBZ := Lib.hid (HB1.out.trans ((of_drew hB).mono HB1.out.size))
    clear hB hb8 hz8 hM
    go_wp2_with fail
    go_ret2
    exact ⟨_, rfl, ⟨_, HZ.out⟩, HBZ.out⟩
def BtOut (w : World) (c : Int) (e : Ending) (w' : World) : Prop := e = .returned (.int .i64 c) ∧ Below w.heap.size w w'
set_option maxHeartbeats 4000000 in
set_option maxRecDepth 100000 in
theorem beat_any {A : Nat → Prop} (gv : Value) (g : Fk.G) (q : Fk.Q) (rv : Value) (w : World) (h : GvAt A w gv g) (hg : Gd g) :
    Calls Tryz.prog 35 #[gv, qval q rv] w fun e w' => BtOut w (Fk.beat g q) e w' := by
  obtain ⟨mv, pv, rfl, hmn, hpn⟩ := h
  obtain ⟨X, hX⟩ : ∃ X, Fk.beat g q = X := ⟨_, rfl⟩
  have hR : X = if (Fk.hit (Fk.cS q.member) g.mem).isSome = false then 31 else if q.gen = g.gen then 0 else 30 := by rw [← hX]; rfl
  rw [hX]
  obtain ⟨gnm, ggen, gparts, gmem, gpts⟩ := g
  obtain ⟨cl, qn, kd, pt, sq, of, mx, gn, N, M⟩ := q
  obtain ⟨ma, mc, rfl⟩ := hmn.form
  obtain ⟨pa, pc, rfl⟩ := hpn.form
  simp only at hR ⊢
  obtain ⟨W1, hW1⟩ : ∃ W, w.alloc (.cells #[.string gnm, .int .i64 ggen, .int .i64 gparts, .slice ma gmem.length mc, .slice pa gpts.length pc] 44) = W := ⟨_, rfl⟩
  have hb1 : Below w.heap.size w W1 := by rw [← hW1]; exact (Below.refl _ _).alloc (Nat.le_refl _) _
  have k1 : Blk W1 w.heap.size #[.string gnm, .int .i64 ggen, .int .i64 gparts, .slice ma gmem.length mc, .slice pa gpts.length pc] 44 := by rw [← hW1]; exact Blk.new _ _ _
  obtain ⟨W2, hW2⟩ : ∃ W, W1.alloc (.cells #[.int .i64 cl, .int .i64 qn, .int .i64 kd, .int .i64 pt, .int .i64 sq, .int .i64 of, .int .i64 mx, .int .i64 gn, .string N, .string M, rv] 34) = W := ⟨_, rfl⟩
  have hb12 : Below W1.heap.size W1 W2 := by rw [← hW2]; exact (Below.refl _ _).alloc (Nat.le_refl _) _
  have kq : Blk W2 W1.heap.size #[.int .i64 cl, .int .i64 qn, .int .i64 kd, .int .i64 pt, .int .i64 sq, .int .i64 of, .int .i64 mx, .int .i64 gn, .string N, .string M, rv] 34 := by rw [← hW2]; exact Blk.new _ _ _
  have k2 := k1.below hb12
  have hb2 := hb1.trans (hb12.mono hb1.size)
  have HFM := findMember_any _ _ M W2 (⟨_, _, rfl, Nms.below hmn hb2, Pts.below hpn hb2⟩ : GvAt A W2 (.agg #[.string gnm, .int .i64 ggen, .int .i64 gparts, .slice ma gmem.length mc, .slice pa gpts.length pc]) ⟨gnm, ggen, gparts, gmem, gpts⟩) (by have := hg.l4; omega) (hg.sm M)
  simp only at HFM
  obtain ⟨i, hi⟩ : ∃ i, Fk.low (Fk.cS M) gmem = i := ⟨_, rfl⟩
  obtain ⟨inn, hinn⟩ : ∃ f, (Fk.hit (Fk.cS M) gmem).isSome = f := ⟨_, rfl⟩
  rw [hi, hinn] at HFM
  rw [hinn] at hR
  have HFM := Lib.hid HFM
  obtain ⟨c0, c1, c2, c3, c4⟩ := k2.cells5
  have d9 : W2.cell? ⟨W1.heap.size, 9, none⟩ = some (.string M) := kq.cell rfl
  have HK := Lib.hid (And.intro k2 kq)
  have HB2 := Lib.hid hb2
  have HR := Lib.hid hR
  clear hX hR hi hinn hmn hpn hg k1 k2 kq hb1 hb2 hb12
  go_enter Tryz.func35, Tryz.ntmps35
  go_wp2_with fail
  refine HFM.out.mono ?_
  rintro e w3 ⟨rfl, hb3⟩
  have c1 : w3.cell? ⟨w.heap.size, 1, none⟩ = some (.int .i64 ggen) := (HK.out.1.below hb3).cell rfl
  have d7 : w3.cell? ⟨W1.heap.size, 7, none⟩ = some (.int .i64 gn) := (HK.out.2.below hb3).cell rfl
  have HZ := Lib.hid (HB2.out.trans (hb3.mono HB2.out.size))
  clear hb3 HFM
  cases inn with
  | false =>
    have HX : Hid (X = 31) := Lib.hid (by rw [HR.out]; exact if_pos rfl)
    go_wp2_with fail
    go_ret
    exact ⟨by rw [HX.out]; rfl, HZ.out⟩
  | true =>
    by_cases hg : gn = ggen
    · have HX : Hid (X = 0) := Lib.hid (by rw [HR.out, if_neg (by decide), if_pos hg])
      go_wp2_with fail
      go_ret
      exact ⟨by rw [HX.out]; rfl, HZ.out⟩
    · have HX : Hid (X = 30) := Lib.hid (by rw [HR.out, if_neg (by decide), if_neg hg])
      go_wp2_with fail
      go_ret
      exact ⟨by rw [HX.out]; rfl, HZ.out⟩
end Go.Proofs.YtjccfilbihkfpaaGreatDoor
