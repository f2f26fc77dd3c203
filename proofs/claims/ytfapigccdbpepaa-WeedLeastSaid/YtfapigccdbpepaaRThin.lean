/- THE CONTRACT OF the document's Thin. -/
import Derived.Test.YtfapigccdbpepaaRUse
import Derived.Test.YtfapigccdbpepaaGat
import Derived.Test.YtfapigccdbpepaaSOrd
import Derived.Deep.CutRange
namespace Go.Proofs.Ytfapigccdbpepaa
open Go.RowKit

theorem boolV {a b : Bool} (h : a = b) : Value.bool a = .bool b := by rw [h]
def Eqw (w w' : World) : Prop := w' = w
/-- What stays of the first k records of a batch. -/
def Wd.kept (l : List Pl.Bt) (b : Pl.Bt) (high now hor : Int) (k : Nat) : List Pl.Rc := (b.recs.take k).filter fun x => !(Wd.okB now hor && Wd.uselessB l b x high now hor)
theorem Wd.kept_next {l : List Pl.Bt} {b : Pl.Bt} {high now hor : Int} {k : Nat} {x : Pl.Rc} (h : b.recs[k]? = some x) : Wd.kept l b high now hor (k + 1) = Wd.kept l b high now hor k ++ if (Wd.okB now hor && Wd.uselessB l b x high now hor) then [] else [x] := by
  unfold Wd.kept
  rw [List.take_add_one, h, List.filter_append]
  congr 1
  show List.filter _ [x] = _
  rw [List.filter_cons]
  cases (Wd.okB now hor && Wd.uselessB l b x high now hor) <;> rfl
theorem Wd.kept_all {l : List Pl.Bt} {b : Pl.Bt} {high now hor : Int} {k : Nat} (h : b.recs.length ≤ k) : ({ b with recs := Wd.kept l b high now hor k } : Pl.Bt) = Wd.thin1 l high now hor b := by
  unfold Wd.kept Wd.thin1
  rw [List.take_of_length_le h]
theorem Wd.kept_le {l : List Pl.Bt} {b : Pl.Bt} {high now hor : Int} {k : Nat} : (Wd.kept l b high now hor k).length ≤ k :=
  Nat.le_trans (List.length_filter_le _ _) (by rw [List.length_take]; omega)

set_option maxHeartbeats 4000000 in
set_option maxRecDepth 100000 in
theorem rthin {A : Nat → Prop} (v : Value) (L : List (Pl.Bt × Value)) (high now hor : Int) (w : World) (hv : BtIn A w v L) (hl : L.length ≤ 1099511627776) (hr : ∀ q ∈ L, q.1.recs.length ≤ 1099511627776) :
    Calls Try.prog 14 #[v, .int .i64 high, .int .i64 now, .int .i64 hor] w (ThinOut w (L.map (·.1)) high now hor) := by
  obtain ⟨a1, cap1, rfl⟩ := hv.1.form
  obtain ⟨m, hm⟩ : ∃ m, L.length = m := ⟨_, rfl⟩
  have HV := Lib.hid hv
  rw [hm] at hl HV ⊢
  have HM := Lib.hid hm
  have HR := Lib.hid hr
  clear hv hm hr
  obtain ⟨ok, hok⟩ : ∃ b, Wd.okB now hor = b := ⟨_, rfl⟩
  have HOK := Lib.hid hok
  have HOI : Hid (ok = true ↔ 0 ≤ now ∧ now ≤ 1099511627776 ∧ 0 ≤ hor ∧ hor ≤ 1099511627776) := by
    rw [← hok]
    unfold Wd.okB
    exact Lib.hid decide_eq_true_iff
  clear hok
  go_enter Try.func14, Try.ntmps14
  go_upto_region 1 with fail
  go_cut [9] (fun s9 wx => s9 = .bool ok ∧ Eqw w wx)
  case first =>
    go_wp2_with fail
    all_goals
      go_meet
      case rel => exact ⟨boolV (by rw [Bool.eq_iff_iff, HOI.out]; simp; omega), rfl⟩
  case rest =>
  obtain ⟨rfl, hwx⟩ := hcut
  have hwx' : w = wc := (show wc = w from hwx).symm
  subst hwx'
  clear hwx HOI
  go_wp2_with fail
  have ho := Wb.empty w (Nat.le_refl w.heap.size)
  have hb0 : Below w.heap.size w (w.alloc (.cells #[] 42)) := (Below.refl _ _).alloc (Nat.le_refl _) _
  have HT := Lib.hid (And.intro ho hb0)
  clear ho hb0
  go_loopw [10, 11] (fun ov iv wr => ∃ (i : Nat) (gb : Option Nat) (M : List (Pl.Bt × Value)), i ≤ m ∧ iv = .int .i64 i ∧ Wb w.heap.size ov gb M wr ∧ Below w.heap.size w wr ∧ M.map (·.1) = ((L.map (·.1)).take i).map (Wd.thin1 (L.map (·.1)) high now hor)) (fun _ iv _ => m - (intOf iv).toNat)
  case atStart => exact ⟨0, _, [], Nat.zero_le _, rfl, HT.out.1, HT.out.2, rfl⟩
  case round =>
    obtain ⟨i, gb, M, hi, rfl, hwb, hbw, hmp⟩ := hrel
    have HWB := Lib.hid hwb
    have HBW := Lib.hid hbw
    have HMP := Lib.hid hmp
    clear hmp HT
    by_cases hlt : i < m
    · obtain ⟨⟨⟨tb, tc, tp, ts, tt, ls⟩, sv⟩, hg⟩ : ∃ q, L[i]? = some q := ⟨_, List.getElem?_eq_getElem (by rw [HM.out]; exact hlt)⟩
      have hls := HR.out _ (List.mem_of_getElem? hg)
      obtain ⟨b1, o1, cp1, e1, -, -, c0, c1, c2, c3, c4, c5, hr1⟩ := (HV.out.below hbw).get hg
      obtain rfl : a1 = some ⟨b1, o1, none⟩ := by injection e1
      obtain ⟨a2, cap2, rfl⟩ := hr1.slice
      obtain ⟨n, hn⟩ : ∃ n, ls.length = n := ⟨_, rfl⟩
      have hln : n ≤ 1099511627776 := by rw [← hn]; exact hls
      rw [hn] at hr1 c5
      have HNN := Lib.hid hn
      have HG := Lib.hid hg
      have HR1 := Lib.hid hr1
      obtain ⟨W1, hW1⟩ : ∃ W1, wr.alloc (.cells #[.int .i64 tb, .int .i64 tc, .int .i64 tp, .int .i64 ts, .int .i64 tt, .slice a2 n cap2] 42) = W1 := ⟨_, rfl⟩
      have bW1 : Blk W1 wr.heap.size #[.int .i64 tb, .int .i64 tc, .int .i64 tp, .int .i64 ts, .int .i64 tt, .slice a2 n cap2] 42 := by rw [← hW1]; exact Blk.new _ _ _
      have hb1 : Below wr.heap.size wr W1 := by rw [← hW1]; exact (Below.refl _ _).alloc (Nat.le_refl _) _
      have s1 : W1.heap.size = wr.heap.size + 1 := by rw [← hW1]; simp
      have HW1 := Lib.hid (And.intro hW1 (And.intro bW1 (And.intro hb1 s1)))
      clear hls hn hg hr1 e1 hwb hbw hW1 bW1 hb1 s1
      go_wp2_with fail
      obtain ⟨hW1, bW1, hb1, s1⟩ := HW1.out
      rw [hW1]
      obtain ⟨N1, hN1⟩ : ∃ N1, wr.heap.size = N1 := ⟨_, rfl⟩
      rw [hN1] at s1 bW1 hb1 ⊢
      have hr0 : Wr (N1 + 1) _ _ [] _ := Wr.empty W1 (Nat.le_of_eq s1.symm)
      rw [s1] at hr0
      have hB0 : Below (N1 + 1) W1 (W1.alloc (.cells #[] 44)) := (Below.refl _ _).alloc (Nat.le_of_eq s1.symm) _
      have HS1 := Lib.hid s1
      have HN1 := Lib.hid hN1
      have HB1 := Lib.hid hb1
      have HBW1 := Lib.hid bW1
      have HR0 := Lib.hid (And.intro hr0 hB0)
      clear hr0 hB0 s1 hb1 bW1 hW1 hN1 HW1 c0 c1 c2 c3 c4 c5
      go_loopw [13, 14] (fun sv kv wz => ∃ (k : Nat) (gr : Option Nat), k ≤ n ∧ kv = .int .i64 k ∧ Wr (N1 + 1) sv gr (Wd.kept (L.map (·.1)) ⟨tb, tc, tp, ts, tt, ls⟩ high now hor k) wz ∧ Below (N1 + 1) W1 wz) (fun _ kv _ => n - (intOf kv).toNat)
      case atStart => exact ⟨0, _, Nat.zero_le _, rfl, HR0.out.1, HR0.out.2⟩
      case round =>
        obtain ⟨k, gr, hk, rfl, hwr, hbz⟩ := hrel
        have HWR := Lib.hid hwr
        have HBZ := Lib.hid hbz
        have HBK : Hid (Blk wr N1 #[.int .i64 tb, .int .i64 tc, .int .i64 tp, .int .i64 ts, .int .i64 tt, .slice a2 n cap2] 42) := Lib.hid (HBW1.out.same (hbz.block _ (Nat.lt_succ_self _)))
        have n0 := HBK.out.cell (i := 0) rfl
        have n1 := HBK.out.cell (i := 1) rfl
        have n2 := HBK.out.cell (i := 2) rfl
        have n3 := HBK.out.cell (i := 3) rfl
        have n4 := HBK.out.cell (i := 4) rfl
        have n5 := HBK.out.cell (i := 5) rfl
        clear HR0 hwr hbz
        by_cases hkn : k < n
        · obtain ⟨x, hy⟩ : ∃ y, ls[k]? = some y := ⟨_, List.getElem?_eq_getElem (by rw [HNN.out]; exact hkn)⟩
          obtain ⟨u, hu⟩ : ∃ u, (ok && Wd.uselessB (L.map (·.1)) ⟨tb, tc, tp, ts, tt, ls⟩ x high now hor) = u := ⟨_, rfl⟩
          have HKN : Hid (Wd.kept (L.map (·.1)) ⟨tb, tc, tp, ts, tt, ls⟩ high now hor (k + 1) = Wd.kept (L.map (·.1)) ⟨tb, tc, tp, ts, tt, ls⟩ high now hor k ++ if u then [] else [x]) := Lib.hid (by rw [← hu, ← HOK.out]; exact Wd.kept_next hy)
          have HU := Lib.hid hu
          have HY := Lib.hid hy
          have hbz2 : Below w.heap.size w wr := by have := HBW.out; have h1 := HB1.out; have h2 := HBZ.out; exact (this.trans (h1.mono (by rw [← HN1.out]; exact this.size))).trans (h2.mono (by rw [← HN1.out]; exact Nat.le_succ_of_le this.size))
          obtain ⟨a3, cap3, e3, hrc⟩ := (RcIn.recs ((HR1.out.mono (fun _ h => h)).below (Below.trans (by rw [HN1.out]; exact HB1.out) (HBZ.out.mono (by rw [HN1.out]; exact Nat.le_succ _)))))
          have hrc2 : a2 = a3 := by injection e3
          subst hrc2
          obtain ⟨b3, o3, rfl, hbl3, d0, d1, d2, d3⟩ := hrc k _ hy
          have HCALL : Hid (ok = true → ∀ wx, Below wr.heap.size wr wx → Calls Try.prog 28 #[.slice (some ⟨b1, o1, none⟩) m cap1, bv (⟨tb, tc, tp, ts, tt, ls⟩, .slice (some ⟨b3, o3, none⟩) n cap2), rv4 x, .int .i64 high, .int .i64 now, .int .i64 hor] wx fun e w' => e = .returned (.bool u) ∧ Below wx.heap.size wx w') := Lib.hid fun hk wx hx => by
            have h := ruse (A := A) _ L (⟨tb, tc, tp, ts, tt, ls⟩, .slice (some ⟨b3, o3, none⟩) n cap2) x high now hor wx ((HV.out.below hbz2).below hx) (HOK.out.trans hk) (by rw [HM.out]; exact hl) HR.out
            rw [hk, Bool.true_and] at hu
            rw [hu] at h
            exact h
          have HBZ2 := Lib.hid hbz2
          obtain ⟨off, key, val, gone⟩ := x
          clear hu hy hrc e3 hbz2 hbl3
          go_upto_region 11 with fail
          go_cut [63] from 41 to 63 (fun s63 wx => s63 = .bool (!u) ∧ Below wr.heap.size wr wx)
          case first =>
            cases ok
            · have hu : u = false := by rw [← HU.out]; rfl
              subst hu
              clear HCALL n0 n1 n2 n3 n4 n5 d0 d1 d2 d3
              refine wp_region_quiet_below (by kernel_rfl) (by kernel_rfl) ?_
              repeat (go_big_quiet_step (fail))
              refine wpQuiet_nil ?_
              intro w5 hw5
              obtain ⟨⟨dq, osq⟩, hw5'⟩ := hw5
              subst hw5'
              go_wp2_with fail
              go_meet
              case rel => exact ⟨rfl, below_regrown _ _ _⟩
            · have HC2 := Lib.hid fun d os => Calls.regrown_of (HCALL.out rfl _ (below_regrown wr d os))
              have k0 : ∀ d os, _ := cell_regrown n0
              have k1 : ∀ d os, _ := cell_regrown n1
              have k2 : ∀ d os, _ := cell_regrown n2
              have k3 : ∀ d os, _ := cell_regrown n3
              have k4 : ∀ d os, _ := cell_regrown n4
              have k5 : ∀ d os, _ := cell_regrown n5
              have j0 : ∀ d os, _ := cell_regrown d0
              have j1 : ∀ d os, _ := cell_regrown d1
              have j2 : ∀ d os, _ := cell_regrown d2
              have j3 : ∀ d os, _ := cell_regrown d3
              clear HCALL n0 n1 n2 n3 n4 n5 d0 d1 d2 d3
              refine wp_region_quiet_below (by kernel_rfl) (by kernel_rfl) ?_
              repeat (go_big_quiet_step ((go_at_call 28; with_reducible exact HC2.out _ _)))
              refine wpQuiet_nil ?_
              intro w5 hw5
              obtain ⟨⟨dq, osq⟩, hw5'⟩ := hw5
              have H5 : Hid (Below wr.heap.size wr w5) := by rw [hw5']; exact below_regrown wr dq osq
              clear hw5' HC2
              go_wp2_with fail
              go_meet
              case rel => exact ⟨rfl, H5.out⟩
          case rest =>
          obtain ⟨rfl, hb6⟩ := hcut
          have hsz : N1 + 1 ≤ wr.heap.size := by have := HBZ.out.size; have := HS1.out; omega
          have HZ := Lib.hid hsz
          have HB6 := Lib.hid (HBZ.out.trans (hb6.mono hsz))
          have HW6 := Lib.hid (HWR.out.below hb6)
          have HBK6 := Lib.hid (HBK.out.below hb6)
          have HSZ6 : Hid (wr.heap.size ≤ wc.heap.size) := Lib.hid hb6.size
          have e0 := (hb6.cell (block_lt_of_cell d0)).trans d0
          have e1 := (hb6.cell (block_lt_of_cell d1)).trans d1
          have e2 := (hb6.cell (block_lt_of_cell d2)).trans d2
          have e3 := (hb6.cell (block_lt_of_cell d3)).trans d3
          have m5 := HBK6.out.cell (i := 5) rfl
          clear hb6 hsz n0 n1 n2 n3 n4 n5 d0 d1 d2 d3 HCALL
          cases u
          · have HAD := Lib.hid (HW6.out.below ((Below.refl wc.heap.size wc).alloc (Nat.le_refl _) (.cells #[.int .i64 off, .string ⟨key.toArray⟩, .string ⟨val.toArray⟩, .bool gone] 44)))
            have hnew : ∀ j u, (cells4 ⟨off, key, val, gone⟩)[j]? = some u → (wc.alloc (.cells #[.int .i64 off, .string ⟨key.toArray⟩, .string ⟨val.toArray⟩, .bool gone] 44)).cell? ((⟨wc.heap.size, 0, none⟩ : Addr).add j) = some u := fun j u hj => by
              rw [Addr.add_lit, Nat.zero_add]
              exact (Blk.new wc _ _).cell (by rw [← hj, ← List.getElem?_toArray]; rfl)
            have HNEW := Lib.hid hnew
            clear hnew
            obtain ⟨a5, cap5, rfl⟩ : ∃ a c, u13 = .slice a (Wd.kept (L.map (·.1)) ⟨tb, tc, tp, ts, tt, ls⟩ high now hor k).length c := HW6.out.form
            obtain ⟨nl, hnl⟩ : ∃ nl, (Wd.kept (L.map (·.1)) ⟨tb, tc, tp, ts, tt, ls⟩ high now hor k).length = nl := ⟨_, rfl⟩
            have HNL := Lib.hid hnl
            have HLE := Lib.hid (Wd.kept_le (l := L.map (·.1)) (b := ⟨tb, tc, tp, ts, tt, ls⟩) (high := high) (now := now) (hor := hor) (k := k))
            rw [hnl] at HAD ⊢
            clear hnl
            go_wp2_with (at_builtin; refine wp_add_rec (by rfl) _ _ (by rfl) (by rfl) HAD.out ⟨wc.heap.size, 0, none⟩ 1 ⟨off, key, val, gone⟩ (by rfl) HNEW.out ?c1 ?c2 ?_)
            case c1 => have := HLE.out; omega
            case c2 => have := HZ.out; have := HSZ6.out; simp; omega
            intro v9 gb9 w9 hw9 hg9
            have HW9 := Lib.hid hw9
            have HB9 := Lib.hid (Below.appended ((HB6.out.alloc (by have := HZ.out; have := HSZ6.out; omega) (.cells #[.int .i64 off, .string ⟨key.toArray⟩, .string ⟨val.toArray⟩, .bool gone] 44))) hg9 HAD.out.2 (by have := HZ.out; have := HSZ6.out; simp; omega))
            clear hw9 hg9
            go_wp2_with fail
            go_roundw
            case rel => exact ⟨k + 1, gb9, by omega, by go_num, by rw [HKN.out]; exact HW9.out, HB9.out⟩
            case measure => simp [intOf]; omega
          · go_wp2_with fail
            go_roundw
            case rel => exact ⟨k + 1, gr, by omega, by go_num, by rw [HKN.out]; simpa using HW6.out, HB6.out⟩
            case measure => simp [intOf]; omega
        · have hkl : Wd.kept (L.map (·.1)) ⟨tb, tc, tp, ts, tt, ls⟩ high now hor k = (Wd.thin1 (L.map (·.1)) high now hor ⟨tb, tc, tp, ts, tt, ls⟩).recs := congrArg Pl.Bt.recs (Wd.kept_all (l := L.map (·.1)) (b := ⟨tb, tc, tp, ts, tt, ls⟩) (high := high) (now := now) (hor := hor) (k := k) (by rw [HNN.out]; omega))
          obtain ⟨K, hK⟩ : ∃ K, (Wd.thin1 (L.map (·.1)) high now hor ⟨tb, tc, tp, ts, tt, ls⟩).recs = K := ⟨_, rfl⟩
          have hwr := HWR.out
          rw [hkl, hK] at hwr
          obtain ⟨a5, cap5, rfl⟩ := hwr.form
          obtain ⟨nl, hnl⟩ : ∃ nl, K.length = nl := ⟨_, rfl⟩
          rw [hnl] at hwr HWR ⊢
          have hlt1 : N1 < wr.heap.size := HBK.out.lt
          obtain ⟨W6, hW6⟩ : ∃ W6, wr.setCell ⟨N1, 5, none⟩ (.slice a5 nl cap5) = W6 := ⟨_, rfl⟩
          have hkb : Kb N1 wr W6 := by rw [← hW6]; exact Kb.setCell _ _
          have hbs : Blk W6 N1 #[.int .i64 tb, .int .i64 tc, .int .i64 tp, .int .i64 ts, .int .i64 tt, .slice a5 nl cap5] 42 := by rw [← hW6]; exact HBK.out.set _
          have hwr6 := hwr.kb hkb (fun e => by have := hwr.2 _ e; omega)
          have hwb6 : Wb w.heap.size u10 gb M W6 := by
            refine HWB.out.below ?_
            rw [HN1.out]
            exact HB1.out.trans ((HBZ.out.mono (Nat.le_succ _)).trans (hkb.below (Nat.le_refl _) hlt1))
          have q6 := HBK.out.free (i := 5)
          have qs := fun i u h => hbs.cell (i := i) (x := u) h
          have q0 := qs 0 _ rfl
          have q1 := qs 1 _ rfl
          have q2 := qs 2 _ rfl
          have q3 := qs 3 _ rfl
          have q4 := qs 4 _ rfl
          have q5 := qs 5 _ rfl
          have hnw : w.heap.size ≤ N1 := by rw [← HN1.out]; exact HBW.out.size
          have hrc6 : RcIn (fun b => w.heap.size ≤ b ∧ gb ≠ some b) (W6.alloc (.cells #[.int .i64 tb, .int .i64 tc, .int .i64 tp, .int .i64 ts, .int .i64 tt, .slice a5 nl cap5] 42)) (.slice a5 nl cap5) K :=
            (hwr6.rc.mono fun j hj => ⟨by omega, fun e => by have := (HWB.out.lt j e).2; rw [HN1.out] at this; omega⟩).below ((Below.refl _ _).alloc (Nat.le_refl _) _)
          have HRC6 := Lib.hid hrc6
          have HWB6 := Lib.hid (hwb6.below ((Below.refl _ _).alloc (Nat.le_refl _) (.cells #[.int .i64 tb, .int .i64 tc, .int .i64 tp, .int .i64 ts, .int .i64 tt, .slice a5 nl cap5] 42)))
          have HNEW : Hid (∀ j u, (bc6 ((⟨tb, tc, tp, ts, tt, K⟩, .slice a5 nl cap5) : Pl.Bt × Value))[j]? = some u → (W6.alloc (.cells #[.int .i64 tb, .int .i64 tc, .int .i64 tp, .int .i64 ts, .int .i64 tt, .slice a5 nl cap5] 42)).cell? ((⟨W6.heap.size, 0, none⟩ : Addr).add j) = some u) := Lib.hid fun j u hj => by
            rw [Addr.add_lit, Nat.zero_add]
            exact (Blk.new W6 _ _).cell (by rw [← hj, ← List.getElem?_toArray]; rfl)
          have HB6 : Hid (Below w.heap.size w (W6.alloc (.cells #[.int .i64 tb, .int .i64 tc, .int .i64 tp, .int .i64 ts, .int .i64 tt, .slice a5 nl cap5] 42))) := by
            have h1 : Below N1 W1 W6 := (HBZ.out.mono (Nat.le_succ _)).trans (hkb.below (Nat.le_refl _) hlt1)
            have h2 := HB1.out.trans h1
            have h3 := h2.mono hnw
            have h4 := HBW.out.trans h3
            exact Lib.hid (h4.alloc h4.size _)
          have HKK : Hid (Wd.thin1 (L.map (·.1)) high now hor ⟨tb, tc, tp, ts, tt, ls⟩ = ⟨tb, tc, tp, ts, tt, K⟩) := Lib.hid (by rw [← hK]; rfl)
          have HW6 := Lib.hid hW6
          have HML : Hid (M.length = i) := by
            have h := congrArg List.length HMP.out
            rw [List.length_map, List.length_map, List.length_take, List.length_map, HM.out] at h
            exact Lib.hid (by omega)
          obtain ⟨a7, cap7, rfl⟩ : ∃ a c, u10 = .slice a M.length c := HWB.out.form
          rw [HML.out] at HWB6 ⊢
          clear hkl hK hnl hwr hwr6 hwb6 hkb hbs qs hrc6 hlt1 hnw HWR
          have hi7 : i ≤ 1099511627776 := by omega
          go_upto_region 14 with fail
          go_wp2_with (at_builtin; refine wp_add_bt (by rfl) _ _ (by rfl) (by rfl) HWB6.out ⟨W6.heap.size, 0, none⟩ 1 (⟨tb, tc, tp, ts, tt, K⟩, .slice a5 nl cap5) (by rfl) HNEW.out (by rfl) HRC6.out ?c1 ?c2 ?_)
          case c1 => have := HML.out; omega
          case c2 => exact HB6.out.size
          intro v9 gb9 w9 hw9 hg9
          have HW9 := Lib.hid hw9
          have HB9 := Lib.hid (Below.appended HB6.out hg9 HWB6.out.2.1 HB6.out.size)
          have HM9 : Hid ((M ++ [((⟨tb, tc, tp, ts, tt, K⟩, .slice a5 nl cap5) : Pl.Bt × Value)]).map (·.1) = ((L.map (·.1)).take (i + 1)).map (Wd.thin1 (L.map (·.1)) high now hor)) := by
            rw [List.map_append, HMP.out, List.take_add_one, List.map_append, List.getElem?_map, HG.out]
            exact Lib.hid (congrArg (_ ++ [·]) HKK.out.symm)
          clear hw9 hg9
          go_wp2_with fail
          go_roundw
          case rel => exact ⟨i + 1, gb9, _, by omega, by go_num, HW9.out, HB9.out, HM9.out⟩
          case measure => simp [intOf]; omega
    · go_wp2_with fail
      go_ret
      refine ⟨HBW.out, _, M, rfl, HWB.out.bt, ?_⟩
      rw [HMP.out, List.take_of_length_le (by rw [List.length_map, HM.out]; omega)]
      rfl
end Go.Proofs.Ytfapigccdbpepaa
