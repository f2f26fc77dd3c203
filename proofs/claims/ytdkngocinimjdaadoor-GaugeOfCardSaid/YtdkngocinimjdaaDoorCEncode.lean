/- THE CONTRACT OF the document's Encode. -/
import Derived.Test.YtdkngocinimjdaaDoorCGood
import Derived.Test.YtdkngocinimjdaaDoorCBlk
import Derived.Test.YtdkngocinimjdaaDoorRefDig
import Derived.Lib.SmallJoins
namespace Go.Proofs.YtdkngocinimjdaaDoor
open Go.RowKit

def zs (b : Pl.Bt) : List Int := [b.base, b.count, b.prod, b.seq, b.time]
def pre (b : Pl.Bt) (k : Nat) : List UInt8 := 108 :: ((zs b).take k).flatMap Pl.wInt
theorem pre_more (b : Pl.Bt) (k : Nat) (z : Int) (h : (zs b)[k]? = some z) : pre b (k + 1) = pre b k ++ Pl.wInt z := by
  unfold pre
  rw [List.take_add_one, h, List.flatMap_append]
  simp
theorem zs_good {b : Pl.Bt} (h : Pl.goodB b = true) : ∀ z ∈ zs b, 0 ≤ z ∧ z ≤ 1099511627776 := by
  obtain ⟨h1, h2, h3, h4, h5, -, -⟩ := Pl.goodB_iff.1 h
  intro z hz
  simp only [zs, List.mem_cons, List.not_mem_nil, or_false] at hz
  rcases hz with rfl | rfl | rfl | rfl | rfl <;> first | assumption | omega
theorem pre_len {b : Pl.Bt} (h : Pl.goodB b = true) (k : Nat) : (pre b k).length ≤ 1 + 15 * k := by
  unfold pre
  have hz := zs_good h
  have : ∀ (l : List Int), (∀ z ∈ l, 0 ≤ z ∧ z ≤ 1099511627776) → (l.flatMap Pl.wInt).length ≤ 15 * l.length := by
    intro l
    induction l with
    | nil => intro _; simp
    | cons z l ih =>
      intro hl
      have h1 := hl z List.mem_cons_self
      have h2 := (Pl.wInt_short h1.1 12 (by omega)).1
      have h3 := ih fun y hy => hl y (List.mem_cons_of_mem _ hy)
      simp only [List.flatMap_cons, List.length_append, List.length_cons]
      omega
  have h2 := this ((zs b).take k) fun z hz' => hz z (List.mem_of_mem_take hz')
  have h3 : ((zs b).take k).length ≤ k := List.length_take_le _ _
  simp only [List.length_cons]
  omega
theorem enc_pre (b : Pl.Bt) : Pl.enc b = pre b 5 ++ Pl.encRs b.recs ++ [101] := by
  simp [Pl.enc, pre, zs]
set_option maxHeartbeats 2000000 in
set_option maxRecDepth 100000 in
theorem rencode (b : Pl.Bt) (v : Value) (w : World) (h : Recs v b.recs w) (hl : b.recs.length ≤ 1099511627776) (hc : Pl.I64 b.count) (hb : Pl.I64 b.base) :
    Calls Tryd.prog 16 #[.agg #[.int .i64 b.base, .int .i64 b.count, .int .i64 b.prod, .int .i64 b.seq, .int .i64 b.time, v]] w fun e w' =>
      e = (if Pl.goodB b = true then .returned (.tuple #[.string ⟨(Pl.enc b).toArray⟩, .int .i64 0]) else .returned (.tuple #[.string ⟨#[]⟩, .int .i64 1])) ∧ Below w.heap.size w w' := by
  obtain ⟨base, count, prod, seq, time, ls⟩ := b
  simp only at h hl hc hb ⊢
  have hG : ∀ wx, Recs v ls wx → Calls Tryd.prog 25 #[.agg #[.int .i64 base, .int .i64 count, .int .i64 prod, .int .i64 seq, .int .i64 time, v]] wx fun e w' => e = .returned (.bool (Pl.goodB ⟨base, count, prod, seq, time, ls⟩)) ∧ Below wx.heap.size wx w' := fun wx hx => rgood base count prod seq time ls v wx hx hl hc hb
  have hw0 : Below w.heap.size w (w.alloc (.cells #[.int .i64 base, .int .i64 count, .int .i64 prod, .int .i64 seq, .int .i64 time, v] 24)) := (Below.refl _ _).alloc (Nat.le_refl _) _
  have hsix := cells_six' w (.int .i64 base) (.int .i64 count) (.int .i64 prod) (.int .i64 seq) (.int .i64 time) v 24
  have HGR := Lib.hid (hG _ (h.below hw0))
  have HR0 := Lib.hid (h.below hw0)
  have hs0 : (w.alloc (.cells #[.int .i64 base, .int .i64 count, .int .i64 prod, .int .i64 seq, .int .i64 time, v] 24)).heap.size = w.heap.size + 1 := by simp
  obtain ⟨W0, hW0⟩ : ∃ W0, w.alloc (.cells #[.int .i64 base, .int .i64 count, .int .i64 prod, .int .i64 seq, .int .i64 time, v] 24) = W0 := ⟨_, rfl⟩
  rw [hW0] at HGR hw0 hsix HR0 hs0
  have HW0 := Lib.hid hw0
  have HSIX := Lib.hid hsix
  have HS0 := Lib.hid hs0
  have d0 := hsix 0 _ rfl
  have d1 := hsix 1 _ rfl
  have d2 := hsix 2 _ rfl
  have d3 := hsix 3 _ rfl
  have d4 := hsix 4 _ rfl
  have d5 := hsix 5 _ rfl
  clear hG hw0 hsix h hl hc hb hs0
  cases hg : Pl.goodB ⟨base, count, prod, seq, time, ls⟩ with
  | false =>
    rw [hg] at HGR
    rw [if_neg (by decide)]
    clear hg
    go_enter Tryd.func16, Tryd.ntmps16
    go_wp2_with fail
    refine HGR.out.mono ?_
    rintro e w1 ⟨rfl, b1⟩
    go_wp2_with fail
    go_ret2
    exact ⟨rfl, HW0.out.trans (b1.mono HW0.out.size)⟩
  | true =>
    rw [hg] at HGR
    rw [if_pos rfl]
    have HG := Lib.hid hg
    clear hg
    go_enter Tryd.func16, Tryd.ntmps16
    go_wp2_with fail
    refine HGR.out.mono ?_
    rintro e w1 ⟨rfl, b1⟩
    have e1 : ∀ o, w1.cell? ⟨w.heap.size, o, none⟩ = W0.cell? ⟨w.heap.size, o, none⟩ := fun o => b1.cell (p := ⟨w.heap.size, o, none⟩) (by have := HS0.out; show w.heap.size < _; omega)
    have g0 := (e1 _).trans d0
    have g1 := (e1 _).trans d1
    have g2 := (e1 _).trans d2
    have g3 := (e1 _).trans d3
    have g4 := (e1 _).trans d4
    have g5 := (e1 _).trans d5
    have HB1 := Lib.hid b1
    clear d0 d1 d2 d3 d4 d5 e1 b1
    obtain ⟨f0, f1, f2, f3, f4⟩ := cells_five w1 (.int .i64 base) (.int .i64 count) (.int .i64 prod) (.int .i64 seq) (.int .i64 time) 3
    have hw2 : Below w1.heap.size w1 (w1.alloc (.cells #[.int .i64 base, .int .i64 count, .int .i64 prod, .int .i64 seq, .int .i64 time] 3)) := (Below.refl _ _).alloc (Nat.le_refl _) _
    have hs2 : (w1.alloc (.cells #[.int .i64 base, .int .i64 count, .int .i64 prod, .int .i64 seq, .int .i64 time] 3)).heap.size = w1.heap.size + 1 := by simp
    obtain ⟨W2, hW2⟩ : ∃ W2, w1.alloc (.cells #[.int .i64 base, .int .i64 count, .int .i64 prod, .int .i64 seq, .int .i64 time] 3) = W2 := ⟨_, rfl⟩
    rw [hW2] at f0 f1 f2 f3 f4 hw2 hs2
    have HF : Hid (∀ j z, (zs ⟨base, count, prod, seq, time, ls⟩)[j]? = some z → W2.cell? ⟨w1.heap.size, j, none⟩ = some (.int .i64 z)) := fun j z hj => by
      match j, hj with
      | 0, hj => obtain rfl := Option.some.inj hj; exact f0
      | 1, hj => obtain rfl := Option.some.inj hj; exact f1
      | 2, hj => obtain rfl := Option.some.inj hj; exact f2
      | 3, hj => obtain rfl := Option.some.inj hj; exact f3
      | 4, hj => obtain rfl := Option.some.inj hj; exact f4
      | j + 5, hj => simp [zs] at hj
    have HW2 := Lib.hid hw2
    have HS2 := Lib.hid hs2
    have HD5 := Lib.hid g5
    have HZ := Lib.hid (zs_good HG.out)
    have HPL := Lib.hid (pre_len HG.out)
    clear f0 f1 f2 f3 f4 hw2 hs2
    go_wp2_with fail
    clear g0 g1 g2 g3 g4 g5 hW2 hW0
    go_loopw [5, 6] (fun sv iv wr => ∃ k : Nat, k ≤ 5 ∧ iv = .int .i64 k ∧ sv = .string ⟨(pre ⟨base, count, prod, seq, time, ls⟩ k).toArray⟩ ∧ Below W2.heap.size W2 wr) (fun _ iv _ => 5 - (intOf iv).toNat)
    case atStart => exact ⟨0, Nat.zero_le _, rfl, rfl, Below.refl _ _⟩
    case round =>
      obtain ⟨k, hk, rfl, rfl, hb⟩ := hrel
      have HB := Lib.hid hb
      clear hb
      by_cases hlt : k < 5
      · obtain ⟨z, hz⟩ : ∃ z, (zs ⟨base, count, prod, seq, time, ls⟩)[k]? = some z := ⟨_, List.getElem?_eq_getElem hlt⟩
        have hz2 := HZ.out z (List.mem_of_getElem? hz)
        have hc1 := (HB.out.cell (p := ⟨w1.heap.size, k, none⟩) (by have := HS2.out; show w1.heap.size < _; omega)).trans (HF.out k z hz)
        have hpm := pre_more _ k z hz
        have hpl := HPL.out k
        have hzl := (Pl.wInt_short hz2.1 12 (by omega)).1
        have R := fun wx => ref_int z (num_64 hz2.1 hz2.2) wx
        obtain ⟨I, hI⟩ : ∃ I : ByteArray, (⟨(Pl.wInt z).toArray⟩ : ByteArray) = I := ⟨_, rfl⟩
        obtain ⟨S, hS⟩ : ∃ S : ByteArray, (⟨(pre ⟨base, count, prod, seq, time, ls⟩ k).toArray⟩ : ByteArray) = S := ⟨_, rfl⟩
        have hIs : I.size ≤ 15 := by rw [← hI, size_list]; omega
        have hSs : S.size ≤ 100 := by rw [← hS, size_list]; omega
        have HSI : Hid (S ++ I = ⟨(pre ⟨base, count, prod, seq, time, ls⟩ (k + 1)).toArray⟩) := by
          show S ++ I = _
          rw [← hS, ← hI, app_mk, hpm]
        rw [hI] at R
        rw [hS]
        have HRI := Lib.hid R
        clear hz hz2 hpm hpl hzl R hI hS
        go_wp2_with fail
        refine (HRI.out _).mono ?_
        rintro e w3 ⟨rfl, b3⟩
        have HB3 := Lib.hid (HB.out.trans (b3.mono HB.out.size))
        clear b3
        go_wp2_with fail
        go_roundw
        case rel => exact ⟨k + 1, by omega, by go_num, by rw [HSI.out], HB3.out⟩
        case measure => simp [intOf]; omega
      · obtain rfl : k = 5 := by omega
        have HPL5 := Lib.hid (HPL.out 5)
        have hd5 := ((HB.out.cell (p := ⟨w.heap.size, 5, none⟩) (by have := HS0.out; have := HB1.out.size; have := HS2.out; show w.heap.size < _; omega)).trans (HW2.out.cell (p := ⟨w.heap.size, 5, none⟩) (by have := HS0.out; have := HB1.out.size; show w.heap.size < _; omega))).trans HD5.out
        have HR4 := Lib.hid (((HR0.out.below HB1.out).below HW2.out).below HB.out)
        have HB4 := Lib.hid (HW0.out.trans ((HB1.out.trans ((HW2.out.trans (HB.out.mono HW2.out.size)).mono HB1.out.size)).mono HW0.out.size))
        have HD5' := Lib.hid hd5
        have hw5 : w.heap.size < wr.heap.size := by have := HS0.out; have := HB1.out.size; have := HW2.out.size; have := HB.out.size; omega
        have HW5 := Lib.hid hw5
        clear HB HF HD5 HPL hw5 hlt HR0 HW2 HSIX HGR hd5
        go_wp2_with fail
        rename World => W4
        obtain ⟨a, cap, rfl, hcell⟩ := HR4.out
        have HC := Lib.hid hcell
        obtain ⟨m, hm⟩ : ∃ m, ls.length = m := ⟨_, rfl⟩
        rw [hm] at HD5' ⊢
        have HM := Lib.hid hm
        have h8 := (Pl.enc_short HG.out).2.2
        have hm8 : m ≤ 8 := by rw [← hm]; exact h8
        have HRC := Lib.hid (Pl.good_recs HG.out)
        clear hm hcell h8
        rw [show ((5 : Nat) : Int) = 5 from rfl]
        go_loopw [5, 7] (fun sv iv wr => ∃ k : Nat, k ≤ m ∧ iv = .int .i64 k ∧ sv = .string ⟨(pre ⟨base, count, prod, seq, time, ls⟩ 5 ++ Pl.encRs (ls.take k)).toArray⟩ ∧ Below W4.heap.size W4 wr) (fun _ iv _ => m - (intOf iv).toNat)
        case atStart => exact ⟨0, Nat.zero_le _, rfl, by simp [Pl.encRs], Below.refl _ _⟩
        case round =>
          obtain ⟨k, hk, rfl, rfl, hb⟩ := hrel
          have HB := Lib.hid hb
          have hd5 := (hb.cell (p := ⟨w.heap.size, 5, none⟩) HW5.out).trans HD5'.out
          clear hb
          by_cases hlt : k < m
          · obtain ⟨x, hg⟩ : ∃ x, ls[k]? = some x := ⟨_, List.getElem?_eq_getElem (by rw [HM.out]; exact hlt)⟩
            obtain ⟨b, off, rfl, hbl, c0, c1, c2, c3⟩ := HC.out k x hg
            have e : ∀ o, wr.cell? ⟨b, o, none⟩ = W4.cell? ⟨b, o, none⟩ := fun o => HB.out.cell (p := ⟨b, o, none⟩) hbl
            rw [← e] at c0 c1 c2 c3
            obtain ⟨hx1, hx2, hx3⟩ := HRC.out x (List.mem_of_getElem? hg)
            obtain ⟨hx4, hx5, -⟩ := Pl.recB_iff.1 hx1
            clear e hbl
            obtain ⟨o, kb, vb, gn⟩ := x
            simp only at c0 c1 c2 c3 hx1 hx2 hx3 hx4 hx5
            have ho := num_64 hx2 hx3
            obtain ⟨K, hK⟩ : ∃ K : ByteArray, (⟨kb.toArray⟩ : ByteArray) = K := ⟨_, rfl⟩
            obtain ⟨V, hV⟩ : ∃ V : ByteArray, (⟨vb.toArray⟩ : ByteArray) = V := ⟨_, rfl⟩
            rw [hK] at c1
            rw [hV] at c2
            have hKs : K.size ≤ 16 := by rw [← hK, size_list]; exact hx4
            have hVs : V.size ≤ 64 := by rw [← hV, size_list]; exact hx5
            have RO := fun wx => ref_int o ho wx
            have RK := fun wx => ref_text K (by omega) wx
            have RV := fun wx => ref_text V (by omega) wx
            rw [show K.data.toList = kb by rw [← hK]] at RK
            rw [show V.data.toList = vb by rw [← hV]] at RV
            obtain ⟨I1, hI1⟩ : ∃ I : ByteArray, (⟨(Pl.wInt o).toArray⟩ : ByteArray) = I := ⟨_, rfl⟩
            obtain ⟨TK, hTK⟩ : ∃ I : ByteArray, (⟨(Pl.wText kb).toArray⟩ : ByteArray) = I := ⟨_, rfl⟩
            obtain ⟨TV, hTV⟩ : ∃ I : ByteArray, (⟨(Pl.wText vb).toArray⟩ : ByteArray) = I := ⟨_, rfl⟩
            obtain ⟨S, hS⟩ : ∃ S : ByteArray, (⟨(pre ⟨base, count, prod, seq, time, ls⟩ 5 ++ Pl.encRs (ls.take k)).toArray⟩ : ByteArray) = S := ⟨_, rfl⟩
            rw [hI1] at RO
            rw [hTK] at RK
            rw [hTV] at RV
            rw [hS]
            have hI1s : I1.size ≤ 15 := by rw [← hI1, size_list]; exact (Pl.wInt_short hx2 12 (by omega)).1
            have hTKs : TK.size ≤ 19 := by rw [← hTK, size_list]; have := Pl.wText_short (t := kb) 1 (by omega); omega
            have hTVs : TV.size ≤ 67 := by rw [← hTV, size_list]; have := Pl.wText_short (t := vb) 1 (by omega); omega
            have hSs : S.size ≤ 1122 := by
              have h1 := HPL5.out
              have h2 := Pl.encRs_short (l := ls.take k) (fun y hy => HRC.out y (List.mem_of_mem_take hy))
              have h3 : (ls.take k).length ≤ k := List.length_take_le _ _
              rw [← hS, size_list, List.length_append]
              omega
            clear hK hV hx1 hx2 hx3 hx4 hx5 ho
            cases hgn : gn with
            | true =>
              subst hgn
              have hgn : True := trivial
              clear hgn
              obtain ⟨y0, y1, y2, y3⟩ := cells_four wr (.int .i64 o) (.string K) (.string V) (.bool true) 27
              have hw5' : Below wr.heap.size wr (wr.alloc (.cells #[.int .i64 o, .string K, .string V, .bool true] 27)) := (Below.refl _ _).alloc (Nat.le_refl _) _
              obtain ⟨W5, hW5⟩ : ∃ W5, wr.alloc (.cells #[.int .i64 o, .string K, .string V, .bool true] 27) = W5 := ⟨_, rfl⟩
              rw [hW5] at y0 y1 y2 y3 hw5'
              have RG := fun wx => ref_int 1 (by unfold Pl.I64; omega) wx
              obtain ⟨IG, hIG⟩ : ∃ I : ByteArray, (⟨(Pl.wInt 1).toArray⟩ : ByteArray) = I := ⟨_, rfl⟩
              rw [hIG] at RG
              have hIGs : IG.size ≤ 3 := by rw [← hIG, size_list]; exact (Pl.wInt_short (by omega) 0 (by omega)).1
              have HSE : Hid (S ++ ⟨#[108]⟩ ++ I1 ++ TK ++ TV ++ IG ++ ⟨#[101]⟩ = ⟨(pre ⟨base, count, prod, seq, time, ls⟩ 5 ++ Pl.encRs (ls.take (k + 1))).toArray⟩) := by
                show _ = _
                have e1 : Pl.encRs (ls.take (k + 1)) = Pl.encRs (ls.take k) ++ Pl.encR ⟨o, kb, vb, true⟩ := by
                  rw [List.take_add_one, hg, Pl.encRs_append]
                  simp [Pl.encRs]
                have e2 : pre ⟨base, count, prod, seq, time, ls⟩ 5 ++ Pl.encRs (ls.take (k + 1)) = pre ⟨base, count, prod, seq, time, ls⟩ 5 ++ Pl.encRs (ls.take k) ++ [108] ++ Pl.wInt o ++ Pl.wText kb ++ Pl.wText vb ++ Pl.wInt 1 ++ [101] := by
                  rw [e1]
                  simp [Pl.encR, Pl.goneN]
                rw [e2, ← hS, ← hI1, ← hTK, ← hTV, ← hIG]
                apply ofList_eq
                simp only [Joins.data_append]
              have k0 := cell_regrown y0
              have k1 := cell_regrown y1
              have k2 := cell_regrown y2
              have C1 : ∀ d os, Calls Tryd.prog 26 #[.int .i64 o] (Sort.grow (redrawn W5 d) os) fun e w'' => e = .returned (.string I1) ∧ ∃ p : Regrown, w'' = Sort.grow (redrawn W5 p.d) p.os := fun d os => Calls.regrown_of (RO _)
              have C2 : ∀ d os, Calls Tryd.prog 27 #[.string K] (Sort.grow (redrawn W5 d) os) fun e w'' => e = .returned (.string TK) ∧ ∃ p : Regrown, w'' = Sort.grow (redrawn W5 p.d) p.os := fun d os => Calls.regrown_of (RK _)
              have C3 : ∀ d os, Calls Tryd.prog 27 #[.string V] (Sort.grow (redrawn W5 d) os) fun e w'' => e = .returned (.string TV) ∧ ∃ p : Regrown, w'' = Sort.grow (redrawn W5 p.d) p.os := fun d os => Calls.regrown_of (RV _)
              have C4 : ∀ d os, Calls Tryd.prog 26 #[.int .i64 1] (Sort.grow (redrawn W5 d) os) fun e w'' => e = .returned (.string IG) ∧ ∃ p : Regrown, w'' = Sort.grow (redrawn W5 p.d) p.os := fun d os => Calls.regrown_of (RG _)
              have HC1 := Lib.hid C1
              have HC2 := Lib.hid C2
              have HC3 := Lib.hid C3
              have HC4 := Lib.hid C4
              have HB5 := Lib.hid (HB.out.trans (hw5'.mono HB.out.size))
              have HWE := Lib.hid hW5
              clear C1 C2 C3 C4 RG RO RK RV hIG hS hI1 hTK hTV hg hw5' hW5
              go_wp2_with fail
              rw [HWE.out]
              refine wp_region_quiet_below (by kernel_rfl) (by kernel_rfl) ?_
              repeat (go_big_quiet_step (first | (go_at_call 26; with_reducible exact HC1.out _ _) | (go_at_call 26; with_reducible exact HC4.out _ _) | (go_at_call 27; with_reducible exact HC2.out _ _) | (go_at_call 27; with_reducible exact HC3.out _ _)))
              refine wpQuiet_nil ?_
              intro _ hw'
              obtain ⟨⟨dq, osq⟩, hw''⟩ := hw'
              subst hw''
              have HB6 := Lib.hid (HB5.out.trans ((below_regrown W5 dq osq).mono HB5.out.size))
              go_wp2_with fail
              go_roundw
              case rel => exact ⟨k + 1, by omega, by go_num, by rw [← HSE.out], HB6.out⟩
              case measure => simp [intOf]; omega
            | false =>
              subst hgn
              have hgn : True := trivial
              clear hgn
              obtain ⟨y0, y1, y2, y3⟩ := cells_four wr (.int .i64 o) (.string K) (.string V) (.bool false) 27
              have hw5' : Below wr.heap.size wr (wr.alloc (.cells #[.int .i64 o, .string K, .string V, .bool false] 27)) := (Below.refl _ _).alloc (Nat.le_refl _) _
              obtain ⟨W5, hW5⟩ : ∃ W5, wr.alloc (.cells #[.int .i64 o, .string K, .string V, .bool false] 27) = W5 := ⟨_, rfl⟩
              rw [hW5] at y0 y1 y2 y3 hw5'
              have RG := fun wx => ref_int 0 (by unfold Pl.I64; omega) wx
              obtain ⟨IG, hIG⟩ : ∃ I : ByteArray, (⟨(Pl.wInt 0).toArray⟩ : ByteArray) = I := ⟨_, rfl⟩
              rw [hIG] at RG
              have hIGs : IG.size ≤ 3 := by rw [← hIG, size_list]; exact (Pl.wInt_short (by omega) 0 (by omega)).1
              have HSE : Hid (S ++ ⟨#[108]⟩ ++ I1 ++ TK ++ TV ++ IG ++ ⟨#[101]⟩ = ⟨(pre ⟨base, count, prod, seq, time, ls⟩ 5 ++ Pl.encRs (ls.take (k + 1))).toArray⟩) := by
                show _ = _
                have e1 : Pl.encRs (ls.take (k + 1)) = Pl.encRs (ls.take k) ++ Pl.encR ⟨o, kb, vb, false⟩ := by
                  rw [List.take_add_one, hg, Pl.encRs_append]
                  simp [Pl.encRs]
                have e2 : pre ⟨base, count, prod, seq, time, ls⟩ 5 ++ Pl.encRs (ls.take (k + 1)) = pre ⟨base, count, prod, seq, time, ls⟩ 5 ++ Pl.encRs (ls.take k) ++ [108] ++ Pl.wInt o ++ Pl.wText kb ++ Pl.wText vb ++ Pl.wInt 0 ++ [101] := by
                  rw [e1]
                  simp [Pl.encR, Pl.goneN]
                rw [e2, ← hS, ← hI1, ← hTK, ← hTV, ← hIG]
                apply ofList_eq
                simp only [Joins.data_append]
              have k0 := cell_regrown y0
              have k1 := cell_regrown y1
              have k2 := cell_regrown y2
              have C1 : ∀ d os, Calls Tryd.prog 26 #[.int .i64 o] (Sort.grow (redrawn W5 d) os) fun e w'' => e = .returned (.string I1) ∧ ∃ p : Regrown, w'' = Sort.grow (redrawn W5 p.d) p.os := fun d os => Calls.regrown_of (RO _)
              have C2 : ∀ d os, Calls Tryd.prog 27 #[.string K] (Sort.grow (redrawn W5 d) os) fun e w'' => e = .returned (.string TK) ∧ ∃ p : Regrown, w'' = Sort.grow (redrawn W5 p.d) p.os := fun d os => Calls.regrown_of (RK _)
              have C3 : ∀ d os, Calls Tryd.prog 27 #[.string V] (Sort.grow (redrawn W5 d) os) fun e w'' => e = .returned (.string TV) ∧ ∃ p : Regrown, w'' = Sort.grow (redrawn W5 p.d) p.os := fun d os => Calls.regrown_of (RV _)
              have C4 : ∀ d os, Calls Tryd.prog 26 #[.int .i64 0] (Sort.grow (redrawn W5 d) os) fun e w'' => e = .returned (.string IG) ∧ ∃ p : Regrown, w'' = Sort.grow (redrawn W5 p.d) p.os := fun d os => Calls.regrown_of (RG _)
              have HC1 := Lib.hid C1
              have HC2 := Lib.hid C2
              have HC3 := Lib.hid C3
              have HC4 := Lib.hid C4
              have HB5 := Lib.hid (HB.out.trans (hw5'.mono HB.out.size))
              have HWE := Lib.hid hW5
              clear C1 C2 C3 C4 RG RO RK RV hIG hS hI1 hTK hTV hg hw5' hW5
              go_wp2_with fail
              rw [HWE.out]
              refine wp_region_quiet_below (by kernel_rfl) (by kernel_rfl) ?_
              repeat (go_big_quiet_step (first | (go_at_call 26; with_reducible exact HC1.out _ _) | (go_at_call 26; with_reducible exact HC4.out _ _) | (go_at_call 27; with_reducible exact HC2.out _ _) | (go_at_call 27; with_reducible exact HC3.out _ _)))
              refine wpQuiet_nil ?_
              intro _ hw'
              obtain ⟨⟨dq, osq⟩, hw''⟩ := hw'
              subst hw''
              have HB6 := Lib.hid (HB5.out.trans ((below_regrown W5 dq osq).mono HB5.out.size))
              go_wp2_with fail
              go_roundw
              case rel => exact ⟨k + 1, by omega, by go_num, by rw [← HSE.out], HB6.out⟩
              case measure => simp [intOf]; omega
          · obtain rfl : k = m := by omega
            have hfin : Hid (pre ⟨base, count, prod, seq, time, ls⟩ 5 ++ Pl.encRs (ls.take k) ++ [101] = Pl.enc ⟨base, count, prod, seq, time, ls⟩) := by
              show _ = _
              rw [enc_pre, List.take_of_length_le (by rw [HM.out]; exact Nat.le_refl _)]
            have hlen := (Pl.enc_short HG.out).1
            rw [← hfin.out, List.length_append] at hlen
            obtain ⟨S, hS⟩ : ∃ S : ByteArray, (⟨(pre ⟨base, count, prod, seq, time, ls⟩ 5 ++ Pl.encRs (ls.take k)).toArray⟩ : ByteArray) = S := ⟨_, rfl⟩
            have hSs : S.size ≤ 1122 := by rw [← hS, size_list]; have : (ls.length) = k := HM.out; simp only at hlen; omega
            have HSF : Hid (S ++ ⟨#[101]⟩ = ⟨(Pl.enc ⟨base, count, prod, seq, time, ls⟩).toArray⟩) := by
              show S ++ _ = _
              rw [← hS, ← hfin.out]
              exact app_mk _ [101]
            rw [hS]
            clear hS hfin hlen
            go_wp2_with fail
            go_ret2
            exact ⟨congrArg (fun x => Ending.returned (.tuple #[.string x, .int .i64 0])) HSF.out, HB4.out.trans (HB.out.mono HB4.out.size)⟩
end Go.Proofs.YtdkngocinimjdaaDoor
