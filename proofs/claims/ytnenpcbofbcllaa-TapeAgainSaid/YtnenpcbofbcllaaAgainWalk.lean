/- The walk of the law TapeAgain. -/
import Derived.Test.YtnenpcbofbcllaaLetter
import Derived.Deep.RegionWith
import Derived.Deep.CutRange
import Derived.Deep.CutBlock
namespace Go.Proofs.Ytnenpcbofbcllaa
open Go.RowKit Go.Maps

/-- What holds ahead of each round of the first loop. -/
def Putting (ps : List Pt) (w : World) (t : Nat) (iv : Value) (wr : World) : Prop :=
  ∃ (i tot nf acts : Nat) (B : Nat → Prop) (f : View), i ≤ ps.length ∧ i ≤ 60 ∧ iv = .int .i64 i ∧ St wr t B f tot nf ⟨1048576, false, 0, acts, 0⟩ ∧ Own w wr B ∧ nf ≤ i ∧ acts ≤ i ∧ tot ≤ 1024 * i

/-- What was left is read. -/
def Reading (w : World) (t bb : Nat) (f : View) (tot nf : Nat) (s : Sc) (kv : Value) (wr : World) : Prop :=
  ∃ (k : Nat) (B : Nat → Prop), k ≤ 4 ∧ kv = .int .i64 k ∧ St wr t B f tot nf s ∧ Own w wr B ∧ Blk wr bb (arr4 fun j => if j < k then cur f (nm j) else []) 29 ∧ ¬ B bb
def Asking (w : World) (t bb : Nat) (f1 f : View) (tot nf : Nat) (s : Sc) (kv : Value) (wr : World) : Prop :=
  ∃ (k : Nat) (B : Nat → Prop), k ≤ 4 ∧ kv = .int .i64 k ∧ St wr t B f tot nf s ∧ Own w wr B ∧ Blk wr bb (arr4 fun j => cur f1 (nm j)) 29 ∧ ¬ B bb
theorem left_twice {zs ys : List Int} {f f1 f2 : View} (h1 : Left zs f f1) (h2 : Left ys f1 f2) (k : Key) : cur f2 k = cur f1 k := by
  have a1 := h1 k
  have a2 := h2 k
  rcases hf : f k with _ | ⟨L, sf⟩
  · rw [hf] at a1
    simp only at a1
    rw [a1] at a2
    simp only at a2
    unfold cur
    rw [a1, a2]
  · rw [hf] at a1
    obtain ⟨x, hx1, hx2, hx3, -⟩ := a1
    rw [hx1] at a2
    obtain ⟨y, hy1, hy2, hy3, -⟩ := a2
    have : y = x := by rw [List.length_take] at hy3; omega
    subst this
    unfold cur
    rw [hx1, hy1]
    show List.take y (List.take y L) = List.take y L
    rw [List.take_take, Nat.min_self]

set_option maxRecDepth 100000 in
set_option maxHeartbeats 4000000 in
theorem again_any (a : Option Addr) (cap : Nat) (ps : List Pt) (fv : Value) (zs : List Int) (gv : Value) (ys : List Int) (w : World) (hp : Prts w w.heap.size (.slice a ps.length cap) ps)
    (hf : Nums w fv zs) (hfb : 0 < zs.length → ∀ a c d, fv = .slice (some a) c d → a.block < w.heap.size)
    (hg : Nums w gv ys) (hgb : 0 < ys.length → ∀ a c d, gv = .slice (some a) c d → a.block < w.heap.size) :
    Calls Try.prog 7 #[.slice a ps.length cap, fv, gv] w fun e w' => e = .returned (.bool true) ∧ RowKit.Below w.heap.size w w' := by
  have HAW := Lib.hid awake_any
  have HP := Lib.hid hp
  have HNEW := Lib.hid (fun w => s_new 1048576 w (by decide) (by decide))
  have HF := Lib.hid (And.intro hf hfb)
  have HG := Lib.hid (And.intro hg hgb)
  obtain ⟨fa, fl, fc, rfl⟩ : ∃ a l c, fv = .slice a l c := let ⟨a, c, h, _⟩ := hf; ⟨a, _, c, h⟩
  obtain ⟨ga, gl, gc, rfl⟩ : ∃ a l c, gv = .slice a l c := let ⟨a, c, h, _⟩ := hg; ⟨a, _, c, h⟩
  obtain ⟨m, hm⟩ : ∃ m, ps.length = m := ⟨_, rfl⟩
  have HM := Lib.hid hm
  rw [hm] at HP ⊢
  clear hp hm hf hfb hg hgb
  go_enter Try.func7, Try.ntmps7
  go_wp2_with fail
  refine (HAW.out _).mono ?_
  rintro e w1 ⟨rfl, b1⟩
  have HB1 := Lib.hid b1
  clear b1
  go_wp2_with fail
  refine (HNEW.out _).mono ?_
  rintro x w2 ⟨t, B2, rfl, S2, b2, o2⟩
  have O2 : Own w w2 B2 := ⟨HB1.out.trans (b2.mono HB1.out.size), fun b hb => Nat.le_trans HB1.out.size (o2 b hb)⟩
  have hst : Putting ps w t (.int .i64 0) w2 := ⟨0, 0, 0, 0, B2, _, Nat.zero_le _, by omega, rfl, by simpa using S2, O2, Nat.le_refl _, Nat.le_refl _, Nat.le_refl _⟩
  have HST := Lib.hid hst
  clear hst S2 b2 o2 O2
  go_wp2_with fail
  go_loopw [8] (fun iv wr => Putting ps w t iv wr) (fun iv _ => m - (intOf iv).toNat)
  case atStart => exact HST.out
  case round =>
    obtain ⟨i, tot, nf, acts, B, f, hi, hi60, rfl, S, O, hnf, hac, htot⟩ := hrel
    rw [HM.out] at hi
    have HS := Lib.hid S
    have HO := Lib.hid O
    have HNF := Lib.hid hnf
    have HAC := Lib.hid hac
    have HT := Lib.hid htot
    clear S O hnf hac htot HST
    by_cases hlt : i < m ∧ i < 60
    · obtain ⟨hlt, h60⟩ := hlt
      obtain ⟨x, hx⟩ : ∃ x, ps[i]? = some x := ⟨_, List.getElem?_eq_getElem (by rw [HM.out]; exact hlt)⟩
      obtain ⟨a', cap', hva, hcell⟩ := HP.out
      obtain ⟨b, off, hab, hbl, hc0, hc1, -⟩ := hcell i x hx
      obtain rfl : a = some ⟨b, off, none⟩ := by injection hva with h1 h2 h3; rw [h1, hab]
      obtain ⟨X, hX⟩ : ∃ X : ByteArray, (⟨x.S.toArray⟩ : ByteArray) = X := ⟨_, rfl⟩
      obtain ⟨r, hr⟩ : ∃ r, x.S.length = r := ⟨_, rfl⟩
      have hXs : X.size = r := by rw [← hX, size_list, hr]
      obtain ⟨z, hz⟩ : ∃ z, x.n = z := ⟨_, rfl⟩
      obtain ⟨K, hK, hK2, hK3⟩ := mod_nat z 4 (by decide) (by decide)
      rw [hX] at hc1
      rw [hz] at hc0
      have hcn : wr.cell? ⟨b, off + i * 3, none⟩ = some (.int .i64 z) := HO.out.cell hbl hc0
      have hcx : wr.cell? ⟨b, off + i * 3 + 1, none⟩ = some (.string X) := HO.out.cell hbl hc1
      by_cases hbig : 1024 < r
      · clear hva hcell hx hX hr hc0 hc1 hbl hz hK hK2 hK3
        go_wp2_with fail
        go_ret
        exact ⟨rfl, HO.out.low⟩
      · obtain ⟨KN, hKN⟩ : ∃ KN : ByteArray, (⟨(nm K).toArray⟩ : ByteArray) = KN := ⟨_, rfl⟩
        have hwl := wrap_letter K (by omega)
        have hconv := name_conv_at K (by omega) (wr.alloc (.cells #[.int .u8 (97 + (K : Int))] 5)).drew wr.heap.size (Blk.new wr _ _)
        rw [hKN] at hconv
        have hb4 : RowKit.Below wr.heap.size wr (wr.alloc (.cells #[.int .u8 (97 + (K : Int))] 5)).drew := ((Below.refl _ _).alloc (Nat.le_refl _) _).drew
        obtain ⟨W1, hW1⟩ : ∃ W, (wr.alloc (.cells #[.int .u8 (97 + (K : Int))] 5)).drew = W := ⟨_, rfl⟩
        rw [hW1] at hconv hb4
        have S1 := HS.out.below hb4
        have O1 := HO.out.below hb4
        have hcx1 : W1.cell? ⟨b, off + i * 3 + 1, none⟩ = some (.string X) := O1.cell hbl hc1
        have A1 := s_append S1 (small_of 1048576 acts (by have := HAC.out; omega)) (nm K) x.S (nm_ok K) (by have := HNF.out; omega) (by rw [hr]; have := HT.out; show tot + r ≤ 1048576; omega)
        rw [hKN, hX, show actR ⟨1048576, false, 0, acts, 0⟩ = 0 from rfl, show actS ⟨1048576, false, 0, acts, 0⟩ = ⟨1048576, false, 0, acts + 1, 0⟩ from rfl, hr] at A1
        have H1 := Lib.hid A1
        have HO1 := Lib.hid O1
        have HR := Lib.hid hr
        clear hva hcell hx hX hr hc0 hc1 hbl hz hKN S1 A1 hb4 O1
        go_wp2_with fail
        go_region_with (first | (go_at_call 11; refine H1.out.mono ?_; rintro y w6 ⟨rfl, B6, S6, m6⟩; have HS6 := Lib.hid S6; have HO6 := Lib.hid (HO1.out.moved m6); clear S6 m6))
        all_goals
          go_wp2_with fail
          go_roundw
          case rel => exact ⟨i + 1, tot + r, _, acts + 1, B6, _, by rw [HM.out]; exact hlt, by omega, by go_num, HS6.out, HO6.out, by have := HNF.out; split <;> omega, by have := HAC.out; omega, by have := HT.out; omega⟩
          case measure => simp [intOf]; omega
    · have H1 := Lib.hid (s_off HS.out (by show 0 ≤ _; omega))
      rcases Nat.lt_or_ge i m with hlm | hge
      all_goals go_wp2_with fail
      all_goals (
        refine H1.out.mono ?_
        rintro y w3 ⟨⟨y, rfl⟩, B3, S3, m3⟩
        have O3 := HO.out.moved m3
        have S3' : St w3 t B3 f tot nf ⟨1048576, true, 0, acts, 1⟩ := S3
        have A2 := s_on S3' rfl _ zs (nums_at HF.out.1 O3 HF.out.2) (own_no O3 HF.out.2)
        have H2 := Lib.hid A2
        have HO3 := Lib.hid O3
        clear S3 S3' m3 A2 O3
        go_wp2_with fail
        refine H2.out.mono ?_
        rintro y w4 ⟨⟨y, rfl⟩, B4, f1, tot1, S4, L1, m4⟩
        have HS4 := Lib.hid S4
        have HO4 := Lib.hid (HO3.out.moved m4)
        have HL1 := Lib.hid L1
        have hbb : w.heap.size ≤ w4.heap.size := HO4.out.low.size
        obtain ⟨bb, hbbe⟩ : ∃ bb, w4.heap.size = bb := ⟨_, rfl⟩
        have ha4 : RowKit.Below w4.heap.size w4 (w4.alloc (.cells #[.string ⟨#[]⟩, .string ⟨#[]⟩, .string ⟨#[]⟩, .string ⟨#[]⟩] 29)) := (Below.refl _ _).alloc (Nat.le_refl _) _
        have hst4 : Reading w t bb f1 tot1 nf ⟨1048576, false, 0, acts, 1⟩ (.int .i64 0) (w4.alloc (.cells #[.string ⟨#[]⟩, .string ⟨#[]⟩, .string ⟨#[]⟩, .string ⟨#[]⟩] 29)) := ⟨0, B4, by decide, rfl, S4.below ha4, HO4.out.below ha4, by rw [← hbbe]; exact Blk.new w4 _ _, S4.new_no (by omega)⟩
        rw [hbbe] at hbb
        have HST4 := Lib.hid hst4
        clear S4 L1 m4 ha4 hst4
        go_wp2_with fail
        go_loopw [10] (fun kv wr => Reading w t bb f1 tot1 nf ⟨1048576, false, 0, acts, 1⟩ kv wr) (fun kv _ => 4 - (intOf kv).toNat)
        case atStart => exact HST4.out
        case round =>
          obtain ⟨k, B5, hk, rfl, S5, O5, hbk, hnb⟩ := hrel
          have HO5 := Lib.hid O5
          have HBK := Lib.hid hbk
          have HNB := Lib.hid hnb
          have HS5 := Lib.hid S5
          clear S5 O5 hbk hnb HST4 HS4 HO4
          by_cases hk4 : k < 4
          · have hwl := wrap_letter k hk4
            rw [show IntKind.u64.wrap (97 + (k : Int)) = 97 + (k : Int) by rw [IntKind.wrap_u64]; omega] at hwl
            have hwl2 : (97 + (k : Int)) % 256 = 97 + (k : Int) := by omega
            have hconv := name_conv_at k hk4 (wr.alloc (.cells #[.int .u8 (97 + (k : Int))] 5)) wr.heap.size (Blk.new wr _ _)
            have hb4 : RowKit.Below wr.heap.size wr (wr.alloc (.cells #[.int .u8 (97 + (k : Int))] 5)) := (Below.refl _ _).alloc (Nat.le_refl _) _
            obtain ⟨W1, hW1⟩ : ∃ W, (wr.alloc (.cells #[.int .u8 (97 + (k : Int))] 5)) = W := ⟨_, rfl⟩
            obtain ⟨KN, hKN⟩ : ∃ KN : ByteArray, (⟨(nm k).toArray⟩ : ByteArray) = KN := ⟨_, rfl⟩
            obtain ⟨C, hC⟩ : ∃ C : ByteArray, (⟨(cur f1 (nm k)).toArray⟩ : ByteArray) = C := ⟨_, rfl⟩
            rw [hW1] at hconv hb4
            rw [hKN] at hconv
            have S1 := HS5.out.below hb4
            have O1 := HO5.out.below hb4
            have hb1 := HBK.out.below hb4
            have q0 := arr4_cell hb1 hk4
            have g0 := hb1.free (i := k)
            have hset := arr4_set hb1 hk4 (cur f1 (nm k))
            rw [hC] at hset
            obtain ⟨e1, A1⟩ := s_read_cur S1 rfl (nm k) (by rw [nm_len]; decide)
            rw [hKN, hC] at A1
            have HA := Lib.hid A1
            have HS1 := Lib.hid S1
            have HO1 := Lib.hid O1
            have HSET := Lib.hid hset
            obtain ⟨C0, hC0⟩ : ∃ C0 : ByteArray, (⟨((fun j => if j < k then cur f1 (nm j) else []) k).toArray⟩ : ByteArray) = C0 := ⟨_, rfl⟩
            rw [hC0] at q0
            clear hKN hC S1 O1 hb1 hset A1 hb4 hC0
            go_wp2_with fail
            refine HA.out.mono ?_
            rintro y w6 ⟨rfl, rfl⟩
            go_wp2_with fail
            go_roundw
            case rel =>
              refine ⟨k + 1, B5, by omega, by go_num, HS1.out.beside HNB.out k _, HO1.out.beside hbb k _, ?_, HNB.out⟩
              have h1 := HSET.out
              rw [arr4_congr (U := fun j => if j < k + 1 then cur f1 (nm j) else []) (fun j hj => by
                by_cases h2 : j = k
                · subst h2; simp
                · by_cases h3 : j < k
                  · simp [h2, h3, show j < k + 1 by omega]
                  · simp [h2, h3, show ¬ j < k + 1 by omega])] at h1
              exact h1
            case measure => simp [intOf]; omega
          · obtain rfl : k = 4 := by omega
            have H5 := Lib.hid (s_off HS5.out (by show 1 ≤ _; omega))
            go_wp2_with fail
            refine H5.out.mono ?_
            rintro y w6 ⟨⟨y, rfl⟩, B6, S6, m6⟩
            have O6 := HO5.out.moved m6
            obtain ⟨b6, n6⟩ := HBK.out.moved m6 HNB.out
            have S6' : St w6 t B6 f1 tot1 nf ⟨1048576, true, 0, acts, 2⟩ := S6
            have A6 := s_on S6' rfl _ ys (nums_at HG.out.1 O6 HG.out.2) (own_no O6 HG.out.2)
            have H6 := Lib.hid A6
            have HO6 := Lib.hid O6
            have HB6 := Lib.hid b6
            have HN6 := Lib.hid n6
            clear S6 S6' m6 A6 O6 b6 n6 HS5 HO5 HBK HNB
            go_wp2_with fail
            refine H6.out.mono ?_
            rintro y w7 ⟨⟨y, rfl⟩, B7, f2, tot2, S7, L2, m7⟩
            obtain ⟨b7, n7⟩ := HB6.out.moved m7 HN6.out
            have hst7 : Asking w t bb f1 f2 tot2 nf ⟨1048576, false, 0, acts, 2⟩ (.int .i64 0) w7 := ⟨0, B7, by decide, rfl, S7, HO6.out.moved m7, by
              rw [arr4_congr (U := fun j => cur f1 (nm j)) (fun j hj => by simp [hj])] at b7
              exact b7, n7⟩
            have HST7 := Lib.hid hst7
            have HL2 := Lib.hid L2
            clear S7 L2 m7 b7 n7 hst7 HB6 HN6 HO6
            go_wp2_with fail
            go_loopw [13] (fun kv wr => Asking w t bb f1 f2 tot2 nf ⟨1048576, false, 0, acts, 2⟩ kv wr) (fun kv _ => 4 - (intOf kv).toNat)
            case atStart => exact HST7.out
            case round =>
              obtain ⟨k, B8, hk, rfl, S8, O8, hbk, hnb⟩ := hrel
              have HO8 := Lib.hid O8
              have HBK := Lib.hid hbk
              have HNB := Lib.hid hnb
              have HS8 := Lib.hid S8
              clear S8 O8 hbk hnb HST7
              by_cases hk4 : k < 4
              · have hwl := wrap_letter k hk4
                rw [show IntKind.u64.wrap (97 + (k : Int)) = 97 + (k : Int) by rw [IntKind.wrap_u64]; omega] at hwl
                have hwl2 : (97 + (k : Int)) % 256 = 97 + (k : Int) := by omega
                have hconv := name_conv_at k hk4 (wr.alloc (.cells #[.int .u8 (97 + (k : Int))] 5)) wr.heap.size (Blk.new wr _ _)
                have hb4 : RowKit.Below wr.heap.size wr (wr.alloc (.cells #[.int .u8 (97 + (k : Int))] 5)) := (Below.refl _ _).alloc (Nat.le_refl _) _
                obtain ⟨W1, hW1⟩ : ∃ W, (wr.alloc (.cells #[.int .u8 (97 + (k : Int))] 5)) = W := ⟨_, rfl⟩
                obtain ⟨KN, hKN⟩ : ∃ KN : ByteArray, (⟨(nm k).toArray⟩ : ByteArray) = KN := ⟨_, rfl⟩
                obtain ⟨C, hC⟩ : ∃ C : ByteArray, (⟨(cur f1 (nm k)).toArray⟩ : ByteArray) = C := ⟨_, rfl⟩
                rw [hW1] at hconv hb4
                rw [hKN] at hconv
                have S1 := HS8.out.below hb4
                have O1 := HO8.out.below hb4
                have hb1 := HBK.out.below hb4
                have q0 := arr4_cell hb1 hk4
                simp only [hC] at q0
                obtain ⟨e1, A1⟩ := s_read_cur S1 rfl (nm k) (by rw [nm_len]; decide)
                rw [left_twice HL1.out HL2.out, hKN, hC] at A1
                have HA := Lib.hid A1
                have HS1 := Lib.hid S1
                have HO1 := Lib.hid O1
                have HB1 := Lib.hid hb1
                clear hKN hC S1 O1 hb1 A1 hb4
                go_wp2_with fail
                refine HA.out.mono ?_
                rintro y w8 ⟨rfl, rfl⟩
                go_wp2_with fail
                go_roundw
                case rel => exact ⟨k + 1, B8, by omega, by go_num, HS1.out, HO1.out, HB1.out, HNB.out⟩
                case measure => simp [intOf]; omega
              · obtain rfl : k = 4 := by omega
                have H9 := Lib.hid (s_life HS8.out)
                go_wp2_with fail
                refine H9.out.mono ?_
                rintro y w9 ⟨rfl, rfl⟩
                go_wp2_with fail
                go_ret
                exact ⟨rfl, HO8.out.low⟩)
end Go.Proofs.Ytnenpcbofbcllaa
