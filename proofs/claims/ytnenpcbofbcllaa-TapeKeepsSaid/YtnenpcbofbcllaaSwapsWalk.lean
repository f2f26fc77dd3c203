/- The walk of the law TapeSwaps. -/
import Derived.Test.YtnenpcbofbcllaaLetter
namespace Go.Proofs.Ytnenpcbofbcllaa
open Go.RowKit Go.Maps

abbrev kFile : Key := [102, 105, 108, 101]
abbrev kNew : Key := [110, 101, 119]
/-- A slice of texts, as it came in. -/
def Txts (w : World) (B : Nat) (sv : Value) (ls : List (List UInt8)) : Prop :=
  ∃ a cap, sv = .slice a ls.length cap ∧ ∀ j l, ls[j]? = some l → ∃ b off, a = some ⟨b, off, none⟩ ∧ b < B ∧ w.cell? ⟨b, off + j, none⟩ = some (.string ⟨l.toArray⟩)
def flat (ls : List (List UInt8)) : List UInt8 := ls.flatten
theorem flat_more {ls : List (List UInt8)} {i : Nat} {l : List UInt8} (h : ls[i]? = some l) : flat (ls.take (i + 1)) = flat (ls.take i) ++ l := by
  unfold flat
  rw [List.take_add_one, h]
  simp
/-- The power is on. -/
structure Going (s : Sc) (a : Nat) : Prop where
  on : s.down = false
  acts : s.acts ≤ a
  life : s.life = 0
  armed : 0 ≤ s.armed ∧ s.armed ≤ 100
  room : s.room = 1048576
structure Gone (s : Sc) : Prop where
  off : s.down = true
  life : s.life ≤ 1
  room : s.room = 1048576
theorem Going.small {s : Sc} {a : Nat} (h : Going s a) (ha : a ≤ 1000) : Small s :=
  ⟨h.on, by have := h.acts; omega, by have := h.life; omega, by have := h.armed; omega⟩
theorem act_split {s : Sc} {a : Nat} (h : Going s a) : (actR s = 0 ∧ Going (actS s) (a + 1)) ∨ (actR s = 10 ∧ Gone (actS s)) := by
  obtain ⟨room, down, armed, acts, life⟩ := s
  obtain ⟨h1, h2, h3, h4, h5⟩ := h
  simp only at h1 h2 h3 h4 h5
  subst h1 h3 h5
  by_cases h0 : armed = 0
  · subst h0
    exact .inl ⟨rfl, rfl, by show acts + 1 ≤ _; omega, rfl, by show (0 : Int) ≤ 0 ∧ (0 : Int) ≤ 100; omega, rfl⟩
  · by_cases h1 : armed = 1
    · subst h1
      exact .inr ⟨rfl, rfl, by show 0 + 1 ≤ 1; omega, rfl⟩
    · refine .inl ⟨by simp [actR, h1], ?_⟩
      simp only [actS, if_neg h0, if_neg h1]
      exact ⟨rfl, by show acts + 1 ≤ _; omega, rfl, by show 0 ≤ armed - 1 ∧ armed - 1 ≤ 100; omega, rfl⟩
theorem offS_down (s : Sc) : (offS s).down = true := by
  unfold offS
  split
  · assumption
  · rfl
theorem left_all {zs : List Int} {f f' : View} (h : Left zs f f') {k : Key} {G : List UInt8} (hk : f k = some (G, G.length)) : ∃ x, f' k = some (G, x) := by
  have := h k
  rw [hk] at this
  obtain ⟨x, h1, h2, h3, -⟩ := this
  have : x = G.length := by omega
  subst this
  exact ⟨_, by rw [h1, List.take_length]⟩

/-- What holds ahead of each round. -/
def Swinging (ls : List (List UInt8)) (O : List UInt8) (w : World) (t pb : Nat) (pw : Array Value) (wv ev iv : Value) (wr : World) : Prop :=
  ∃ (i tot nf : Nat) (e : Int) (B : Nat → Prop) (f : View) (s : Sc), i ≤ ls.length ∧ (∀ j l, j < i → ls[j]? = some l → l.length ≤ 1024) ∧ iv = .int .i64 i ∧ ev = .int .i64 e ∧ wv = .string ⟨(flat (ls.take i)).toArray⟩ ∧
    St wr t B f tot nf s ∧ Own w wr B ∧ Blk wr pb pw 43 ∧ ¬ B pb ∧ f kFile = some (O, O.length) ∧ tot ≤ O.length + 1024 * i ∧ nf ≤ 2 ∧
    ((e = 0 ∧ Going s (3 + i) ∧ f kNew = some (flat (ls.take i), 0)) ∨ (e = 10 ∧ Gone s))
theorem flat_small {ls : List (List UInt8)} {i : Nat} (h : ∀ j l, j < i → ls[j]? = some l → l.length ≤ 1024) (hi : i ≤ ls.length) : (flat (ls.take i)).length ≤ 1024 * i := by
  induction i with
  | zero => simp [flat]
  | succ i ih =>
    have h1 := ih (fun j l hj => h j l (by omega)) (by omega)
    obtain ⟨l, hl⟩ : ∃ l, ls[i]? = some l := ⟨_, List.getElem?_eq_getElem (by omega)⟩
    rw [flat_more hl, List.length_append]
    have := h i l (by omega) hl
    omega

set_option maxRecDepth 100000 in
set_option maxHeartbeats 4000000 in
theorem swaps_any (O : List UInt8) (a : Option Addr) (cap : Nat) (ls : List (List UInt8)) (pa : Int) (fv : Value) (zs : List Int) (w : World) (hp : Txts w w.heap.size (.slice a ls.length cap) ls)
    (hf : Nums w fv zs) (hfb : 0 < zs.length → ∀ a c d, fv = .slice (some a) c d → a.block < w.heap.size) :
    Calls Try.prog 4 #[.string ⟨O.toArray⟩, .slice a ls.length cap, .agg #[.int .i64 pa, fv]] w fun e w' => e = .returned (.bool true) ∧ RowKit.Below w.heap.size w w' := by
  have HAW := Lib.hid awake_any
  have HP := Lib.hid hp
  have HNEW := Lib.hid (fun w => s_new 1048576 w (by decide) (by decide))
  have HF := Lib.hid (And.intro hf hfb)
  obtain ⟨fa, fl, fc, rfl⟩ : ∃ a l c, fv = .slice a l c := let ⟨a, c, h, _⟩ := hf; ⟨a, _, c, h⟩
  obtain ⟨m, hm⟩ : ∃ m, ls.length = m := ⟨_, rfl⟩
  obtain ⟨OB, hOB⟩ : ∃ OB : ByteArray, (⟨O.toArray⟩ : ByteArray) = OB := ⟨_, rfl⟩
  obtain ⟨o, ho⟩ : ∃ o, O.length = o := ⟨_, rfl⟩
  have hOs : OB.size = o := by rw [← hOB, size_list, ho]
  obtain ⟨A, hA, hA2, hA3⟩ := mod_nat pa 30 (by decide) (by decide)
  have HM := Lib.hid hm
  have HOB := Lib.hid hOB
  have HOO := Lib.hid ho
  have HA2 := Lib.hid hA2
  rw [hm] at HP ⊢
  rw [hOB]
  have hbb : RowKit.Below w.heap.size w (w.alloc (.cells #[.int .i64 pa, .slice fa fl fc] 43)) := (Below.refl _ _).alloc (Nat.le_refl _) _
  have hbk : Blk (w.alloc (.cells #[.int .i64 pa, .slice fa fl fc] 43)) w.heap.size #[.int .i64 pa, .slice fa fl fc] 43 := Blk.new w _ _
  obtain ⟨pb, hpb⟩ : ∃ pb, w.heap.size = pb := ⟨_, rfl⟩
  obtain ⟨wb, hwb⟩ : ∃ wb, w.alloc (.cells #[.int .i64 pa, .slice fa fl fc] 43) = wb := ⟨_, rfl⟩
  rw [hwb] at hbb hbk
  have hsz : wb.heap.size = pb + 1 := by rw [← hwb, ← hpb]; simp
  have HBB := Lib.hid hbb
  have HBK := Lib.hid (hpb ▸ hbk)
  have HSZ := Lib.hid hsz
  have HPB := Lib.hid hpb
  clear hp hm hf hfb hOB ho hbb hbk hsz
  go_enter Try.func4, Try.ntmps4
  go_wp2_with fail
  refine (HAW.out _).mono ?_
  rintro e w1 ⟨rfl, b1⟩
  have HB1 := Lib.hid b1
  clear b1 hpb
  by_cases hbig : 1024 < o
  · go_wp2_with fail
    go_ret
    exact ⟨rfl, HBB.out.trans (HB1.out.mono HBB.out.size)⟩
  by_cases h20 : 20 < m
  · go_wp2_with fail
    go_ret
    exact ⟨rfl, HBB.out.trans (HB1.out.mono HBB.out.size)⟩
  go_wp2_with fail
  refine (HNEW.out _).mono ?_
  rintro x w2 ⟨t, B2, rfl, S2, b2, o2⟩
  have O2 : Own w w2 B2 := ⟨HBB.out.trans ((HB1.out.trans (b2.mono HB1.out.size)).mono HBB.out.size), fun b hb => Nat.le_trans HBB.out.size (Nat.le_trans HB1.out.size (o2 b hb))⟩
  have k2 : Blk w2 pb #[.int .i64 pa, .slice fa fl fc] 43 := (HBK.out.below HB1.out).below b2
  have n2 : ¬ B2 pb := fun h => by have h1 := o2 _ h; have h2 := HB1.out.size; have h3 := HSZ.out; omega
  have S2' : St w2 t B2 (fun _ => none) 0 0 ⟨1048576, false, 0, 0, 0⟩ := by simpa using S2
  have A2 := s_append S2' (small_of 1048576 0 (by decide)) kFile O rfl (by decide) (by rw [HOO.out]; show 0 + o ≤ 1048576; omega)
  rw [HOB.out, show actR ⟨1048576, false, 0, 0, 0⟩ = 0 from rfl, show actS ⟨1048576, false, 0, 0, 0⟩ = ⟨1048576, false, 0, 1, 0⟩ from rfl] at A2
  have H2 := Lib.hid A2
  have HO2 := Lib.hid O2
  have HK2 := Lib.hid k2
  have HN2 := Lib.hid n2
  clear S2 S2' O2 k2 n2 b2 o2 A2
  go_wp2_with fail
  refine H2.out.mono ?_
  rintro x w3 ⟨rfl, B3, S3, m3⟩
  obtain ⟨k3, n3⟩ := HK2.out.moved m3 HN2.out
  have O3 := HO2.out.moved m3
  have A3 := s_sync S3 (small_of 1048576 1 (by decide)) kFile O 0 (upd_same _ _ _)
  rw [show actR ⟨1048576, false, 0, 1, 0⟩ = 0 from rfl, show actS ⟨1048576, false, 0, 1, 0⟩ = ⟨1048576, false, 0, 2, 0⟩ from rfl, show (if (⟨1048576, false, 0, 1, 0⟩ : Sc).armed = 1 then 0 else O.length) = O.length from rfl] at A3
  have H3 := Lib.hid A3
  have HO3 := Lib.hid O3
  have HK3 := Lib.hid k3
  have HN3 := Lib.hid n3
  clear S3 O3 k3 n3 m3 A3 H2
  go_wp2_with fail
  refine H3.out.mono ?_
  rintro x w4 ⟨rfl, B4, S4, m4⟩
  obtain ⟨k4, n4⟩ := HK3.out.moved m4 HN3.out
  have O4 := HO3.out.moved m4
  have c4 : w4.cell? ⟨pb, 0, none⟩ = some (.int .i64 pa) := k4.cell rfl
  have A4 := s_arm S4 (A : Int)
  rw [show max (A : Int) 0 = (A : Int) by omega] at A4
  have H4 := Lib.hid A4
  have HO4 := Lib.hid O4
  have HK4 := Lib.hid k4
  have HN4 := Lib.hid n4
  clear S4 O4 k4 n4 m4 A4 H3
  go_wp2_with fail
  refine H4.out.mono ?_
  rintro x w5 ⟨⟨y, rfl⟩, B5, S5, m5⟩
  obtain ⟨k5, n5⟩ := HK4.out.moved m5 HN4.out
  have O5 := HO4.out.moved m5
  have g5 : Going ⟨1048576, false, (A : Int), 2, 0⟩ 2 := ⟨rfl, Nat.le_refl _, rfl, by have := HA2.out; show 0 ≤ (A : Int) ∧ (A : Int) ≤ 100; omega, rfl⟩
  have A5 := s_append S5 (g5.small (by decide)) kNew [] rfl (by decide) (by have := HOO.out; show 0 + O.length + 0 ≤ 1048576; omega)
  have H5 := Lib.hid A5
  have HO5 := Lib.hid O5
  have HK5 := Lib.hid k5
  have HN5 := Lib.hid n5
  have HG5 := Lib.hid g5
  clear S5 O5 k5 n5 m5 A5 H4 g5 hA hA2 hA3 c4
  go_wp2_with fail
  refine H5.out.mono ?_
  rintro x w6 ⟨rfl, B6, S6, m6⟩
  obtain ⟨k6, n6⟩ := HK5.out.moved m6 HN5.out
  have O6 := HO5.out.moved m6
  obtain ⟨e6, he6⟩ : ∃ e6, actR ⟨1048576, false, (A : Int), 2, 0⟩ = e6 := ⟨_, rfl⟩
  have hst : Swinging ls O w t pb #[.int .i64 pa, .slice fa fl fc] (.string ⟨#[]⟩) (.int .i64 e6) (.int .i64 0) w6 := by
    refine ⟨0, _, _, e6, B6, _, _, Nat.zero_le _, fun j l h => absurd h (by omega), rfl, rfl, rfl, S6, O6, k6, n6, rfl, by show 0 + O.length + 0 ≤ _; omega, by split <;> split <;> omega, ?_⟩
    rw [← he6]
    rcases act_split HG5.out with ⟨h1, h2⟩ | ⟨h1, h2⟩
    · exact .inl ⟨h1, h2, rfl⟩
    · exact .inr ⟨h1, h2⟩
  have HST := Lib.hid hst
  rw [he6]
  clear S6 O6 k6 n6 m6 H5 hst he6 HG5
  go_wp2_with fail
  go_loopw [8, 9, 10] (fun wv ev iv wr => Swinging ls O w t pb #[.int .i64 pa, .slice fa fl fc] wv ev iv wr) (fun _ _ iv _ => m - (intOf iv).toNat)
  case atStart => exact HST.out
  case round =>
    obtain ⟨i, tot, nf, e, B, f, s, hi, hsm, rfl, rfl, rfl, S, OW, hk, hn, hfile, htot, hnf, hcase⟩ := hrel
    rw [HM.out] at hi
    have HS := Lib.hid S
    have HO := Lib.hid OW
    have HK := Lib.hid hk
    have HN := Lib.hid hn
    have HFI := Lib.hid hfile
    have HT := Lib.hid htot
    have HNF := Lib.hid hnf
    have HSM := Lib.hid hsm
    have HFS := Lib.hid (flat_small hsm (by rw [HM.out]; exact hi))
    clear S OW hk hn hfile htot hnf hsm HST
    obtain ⟨W, hW⟩ : ∃ W : ByteArray, (⟨(flat (ls.take i)).toArray⟩ : ByteArray) = W := ⟨_, rfl⟩
    have hWs : W.size ≤ 20480 := by rw [← hW, size_list]; have := HFS.out; omega
    rw [hW]
    have HW := Lib.hid hW
    by_cases hlt : i < m
    · obtain ⟨l, hl⟩ : ∃ l, ls[i]? = some l := ⟨_, List.getElem?_eq_getElem (by rw [HM.out]; exact hlt)⟩
      obtain ⟨a', cap', hva, hcell⟩ := HP.out
      obtain ⟨b, off, hab, hbl, hc1⟩ := hcell i l hl
      obtain rfl : a = some ⟨b, off, none⟩ := by injection hva with h1 h2 h3; rw [h1, hab]
      obtain ⟨X, hX⟩ : ∃ X : ByteArray, (⟨l.toArray⟩ : ByteArray) = X := ⟨_, rfl⟩
      obtain ⟨r, hr⟩ : ∃ r, l.length = r := ⟨_, rfl⟩
      have hXs : X.size = r := by rw [← hX, size_list, hr]
      rw [hX] at hc1
      have hcx := HO.out.cell hbl hc1
      obtain ⟨W2, hW2⟩ : ∃ W2 : ByteArray, W ++ X = W2 := ⟨_, rfl⟩
      have hW3 : W2 = ⟨(flat (ls.take (i + 1))).toArray⟩ := by rw [← hW2, ← hW, ← hX, flat_more hl, bytes_append]
      have HW3 := Lib.hid hW3
      have HX := Lib.hid hX
      have HR := Lib.hid hr
      have HL := Lib.hid hl
      have HBL := Lib.hid hbl
      have HC1 := Lib.hid hc1
      clear hva hcell hX hr hl hc1 hbl hW hW3
      by_cases hbig : 1024 < r
      · clear hcase
        go_wp2_with fail
        go_ret
        exact ⟨rfl, HO.out.low⟩
      · have HSM2 : Hid (∀ j l, j < i + 1 → ls[j]? = some l → l.length ≤ 1024) := fun j l' hj hl' => by
          rcases Nat.lt_or_ge j i with h | h
          · exact HSM.out j l' h hl'
          · obtain rfl : j = i := by omega
            have e1 : l' = l := Option.some.inj (hl'.symm.trans HL.out)
            rw [e1, HR.out]
            omega
        rcases hcase with ⟨rfl, hg, hnew⟩ | ⟨rfl, hg⟩
        · have A7 := s_append HS.out (hg.small (by omega)) kNew l rfl (by have := HNF.out; omega) (by rw [hg.room, HR.out]; have := HT.out; have := HOO.out; omega)
          rw [HX.out, hnew] at A7
          have H7 := Lib.hid A7
          have HG := Lib.hid hg
          have HNEW2 := Lib.hid hnew
          clear A7 hg hnew
          go_wp2_with fail
          refine H7.out.mono ?_
          rintro x w7 ⟨rfl, B7, S7, m7⟩
          obtain ⟨k7, n7⟩ := HK.out.moved m7 HN.out
          have O7 := HO.out.moved m7
          have hcx7 := O7.cell HBL.out HC1.out
          obtain ⟨e7, he7⟩ : ∃ e7, actR s = e7 := ⟨_, rfl⟩
          have hrel2 : Swinging ls O w t pb #[.int .i64 pa, .slice fa fl fc] (.string W2) (.int .i64 e7) (.int .i64 ((i : Int) + 1)) w7 := by
            refine ⟨i + 1, _, _, e7, B7, _, _, by rw [HM.out]; exact hlt, HSM2.out, by go_num, rfl, by rw [HW3.out], S7, O7, k7, n7, by rw [upd_other _ _ (by decide)]; exact HFI.out, by have := HT.out; have := HR.out; omega, by have := HNF.out; simpa using this, ?_⟩
            rw [← he7]
            rcases act_split HG.out with ⟨h1, h2⟩ | ⟨h1, h2⟩
            · exact .inl ⟨h1, h2, by rw [upd_same, flat_more HL.out]; rfl⟩
            · exact .inr ⟨h1, h2⟩
          have HR2 := Lib.hid hrel2
          rw [he7]
          clear S7 O7 k7 n7 m7 hrel2 H7 hcx he7
          go_wp2_with fail
          go_roundw
          case rel => exact HR2.out
          case measure => simp [intOf]; omega
        · have hrel2 : Swinging ls O w t pb #[.int .i64 pa, .slice fa fl fc] (.string W2) (.int .i64 10) (.int .i64 ((i : Int) + 1)) wr := by
            refine ⟨i + 1, tot, nf, 10, B, f, s, by rw [HM.out]; exact hlt, HSM2.out, by go_num, rfl, by rw [HW3.out], HS.out, HO.out, HK.out, HN.out, HFI.out, by have := HT.out; omega, HNF.out, .inr ⟨rfl, hg⟩⟩
          have HR2 := Lib.hid hrel2
          clear hrel2 hg
          go_wp2_with fail
          go_roundw
          case rel => exact HR2.out
          case measure => simp [intOf]; omega
    · obtain rfl : i = m := by omega
      clear hlt hW
      rcases hcase with ⟨rfl, hg, hnew⟩ | ⟨rfl, hg⟩
      · have A8 := s_sync HS.out (hg.small (by omega)) kNew _ 0 hnew
        have H8 := Lib.hid A8
        have HG := Lib.hid hg
        clear A8 hg hnew
        go_wp2_with fail
        refine H8.out.mono ?_
        rintro x w8 ⟨rfl, B8, S8, m8⟩
        obtain ⟨k8, n8⟩ := HK.out.moved m8 HN.out
        have O8 := HO.out.moved m8
        have f8 : upd f kNew (some (flat (ls.take i), if s.armed = 1 then 0 else (flat (ls.take i)).length)) kFile = some (O, O.length) := by rw [upd_other _ _ (by decide)]; exact HFI.out
        rcases act_split HG.out with ⟨h1, h2⟩ | ⟨h1, h2⟩
        · have hne : ¬ s.armed = 1 := fun h => by simp [actR, h] at h1
          rw [if_neg hne] at S8
          have A9 := s_swap S8 (h2.small (by omega)) kNew kFile _ (upd_same _ _ _) rfl
          rw [h1]
          have H9 := Lib.hid A9
          have HG9 := Lib.hid h2
          have HO8 := Lib.hid O8
          have HK8 := Lib.hid k8
          have HN8 := Lib.hid n8
          clear A9 S8 O8 k8 n8 m8 h1 h2 H8 f8 hne HS HO HK HN
          go_wp2_with fail
          refine H9.out.mono ?_
          rintro x w9 ⟨rfl, B9, tot9, nf9, S9, m9⟩
          obtain ⟨k9, n9⟩ := HK8.out.moved m9 HN8.out
          have O9 := HO8.out.moved m9
          have hl9 : (actS (actS s)).life ≤ 1 := by
            rcases act_split HG9.out with ⟨h1, h2⟩ | ⟨h1, h2⟩
            · have := h2.life; omega
            · exact h2.life
          have f9 : upd (upd (upd f kNew (some (flat (ls.take i), (flat (ls.take i)).length))) kNew none) kFile (some (flat (ls.take i), (flat (ls.take i)).length)) kFile = some (flat (ls.take i), (flat (ls.take i)).length) := upd_same _ _ _
          obtain ⟨e9, he9⟩ : ∃ e9, actR (actS s) = e9 := ⟨_, rfl⟩
          rw [he9]
          generalize upd (upd (upd f kNew (some (flat (ls.take i), (flat (ls.take i)).length))) kNew none) kFile (some (flat (ls.take i), (flat (ls.take i)).length)) = ff at S9 f9
          generalize actS (actS s) = ss at S9 hl9
          clear H9 HG9 m9 HO8 HK8 HN8 he9 HG HFI HT HNF
          have A9 := s_off S9 (by omega)
          have H10 := Lib.hid A9
          have HO10 := Lib.hid O9
          have HK10 := Lib.hid k9
          have HN10 := Lib.hid n9
          have HF10 := Lib.hid f9
          clear A9 S9 O9 k9 n9 f9
          go_wp2_with fail
          refine H10.out.mono ?_
          rintro x w10 ⟨⟨y, rfl⟩, B10, S10, m10⟩
          obtain ⟨k10, n10⟩ := HK10.out.moved m10 HN10.out
          have O10 := HO10.out.moved m10
          have c10 : w10.cell? ⟨pb, 1, none⟩ = some (.slice fa fl fc) := k10.cell rfl
          have A11 := s_on S10 (offS_down _) _ zs (nums_at HF.out.1 O10 HF.out.2) (own_no O10 HF.out.2)
          have H11 := Lib.hid A11
          have HO11 := Lib.hid O10
          clear A11 S10 m10 k10 n10 O10 H10
          go_wp2_with fail
          refine H11.out.mono ?_
          rintro x w11 ⟨⟨y, rfl⟩, B11, f11, tot11, S11, L11, m11⟩
          obtain ⟨x11, e11⟩ := left_all L11 HF10.out
          have O11 := HO11.out.moved m11
          have A12 := s_read S11 rfl kFile _ _ e11
          rw [HW.out] at A12
          have H12 := Lib.hid A12
          have HO12 := Lib.hid O11
          clear A12 S11 m11 O11 H11 L11 e11 c10
          go_wp2_with fail
          refine H12.out.mono ?_
          rintro x w12 ⟨rfl, rfl⟩
          go_wp2_with fail
          go_ret
          exact ⟨rfl, HO12.out.low⟩
        · rw [h1]
          have hl8 := h2.life
          generalize upd f kNew (some (flat (ls.take i), if s.armed = 1 then 0 else (flat (ls.take i)).length)) = ff at S8 f8
          generalize actS s = ss at S8 hl8
          clear H8 h1 h2 m8 HS HO HK HN HG HFI HT HNF
          have A8 := s_off S8 (by omega)
          have H10 := Lib.hid A8
          have HO10 := Lib.hid O8
          have HK10 := Lib.hid k8
          have HN10 := Lib.hid n8
          have HF10 := Lib.hid f8
          clear A8 S8 O8 k8 n8 f8
          go_wp2_with fail
          refine H10.out.mono ?_
          rintro x w10 ⟨⟨y, rfl⟩, B10, S10, m10⟩
          obtain ⟨k10, n10⟩ := HK10.out.moved m10 HN10.out
          have O10 := HO10.out.moved m10
          have c10 : w10.cell? ⟨pb, 1, none⟩ = some (.slice fa fl fc) := k10.cell rfl
          have A11 := s_on S10 (offS_down _) _ zs (nums_at HF.out.1 O10 HF.out.2) (own_no O10 HF.out.2)
          have H11 := Lib.hid A11
          have HO11 := Lib.hid O10
          clear A11 S10 m10 k10 n10 O10 H10
          go_wp2_with fail
          refine H11.out.mono ?_
          rintro x w11 ⟨⟨y, rfl⟩, B11, f11, tot11, S11, L11, m11⟩
          obtain ⟨x11, e11⟩ := left_all L11 HF10.out
          have O11 := HO11.out.moved m11
          have A12 := s_read S11 rfl kFile _ _ e11
          rw [HOB.out] at A12
          have H12 := Lib.hid A12
          have HO12 := Lib.hid O11
          clear A12 S11 m11 O11 H11 L11 e11 c10
          obtain ⟨z, hz⟩ : ∃ z, (OB.toList == W.toList) = z := ⟨_, rfl⟩
          cases z
          · go_wp2_with fail
            refine H12.out.mono ?_
            rintro x w12 ⟨rfl, rfl⟩
            go_wp2_with fail
            go_ret
            exact ⟨rfl, HO12.out.low⟩
          · go_wp2_with fail
            refine H12.out.mono ?_
            rintro x w12 ⟨rfl, rfl⟩
            go_wp2_with fail
            go_ret
            exact ⟨rfl, HO12.out.low⟩
      · have hl := hg.life
        have S8 := HS.out
        have O8 := HO.out
        have k8 := HK.out
        have n8 := HN.out
        have f8 := HFI.out
        have hl8 := hg.life
        generalize f = ff at S8 f8
        generalize s = ss at S8 hl8
        clear hg hl HS HO HK HN HFI HT HNF
        have A8 := s_off S8 (by omega)
        have H10 := Lib.hid A8
        have HO10 := Lib.hid O8
        have HK10 := Lib.hid k8
        have HN10 := Lib.hid n8
        have HF10 := Lib.hid f8
        clear A8 S8 O8 k8 n8 f8
        go_wp2_with fail
        refine H10.out.mono ?_
        rintro x w10 ⟨⟨y, rfl⟩, B10, S10, m10⟩
        obtain ⟨k10, n10⟩ := HK10.out.moved m10 HN10.out
        have O10 := HO10.out.moved m10
        have c10 : w10.cell? ⟨pb, 1, none⟩ = some (.slice fa fl fc) := k10.cell rfl
        have A11 := s_on S10 (offS_down _) _ zs (nums_at HF.out.1 O10 HF.out.2) (own_no O10 HF.out.2)
        have H11 := Lib.hid A11
        have HO11 := Lib.hid O10
        clear A11 S10 m10 k10 n10 O10 H10
        go_wp2_with fail
        refine H11.out.mono ?_
        rintro x w11 ⟨⟨y, rfl⟩, B11, f11, tot11, S11, L11, m11⟩
        obtain ⟨x11, e11⟩ := left_all L11 HF10.out
        have O11 := HO11.out.moved m11
        have A12 := s_read S11 rfl kFile _ _ e11
        rw [HOB.out] at A12
        have H12 := Lib.hid A12
        have HO12 := Lib.hid O11
        clear A12 S11 m11 O11 H11 L11 e11 c10
        obtain ⟨z, hz⟩ : ∃ z, (OB.toList == W.toList) = z := ⟨_, rfl⟩
        cases z
        · go_wp2_with fail
          refine H12.out.mono ?_
          rintro x w12 ⟨rfl, rfl⟩
          go_wp2_with fail
          go_ret
          exact ⟨rfl, HO12.out.low⟩
        · go_wp2_with fail
          refine H12.out.mono ?_
          rintro x w12 ⟨rfl, rfl⟩
          go_wp2_with fail
          go_ret
          exact ⟨rfl, HO12.out.low⟩
end Go.Proofs.Ytnenpcbofbcllaa
