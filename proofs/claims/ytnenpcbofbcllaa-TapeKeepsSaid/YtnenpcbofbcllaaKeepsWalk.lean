/- The walk of the law TapeKeeps. -/
import Derived.Test.YtnenpcbofbcllaaSwapsWalk
import Derived.Test.YtnenpcbofbcllaaQTail
import Derived.Deep.QuietTactic
import Derived.BigQuiet
import Derived.Lib.QuietBelow
namespace Go.Proofs.Ytnenpcbofbcllaa
open Go.RowKit Go.Maps

abbrev Row4 := Nat → List UInt8
/-- What each of the four names holds: all that was put, and how much of it is safe. -/
def Kept (f : View) (A S : Row4) : Prop := ∀ k, k < 4 → (f (nm k) = none ∧ A k = [] ∧ S k = []) ∨ ∃ sf, f (nm k) = some (A k, sf) ∧ sf = (S k).length ∧ S k = (A k).take sf
def put4 (A : Row4) (K : Nat) (x : List UInt8) : Row4 := fun j => if j = K then x else A j
theorem Kept.append {f : View} {A S : Row4} (h : Kept f A S) {K : Nat} (hK : K < 4) (x : List UInt8) : Kept (upd f (nm K) (some (more (f (nm K)) x))) (put4 A K (A K ++ x)) S := by
  intro j hj
  by_cases hjk : j = K
  · subst hjk
    right
    rw [upd_same]
    simp only [put4, if_true]
    rcases h j hj with ⟨h1, h2, h3⟩ | ⟨sf, h1, h2, h3⟩
    · refine ⟨0, by rw [h1, h2]; rfl, by rw [h3]; rfl, by rw [h3]; rfl⟩
    · refine ⟨sf, by rw [h1]; rfl, h2, ?_⟩
      have hle : sf ≤ (A j).length := by rw [h3, List.length_take] at h2; omega
      rw [List.take_append_of_le_length hle]
      exact h3
  · rw [upd_other _ _ (fun h => hjk (nm_inj hj hK h))]
    simp only [put4, if_neg hjk]
    exact h j hj
theorem Kept.at {f : View} {A S : Row4} (h : Kept f A S) {K : Nat} (hK : K < 4) {p : List UInt8 × Nat} (hp : f (nm K) = some p) : f (nm K) = some (A K, p.2) := by
  rcases h K hK with ⟨h1, -⟩ | ⟨sf, h1, -⟩
  · rw [h1] at hp; cases hp
  · rw [h1] at hp ⊢
    injection hp with hp
    rw [← hp]
theorem Kept.same {f : View} {A S : Row4} (h : Kept f A S) {K : Nat} (hK : K < 4) {sf : Nat} (hp : f (nm K) = some (A K, sf)) : Kept (upd f (nm K) (some (A K, sf))) A S := by
  intro j hj
  by_cases hjk : j = K
  · subst hjk
    rw [upd_same, ← hp]
    exact h j hj
  · rw [upd_other _ _ (fun h => hjk (nm_inj hj hK h))]
    exact h j hj
theorem Kept.sync {f : View} {A S : Row4} (h : Kept f A S) {K : Nat} (hK : K < 4) : Kept (upd f (nm K) (some (A K, (A K).length))) A (put4 S K (A K)) := by
  intro j hj
  by_cases hjk : j = K
  · subst hjk
    rw [upd_same]
    simp only [put4, if_true]
    exact .inr ⟨_, rfl, rfl, by rw [List.take_length]⟩
  · rw [upd_other _ _ (fun h => hjk (nm_inj hj hK h))]
    simp only [put4, if_neg hjk]
    exact h j hj
/-- What is left of a name: a beginning of all, no less than what was safe. -/
theorem Kept.left {f f' : View} {A S : Row4} {zs : List Int} (h : Kept f A S) (hl : Left zs f f') {k : Nat} (hk : k < 4) : (S k).length ≤ (cur f' (nm k)).length ∧ (cur f' (nm k)).length ≤ (A k).length ∧ cur f' (nm k) = (A k).take (cur f' (nm k)).length := by
  have h1 := hl (nm k)
  rcases h k hk with ⟨h2, h3, h4⟩ | ⟨sf, h2, h3, -⟩
  · rw [h2] at h1
    simp only at h1
    unfold cur
    rw [h1, h3, h4]
    simp
  · rw [h2] at h1
    obtain ⟨x, h5, h6, h7, -⟩ := h1
    unfold cur
    rw [h5]
    simp only [List.length_take]
    refine ⟨by omega, by omega, ?_⟩
    rw [show min x (A k).length = x by omega]
theorem s_read_two {w : World} {t : Nat} {B : Nat → Prop} {f : View} {tot n : Nat} {s : Sc} (h : St w t B f tot n s) (hd : s.down = false) (k : Key) (hk : k.length ≤ 1048576) :
    ∃ e : Int, (e = 0 ∨ e = 12) ∧ Calls Try.prog 15 #[.pointer (some ⟨t, 0, none⟩), .string ⟨k.toArray⟩] w fun x w' => x = .returned (.tuple #[.string ⟨(cur f k).toArray⟩, .int .i64 e]) ∧ w = w' := by
  unfold cur
  rcases hf : f k with _ | ⟨L, sf⟩
  · exact ⟨_, .inr rfl, s_read_none h hd k hk hf⟩
  · exact ⟨_, .inl rfl, s_read h hd k L sf hf⟩
theorem extract_take (L : List UInt8) (n : Nat) : (⟨L.toArray⟩ : ByteArray).extract 0 n = ⟨(L.take n).toArray⟩ := by
  apply ByteArray.ext
  rw [ByteArray.data_extract]
  apply Array.ext'
  simp
/-- The law's three arrays: the names, what is safe, all. -/
structure Three (w : World) (B : Nat → Prop) (nb sb ab : Nat) (A S : Row4) : Prop where
  n : Blk w nb (arr4 nm) 29
  s : Blk w sb (arr4 S) 29
  a : Blk w ab (arr4 A) 29
  nB : ¬ B nb
  sB : ¬ B sb
  aB : ¬ B ab
theorem Three.moved {w w' : World} {B B' : Nat → Prop} {nb sb ab : Nat} {A S : Row4} (h : Three w B nb sb ab A S) (m : Moved B B' w w') : Three w' B' nb sb ab A S :=
  ⟨(h.n.moved m h.nB).1, (h.s.moved m h.sB).1, (h.a.moved m h.aB).1, (h.n.moved m h.nB).2, (h.s.moved m h.sB).2, (h.a.moved m h.aB).2⟩
theorem Three.below {w w' : World} {B : Nat → Prop} {nb sb ab : Nat} {A S : Row4} (h : Three w B nb sb ab A S) (m : RowKit.Below w.heap.size w w') : Three w' B nb sb ab A S :=
  ⟨h.n.below m, h.s.below m, h.a.below m, h.nB, h.sB, h.aB⟩
theorem Three.setA {w : World} {B : Nat → Prop} {nb sb ab : Nat} {A S : Row4} (h : Three w B nb sb ab A S) (hna : nb ≠ ab) (hsa : sb ≠ ab) {K : Nat} (hK : K < 4) (x : List UInt8) : Three (w.setCell ⟨ab, K, none⟩ (.string ⟨x.toArray⟩)) B nb sb ab (put4 A K x) S :=
  ⟨h.n.setOther ⟨ab, K, none⟩ _ hna, h.s.setOther ⟨ab, K, none⟩ _ hsa, arr4_set h.a hK x, h.nB, h.sB, h.aB⟩
theorem Three.setS {w : World} {B : Nat → Prop} {nb sb ab : Nat} {A S : Row4} (h : Three w B nb sb ab A S) (hns : nb ≠ sb) (hsa : sb ≠ ab) {K : Nat} (hK : K < 4) (x : List UInt8) : Three (w.setCell ⟨sb, K, none⟩ (.string ⟨x.toArray⟩)) B nb sb ab A (put4 S K x) :=
  ⟨h.n.setOther ⟨sb, K, none⟩ _ hns, arr4_set h.s hK x, h.a.setOther ⟨sb, K, none⟩ _ (Ne.symm hsa), h.nB, h.sB, h.aB⟩

/-- What holds ahead of each round. -/
def Keeping (ps : List Pt) (w : World) (t nb sb ab : Nat) (iv : Value) (wr : World) : Prop :=
  ∃ (i tot nf : Nat) (B : Nat → Prop) (f : View) (s : Sc) (A S : Row4), i ≤ ps.length ∧ i ≤ 60 ∧ iv = .int .i64 i ∧ St wr t B f tot nf s ∧ Own w wr B ∧ Three wr B nb sb ab A S ∧ Kept f A S ∧ Going s (2 * i) ∧ tot ≤ 1024 * i ∧ nf ≤ i

set_option maxRecDepth 100000 in
set_option maxHeartbeats 8000000 in
theorem keeps_any (a : Option Addr) (cap : Nat) (ps : List Pt) (pw : Int) (fv : Value) (zs : List Int) (w : World) (hp : Prts w w.heap.size (.slice a ps.length cap) ps)
    (hf : Nums w fv zs) (hfb : 0 < zs.length → ∀ a c d, fv = .slice (some a) c d → a.block < w.heap.size) :
    Calls Try.prog 3 #[.slice a ps.length cap, .int .i64 pw, fv] w fun e w' => e = .returned (.bool true) ∧ RowKit.Below w.heap.size w w' := by
  have HAW := Lib.hid awake_any
  have HP := Lib.hid hp
  have HNEW := Lib.hid (fun w => s_new 1048576 w (by decide) (by decide))
  have HF := Lib.hid (And.intro hf hfb)
  obtain ⟨fa, fl, fc, rfl⟩ : ∃ a l c, fv = .slice a l c := let ⟨a, c, h, _⟩ := hf; ⟨a, _, c, h⟩
  obtain ⟨Q, hQ, hQ2, hQ3⟩ := mod_nat pw 100 (by decide) (by decide)
  obtain ⟨m, hm⟩ : ∃ m, ps.length = m := ⟨_, rfl⟩
  have HM := Lib.hid hm
  rw [hm] at HP ⊢
  clear hp hm hf hfb
  go_enter Try.func3, Try.ntmps3
  go_wp2_with fail
  refine (HAW.out _).mono ?_
  rintro e w1 ⟨rfl, b1⟩
  have HB1 := Lib.hid b1
  clear b1
  go_wp2_with fail
  refine (HNEW.out _).mono ?_
  rintro x w2 ⟨t, B2, rfl, S2, b2, o2⟩
  have O2 : Own w w2 B2 := ⟨HB1.out.trans (b2.mono HB1.out.size), fun b hb => Nat.le_trans HB1.out.size (o2 b hb)⟩
  have S2' : St w2 t B2 (fun _ => none) 0 0 ⟨1048576, false, 0, 0, 0⟩ := by simpa using S2
  have A2 := s_arm S2' (Q : Int)
  rw [show max (Q : Int) 0 = (Q : Int) by omega] at A2
  have H2 := Lib.hid A2
  have HO2 := Lib.hid O2
  clear S2 S2' O2 b2 o2 A2
  go_wp2_with fail
  refine H2.out.mono ?_
  rintro x w3 ⟨⟨y, rfl⟩, B3, S3, m3⟩
  have HO3 := Lib.hid (HO2.out.moved m3)
  have HS3 := Lib.hid S3
  have HQ2 := Lib.hid hQ2
  clear S3 m3 hQ hQ2 hQ3 H2
  obtain ⟨nb, hnb⟩ : ∃ nb, w3.heap.size = nb := ⟨_, rfl⟩
  obtain ⟨sb, hsb⟩ : ∃ sb, nb + 1 = sb := ⟨_, rfl⟩
  obtain ⟨ab, hab⟩ : ∃ ab, sb + 1 = ab := ⟨_, rfl⟩
  have hw3 : w.heap.size ≤ nb := by rw [← hnb]; exact HO3.out.low.size
  have hns : nb ≠ sb := by omega
  have hna : nb ≠ ab := by omega
  have hsa : sb ≠ ab := by omega
  have hws : w.heap.size ≤ sb := by omega
  have hwa : w.heap.size ≤ ab := by omega
  have hst : Keeping ps w t nb sb ab (.int .i64 0) (((w3.alloc (.cells #[.string ⟨#[97]⟩, .string ⟨#[98]⟩, .string ⟨#[99]⟩, .string ⟨#[100]⟩] 29)).alloc (.cells #[.string ⟨#[]⟩, .string ⟨#[]⟩, .string ⟨#[]⟩, .string ⟨#[]⟩] 29)).alloc (.cells #[.string ⟨#[]⟩, .string ⟨#[]⟩, .string ⟨#[]⟩, .string ⟨#[]⟩] 29)) := by
    have hb : RowKit.Below w3.heap.size w3 (((w3.alloc (.cells #[.string ⟨#[97]⟩, .string ⟨#[98]⟩, .string ⟨#[99]⟩, .string ⟨#[100]⟩] 29)).alloc (.cells #[.string ⟨#[]⟩, .string ⟨#[]⟩, .string ⟨#[]⟩, .string ⟨#[]⟩] 29)).alloc (.cells #[.string ⟨#[]⟩, .string ⟨#[]⟩, .string ⟨#[]⟩, .string ⟨#[]⟩] 29)) :=
      (((Below.refl _ _).alloc (Nat.le_refl _) _).alloc (by simp) _).alloc (by simp; omega) _
    refine ⟨0, 0, 0, B3, _, _, fun _ => [], fun _ => [], Nat.zero_le _, by decide, rfl, HS3.out.below hb, HO3.out.below hb, ⟨?_, ?_, ?_, HS3.out.new_no (by omega), HS3.out.new_no (by omega), HS3.out.new_no (by omega)⟩, fun k hk => .inl ⟨rfl, rfl, rfl⟩,
      ⟨rfl, Nat.le_refl _, rfl, by have := HQ2.out; show 0 ≤ (Q : Int) ∧ (Q : Int) ≤ 100; omega, rfl⟩, Nat.le_refl _, Nat.le_refl _⟩
    · have h1 := ((Blk.new w3 #[.string ⟨#[97]⟩, .string ⟨#[98]⟩, .string ⟨#[99]⟩, .string ⟨#[100]⟩] 29).alloc (.cells #[.string ⟨#[]⟩, .string ⟨#[]⟩, .string ⟨#[]⟩, .string ⟨#[]⟩] 29)).alloc (.cells #[.string ⟨#[]⟩, .string ⟨#[]⟩, .string ⟨#[]⟩, .string ⟨#[]⟩] 29)
      rw [hnb] at h1
      exact h1
    · have h1 := (Blk.new (w3.alloc (.cells #[.string ⟨#[97]⟩, .string ⟨#[98]⟩, .string ⟨#[99]⟩, .string ⟨#[100]⟩] 29)) #[.string ⟨#[]⟩, .string ⟨#[]⟩, .string ⟨#[]⟩, .string ⟨#[]⟩] 29).alloc (.cells #[.string ⟨#[]⟩, .string ⟨#[]⟩, .string ⟨#[]⟩, .string ⟨#[]⟩] 29)
      rw [show (w3.alloc (.cells #[.string ⟨#[97]⟩, .string ⟨#[98]⟩, .string ⟨#[99]⟩, .string ⟨#[100]⟩] 29)).heap.size = sb by simp; omega] at h1
      exact h1
    · have h1 := Blk.new ((w3.alloc (.cells #[.string ⟨#[97]⟩, .string ⟨#[98]⟩, .string ⟨#[99]⟩, .string ⟨#[100]⟩] 29)).alloc (.cells #[.string ⟨#[]⟩, .string ⟨#[]⟩, .string ⟨#[]⟩, .string ⟨#[]⟩] 29)) #[.string ⟨#[]⟩, .string ⟨#[]⟩, .string ⟨#[]⟩, .string ⟨#[]⟩] 29
      rw [show ((w3.alloc (.cells #[.string ⟨#[97]⟩, .string ⟨#[98]⟩, .string ⟨#[99]⟩, .string ⟨#[100]⟩] 29)).alloc (.cells #[.string ⟨#[]⟩, .string ⟨#[]⟩, .string ⟨#[]⟩, .string ⟨#[]⟩] 29)).heap.size = ab by simp; omega] at h1
      exact h1
  have HST := Lib.hid hst
  clear hst
  go_wp2_with fail
  clear hnb hsb hab
  go_loopw [11] (fun iv wr => Keeping ps w t nb sb ab iv wr) (fun iv _ => m - (intOf iv).toNat)
  case atStart => exact HST.out
  case round =>
    obtain ⟨i, tot, nf, B, f, s, A, S, hi, hi60, rfl, hS, hO, h3, hkp, hgo, htot, hnf⟩ := hrel
    rw [HM.out] at hi
    have HS := Lib.hid hS
    have HO := Lib.hid hO
    have H3 := Lib.hid h3
    have HKP := Lib.hid hkp
    have HGO := Lib.hid hgo
    have HT := Lib.hid htot
    have HNF := Lib.hid hnf
    clear hS hO h3 hkp hgo htot hnf HST
    by_cases hlt : i < m
    · by_cases h60 : i < 60
      · obtain ⟨x, hx⟩ : ∃ x, ps[i]? = some x := ⟨_, List.getElem?_eq_getElem (by rw [HM.out]; exact hlt)⟩
        obtain ⟨a', cap', hva, hcell⟩ := HP.out
        obtain ⟨b, off, hab, hbl, hc0, hc1, hc2⟩ := hcell i x hx
        obtain rfl : a = some ⟨b, off, none⟩ := by injection hva with h1 h2 h3; rw [h1, hab]
        obtain ⟨X, hX⟩ : ∃ X : ByteArray, (⟨x.S.toArray⟩ : ByteArray) = X := ⟨_, rfl⟩
        obtain ⟨r, hr⟩ : ∃ r, x.S.length = r := ⟨_, rfl⟩
        have hXs : X.size = r := by rw [← hX, size_list, hr]
        obtain ⟨z, hz⟩ : ∃ z, x.n = z := ⟨_, rfl⟩
        obtain ⟨fl', hfl⟩ : ∃ y, x.sync = y := ⟨_, rfl⟩
        obtain ⟨K, hK, hK2, hK3⟩ := mod_nat z 4 (by decide) (by decide)
        have hK4 : K < 4 := by omega
        rw [hX] at hc1
        rw [hz] at hc0
        rw [hfl] at hc2
        have hcn : wr.cell? ⟨b, off + i * 3, none⟩ = some (.int .i64 z) := HO.out.cell hbl hc0
        have hcx : wr.cell? ⟨b, off + i * 3 + 1, none⟩ = some (.string X) := HO.out.cell hbl hc1
        have HBL := Lib.hid hbl
        have HC1 := Lib.hid hc1
        have HC2 := Lib.hid hc2
        have HX := Lib.hid hX
        have HR := Lib.hid hr
        clear hva hcell hx hX hr hc0 hc1 hc2 hbl hz hab hfl
        by_cases hbig : 1024 < r
        · clear hK hK2 hK3 hK4
          go_wp2_with fail
          go_ret
          exact ⟨rfl, HO.out.low⟩
        · obtain ⟨KN, hKN⟩ : ∃ KN : ByteArray, (⟨(nm K).toArray⟩ : ByteArray) = KN := ⟨_, rfl⟩
          have hq := arr4_cell H3.out.n hK4
          rw [hKN] at hq
          have hroom : tot + x.S.length ≤ s.room := by rw [HGO.out.room, HR.out]; have := HT.out; omega
          have HAP : Hid (∀ wx, RowKit.Below wr.heap.size wr wx → Calls Try.prog 11 #[.pointer (some ⟨t, 0, none⟩), .string KN, .string X] wx fun y w' => y = .returned (.int .i64 (actR s)) ∧
              ∃ B', St w' t B' (upd f (nm K) (some (more (f (nm K)) x.S))) (tot + x.S.length) (if (f (nm K)).isSome then nf else nf + 1) (actS s) ∧ Moved B B' wx w') := fun wx hbx => by
            have := s_append (HS.out.below hbx) (HGO.out.small (by omega)) (nm K) x.S (nm_ok K) (by have := HNF.out; omega) hroom
            rwa [hKN, HX.out] at this
          have k1 := cell_regrown hq
          have k2 := cell_regrown hcx
          obtain ⟨AB, hAB⟩ : ∃ AB : ByteArray, (⟨(A K).toArray⟩ : ByteArray) = AB := ⟨_, rfl⟩
          have hABs : AB.size ≤ 65536 := by
            rw [← hAB, size_list]
            rcases HKP.out K hK4 with ⟨-, h2, -⟩ | ⟨sf, h2, -⟩
            · rw [h2]; exact Nat.zero_le _
            · have h4 := HS.out.sized h2
              have h5 := HT.out
              omega
          obtain ⟨D, hD⟩ : ∃ D : ByteArray, AB ++ X = D := ⟨_, rfl⟩
          have hDL : D = ⟨(A K ++ x.S).toArray⟩ := by rw [← hD, ← hAB, ← HX.out, bytes_append]
          have HDL := Lib.hid hDL
          have HAB := Lib.hid hAB
          have HKN := Lib.hid hKN
          have HQ := Lib.hid hq
          have hKI : (K : Int) < 4 := hK2
          clear hKN hq hroom hAB hDL
          go_wp2_with fail
          refine wp_region_below_tail 9 (by kernel_rfl) (by kernel_rfl) ?_
          simp only [List.take_succ_cons, List.take_zero, List.drop_succ_cons, List.drop_zero]
          repeat (go_big_quiet_step (fail))
          refine wpQuiet_nil ?_
          intro w6 hw6
          obtain ⟨⟨dq, osq⟩, hw6'⟩ := hw6
          have HB6 : Hid (RowKit.Below wr.heap.size wr w6) := by rw [hw6']; exact below_regrown wr dq osq
          clear hw6' k1 k2
          go_wp2_with fail
          refine (HAP.out w6 HB6.out).mono ?_
          rintro y w7 ⟨rfl, B7, S7, m7⟩
          have O7 := (HO.out.below HB6.out).moved m7
          have T7 := (H3.out.below HB6.out).moved m7
          have k1 := cell_regrown (O7.cell HBL.out HC1.out)
          have k2 : ∀ d os, _ := cell_regrown (show w7.cell? ⟨ab, K, none⟩ = some (.string AB) by rw [← HAB.out]; exact arr4_cell T7.a hK4)
          have HS7 := Lib.hid S7
          have HO7 := Lib.hid O7
          have HT7 := Lib.hid T7
          have HKP7 := Lib.hid (HKP.out.append hK4 x.S)
          obtain ⟨e7, he7⟩ : ∃ e7, actR s = e7 := ⟨_, rfl⟩
          have HE7 := Lib.hid he7
          rw [he7]
          clear S7 O7 T7 m7 HAP hcx hcn he7
          go_wp2_with fail
          refine wp_region_below_tail 11 (by kernel_rfl) (by kernel_rfl) ?_
          simp only [List.take_succ_cons, List.take_zero, List.drop_succ_cons, List.drop_zero]
          repeat (go_big_quiet_step (fail))
          refine wpQuiet_nil ?_
          intro w8 hw8
          obtain ⟨⟨dq, osq⟩, hw8'⟩ := hw8
          have hb8 : RowKit.Below w7.heap.size w7 w8 := by rw [hw8']; exact below_regrown w7 dq osq
          have T8 := HT7.out.below hb8
          have q8 : w8.cell? ⟨ab, K, none⟩ = some (.string AB) := by rw [← HAB.out]; exact arr4_cell T8.a hK4
          have g8 := T8.a.free (i := K)
          have HB8 := Lib.hid hb8
          clear hw8' k1 k2 hb8
          have S9 := (HS7.out.below HB8.out).beside T8.aB K (.string D)
          have O9 := (HO7.out.below HB8.out).beside hwa K (.string D)
          have T9 := T8.setA hna hsa hK4 (A K ++ x.S)
          rw [← HDL.out] at T9
          have hsy := O9.cell HBL.out HC2.out
          have HS9 := Lib.hid S9
          have HO9 := Lib.hid O9
          have HT9 := Lib.hid T9
          clear S9 O9 T9 T8
          rcases act_split HGO.out with ⟨h1, h2⟩ | ⟨h1, h2⟩
          · have hz0 : e7 = 0 := HE7.out.symm.trans h1
            have HG7 := Lib.hid h2
            clear h1 h2
            subst hz0
            cases fl' with
            | false =>
              go_wp2_with fail
              go_roundw
              case rel => exact ⟨i + 1, tot + x.S.length, _, B7, _, _, _, S, by rw [HM.out]; exact hlt, by omega, by go_num, HS9.out, HO9.out, HT9.out, HKP7.out, ⟨HG7.out.on, by have := HG7.out.acts; omega, HG7.out.life, HG7.out.armed, HG7.out.room⟩, by have := HT.out; have := HR.out; omega, by have := HNF.out; split <;> omega⟩
              case measure => simp [intOf]; omega
            | true =>
              have hat := HKP7.out.at hK4 (upd_same _ _ _)
              have A10 := s_sync HS9.out (HG7.out.small (by omega)) (nm K) _ _ hat
              rw [HKN.out] at A10
              have H10 := Lib.hid A10
              have HAT := Lib.hid hat
              have hq9 : (w8.setCell ⟨ab, K, none⟩ (.string D)).cell? ⟨nb, K, none⟩ = some (.string KN) := by rw [← HKN.out]; exact arr4_cell HT9.out.n hK4
              clear A10 hat
              go_wp2_with fail
              refine H10.out.mono ?_
              rintro y w10 ⟨rfl, B10, S10, m10⟩
              have O10 := HO9.out.moved m10
              have T10 := HT9.out.moved m10
              clear m10 H10 hq9 hsy q8 g8
              rcases act_split HG7.out with ⟨h1, h2⟩ | ⟨h1, h2⟩
              · have hne : ¬ (actS s).armed = 1 := fun h => by simp [actR, h] at h1
                rw [if_neg hne] at S10
                rw [h1]
                have r1 : w10.cell? ⟨ab, K, none⟩ = some (.string D) := by
                  have := arr4_cell T10.a hK4
                  simp only [put4, if_true] at this
                  rw [HDL.out]
                  exact this
                have r2 := arr4_cell T10.s hK4
                have r3 := T10.s.free (i := K)
                obtain ⟨SB, hSB⟩ : ∃ SB : ByteArray, (⟨(S K).toArray⟩ : ByteArray) = SB := ⟨_, rfl⟩
                rw [hSB] at r2
                have S11 := S10.beside T10.sB K (.string D)
                have O11 := O10.beside hws K (.string D)
                have T11 := T10.setS hns hsa hK4 (A K ++ x.S)
                rw [← HDL.out] at T11
                have hks := HKP7.out.sync hK4
                have hput : put4 A K (A K ++ x.S) K = A K ++ x.S := by simp [put4]
                rw [hput] at S11 hks
                have HS11 := Lib.hid S11
                have HO11 := Lib.hid O11
                have HT11 := Lib.hid T11
                have HK11 := Lib.hid hks
                have HG11 := Lib.hid h2
                clear S10 O10 T10 S11 O11 T11 hks h1 h2 hne hput hSB
                go_wp2_with fail
                go_roundw
                case rel => exact ⟨i + 1, tot + x.S.length, _, B10, _, _, _, _, by rw [HM.out]; exact hlt, by omega, by go_num, HS11.out, HO11.out, HT11.out, HK11.out, ⟨HG11.out.on, by have := HG11.out.acts; omega, HG11.out.life, HG11.out.armed, HG11.out.room⟩, by have := HT.out; have := HR.out; omega, by have := HNF.out; split <;> omega⟩
                case measure => simp [intOf]; omega
              · have ha1 : (actS s).armed = 1 := by
                  by_cases h : (actS s).armed = 1
                  · exact h
                  · simp [actR, h] at h1
                rw [if_pos ha1] at S10
                have KX := HKP7.out.same hK4 HAT.out
                have lX := h2.life
                rw [h1]
                have SX := S10
                have OX := O10
                have TX := T10
                clear h1 h2 ha1 S10 O10 T10 HS HO H3 HKP HGO HT HNF HS7 HO7 HT7 HKP7 HS9 HO9 HT9 HG7 HAT HDL HB8 HB6 HC1 HC2 HX HR hABs hXs hD
                obtain ⟨A1, S1, TX2, KX2⟩ : ∃ A1 S1, Three _ _ nb sb ab A1 S1 ∧ Kept _ A1 S1 := ⟨_, _, TX, KX⟩
                clear TX KX
                have TX := TX2
                have KX := KX2
                clear TX2 KX2
                have A20 := s_off SX (by omega)
                have H20 := Lib.hid A20
                have HOX := Lib.hid OX
                have HTX := Lib.hid TX
                have HKX := Lib.hid KX
                clear A20 SX OX TX KX lX
                go_wp2_with fail
                refine H20.out.mono ?_
                rintro y w20 ⟨⟨y, rfl⟩, B20, S20, m20⟩
                have O20 := HOX.out.moved m20
                have T20 := HTX.out.moved m20
                have A21 := s_on S20 (offS_down _) _ zs (nums_at HF.out.1 O20 HF.out.2) (own_no O20 HF.out.2)
                have H21 := Lib.hid A21
                have HO20 := Lib.hid O20
                have HT20 := Lib.hid T20
                clear A21 S20 m20 O20 T20 H20 HOX HTX
                go_wp2_with fail
                refine H21.out.mono ?_
                rintro y w21 ⟨⟨y, rfl⟩, B21, f21, tot21, S21, L21, m21⟩
                have HL21 := Lib.hid (fun k (hk : k < 4) => HKX.out.left L21 hk)
                have HO21 := Lib.hid (HO20.out.moved m21)
                have HT21 := Lib.hid (HT20.out.moved m21)
                have HS21 := Lib.hid S21
                clear S21 L21 m21 HO20 HT20 H21 HKX
                go_wp2_with fail
                go_loopw [14] (fun kv wz => ∃ k : Nat, k ≤ 4 ∧ kv = .int .i64 k ∧ wz = w21) (fun kv _ => 4 - (intOf kv).toNat)
                case atStart => exact ⟨0, by decide, rfl, rfl⟩
                case round =>
                  obtain ⟨k, hk, rfl, rfl⟩ := hrel
                  by_cases hk4 : k < 4
                  · obtain ⟨l1, l2, l3⟩ := HL21.out k hk4
                    have q1 := arr4_cell HT21.out.n hk4
                    have q2 := arr4_cell HT21.out.s hk4
                    have q3 := arr4_cell HT21.out.a hk4
                    obtain ⟨e, he, A22⟩ := s_read_two HS21.out rfl (nm k) (by rw [nm_len]; decide)
                    obtain ⟨gn, hgn⟩ : ∃ n, (cur f21 (nm k)).length = n := ⟨_, rfl⟩
                    rw [hgn] at l1 l2 l3
                    generalize cur f21 (nm k) = G0 at *
                    generalize hs0 : S1 k = S0 at *
                    generalize ha0 : A1 k = A0 at *
                    have hex := extract_take A0 gn
                    rw [← l3] at hex
                    obtain ⟨KM, hKM⟩ : ∃ B : ByteArray, (⟨(nm k).toArray⟩ : ByteArray) = B := ⟨_, rfl⟩
                    obtain ⟨GB, hGB⟩ : ∃ B : ByteArray, (⟨G0.toArray⟩ : ByteArray) = B := ⟨_, rfl⟩
                    obtain ⟨S0B, hS0⟩ : ∃ B : ByteArray, (⟨S0.toArray⟩ : ByteArray) = B := ⟨_, rfl⟩
                    obtain ⟨A0B, hA0⟩ : ∃ B : ByteArray, (⟨A0.toArray⟩ : ByteArray) = B := ⟨_, rfl⟩
                    have z1 : GB.size = gn := by rw [← hGB, size_list, hgn]
                    have z2 : S0B.size = S0.length := by rw [← hS0, size_list]
                    have z3 : A0B.size = A0.length := by rw [← hA0, size_list]
                    generalize S0.length = sn at *
                    generalize A0.length = an at *
                    rw [hKM] at q1 A22
                    rw [hS0] at q2
                    rw [hA0] at q3 hex
                    rw [hGB] at A22 hex
                    have H22 := Lib.hid A22
                    clear A22 l3 hgn hGB hS0 hA0 hs0 ha0 hKM
                    have l1' : ((gn : Int) < (sn : Int)) = False := by simp; omega
                    have l2' : ((an : Int) < (gn : Int)) = False := by simp; omega
                    rcases he with rfl | rfl
                    all_goals (
                      go_wp2_with fail
                      refine H22.out.mono ?_
                      rintro y w22 ⟨rfl, rfl⟩
                      go_wp2_with fail
                      go_roundw
                      case rel => exact ⟨k + 1, by omega, by go_num, trivial⟩
                      case measure => simp [intOf]; omega)
                  · obtain rfl : k = 4 := by omega
                    have N1 := Lib.hid (read_nil [97])
                    have N2 := Lib.hid (append_nil [97] [])
                    have N3 := Lib.hid down_nil
                    have N4 := Lib.hid names_nil
                    have N5 := Lib.hid left_nil
                    go_wp2_with fail
                    refine (N1.out _).mono ?_
                    rintro y w23 ⟨rfl, rfl⟩
                    go_wp2_with fail
                    refine (N2.out _).mono ?_
                    rintro y w23 ⟨rfl, rfl⟩
                    go_wp2_with fail
                    refine (N3.out _).mono ?_
                    rintro y w23 ⟨rfl, rfl⟩
                    go_wp2_with fail
                    refine (N4.out _).mono ?_
                    rintro y w23 ⟨rfl, rfl⟩
                    go_wp2_with fail
                    refine (N5.out _).mono ?_
                    rintro y w23 ⟨rfl, rfl⟩
                    go_wp2_with fail
                    go_ret
                    exact ⟨rfl, HO21.out.low⟩
          · have hz10 : e7 = 10 := HE7.out.symm.trans h1
            have lX := h2.life
            clear h1 h2
            subst hz10
            have SX := HS9.out
            have OX := HO9.out
            have TX := HT9.out
            have KX := HKP7.out
            clear HS HO H3 HKP HGO HT HNF HS7 HO7 HT7 HKP7 HS9 HO9 HT9 HDL HB8 HB6 HC1 HC2 HX HR hABs hXs hD
            obtain ⟨A1, S1, TX2, KX2⟩ : ∃ A1 S1, Three _ _ nb sb ab A1 S1 ∧ Kept _ A1 S1 := ⟨_, _, TX, KX⟩
            clear TX KX
            have TX := TX2
            have KX := KX2
            clear TX2 KX2
            have A20 := s_off SX (by omega)
            have H20 := Lib.hid A20
            have HOX := Lib.hid OX
            have HTX := Lib.hid TX
            have HKX := Lib.hid KX
            clear A20 SX OX TX KX lX
            go_wp2_with fail
            refine H20.out.mono ?_
            rintro y w20 ⟨⟨y, rfl⟩, B20, S20, m20⟩
            have O20 := HOX.out.moved m20
            have T20 := HTX.out.moved m20
            have A21 := s_on S20 (offS_down _) _ zs (nums_at HF.out.1 O20 HF.out.2) (own_no O20 HF.out.2)
            have H21 := Lib.hid A21
            have HO20 := Lib.hid O20
            have HT20 := Lib.hid T20
            clear A21 S20 m20 O20 T20 H20 HOX HTX
            go_wp2_with fail
            refine H21.out.mono ?_
            rintro y w21 ⟨⟨y, rfl⟩, B21, f21, tot21, S21, L21, m21⟩
            have HL21 := Lib.hid (fun k (hk : k < 4) => HKX.out.left L21 hk)
            have HO21 := Lib.hid (HO20.out.moved m21)
            have HT21 := Lib.hid (HT20.out.moved m21)
            have HS21 := Lib.hid S21
            clear S21 L21 m21 HO20 HT20 H21 HKX
            go_wp2_with fail
            go_loopw [14] (fun kv wz => ∃ k : Nat, k ≤ 4 ∧ kv = .int .i64 k ∧ wz = w21) (fun kv _ => 4 - (intOf kv).toNat)
            case atStart => exact ⟨0, by decide, rfl, rfl⟩
            case round =>
              obtain ⟨k, hk, rfl, rfl⟩ := hrel
              by_cases hk4 : k < 4
              · obtain ⟨l1, l2, l3⟩ := HL21.out k hk4
                have q1 := arr4_cell HT21.out.n hk4
                have q2 := arr4_cell HT21.out.s hk4
                have q3 := arr4_cell HT21.out.a hk4
                obtain ⟨e, he, A22⟩ := s_read_two HS21.out rfl (nm k) (by rw [nm_len]; decide)
                obtain ⟨gn, hgn⟩ : ∃ n, (cur f21 (nm k)).length = n := ⟨_, rfl⟩
                rw [hgn] at l1 l2 l3
                generalize cur f21 (nm k) = G0 at *
                generalize hs0 : S1 k = S0 at *
                generalize ha0 : A1 k = A0 at *
                have hex := extract_take A0 gn
                rw [← l3] at hex
                obtain ⟨KM, hKM⟩ : ∃ B : ByteArray, (⟨(nm k).toArray⟩ : ByteArray) = B := ⟨_, rfl⟩
                obtain ⟨GB, hGB⟩ : ∃ B : ByteArray, (⟨G0.toArray⟩ : ByteArray) = B := ⟨_, rfl⟩
                obtain ⟨S0B, hS0⟩ : ∃ B : ByteArray, (⟨S0.toArray⟩ : ByteArray) = B := ⟨_, rfl⟩
                obtain ⟨A0B, hA0⟩ : ∃ B : ByteArray, (⟨A0.toArray⟩ : ByteArray) = B := ⟨_, rfl⟩
                have z1 : GB.size = gn := by rw [← hGB, size_list, hgn]
                have z2 : S0B.size = S0.length := by rw [← hS0, size_list]
                have z3 : A0B.size = A0.length := by rw [← hA0, size_list]
                generalize S0.length = sn at *
                generalize A0.length = an at *
                rw [hKM] at q1 A22
                rw [hS0] at q2
                rw [hA0] at q3 hex
                rw [hGB] at A22 hex
                have H22 := Lib.hid A22
                clear A22 l3 hgn hGB hS0 hA0 hs0 ha0 hKM
                have l1' : ((gn : Int) < (sn : Int)) = False := by simp; omega
                have l2' : ((an : Int) < (gn : Int)) = False := by simp; omega
                rcases he with rfl | rfl
                all_goals (
                  go_wp2_with fail
                  refine H22.out.mono ?_
                  rintro y w22 ⟨rfl, rfl⟩
                  go_wp2_with fail
                  go_roundw
                  case rel => exact ⟨k + 1, by omega, by go_num, trivial⟩
                  case measure => simp [intOf]; omega)
              · obtain rfl : k = 4 := by omega
                have N1 := Lib.hid (read_nil [97])
                have N2 := Lib.hid (append_nil [97] [])
                have N3 := Lib.hid down_nil
                have N4 := Lib.hid names_nil
                have N5 := Lib.hid left_nil
                go_wp2_with fail
                refine (N1.out _).mono ?_
                rintro y w23 ⟨rfl, rfl⟩
                go_wp2_with fail
                refine (N2.out _).mono ?_
                rintro y w23 ⟨rfl, rfl⟩
                go_wp2_with fail
                refine (N3.out _).mono ?_
                rintro y w23 ⟨rfl, rfl⟩
                go_wp2_with fail
                refine (N4.out _).mono ?_
                rintro y w23 ⟨rfl, rfl⟩
                go_wp2_with fail
                refine (N5.out _).mono ?_
                rintro y w23 ⟨rfl, rfl⟩
                go_wp2_with fail
                go_ret
                exact ⟨rfl, HO21.out.low⟩
      · have SX := HS.out
        have OX := HO.out
        have TX := H3.out
        have KX := HKP.out
        have lX : s.life ≤ 1 := by have := HGO.out.life; omega
        clear HS HO H3 HKP HGO HT HNF
        obtain ⟨A1, S1, TX2, KX2⟩ : ∃ A1 S1, Three _ _ nb sb ab A1 S1 ∧ Kept _ A1 S1 := ⟨_, _, TX, KX⟩
        clear TX KX
        have TX := TX2
        have KX := KX2
        clear TX2 KX2
        have A20 := s_off SX (by omega)
        have H20 := Lib.hid A20
        have HOX := Lib.hid OX
        have HTX := Lib.hid TX
        have HKX := Lib.hid KX
        clear A20 SX OX TX KX lX
        go_wp2_with fail
        refine H20.out.mono ?_
        rintro y w20 ⟨⟨y, rfl⟩, B20, S20, m20⟩
        have O20 := HOX.out.moved m20
        have T20 := HTX.out.moved m20
        have A21 := s_on S20 (offS_down _) _ zs (nums_at HF.out.1 O20 HF.out.2) (own_no O20 HF.out.2)
        have H21 := Lib.hid A21
        have HO20 := Lib.hid O20
        have HT20 := Lib.hid T20
        clear A21 S20 m20 O20 T20 H20 HOX HTX
        go_wp2_with fail
        refine H21.out.mono ?_
        rintro y w21 ⟨⟨y, rfl⟩, B21, f21, tot21, S21, L21, m21⟩
        have HL21 := Lib.hid (fun k (hk : k < 4) => HKX.out.left L21 hk)
        have HO21 := Lib.hid (HO20.out.moved m21)
        have HT21 := Lib.hid (HT20.out.moved m21)
        have HS21 := Lib.hid S21
        clear S21 L21 m21 HO20 HT20 H21 HKX
        go_wp2_with fail
        go_loopw [14] (fun kv wz => ∃ k : Nat, k ≤ 4 ∧ kv = .int .i64 k ∧ wz = w21) (fun kv _ => 4 - (intOf kv).toNat)
        case atStart => exact ⟨0, by decide, rfl, rfl⟩
        case round =>
          obtain ⟨k, hk, rfl, rfl⟩ := hrel
          by_cases hk4 : k < 4
          · obtain ⟨l1, l2, l3⟩ := HL21.out k hk4
            have q1 := arr4_cell HT21.out.n hk4
            have q2 := arr4_cell HT21.out.s hk4
            have q3 := arr4_cell HT21.out.a hk4
            obtain ⟨e, he, A22⟩ := s_read_two HS21.out rfl (nm k) (by rw [nm_len]; decide)
            obtain ⟨gn, hgn⟩ : ∃ n, (cur f21 (nm k)).length = n := ⟨_, rfl⟩
            rw [hgn] at l1 l2 l3
            generalize cur f21 (nm k) = G0 at *
            generalize hs0 : S1 k = S0 at *
            generalize ha0 : A1 k = A0 at *
            have hex := extract_take A0 gn
            rw [← l3] at hex
            obtain ⟨KM, hKM⟩ : ∃ B : ByteArray, (⟨(nm k).toArray⟩ : ByteArray) = B := ⟨_, rfl⟩
            obtain ⟨GB, hGB⟩ : ∃ B : ByteArray, (⟨G0.toArray⟩ : ByteArray) = B := ⟨_, rfl⟩
            obtain ⟨S0B, hS0⟩ : ∃ B : ByteArray, (⟨S0.toArray⟩ : ByteArray) = B := ⟨_, rfl⟩
            obtain ⟨A0B, hA0⟩ : ∃ B : ByteArray, (⟨A0.toArray⟩ : ByteArray) = B := ⟨_, rfl⟩
            have z1 : GB.size = gn := by rw [← hGB, size_list, hgn]
            have z2 : S0B.size = S0.length := by rw [← hS0, size_list]
            have z3 : A0B.size = A0.length := by rw [← hA0, size_list]
            generalize S0.length = sn at *
            generalize A0.length = an at *
            rw [hKM] at q1 A22
            rw [hS0] at q2
            rw [hA0] at q3 hex
            rw [hGB] at A22 hex
            have H22 := Lib.hid A22
            clear A22 l3 hgn hGB hS0 hA0 hs0 ha0 hKM
            have l1' : ((gn : Int) < (sn : Int)) = False := by simp; omega
            have l2' : ((an : Int) < (gn : Int)) = False := by simp; omega
            rcases he with rfl | rfl
            all_goals (
              go_wp2_with fail
              refine H22.out.mono ?_
              rintro y w22 ⟨rfl, rfl⟩
              go_wp2_with fail
              go_roundw
              case rel => exact ⟨k + 1, by omega, by go_num, trivial⟩
              case measure => simp [intOf]; omega)
          · obtain rfl : k = 4 := by omega
            have N1 := Lib.hid (read_nil [97])
            have N2 := Lib.hid (append_nil [97] [])
            have N3 := Lib.hid down_nil
            have N4 := Lib.hid names_nil
            have N5 := Lib.hid left_nil
            go_wp2_with fail
            refine (N1.out _).mono ?_
            rintro y w23 ⟨rfl, rfl⟩
            go_wp2_with fail
            refine (N2.out _).mono ?_
            rintro y w23 ⟨rfl, rfl⟩
            go_wp2_with fail
            refine (N3.out _).mono ?_
            rintro y w23 ⟨rfl, rfl⟩
            go_wp2_with fail
            refine (N4.out _).mono ?_
            rintro y w23 ⟨rfl, rfl⟩
            go_wp2_with fail
            refine (N5.out _).mono ?_
            rintro y w23 ⟨rfl, rfl⟩
            go_wp2_with fail
            go_ret
            exact ⟨rfl, HO21.out.low⟩
    · have SX := HS.out
      have OX := HO.out
      have TX := H3.out
      have KX := HKP.out
      have lX : s.life ≤ 1 := by have := HGO.out.life; omega
      clear HS HO H3 HKP HGO HT HNF
      obtain ⟨A1, S1, TX2, KX2⟩ : ∃ A1 S1, Three _ _ nb sb ab A1 S1 ∧ Kept _ A1 S1 := ⟨_, _, TX, KX⟩
      clear TX KX
      have TX := TX2
      have KX := KX2
      clear TX2 KX2
      have A20 := s_off SX (by omega)
      have H20 := Lib.hid A20
      have HOX := Lib.hid OX
      have HTX := Lib.hid TX
      have HKX := Lib.hid KX
      clear A20 SX OX TX KX lX
      go_wp2_with fail
      refine H20.out.mono ?_
      rintro y w20 ⟨⟨y, rfl⟩, B20, S20, m20⟩
      have O20 := HOX.out.moved m20
      have T20 := HTX.out.moved m20
      have A21 := s_on S20 (offS_down _) _ zs (nums_at HF.out.1 O20 HF.out.2) (own_no O20 HF.out.2)
      have H21 := Lib.hid A21
      have HO20 := Lib.hid O20
      have HT20 := Lib.hid T20
      clear A21 S20 m20 O20 T20 H20 HOX HTX
      go_wp2_with fail
      refine H21.out.mono ?_
      rintro y w21 ⟨⟨y, rfl⟩, B21, f21, tot21, S21, L21, m21⟩
      have HL21 := Lib.hid (fun k (hk : k < 4) => HKX.out.left L21 hk)
      have HO21 := Lib.hid (HO20.out.moved m21)
      have HT21 := Lib.hid (HT20.out.moved m21)
      have HS21 := Lib.hid S21
      clear S21 L21 m21 HO20 HT20 H21 HKX
      go_wp2_with fail
      go_loopw [14] (fun kv wz => ∃ k : Nat, k ≤ 4 ∧ kv = .int .i64 k ∧ wz = w21) (fun kv _ => 4 - (intOf kv).toNat)
      case atStart => exact ⟨0, by decide, rfl, rfl⟩
      case round =>
        obtain ⟨k, hk, rfl, rfl⟩ := hrel
        by_cases hk4 : k < 4
        · obtain ⟨l1, l2, l3⟩ := HL21.out k hk4
          have q1 := arr4_cell HT21.out.n hk4
          have q2 := arr4_cell HT21.out.s hk4
          have q3 := arr4_cell HT21.out.a hk4
          obtain ⟨e, he, A22⟩ := s_read_two HS21.out rfl (nm k) (by rw [nm_len]; decide)
          obtain ⟨gn, hgn⟩ : ∃ n, (cur f21 (nm k)).length = n := ⟨_, rfl⟩
          rw [hgn] at l1 l2 l3
          generalize cur f21 (nm k) = G0 at *
          generalize hs0 : S1 k = S0 at *
          generalize ha0 : A1 k = A0 at *
          have hex := extract_take A0 gn
          rw [← l3] at hex
          obtain ⟨KM, hKM⟩ : ∃ B : ByteArray, (⟨(nm k).toArray⟩ : ByteArray) = B := ⟨_, rfl⟩
          obtain ⟨GB, hGB⟩ : ∃ B : ByteArray, (⟨G0.toArray⟩ : ByteArray) = B := ⟨_, rfl⟩
          obtain ⟨S0B, hS0⟩ : ∃ B : ByteArray, (⟨S0.toArray⟩ : ByteArray) = B := ⟨_, rfl⟩
          obtain ⟨A0B, hA0⟩ : ∃ B : ByteArray, (⟨A0.toArray⟩ : ByteArray) = B := ⟨_, rfl⟩
          have z1 : GB.size = gn := by rw [← hGB, size_list, hgn]
          have z2 : S0B.size = S0.length := by rw [← hS0, size_list]
          have z3 : A0B.size = A0.length := by rw [← hA0, size_list]
          generalize S0.length = sn at *
          generalize A0.length = an at *
          rw [hKM] at q1 A22
          rw [hS0] at q2
          rw [hA0] at q3 hex
          rw [hGB] at A22 hex
          have H22 := Lib.hid A22
          clear A22 l3 hgn hGB hS0 hA0 hs0 ha0 hKM
          have l1' : ((gn : Int) < (sn : Int)) = False := by simp; omega
          have l2' : ((an : Int) < (gn : Int)) = False := by simp; omega
          rcases he with rfl | rfl
          all_goals (
            go_wp2_with fail
            refine H22.out.mono ?_
            rintro y w22 ⟨rfl, rfl⟩
            go_wp2_with fail
            go_roundw
            case rel => exact ⟨k + 1, by omega, by go_num, trivial⟩
            case measure => simp [intOf]; omega)
        · obtain rfl : k = 4 := by omega
          have N1 := Lib.hid (read_nil [97])
          have N2 := Lib.hid (append_nil [97] [])
          have N3 := Lib.hid down_nil
          have N4 := Lib.hid names_nil
          have N5 := Lib.hid left_nil
          go_wp2_with fail
          refine (N1.out _).mono ?_
          rintro y w23 ⟨rfl, rfl⟩
          go_wp2_with fail
          refine (N2.out _).mono ?_
          rintro y w23 ⟨rfl, rfl⟩
          go_wp2_with fail
          refine (N3.out _).mono ?_
          rintro y w23 ⟨rfl, rfl⟩
          go_wp2_with fail
          refine (N4.out _).mono ?_
          rintro y w23 ⟨rfl, rfl⟩
          go_wp2_with fail
          refine (N5.out _).mono ?_
          rintro y w23 ⟨rfl, rfl⟩
          go_wp2_with fail
          go_ret
          exact ⟨rfl, HO21.out.low⟩
end Go.Proofs.Ytnenpcbofbcllaa
