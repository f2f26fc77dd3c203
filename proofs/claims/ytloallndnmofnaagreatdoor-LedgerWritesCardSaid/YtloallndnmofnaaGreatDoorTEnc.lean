/- THE CONTRACT OF ledger.Encode. -/
import Derived.Test.YtloallndnmofnaaGreatDoorStrs
import Derived.Test.YtloallndnmofnaaGreatDoorFrom
import Derived.Deep.RegionHeld3
import Derived.Deep.DrawnRows
namespace Go.Proofs.YtloallndnmofnaaGreatDoor
open Go.RowKit

theorem below_to {B : Nat} {w W W' : World} (h : RowKit.Below B w W) (h1 : W'.os = W.os) (h2 : W'.tape = W.tape) (h3 : W'.output = W.output) (h4 : W'.heap = W.heap) : RowKit.Below B w W' :=
  ⟨h1.trans h.os, h2.trans h.tape, h3.trans h.output, by rw [h4]; exact h.size, fun k hk => by rw [h4]; exact h.block k hk⟩
theorem below_chain {w W W' wq : World} (h : RowKit.Below w.heap.size w W) (hb : RowKit.Below W'.heap.size W' wq) (h1 : W'.os = W.os) (h2 : W'.tape = W.tape) (h3 : W'.output = W.output) (h4 : W'.heap = W.heap) : RowKit.Below w.heap.size w wq :=
  (below_to h h1 h2 h3 h4).trans (hb.mono (by rw [h4]; exact h.size))
theorem bs (l : List UInt8) : (⟨l.toArray⟩ : ByteArray).data.toList = l := by simp
theorem num64 {n : Int} (h : 0 ≤ n ∧ n ≤ 1099511627776) : Pl.I64 n := ⟨by omega, by omega⟩
/-- A slot's bytes, of its three numbers' bytes. -/
theorem dslot_list (s : Ld.Sl) (hs : Ld.okS s = true) (A B D : ByteArray) (hA : A = ⟨(Pl.wInt s.seq).toArray⟩) (hB : B = ⟨(Pl.wInt s.base).toArray⟩) (hD : D = ⟨(Pl.wInt s.fin).toArray⟩) (wx : World) :
    Calls Tryz.prog 18 #[.slice (some ⟨wx.heap.size, 0, none⟩) 3 3] (wx.alloc (.cells #[.string A, .string B, .string D] 9)) fun e w' => e = .returned (.string ⟨(Ld.encS s).toArray⟩) ∧ Below wx.heap.size wx w' := by
  subst hA hB hD
  have hal : Below wx.heap.size wx (wx.alloc (.cells #[.string ⟨(Pl.wInt s.seq).toArray⟩, .string ⟨(Pl.wInt s.base).toArray⟩, .string ⟨(Pl.wInt s.fin).toArray⟩] 9)) := (Below.refl _ _).alloc (Nat.le_refl _) _
  have h := Sl.new wx 9 1 3 #[.string ⟨(Pl.wInt s.seq).toArray⟩, .string ⟨(Pl.wInt s.base).toArray⟩, .string ⟨(Pl.wInt s.fin).toArray⟩] rfl
  have hl := Ld.encS_len hs
  rw [Ld.encS_parts] at hl ⊢
  have C := list_sl (l := [Pl.wInt s.seq, Pl.wInt s.base, Pl.wInt s.fin]) (n := 3) h rfl (by omega) (by omega) (by simp at hl ⊢; omega)
  exact C.mono fun e w' ⟨he, hb⟩ => ⟨he, hal.trans (hb.mono hal.size)⟩

set_option maxHeartbeats 1000000 in
theorem dtenc_no (P : Nat → Prop) (v : Value) (T : Ld.Tb) (w : World) (h : TabAt P v T w) (hl : T.length ≤ 1000) (hL : ∀ x ∈ T, x.2.length ≤ 1000) (hG : Ld.goodB T = false) :
    Calls Tryz.prog 6 #[v] w fun e w' => e = .returned (.tuple #[.string ⟨#[]⟩, .int .i64 1]) ∧ RowKit.Below w.heap.size w w' := by
  have HG := Lib.hid (dgoodT _ v T w h hl hL)
  rw [hG] at HG
  clear h hl hL hG
  go_enter Tryz.func6, Tryz.ntmps6
  go_wp2_with fail
  refine HG.out.mono ?_
  rintro e w1 ⟨rfl, hb⟩
  have HB := Lib.hid hb
  clear hb
  go_wp2_with fail
  go_ret2
  exact ⟨rfl, HB.out⟩
/-- Strings, in a block made since W. -/
def Strs (W : World) (v : Value) (l : List (List UInt8)) (wr : World) : Prop := ∃ gb, Sl wr v gb 9 1 l.length (strs l) ∧ (∀ q, gb = some q → W.heap.size ≤ q)
theorem Strs.below {W wr w' : World} {v : Value} {l : List (List UInt8)} (h : Strs W v l wr) (hb : RowKit.Below wr.heap.size wr w') : Strs W v l w' := by
  obtain ⟨gb, h1, h2⟩ := h
  exact ⟨gb, h1.below hb, h2⟩
/-- What an append of one string to them wants, and leaves. -/
def StrStep (W W1 : World) (v : Value) (l : List (List UInt8)) (s : List UInt8) : Prop :=
  ∃ gb, Sl W1 v gb 9 1 l.length (strs l) ∧ ∀ w9 g p cap gb', Sl w9 (.slice (some ⟨g, p, none⟩) (l.length + 1) cap) gb' 9 1 (l.length + 1) (strs l ++ [.string ⟨s.toArray⟩]) → W1.grownBy w9 gb → gb' = some g → (gb' = gb ∨ W1.heap.size ≤ g) → Strs W (.slice (some ⟨g, p, none⟩) (l.length + 1) cap) (l ++ [s]) w9 ∧ RowKit.Below W.heap.size W1 w9
/-- .. with the block named. -/
structure StrAt (W W1 : World) (v : Value) (n : Nat) (XS : List Value) (gb : Option Nat) (S : ByteArray) (l' : List (List UInt8)) : Prop where
  sl : Sl W1 v gb 9 1 n XS
  fin : ∀ w9 g p cap gb', Sl w9 (.slice (some ⟨g, p, none⟩) (n + 1) cap) gb' 9 1 (n + 1) (XS ++ [.string S]) → W1.grownBy w9 gb → gb' = some g → (gb' = gb ∨ W1.heap.size ≤ g) → Strs W (.slice (some ⟨g, p, none⟩) (n + 1) cap) l' w9 ∧ RowKit.Below W.heap.size W1 w9
theorem Strs.open {W wr : World} {v : Value} {l : List (List UInt8)} (h : Strs W v l wr) : ∃ gb, (∀ q, gb = some q → q < wr.heap.size) ∧ ∀ {W1 : World}, RowKit.Below wr.heap.size wr W1 → W.heap.size ≤ W1.heap.size → ∀ s : List UInt8, StrAt W W1 v l.length (strs l) gb ⟨s.toArray⟩ (l ++ [s]) := by
  obtain ⟨gb, h1, h2⟩ := h
  refine ⟨gb, h1.lt, fun hb hw s => ⟨h1.below hb, fun w9 g p cap gb' hs hgr hgb hn => ⟨⟨gb', ?_, fun q hq => ?_⟩, ⟨hgr.os, hgr.tape, hgr.output, hgr.size, fun q hq => hgr.block q (by omega) (fun e => by have := h2 q e.symm; omega)⟩⟩⟩⟩
  · rw [strs_snoc, List.length_append]
    exact hs
  · rcases hn with hn | hn
    · exact h2 q (hn.symm.trans hq)
    · rw [hgb] at hq
      injection hq with hq
      omega
theorem Strs.step {W wr W1 : World} {v : Value} {l : List (List UInt8)} (h : Strs W v l wr) (hb : RowKit.Below wr.heap.size wr W1) (hw : W.heap.size ≤ W1.heap.size) (s : List UInt8) : StrStep W W1 v l s := by
  obtain ⟨gb, h1, h2⟩ := h
  refine ⟨gb, h1.below hb, fun w9 g p cap gb' hs hgr hgb hn => ⟨⟨gb', ?_, fun q hq => ?_⟩, ⟨hgr.os, hgr.tape, hgr.output, hgr.size, fun q hq => hgr.block q (by omega) (fun e => by have := h2 q e.symm; omega)⟩⟩⟩
  · rw [strs_snoc, List.length_append]
    exact hs
  · rcases hn with hn | hn
    · exact h2 q (hn.symm.trans hq)
    · rw [hgb] at hq
      injection hq with hq
      omega

set_option maxHeartbeats 4000000 in
set_option maxRecDepth 100000 in
theorem dtenc (P : Nat → Prop) (v : Value) (T : Ld.Tb) (w : World) (lb : Lb w) (h : TabAt P v T w) (hG : Ld.goodB T = true) :
    Calls Tryz.prog 6 #[v] w fun e w' => e = .returned (.tuple #[.string ⟨(Ld.encT T).toArray⟩, .int .i64 0]) ∧ RowKit.Below w.heap.size w w' := by
  obtain ⟨hl, hL⟩ := good_short hG
  have HG := Lib.hid (dgoodT _ v T w h hl hL)
  rw [hG] at HG
  obtain ⟨S, hS⟩ : ∃ S : ByteArray, (⟨(Ld.encT T).toArray⟩ : ByteArray) = S := ⟨_, rfl⟩
  rw [hS]
  have HS := Lib.hid hS
  clear hS
  have hrow := (Ld.good_iff.1 hG).2.1
  have h64 := (Ld.good_iff.1 hG).1
  have htl := Ld.encT_len hG
  obtain ⟨a, cap, rfl, hc⟩ := h
  obtain ⟨m, hm⟩ : ∃ m, T.length = m := ⟨_, rfl⟩
  rw [hm] at HG hl h64 ⊢
  have HM := Lib.hid hm
  have HC := Lib.hid hc
  have HR := Lib.hid hrow
  have HLB := Lib.hid lb
  have HTL := Lib.hid htl
  obtain ⟨i0, hi0, hz0, hz1, hz2⟩ := infoStr
  clear hL hG hrow hc hm lb htl
  go_enter Tryz.func6, Tryz.ntmps6
  go_wp2_with fail
  refine HG.out.mono ?_
  rintro e w1 ⟨rfl, hb1⟩
  have HB1 := Lib.hid hb1
  clear hb1 HG
  go_wp2_with fail
  go_loopw [4, 15] (fun pv iv wr => ∃ k : Nat, k ≤ m ∧ iv = .int .i64 k ∧ Strs w1 pv ((T.take k).map Ld.encP) wr ∧ RowKit.Below w1.heap.size w1 wr ∧ (k = 0 → pv = .slice none 0 0)) (fun _ iv _ => m - (intOf iv).toNat)
  case atStart => exact ⟨0, Nat.zero_le _, rfl, ⟨none, ⟨rfl, .inl ⟨rfl, rfl, rfl⟩⟩, fun q h => by cases h⟩, Below.refl _ _, fun _ => rfl⟩
  case round =>
    obtain ⟨k, hk, rfl, hst, hbr, hk0⟩ := hrel
    have HST := Lib.hid hst
    have HBR := Lib.hid hbr
    have HK0 := Lib.hid hk0
    have HLW := Lib.hid (HB1.out.trans (hbr.mono HB1.out.size))
    clear hst hbr hk0
    by_cases hlt : k < m
    · obtain ⟨x, hx⟩ : ∃ x, T[k]? = some x := ⟨_, List.getElem?_eq_getElem (by rw [HM.out]; exact hlt)⟩
      obtain ⟨b, off, sv, rfl, -, c0, c1, sa, sc, rfl, hsl⟩ := HC.out k x hx
      have hrx := HR.out x (List.mem_of_getElem? hx)
      obtain ⟨p, L⟩ := x
      simp only at c0 c1 hsl
      obtain ⟨q1, q2, q3, q4⟩ := Ld.rowOk_iff.1 hrx
      simp only at q1 q2 q3 q4
      have hpl := Ld.encP_len hrx
      have hokS := slots_mem q4
      obtain ⟨n, hn⟩ : ∃ n, L.length = n := ⟨_, rfl⟩
      rw [hn] at c1 q2 q3
      have c0 := bcell6 HLW.out c0
      have c1 := bcell6 HLW.out c1
      have HN := Lib.hid hn
      have HSL := Lib.hid (fun j s (hj : L[j]? = some s) (w' : World) (hb : RowKit.Below w.heap.size w w') => by
        obtain ⟨b', off', h1, -, h2, h3, h4⟩ := hsl j s hj
        exact (⟨b', off', h1, bcell6 hb h2, bcell6 hb h3, bcell6 hb h4⟩ : ∃ b off, sa = some ⟨b, off, none⟩ ∧ w'.cell? ⟨b, off + j * 3, none⟩ = some (.int .i64 s.seq) ∧ w'.cell? ⟨b, off + j * 3 + 1, none⟩ = some (.int .i64 s.base) ∧ w'.cell? ⟨b, off + j * 3 + 2, none⟩ = some (.int .i64 s.fin)))
      have HOS := Lib.hid hokS
      have HPL := Lib.hid hpl
      have HST2 : Hid ((T.take (k + 1)).map Ld.encP = (T.take k).map Ld.encP ++ [Ld.encP (p, L)]) := by show _ = _; rw [List.take_add_one, hx]; simp
      have HLN : Hid (((T.take k).map Ld.encP).length = k) := by show _ = _; rw [List.length_map, List.length_take, HM.out]; omega
      have HP64 := Lib.hid (num64 (Ld.numB_iff.1 q1))
      clear hrx hx hsl q1 q4 hpl hokS hn
      obtain ⟨W1, hW1⟩ : ∃ W, World.alloc wr (.cells #[.int .i64 p, .slice sa n sc] 46) = W := ⟨_, rfl⟩
      have hal1 : RowKit.Below wr.heap.size wr W1 := by rw [← hW1]; exact (Below.refl _ _).alloc (Nat.le_refl _) _
      have hx1 : Blk W1 wr.heap.size #[.int .i64 p, .slice sa n sc] 46 := by rw [← hW1]; exact Blk.new _ _ _
      have d0 := hx1.cell (i := 0) rfl
      obtain ⟨I, hI⟩ : ∃ I : ByteArray, (⟨(Pl.wInt p).toArray⟩ : ByteArray) = I := ⟨_, rfl⟩
      have CI := bead_int p HP64.out W1 (HLB.out.below HLB.out.size (HLW.out.trans (hal1.mono HLW.out.size)))
      rw [hI] at CI
      have HCI := Lib.hid CI
      have HI := Lib.hid hI
      have HX1 := Lib.hid hx1
      have HA1 := Lib.hid hal1
      have hk0 : (0 : Int) ≤ (k : Int) := by omega
      have hk1 : (k : Int) < (m : Int) := by omega
      clear CI hI hx1 hal1
      go_wp2_with fail
      refine HCI.out.mono ?_
      rintro e w2 ⟨rfl, hb2⟩
      have hb12 := HA1.out.trans (hb2.mono HA1.out.size)
      have hal3 : RowKit.Below w2.heap.size w2 (w2.alloc (.cells #[.string I] 9)) := (Below.refl _ _).alloc (Nat.le_refl _) _
      have hx3 := (HX1.out.below hb2).below hal3
      have d1 := hx3.cell (i := 1) rfl
      have hst0 : Strs w2 (.slice (some ⟨w2.heap.size, 0, none⟩) 1 1) (Pl.wInt p :: (L.take 0).map Ld.encS) (w2.alloc (.cells #[.string I] 9)) := ⟨some w2.heap.size, by rw [← HI.out]; exact Sl.new w2 9 1 1 #[.string ⟨(Pl.wInt p).toArray⟩] rfl, fun q hq => by cases hq; exact Nat.le_refl _⟩
      have HST0 := Lib.hid hst0
      have HB12 := Lib.hid hb12
      have HAL3 := Lib.hid hal3
      have HSZ2 : Hid (w1.heap.size ≤ w2.heap.size) := Nat.le_trans HBR.out.size hb12.size
      clear c0 c1 d0 hb2 hb12 hal3 hx3 hst0 hW1 HCI HX1 HA1
      go_wp2_with fail
      clear d1
      go_loopw [7, 26] (fun qv jv wx => ∃ j : Nat, j ≤ n ∧ jv = .int .i64 j ∧ Strs w2 qv (Pl.wInt p :: (L.take j).map Ld.encS) wx ∧ RowKit.Below w2.heap.size w2 wx) (fun _ jv _ => n - (intOf jv).toNat)
      case atStart => exact ⟨0, Nat.zero_le _, rfl, HST0.out, HAL3.out⟩
      case round =>
        obtain ⟨j, hj, rfl, hsx, hbx⟩ := hrel
        have HSX := Lib.hid hsx
        have HBX := Lib.hid hbx
        have HBW : Hid (RowKit.Below w.heap.size w wr) := HLW.out.trans ((HB12.out.trans (hbx.mono HB12.out.size)).mono HLW.out.size)
        clear hsx hbx HST0 HAL3
        by_cases hjn : j < n
        · obtain ⟨s, hs⟩ : ∃ s, L[j]? = some s := ⟨_, List.getElem?_eq_getElem (by rw [HN.out]; exact hjn)⟩
          obtain ⟨b2, off2, rfl, e0, e1, e2⟩ := HSL.out j s hs wr HBW.out
          have hok := HOS.out s (List.mem_of_getElem? hs)
          obtain ⟨o1, o2, o3, -⟩ := okS_iff hok
          have HST3 : Hid ((L.take (j + 1)).map Ld.encS = (L.take j).map Ld.encS ++ [Ld.encS s]) := by show _ = _; rw [List.take_add_one, hs]; simp
          have HLN3 : Hid ((Pl.wInt p :: (L.take j).map Ld.encS).length = j + 1) := by show _ = _; rw [List.length_cons, List.length_map, List.length_take, HN.out, Nat.min_eq_left (Nat.le_of_lt hjn)]
          obtain ⟨W4, hW4⟩ : ∃ W, World.alloc wr (.cells #[.int .i64 s.seq, .int .i64 s.base, .int .i64 s.fin] 40) = W := ⟨_, rfl⟩
          have hal4 : RowKit.Below wr.heap.size wr W4 := by rw [← hW4]; exact (Below.refl _ _).alloc (Nat.le_refl _) _
          have hx4 : Blk W4 wr.heap.size #[.int .i64 s.seq, .int .i64 s.base, .int .i64 s.fin] 40 := by rw [← hW4]; exact Blk.new _ _ _
          obtain ⟨A, hA⟩ : ∃ I : ByteArray, (⟨(Pl.wInt s.seq).toArray⟩ : ByteArray) = I := ⟨_, rfl⟩
          obtain ⟨B, hB⟩ : ∃ I : ByteArray, (⟨(Pl.wInt s.base).toArray⟩ : ByteArray) = I := ⟨_, rfl⟩
          obtain ⟨D, hD⟩ : ∃ I : ByteArray, (⟨(Pl.wInt s.fin).toArray⟩ : ByteArray) = I := ⟨_, rfl⟩
          obtain ⟨SS, hSS⟩ : ∃ I : ByteArray, (⟨(Ld.encS s).toArray⟩ : ByteArray) = I := ⟨_, rfl⟩
          have CA := fun (wx : World) (hx : RowKit.Below wr.heap.size wr wx) => bead_int s.seq (num64 o1) wx (HLB.out.below HLB.out.size (HBW.out.trans (hx.mono HBW.out.size)))
          rw [hA] at CA
          have CB := fun (wx : World) (hx : RowKit.Below wr.heap.size wr wx) => bead_int s.base (num64 o2) wx (HLB.out.below HLB.out.size (HBW.out.trans (hx.mono HBW.out.size)))
          rw [hB] at CB
          have CD := fun (wx : World) (hx : RowKit.Below wr.heap.size wr wx) => bead_int s.fin (num64 o3) wx (HLB.out.below HLB.out.size (HBW.out.trans (hx.mono HBW.out.size)))
          rw [hD] at CD
          have HDL := Lib.hid (fun wx => dslot_list s hok A B D hA.symm hB.symm hD.symm wx)
          rw [hSS] at HDL
          have HC1 := Lib.hid CA
          have HC2 := Lib.hid CB
          have HC3 := Lib.hid CD
          have k0 := hx4.cell (i := 0) rfl
          have k1 := hx4.cell (i := 1) rfl
          have k2 := hx4.cell (i := 2) rfl
          have HA4 := Lib.hid hal4
          have HX4 := Lib.hid hx4
          have HSS := Lib.hid hSS
          have hj0 : (0 : Int) ≤ (j : Int) := by omega
          have hj1 : (j : Int) < (n : Int) := by omega
          obtain ⟨z0, hz0'⟩ : ∃ z, s.seq = z := ⟨_, rfl⟩
          obtain ⟨z1, hz1'⟩ : ∃ z, s.base = z := ⟨_, rfl⟩
          obtain ⟨z2, hz2'⟩ : ∃ z, s.fin = z := ⟨_, rfl⟩
          rw [hz0'] at e0 k0 HC1
          rw [hz1'] at e1 k1 HC2
          rw [hz2'] at e2 k2 HC3
          rw [hz0', hz1', hz2'] at hW4
          clear hs hok o1 o2 o3 hA hB hD CA CB CD hx4 hal4 hSS hz0' hz1' hz2'
          obtain ⟨XS, hXS⟩ : ∃ XS, strs (Pl.wInt p :: (L.take j).map Ld.encS) = XS := ⟨_, rfl⟩
          obtain ⟨gb, hgl, hst⟩ := HSX.out.open
          have HSTEP : Hid (∀ w6, RowKit.Below wr.heap.size wr w6 → StrAt w2 (w6.alloc (.cells #[.string SS] 9)) u7 (j + 1) XS gb SS (Pl.wInt p :: (L.take (j + 1)).map Ld.encS) ∧ RowKit.Below wr.heap.size wr (w6.alloc (.cells #[.string SS] 9))) := fun w6 hb6 => by
            have hal7 : RowKit.Below w6.heap.size w6 (w6.alloc (.cells #[.string SS] 9)) := (Below.refl _ _).alloc (Nat.le_refl _) _
            have hb7 := hb6.trans (hal7.mono hb6.size)
            have := hst hb7 (Nat.le_trans HBX.out.size hb7.size) (Ld.encS s)
            rw [HLN3.out, hXS, HSS.out, List.cons_append, ← HST3.out] at this
            exact ⟨this, hb7⟩
          have hne : some wr.heap.size ≠ gb := fun e => by have := hgl _ e.symm; omega
          have hyl : wr.heap.size < W4.heap.size := HX4.out.lt
          have HNE := Lib.hid hne
          have HYL := Lib.hid hyl
          clear hXS hgl hst hne hyl
          have HN7 : Hid (∀ w6 i u, [Value.string SS][i]? = some u → (World.alloc w6 (.cells #[.string SS] 9)).cell? (Addr.add ⟨w6.heap.size, 0, none⟩ i) = some u) := fun w6 => World.news_of_block (cs := #[.string SS]) (t := 9) (fr := (0, 0)) (heap_alloc_new w6 _)
          have HBY : Hid ((j + 1 + 1) * 16 ≤ 140737488355328) := by show _ ≤ _; omega
          have H63 : Hid (j + 1 + 1 ≤ 9223372036854775807) := by show _ ≤ _; omega
          have hbc := HA4.out
          have hbd : RowKit.Below W4.heap.size W4 W4 := Below.refl _ _
          have HY := Lib.hid (And.intro k0 (And.intro k1 k2))
          go_wp2_with fail
          go_region_held3 (fun w' => w'.cell? ⟨wr.heap.size, 0, none⟩ = some (.int .i64 z0) ∧ w'.cell? ⟨wr.heap.size, 1, none⟩ = some (.int .i64 z1) ∧ w'.cell? ⟨wr.heap.size, 2, none⟩ = some (.int .i64 z2))
            (first
              | go_keep
              | (exact ⟨bcell6 hbd HY.out.1, bcell6 hbd HY.out.2.1, bcell6 hbd HY.out.2.2⟩)
              | (exact ⟨bcell6 (below_to hbd rfl rfl rfl rfl) HY.out.1, bcell6 (below_to hbd rfl rfl rfl rfl) HY.out.2.1, bcell6 (below_to hbd rfl rfl rfl rfl) HY.out.2.2⟩)
              | (exact ⟨(hgrow9.cell_far _ hlt9 HNE.out).trans (bcell6 hbe HY.out.1), (hgrow9.cell_far _ hlt9 HNE.out).trans (bcell6 hbe HY.out.2.1), (hgrow9.cell_far _ hlt9 HNE.out).trans (bcell6 hbe HY.out.2.2)⟩)
              | fail)
            (first
              | (go_at_call 17; (first | (refine (HC1.out _ (by exact below_to hbc rfl rfl rfl rfl)).mono ?_) | (refine (HC2.out _ (by exact below_to hbc rfl rfl rfl rfl)).mono ?_) | (refine (HC3.out _ (by exact below_to hbc rfl rfl rfl rfl)).mono ?_)); rintro e wq ⟨rfl, hb⟩; have hbc := below_chain hbc hb rfl rfl rfl rfl; have hbd := below_chain hbd hb rfl rfl rfl rfl)
              | (go_at_call 18; refine (HDL.out _).mono ?_; rintro e w6 ⟨rfl, hb⟩; have hbc := below_chain hbc hb rfl rfl rfl rfl; have hbd := below_chain hbd hb rfl rfl rfl rfl; have hbe := hbd.trans (((Below.refl w6.heap.size w6).alloc (Nat.le_refl _) (.cells #[.string SS] 9)).mono hbd.size); have hlt9 := Nat.lt_of_lt_of_le HYL.out hbe.size; have HST7 := Lib.hid (HSTEP.out w6 hbc))
              | (refine step_append_sl _ (by rfl) _ _ _ (by rfl) 9 i0 (.string ByteArray.empty) 1 16 Tryz.underlying47 hi0 hz0 hz1 hz2 rfl u7 gb (j + 1) XS (by rfl) HST7.out.1.sl ⟨w6.heap.size, 0, none⟩ 1 1 [.string SS] (by rfl) (by rfl) (HN7.out w6) (by simp [Value.oneCell']) (by decide) HBY.out H63.out ?_; intro g9 p9 cap9 w9 gb' hown9 hgrow9 hgb9 hnew9)
              | fail)
          obtain ⟨f1, f2⟩ := HST7.out.1.fin w9 g9 p9 cap9 gb' hown9 hgrow9 hgb9 (hnew9.imp id (fun h => by simpa using h))
          have HO9 := Lib.hid f1
          have HB9 : Hid (RowKit.Below w2.heap.size w2 w9) := (HBX.out.trans (HST7.out.2.mono HBX.out.size)).trans f2
          clear hown9 hgrow9 hgb9 hnew9 f1 f2 HST7 HN7 hbc hbd hbe hlt9 hb k0 k1 k2 e0 e1 e2 hW4 HC1 HC2 HC3 HDL HSTEP
          go_wp2_with fail
          go_roundw
          case rel => exact ⟨j + 1, by omega, by go_num, HO9.out, HB9.out⟩
          case measure => simp [intOf]; omega
        · obtain rfl : j = n := by omega
          obtain ⟨gb, hs, -⟩ := HSX.out
          have htk : (L.take j).map Ld.encS = L.map Ld.encS := by rw [List.take_of_length_le (by rw [HN.out]; exact Nat.le_refl _)]
          rw [htk] at hs
          have hml : (Pl.wInt p :: L.map Ld.encS).length = j + 1 := by rw [List.length_cons, List.length_map, HN.out]
          rw [hml] at hs
          have hlen := HPL.out
          rw [Ld.encP_parts] at hlen
          have C := list_sl hs hml (by omega) (by omega) (by simp only [List.length_cons, List.length_append, List.length_nil] at hlen ⊢; omega)
          rw [← Ld.encP_parts (p, L)] at C
          obtain ⟨SP, hSP⟩ : ∃ I : ByteArray, (⟨(Ld.encP (p, L)).toArray⟩ : ByteArray) = I := ⟨_, rfl⟩
          rw [hSP] at C
          have HCL := Lib.hid C
          have HSP := Lib.hid hSP
          clear hs htk hml hlen C hSP
          go_wp2_with fail
          refine HCL.out.mono ?_
          rintro e w6 ⟨rfl, hb6⟩
          have hb26 := HBX.out.trans (hb6.mono HBX.out.size)
          have hbo := HB12.out.trans (hb26.mono HB12.out.size)
          have hal7 : RowKit.Below w6.heap.size w6 (w6.alloc (.cells #[.string SP] 9)) := (Below.refl _ _).alloc (Nat.le_refl _) _
          have hb7 := hbo.trans (hal7.mono hbo.size)
          obtain ⟨gb, hs7, hf7⟩ := HST.out.step hb7 (Nat.le_trans HBR.out.size hb7.size) (Ld.encP (p, L))
          rw [HLN.out] at hs7 hf7
          rw [HSP.out] at hf7
          have HN7 : Hid (∀ i u, [Value.string SP][i]? = some u → (w6.alloc (.cells #[.string SP] 9)).cell? (Addr.add ⟨w6.heap.size, 0, none⟩ i) = some u) := World.news_of_block (cs := #[.string SP]) (t := 9) (fr := (0, 0)) (heap_alloc_new w6 _)
          have HS7 := Lib.hid hs7
          have HF7 := Lib.hid hf7
          have HB7 := Lib.hid (HBR.out.trans (hb7.mono HBR.out.size))
          have HBY : Hid ((k + 1) * 16 ≤ 140737488355328) := by show _ ≤ _; omega
          have H63 : Hid (k + 1 ≤ 9223372036854775807) := by show _ ≤ _; omega
          obtain ⟨XS, hXS⟩ : ∃ XS, strs ((T.take k).map Ld.encP) = XS := ⟨_, rfl⟩
          rw [hXS] at HS7 HF7
          clear hb6 hb26 hbo hal7 hb7 hs7 hf7 hXS
          go_wp2_with (at_builtin; go_must (refine wpList_append_sl _ (by rfl) _ _ _ (by rfl) 9 i0 (.string ByteArray.empty) 1 16 Tryz.underlying47 hi0 hz0 hz1 hz2 rfl u4 gb k XS (by rfl) HS7.out ⟨w6.heap.size, 0, none⟩ 1 1 [.string SP] (by rfl) (by rfl) HN7.out (by simp [Value.oneCell']) (by decide) HBY.out H63.out ?_))
          intro g9 p9 cap9 w9 gb' hown9 hgrow9 hgb9 hnew9
          obtain ⟨f1, f2⟩ := HF7.out w9 g9 p9 cap9 gb' hown9 hgrow9 hgb9 (hnew9.imp id (fun h => by simpa using h))
          have HO9 : Hid (Strs w1 (.slice (some ⟨g9, p9, none⟩) (k + 1) cap9) ((T.take (k + 1)).map Ld.encP) w9) := by rw [HST2.out]; exact f1
          have HB9 : Hid (RowKit.Below w1.heap.size w1 w9) := HB7.out.trans f2
          clear hown9 hgrow9 hgb9 hnew9 f1 f2 HS7 HF7 HN7
          go_wp2_with fail
          go_roundw
          case rel => exact ⟨k + 1, by omega, by go_num, HO9.out, HB9.out, fun h => absurd h (by omega)⟩
          case measure => simp [intOf]; omega
    · obtain rfl : k = m := by omega
      have HFIN : Hid (∀ wr2 : World, RowKit.Below w.heap.size w wr2 → True) := fun _ _ => trivial
      rcases Nat.eq_zero_or_pos k with h0 | hpos
      · subst h0
        have hT : T = [] := List.eq_nil_of_length_eq_zero HM.out
        obtain rfl := HK0.out rfl
        have HL := Lib.hid (fun w' => bead_list_nil w')
        go_wp2_with fail
        refine (HL.out _).mono ?_
        rintro e w5 ⟨rfl, hb5⟩
        have HB5 := Lib.hid (HLW.out.trans (hb5.mono HLW.out.size))
        clear hb5
        go_wp2_with fail
        go_ret2
        have e : (⟨#[108, 101]⟩ : ByteArray) = S := by rw [← HS.out, hT]; rfl
        exact ⟨by rw [← e]; rfl, HB5.out⟩
      · obtain ⟨gb, hs, -⟩ := HST.out
        have htk : (T.take k).map Ld.encP = T.map Ld.encP := by rw [List.take_of_length_le (by rw [HM.out]; exact Nat.le_refl _)]
        have hlen := HTL.out
        rw [htk] at hs
        have hml : (T.map Ld.encP).length = k := by rw [List.length_map]; exact HM.out
        rw [hml] at hs
        rw [Ld.encT_parts] at hlen
        have C := list_sl hs hml hpos (by omega) (by simp only [List.length_cons, List.length_append, List.length_nil] at hlen; omega)
        rw [← Ld.encT_parts, HS.out] at C
        have HCL := Lib.hid C
        clear hs htk hlen hml C
        go_wp2_with fail
        refine HCL.out.mono ?_
        rintro e w5 ⟨rfl, hb5⟩
        have HB5 := Lib.hid (HLW.out.trans (hb5.mono HLW.out.size))
        clear hb5
        go_wp2_with fail
        go_ret2
        exact ⟨rfl, HB5.out⟩
end Go.Proofs.YtloallndnmofnaaGreatDoor
