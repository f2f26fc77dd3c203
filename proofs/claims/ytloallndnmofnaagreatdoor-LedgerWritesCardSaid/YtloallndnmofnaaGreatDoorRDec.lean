/- THE CONTRACTS OF the document's Encode and Decode. -/
import Derived.Test.YtloallndnmofnaaGreatDoorGd
import Derived.Test.YtloallndnmofnaaGreatDoorRefDig
import Derived.Test.YtloallndnmofnaaGreatDoorTEnc
import Derived.Test.YtloallndnmofnaaGreatDoorCBlk
import Derived.Lib.SmallJoins
import Derived.Lib.QuietBelow
import Derived.BigQuiet
import Derived.Test.YtloallndnmofnaaGreatDoorRefInt
import Derived.Test.YtloallndnmofnaaGreatDoorTDec
import Derived.Deep.DeepCutAuto
namespace Go.Proofs.YtloallndnmofnaaGreatDoor
open Go.RowKit

def preT (T : Ld.Tb) (k : Nat) : List UInt8 := 108 :: (T.take k).flatMap Ld.encP
def preP (p : Int) (L : List Ld.Sl) (j : Nat) : List UInt8 := 108 :: (Pl.wInt p ++ (L.take j).flatMap Ld.encS)
theorem preT_more {T : Ld.Tb} {k : Nat} {x : Int × List Ld.Sl} (h : T[k]? = some x) : preT T (k + 1) = preT T k ++ Ld.encP x := by
  unfold preT
  rw [List.take_add_one, h, List.flatMap_append]
  simp
theorem preP_more (p : Int) {L : List Ld.Sl} {j : Nat} {s : Ld.Sl} (h : L[j]? = some s) : preP p L (j + 1) = preP p L j ++ Ld.encS s := by
  unfold preP
  rw [List.take_add_one, h, List.flatMap_append]
  simp
theorem encP_pre (p : Int) (L : List Ld.Sl) {n : Nat} (h : L.length = n) : Ld.encP (p, L) = preP p L n ++ [101] := by
  unfold preP Ld.encP
  rw [List.take_of_length_le (by omega)]
  simp
theorem encT_pre {T : Ld.Tb} {m : Nat} (h : T.length = m) : Ld.encT T = preT T m ++ [101] := by
  unfold preT Ld.encT
  rw [List.take_of_length_le (by omega)]
  simp
theorem preT_len {T : Ld.Tb} (h : Ld.goodB T = true) (k : Nat) : (preT T k).length ≤ 16130 := by
  obtain ⟨h64, hr, -⟩ := Ld.good_iff.1 h
  have e2 := Ld.flat_le (f := Ld.encP) (k := 252) (L := T.take k) (fun s hx => Ld.encP_len (hr s (List.mem_of_mem_take hx)))
  have e4 : (T.take k).length ≤ 64 := Nat.le_trans (by rw [List.length_take]; exact Nat.min_le_right _ _) h64
  have e3 : (T.take k).length * 252 ≤ 64 * 252 := Nat.mul_le_mul_right _ e4
  unfold preT
  simp only [List.length_cons]
  omega
theorem preP_len {p : Int} {L : List Ld.Sl} (h : Ld.rowOk (p, L) = true) (j : Nat) : (preP p L j).length ≤ 252 := by
  obtain ⟨h1, -, h5, hs⟩ := Ld.rowOk_iff.1 h
  simp only at h1 h5 hs
  have a := Ld.numB_iff.1 h1
  have e1 := (Pl.wInt_short a.1 12 (by have : (10 : Int) ^ (12 + 1) = 10000000000000 := by decide
                                       omega)).1
  have e2 := Ld.flat_le (f := Ld.encS) (k := 47) (L := L.take j) (fun s hx => Ld.encS_len (slots_mem hs s (List.mem_of_mem_take hx)))
  have e4 : (L.take j).length ≤ 5 := Nat.le_trans (by rw [List.length_take]; exact Nat.min_le_right _ _) h5
  have e3 : (L.take j).length * 47 ≤ 5 * 47 := Nat.mul_le_mul_right _ e4
  unfold preP
  simp only [List.length_cons, List.length_append]
  omega
theorem rrow_step (p : Int) (L : List Ld.Sl) {T : Ld.Tb} {k n : Nat} (hx : T[k]? = some (p, L)) (hn : L.length = n) (S : ByteArray) (hS : (⟨(preT T k ++ preP p L n).toArray⟩ : ByteArray) = S) : S ++ ⟨#[101]⟩ = ⟨(preT T (k + 1)).toArray⟩ := by
  rw [← hS, preT_more hx, encP_pre p L hn]
  exact (app_mk _ [101]).trans (by rw [List.append_assoc])
theorem rrow_start (p : Int) (L : List Ld.Sl) (T : Ld.Tb) (k : Nat) (S I : ByteArray) (hS : (⟨(preT T k).toArray⟩ : ByteArray) = S) (hI : (⟨(Pl.wInt p).toArray⟩ : ByteArray) = I) : S ++ ⟨#[108]⟩ ++ I = ⟨(preT T k ++ preP p L 0).toArray⟩ := by
  have e : preT T k ++ preP p L 0 = preT T k ++ [108] ++ Pl.wInt p := by simp [preP]
  rw [e, ← hS, ← hI]
  apply ofList_eq
  simp only [Joins.data_append]
theorem rslot_step (p : Int) {L : List Ld.Sl} (T : Ld.Tb) (k : Nat) {j : Nat} {s : Ld.Sl} (hs : L[j]? = some s) (S A B D : ByteArray) (hS : (⟨(preT T k ++ preP p L j).toArray⟩ : ByteArray) = S) (hA : (⟨(Pl.wInt s.seq).toArray⟩ : ByteArray) = A) (hB : (⟨(Pl.wInt s.base).toArray⟩ : ByteArray) = B) (hD : (⟨(Pl.wInt s.fin).toArray⟩ : ByteArray) = D) : S ++ ⟨#[108]⟩ ++ A ++ B ++ D ++ ⟨#[101]⟩ = ⟨(preT T k ++ preP p L (j + 1)).toArray⟩ := by
  have e : preT T k ++ preP p L (j + 1) = preT T k ++ preP p L j ++ [108] ++ Pl.wInt s.seq ++ Pl.wInt s.base ++ Pl.wInt s.fin ++ [101] := by
    rw [preP_more p hs]
    simp [Ld.encS]
  rw [e, ← hS, ← hA, ← hB, ← hD]
  apply ofList_eq
  simp only [Joins.data_append]

set_option maxHeartbeats 1000000 in
theorem rtenc_no (P : Nat → Prop) (v : Value) (T : Ld.Tb) (w : World) (h : TabAt P v T w) (hG : Ld.goodB T = false) :
    Calls Tryz.prog 7 #[v] w fun e w' => e = .returned (.tuple #[.string ⟨#[]⟩, .int .i64 1]) ∧ RowKit.Below w.heap.size w w' := by
  have HG := Lib.hid (good_any _ v T w h)
  rw [hG] at HG
  clear h hG
  go_enter Tryz.func7, Tryz.ntmps7
  go_wp2_with fail
  refine HG.out.mono ?_
  rintro e w1 ⟨rfl, hb⟩
  have HB := Lib.hid hb
  clear hb
  go_wp2_with fail
  go_ret2
  exact ⟨rfl, HB.out⟩

set_option maxHeartbeats 4000000 in
set_option maxRecDepth 100000 in
theorem rtenc (P : Nat → Prop) (v : Value) (T : Ld.Tb) (w : World) (h : TabAt P v T w) (hG : Ld.goodB T = true) :
    Calls Tryz.prog 7 #[v] w fun e w' => e = .returned (.tuple #[.string ⟨(Ld.encT T).toArray⟩, .int .i64 0]) ∧ RowKit.Below w.heap.size w w' := by
  have HG := Lib.hid (good_any _ v T w h)
  rw [hG] at HG
  obtain ⟨SF, hSF⟩ : ∃ S : ByteArray, (⟨(Ld.encT T).toArray⟩ : ByteArray) = S := ⟨_, rfl⟩
  rw [hSF]
  have HSF := Lib.hid hSF
  clear hSF
  have hrow := (Ld.good_iff.1 hG).2.1
  have h64 := (Ld.good_iff.1 hG).1
  have HTL := Lib.hid (fun k => preT_len hG k)
  obtain ⟨a, cap, rfl, hc⟩ := h
  obtain ⟨m, hm⟩ : ∃ m, T.length = m := ⟨_, rfl⟩
  rw [hm] at HG h64 ⊢
  have HM := Lib.hid hm
  have HC := Lib.hid hc
  have HR := Lib.hid hrow
  clear hG hrow hc hm
  go_enter Tryz.func7, Tryz.ntmps7
  go_wp2_with fail
  refine HG.out.mono ?_
  rintro e w1 ⟨rfl, hb1⟩
  have HB1 := Lib.hid hb1
  clear hb1 HG
  go_wp2_with fail
  go_loopw [4, 5] (fun sv iv wr => ∃ k : Nat, k ≤ m ∧ iv = .int .i64 k ∧ sv = .string ⟨(preT T k).toArray⟩ ∧ RowKit.Below w1.heap.size w1 wr) (fun _ iv _ => m - (intOf iv).toNat)
  case atStart => exact ⟨0, Nat.zero_le _, rfl, rfl, Below.refl _ _⟩
  case round =>
    obtain ⟨k, hk, rfl, rfl, hbr⟩ := hrel
    have HLW := Lib.hid (HB1.out.trans (hbr.mono HB1.out.size))
    have HBR := Lib.hid hbr
    clear hbr
    obtain ⟨S0, hS0⟩ : ∃ S : ByteArray, (⟨(preT T k).toArray⟩ : ByteArray) = S := ⟨_, rfl⟩
    rw [hS0]
    have hs0 : S0.size ≤ 16130 := by rw [← hS0, size_list]; exact HTL.out k
    have HS0 := Lib.hid hS0
    clear hS0
    by_cases hlt : k < m
    · obtain ⟨x, hx⟩ : ∃ x, T[k]? = some x := ⟨_, List.getElem?_eq_getElem (by rw [HM.out]; exact hlt)⟩
      obtain ⟨b, off, sv, rfl, -, c0, c1, sa, sc, rfl, hsl⟩ := HC.out k x hx
      have hrx := HR.out x (List.mem_of_getElem? hx)
      obtain ⟨p, L⟩ := x
      simp only at c0 c1 hsl
      obtain ⟨q1, q2, q3, q4⟩ := Ld.rowOk_iff.1 hrx
      simp only at q1 q2 q3 q4
      have HPL := Lib.hid (fun j => preP_len hrx j)
      have hokS := slots_mem q4
      obtain ⟨n, hn⟩ : ∃ n, L.length = n := ⟨_, rfl⟩
      rw [hn] at c1 q2 q3
      have HC1 := Lib.hid c1
      have c0 := bcell6 HLW.out c0
      have c1 := bcell6 HLW.out c1
      have HN := Lib.hid hn
      have HSL := Lib.hid (fun j s (hj : L[j]? = some s) (w' : World) (hb : RowKit.Below w.heap.size w w') => by
        obtain ⟨b', off', h1, -, h2, h3, h4⟩ := hsl j s hj
        exact (⟨b', off', h1, bcell6 hb h2, bcell6 hb h3, bcell6 hb h4⟩ : ∃ b off, sa = some ⟨b, off, none⟩ ∧ w'.cell? ⟨b, off + j * 3, none⟩ = some (.int .i64 s.seq) ∧ w'.cell? ⟨b, off + j * 3 + 1, none⟩ = some (.int .i64 s.base) ∧ w'.cell? ⟨b, off + j * 3 + 2, none⟩ = some (.int .i64 s.fin)))
      have HOS := Lib.hid hokS
      have HX := Lib.hid hx
      have hip := Ld.numB_iff.1 q1
      have hil := (Pl.wInt_short hip.1 12 (by have : (10 : Int) ^ (12 + 1) = 10000000000000 := by decide
                                              omega)).1
      obtain ⟨I, hI⟩ : ∃ I : ByteArray, (⟨(Pl.wInt p).toArray⟩ : ByteArray) = I := ⟨_, rfl⟩
      have hIs : I.size ≤ 15 := by rw [← hI, size_list]; exact hil
      have RI := fun wx => ref_int p (num64 hip) wx
      rw [hI] at RI
      have HRI := Lib.hid RI
      have HST := Lib.hid (rrow_start p L T k S0 I HS0.out hI)
      have hk0 : (0 : Int) ≤ (k : Int) := by omega
      have hk1 : (k : Int) < (m : Int) := by omega
      clear hrx hx hsl q1 q4 hokS hn hip hil RI hI
      go_wp2_with fail
      refine (HRI.out _).mono ?_
      rintro e w2 ⟨rfl, hb2⟩
      have HB2 := Lib.hid (HLW.out.trans (hb2.mono HLW.out.size))
      have HB12 := Lib.hid (HBR.out.trans (hb2.mono HBR.out.size))
      clear hb2 HRI c0 c1
      go_wp2_with fail
      go_loopw [4, 6] (fun sv jv wx => ∃ j : Nat, j ≤ n ∧ jv = .int .i64 j ∧ sv = .string ⟨(preT T k ++ preP p L j).toArray⟩ ∧ RowKit.Below w2.heap.size w2 wx) (fun _ jv _ => n - (intOf jv).toNat)
      case atStart => exact ⟨0, Nat.zero_le _, rfl, by rw [← HST.out], Below.refl _ _⟩
      case round =>
        obtain ⟨j, hj, rfl, rfl, hbx⟩ := hrel
        have HBX := Lib.hid hbx
        have HBW : Hid (RowKit.Below w.heap.size w wr) := HB2.out.trans (hbx.mono HB2.out.size)
        clear hbx HST
        obtain ⟨S, hS⟩ : ∃ S : ByteArray, (⟨(preT T k ++ preP p L j).toArray⟩ : ByteArray) = S := ⟨_, rfl⟩
        rw [hS]
        have hss : S.size ≤ 16382 := by
          have h1 := HTL.out k
          have h2 := HPL.out j
          rw [← hS, size_list, List.length_append]
          omega
        have HS := Lib.hid hS
        have c1 := bcell6 HBW.out HC1.out
        clear hS
        by_cases hjn : j < n
        · obtain ⟨s, hs⟩ : ∃ s, L[j]? = some s := ⟨_, List.getElem?_eq_getElem (by rw [HN.out]; exact hjn)⟩
          obtain ⟨b2, off2, rfl, e0, e1, e2⟩ := HSL.out j s hs wr HBW.out
          have hok := HOS.out s (List.mem_of_getElem? hs)
          obtain ⟨o1, o2, o3, -⟩ := okS_iff hok
          have h13 : (10 : Int) ^ (12 + 1) = 10000000000000 := by decide
          obtain ⟨A, hA⟩ : ∃ I : ByteArray, (⟨(Pl.wInt s.seq).toArray⟩ : ByteArray) = I := ⟨_, rfl⟩
          obtain ⟨B, hB⟩ : ∃ I : ByteArray, (⟨(Pl.wInt s.base).toArray⟩ : ByteArray) = I := ⟨_, rfl⟩
          obtain ⟨D, hD⟩ : ∃ I : ByteArray, (⟨(Pl.wInt s.fin).toArray⟩ : ByteArray) = I := ⟨_, rfl⟩
          have hAs : A.size ≤ 15 := by rw [← hA, size_list]; exact (Pl.wInt_short o1.1 12 (by omega)).1
          have hBs : B.size ≤ 15 := by rw [← hB, size_list]; exact (Pl.wInt_short o2.1 12 (by omega)).1
          have hDs : D.size ≤ 15 := by rw [← hD, size_list]; exact (Pl.wInt_short o3.1 12 (by omega)).1
          have HSE := Lib.hid (rslot_step p T k hs S A B D HS.out hA hB hD)
          obtain ⟨W5, hW5⟩ : ∃ W, World.alloc wr (.cells #[.int .i64 s.seq, .int .i64 s.base, .int .i64 s.fin] 40) = W := ⟨_, rfl⟩
          have hal5 : RowKit.Below wr.heap.size wr W5 := by rw [← hW5]; exact (Below.refl _ _).alloc (Nat.le_refl _) _
          have hx5 : Blk W5 wr.heap.size #[.int .i64 s.seq, .int .i64 s.base, .int .i64 s.fin] 40 := by rw [← hW5]; exact Blk.new _ _ _
          have k0 := cell_regrown (hx5.cell (i := 0) rfl)
          have k1 := cell_regrown (hx5.cell (i := 1) rfl)
          have k2 := cell_regrown (hx5.cell (i := 2) rfl)
          have RA := fun wx => ref_int s.seq (num64 o1) wx
          have RB := fun wx => ref_int s.base (num64 o2) wx
          have RD := fun wx => ref_int s.fin (num64 o3) wx
          rw [hA] at RA
          rw [hB] at RB
          rw [hD] at RD
          have C1 : ∀ d os, Calls Tryz.prog 20 #[.int .i64 s.seq] (Sort.grow (redrawn W5 d) os) fun e w'' => e = .returned (.string A) ∧ ∃ p : Regrown, w'' = Sort.grow (redrawn W5 p.d) p.os := fun d os => Calls.regrown_of (RA _)
          have C2 : ∀ d os, Calls Tryz.prog 20 #[.int .i64 s.base] (Sort.grow (redrawn W5 d) os) fun e w'' => e = .returned (.string B) ∧ ∃ p : Regrown, w'' = Sort.grow (redrawn W5 p.d) p.os := fun d os => Calls.regrown_of (RB _)
          have C3 : ∀ d os, Calls Tryz.prog 20 #[.int .i64 s.fin] (Sort.grow (redrawn W5 d) os) fun e w'' => e = .returned (.string D) ∧ ∃ p : Regrown, w'' = Sort.grow (redrawn W5 p.d) p.os := fun d os => Calls.regrown_of (RD _)
          have HC11 := Lib.hid C1
          have HC2 := Lib.hid C2
          have HC3 := Lib.hid C3
          have HB5 := Lib.hid (HBX.out.trans (hal5.mono HBX.out.size))
          have HWE := Lib.hid hW5
          have hj0 : (0 : Int) ≤ (j : Int) := by omega
          have hj1 : (j : Int) < (n : Int) := by omega
          clear C1 C2 C3 RA RB RD hA hB hD hs hok o1 o2 o3 hx5 hal5 hW5 h13
          go_wp2_with fail
          rw [HWE.out]
          refine wp_region_quiet_below (by kernel_rfl) (by kernel_rfl) ?_
          repeat (go_big_quiet_step (first | (go_at_call 20; with_reducible exact HC11.out _ _) | (go_at_call 20; with_reducible exact HC2.out _ _) | (go_at_call 20; with_reducible exact HC3.out _ _)))
          refine wpQuiet_nil ?_
          intro _ hw'
          obtain ⟨⟨dq, osq⟩, hw''⟩ := hw'
          subst hw''
          have HB6 := Lib.hid (HB5.out.trans ((below_regrown W5 dq osq).mono HB5.out.size))
          go_wp2_with fail
          go_roundw
          case rel => exact ⟨j + 1, by omega, by go_num, by rw [← HSE.out], HB6.out⟩
          case measure => simp [intOf]; omega
        · obtain rfl : j = n := by omega
          have HRS := Lib.hid (rrow_step p L HX.out HN.out S HS.out)
          have HB7 := Lib.hid (HB12.out.trans (HBX.out.mono HB12.out.size))
          go_wp2_with fail
          go_roundw
          case rel => exact ⟨k + 1, by omega, by go_num, by rw [← HRS.out], HB7.out⟩
          case measure => simp [intOf]; omega
    · obtain rfl : k = m := by omega
      have HE : Hid (S0 ++ ⟨#[101]⟩ = SF) := by
        show _ = _
        rw [← HS0.out, ← HSF.out, encT_pre HM.out]
        exact app_mk _ [101]
      go_wp2_with fail
      go_ret2
      exact ⟨congrArg (fun x => Ending.returned (.tuple #[.string x, .int .i64 0])) HE.out, HLW.out⟩

theorem Rs.block {c : Nat} {w w' : World} {s : ByteArray} {u : St} (h : Rs c w s u) (he : w'.heap[c]? = w.heap[c]?) : Rs c w' s u := by
  obtain ⟨a, h1, h2, h3⟩ := h
  refine ⟨a, h1, h2, ?_⟩
  unfold Rf at h3 ⊢
  rw [he]
  exact h3
/-- The producer that is being read: its box x, its slots so far. -/
structure RK (w : World) (c x : Nat) (s : ByteArray) (u : St) (p : Int) (sv : Value) (gb : Option Nat) (L : List Ld.Sl) (W : World) : Prop where
  rd : Rs c W s u
  bx : Blk W x #[.int .i64 p, sv] 46
  sl : Sl W sv gb 40 3 L.length (L.flatMap three)
  kb : Kb c w W
  lo : c < w.heap.size ∧ w.heap.size ≤ x
  far : ∀ k, gb = some k → w.heap.size ≤ k ∧ k ≠ x
section
variable {w W W' : World} {c x : Nat} {s : ByteArray} {u u' : St} {p : Int} {sv : Value} {gb : Option Nat} {L : List Ld.Sl}
theorem RK.call (h : RK w c x s u p sv gb L W) (hr : Rs c W' s u') (hk : Kb c W W') : RK w c x s u' p sv gb L W' :=
  ⟨hr, h.bx.kb hk (by have := h.lo; omega), h.sl.same (fun k hk' => hk.block k (h.sl.lt k hk') (by have := h.far k hk'; have := h.lo; omega)), h.kb.trans hk, h.lo, h.far⟩
theorem RK.below (h : RK w c x s u p sv gb L W) (hb : RowKit.Below W.heap.size W W') : RK w c x s u p sv gb L W' := h.call (h.rd.same hb) (Kb.of_below hb)
theorem RK.num (h : RK w c x s u p sv gb L W) (n : Int) : RK w c x s u n sv gb L (W.setCell ⟨x, 0, none⟩ (.int .i64 n)) :=
  ⟨h.rd.other (Kb.setCell W _) (by have := h.lo; omega), h.bx.set (i := 0) _, h.sl.setCell _ _ (fun e => (h.far x e.symm).2 rfl), h.kb.setNew h.lo.2 _, h.lo, h.far⟩
theorem RK.setFar (h : RK w c x s u p sv gb L W) {y i : Nat} (hy : w.heap.size ≤ y) (hyx : x ≠ y) (hyg : some y ≠ gb) (v : Value) : RK w c x s u p sv gb L (W.setCell ⟨y, i, none⟩ v) :=
  ⟨h.rd.other (Kb.setCell W _) (by have := h.lo; omega), h.bx.setO _ _ hyx, h.sl.setCell _ _ hyg, h.kb.setNew hy _, h.lo, h.far⟩
/-- A slot more: made, appended, stored. -/
theorem RK.push {W1 w9 : World} {g q cap : Nat} {gb' : Option Nat} {z : Ld.Sl} (h : RK w c x s u p sv gb L W) (hb : RowKit.Below W.heap.size W W1) (hgr : W1.grownBy w9 gb) (hs : Sl w9 (.slice (some ⟨g, q, none⟩) (L.length + 1) cap) gb' 40 3 (L.length + 1) (L.flatMap three ++ three z)) (hgb : gb' = some g) (hn : gb' = gb ∨ W1.heap.size ≤ g) :
    RK w c x s u p (.slice (some ⟨g, q, none⟩) (L.length + 1) cap) gb' (L ++ [z]) (w9.setCell ⟨x, 1, none⟩ (.slice (some ⟨g, q, none⟩) (L.length + 1) cap)) ∧ w9.cell? ⟨x, 1, none⟩ = some sv ∧ w9.frozen? ⟨x, 1, none⟩ = false := by
  have hlo := h.lo
  have hsz := hb.size
  have hk := h.kb.size
  have hcl := h.rd.lt
  have hxl := h.bx.lt
  have hne : ∀ k, k = c ∨ k = x → some k ≠ gb := fun k hk' e => by have := h.far k e.symm; omega
  have hfar' : ∀ k, gb' = some k → w.heap.size ≤ k ∧ k ≠ x := fun k hk' => by
    rcases hn with hn | hn
    · exact h.far k (hn.symm.trans hk')
    · rw [hgb] at hk'
      injection hk' with hk'
      omega
  have hrd9 : Rs c w9 s u := by
    have h1 : Rs c W1 s u := h.rd.same hb
    exact h1.block (hgr.block c (by omega) (hne c (.inl rfl)))
  have hx9 : Blk w9 x #[.int .i64 p, sv] 46 := (h.bx.below hb).grown hgr (hne x (.inr rfl))
  have hkb9 : Kb c w w9 := by
    have h1 : Kb c w W1 := h.kb.trans (Kb.of_below hb)
    exact ⟨hgr.os.trans h1.os, hgr.tape.trans h1.tape, hgr.output.trans h1.output, Nat.le_trans h1.size hgr.size, fun k hk' hn' => (hgr.block k (by have := h1.size; omega) (fun e => by have := h.far k e.symm; omega)).trans (h1.block k hk' hn')⟩
  refine ⟨⟨?_, hx9.set (i := 1) _, ?_, hkb9.setNew hlo.2 _, hlo, hfar'⟩, hx9.cell (i := 1) rfl, hx9.free (i := 1)⟩
  · exact hrd9.other (Kb.setCell w9 _) (by omega)
  · rw [List.length_append, List.flatMap_append]
    have := hs.setCell (⟨x, 1, none⟩) (.slice (some ⟨g, q, none⟩) (L.length + 1) cap) (fun e => (hfar' x e.symm).2 rfl)
    simpa using this
/-- .. and the slot that is being read: its box y. -/
structure RY (w : World) (c x : Nat) (s : ByteArray) (u : St) (p : Int) (sv : Value) (gb : Option Nat) (L : List Ld.Sl) (y : Nat) (a0 a1 a2 : Int) (W : World) : Prop where
  k : RK w c x s u p sv gb L W
  b : Blk W y #[.int .i64 a0, .int .i64 a1, .int .i64 a2] 40
  far : w.heap.size ≤ y ∧ x ≠ y ∧ some y ≠ gb
variable {y : Nat} {a0 a1 a2 : Int}
theorem RK.slot (h : RK w c x s u p sv gb L W) : RY w c x s u p sv gb L W.heap.size 0 0 0 (W.alloc (.cells #[.int .i64 0, .int .i64 0, .int .i64 0] 40)) :=
  ⟨h.below ((Below.refl _ _).alloc (Nat.le_refl _) _), Blk.new _ _ _, h.kb.size, by have := h.bx.lt; omega, fun e => by have := h.sl.lt _ e.symm; omega⟩
theorem RY.call (h : RY w c x s u p sv gb L y a0 a1 a2 W) (hr : Rs c W' s u') (hk : Kb c W W') : RY w c x s u' p sv gb L y a0 a1 a2 W' :=
  ⟨h.k.call hr hk, h.b.kb hk (by have := h.far; have := h.k.lo; omega), h.far⟩
theorem RY.set0 (h : RY w c x s u p sv gb L y a0 a1 a2 W) (n : Int) : RY w c x s u p sv gb L y n a1 a2 (W.setCell ⟨y, 0, none⟩ (.int .i64 n)) :=
  ⟨h.k.setFar h.far.1 h.far.2.1 h.far.2.2 _, h.b.set (i := 0) _, h.far⟩
theorem RY.set1 (h : RY w c x s u p sv gb L y a0 a1 a2 W) (n : Int) : RY w c x s u p sv gb L y a0 n a2 (W.setCell ⟨y, 1, none⟩ (.int .i64 n)) :=
  ⟨h.k.setFar h.far.1 h.far.2.1 h.far.2.2 _, h.b.set (i := 1) _, h.far⟩
theorem RY.set2 (h : RY w c x s u p sv gb L y a0 a1 a2 W) (n : Int) : RY w c x s u p sv gb L y a0 a1 n (W.setCell ⟨y, 2, none⟩ (.int .i64 n)) :=
  ⟨h.k.setFar h.far.1 h.far.2.1 h.far.2.2 _, h.b.set (i := 2) _, h.far⟩
end
/-- What is known while Decode runs. -/
def Rk (w : World) (c : Nat) (s : ByteArray) (u : St) (tv : Value) (T : Ld.Tb) (wr : World) : Prop :=
  ∃ tb E, Rs c wr s u ∧ Own wr tv tb E ∧ tabOf E = T ∧ (∀ q, foot tb E q → w.heap.size ≤ q ∧ q ≠ c) ∧ RowKit.Below w.heap.size w wr ∧ w.heap.size ≤ c
theorem Rk.rd {w wr : World} {c : Nat} {s : ByteArray} {u : St} {tv : Value} {T : Ld.Tb} (h : Rk w c s u tv T wr) : Rs c wr s u := by obtain ⟨_, _, h, _⟩ := h; exact h
theorem Rk.low {w wr : World} {c : Nat} {s : ByteArray} {u : St} {tv : Value} {T : Ld.Tb} (h : Rk w c s u tv T wr) : RowKit.Below w.heap.size w wr := by obtain ⟨_, _, _, _, _, _, h, _⟩ := h; exact h
theorem Rk.tab {w wr : World} {c : Nat} {s : ByteArray} {u : St} {tv : Value} {T : Ld.Tb} (h : Rk w c s u tv T wr) : TabAt (fun q => w.heap.size ≤ q) tv T wr := by
  obtain ⟨tb, E, -, h2, h3, h4, -⟩ := h
  rw [← h3]
  exact h2.tab _ fun q hq => (h4 q hq).1
theorem Rk.call {w wr w' : World} {c : Nat} {s : ByteArray} {u u' : St} {tv : Value} {T : Ld.Tb} (h : Rk w c s u tv T wr) (hr : Rs c w' s u') (hk : Kb c wr w') : Rk w c s u' tv T w' := by
  obtain ⟨tb, E, h1, h2, h3, h4, h5, h6⟩ := h
  refine ⟨tb, E, hr, h2.same fun k hk' => hk.block k (h2.lt hk') (h4 k hk').2, h3, h4, h5.trans ?_, h6⟩
  exact hk.below h6 h1.lt
/-- A producer more. -/
theorem Rk.push {w wr w1 : World} {c : Nat} {s : ByteArray} {u u' : St} {tv v2 : Value} {gb2 : Option Nat} {T : Ld.Tb} {x : Int × List Ld.Sl} (h : Rk w c s u tv T wr) (hs : Sl w1 v2 gb2 40 3 x.2.length (x.2.flatMap three)) (hg : ∀ k, gb2 = some k → wr.heap.size ≤ k) (hr : Rs c w1 s u') (hk : Kb c wr w1) :
    ∃ gb xs, Sl (w1.alloc (.cells #[.int .i64 x.1, v2] 46)) tv gb 46 2 T.length xs ∧
      ∀ w9 g p cap gb', Sl w9 (.slice (some ⟨g, p, none⟩) (T.length + 1) cap) gb' 46 2 (T.length + 1) (xs ++ [.int .i64 x.1, v2]) → (w1.alloc (.cells #[.int .i64 x.1, v2] 46)).grownBy w9 gb → gb' = some g → (gb' = gb ∨ w1.heap.size + 1 ≤ g) → Rk w c s u' (.slice (some ⟨g, p, none⟩) (T.length + 1) cap) (T ++ [x]) w9 := by
  have h0 := h
  obtain ⟨tb, E, h1, h2, h3, h4, h5, h6⟩ := h
  obtain ⟨tb', E', -, h2', h3', h4', h5', -⟩ := h0.call hr hk
  have hEl : E.length = T.length := by rw [← h3, tab_len]
  have o1 : Own w1 tv tb E := h2.same fun k hk' => hk.block k (h2.lt hk') (h4 k hk').2
  have hal : RowKit.Below w1.heap.size w1 (w1.alloc (.cells #[.int .i64 x.1, v2] 46)) := (Below.refl _ _).alloc (Nat.le_refl _) _
  have hsz : (w1.alloc (.cells #[.int .i64 x.1, v2] 46)).heap.size = w1.heap.size + 1 := by simp
  have o2 := o1.below hal
  refine ⟨tb, E.flatMap En.cells, ?_, ?_⟩
  · rw [← hEl]; exact o2.row
  · intro w9 g p cap gb' hs9 hgr hgb hn
    rw [← hEl] at hs9 ⊢
    have hn4 : gb' = tb ∨ ∀ q, gb' = some q → (w1.alloc (.cells #[.int .i64 x.1, v2] 46)).heap.size ≤ q := by
      rcases hn with hn | hn
      · exact .inl hn
      · refine .inr fun q hq => ?_
        rw [hgb] at hq
        injection hq with hq
        omega
    obtain ⟨p1, p2⟩ := o2.push2 (hs.below hal) (fun q hq hf => by have := hg q hq; have := h2.lt hf; omega) hgr hs9 hn4
    have hcl := h1.lt
    have hsk := hk.size
    refine ⟨gb', _, ?_, p1, ?_, fun q hq => ?_, ?_, h6⟩
    · have hr2 : Rs c (w1.alloc (.cells #[.int .i64 x.1, v2] 46)) s u' := hr.same hal
      exact hr2.block (hgr.block c (by omega) (fun e => (h4 c (.inl e.symm)).2 rfl))
    · rw [← h3]; simp [tabOf]
    · have h7 := h5.size
      rcases p2 q hq with hq | hq | hq
      · exact h4 q hq
      · have := hg q hq; exact ⟨by omega, by omega⟩
      · exact ⟨by omega, by omega⟩
    · have h7 := h5'.trans (hal.mono h5'.size)
      exact h7.trans ⟨hgr.os, hgr.tape, hgr.output, hgr.size, fun q hq => hgr.block q (by have := h7.size; omega) (fun e => by have := (h4 q (.inl e.symm)).1; omega)⟩
theorem rk_R_more {n : Nat} {u : St} {T : Ld.Tb} (hn : T.length < n) (hm : u.more = true) : Ld.tkRows 6 (n - T.length) u T = Ld.tkRows 6 (n - (T ++ [(Ld.tkRow 6 u).1]).length) (Ld.tkRow 6 u).2 (T ++ [(Ld.tkRow 6 u).1]) := by
  obtain ⟨k, hk⟩ : ∃ k, n - T.length = k + 1 := ⟨n - T.length - 1, by omega⟩
  rw [hk, show n - (T ++ [(Ld.tkRow 6 u).1]).length = k by rw [List.length_append, List.length_cons, List.length_nil]; omega]
  conv => lhs; unfold Ld.tkRows
  rw [if_pos hm]
theorem rk_R_over {n : Nat} {u : St} {T : Ld.Tb} (h : ¬ T.length < n ∨ u.more = false) : Ld.tkRows 6 (n - T.length) u T = (T, u) := by
  cases hk : n - T.length with
  | zero => rfl
  | succ k =>
    rcases h with h | h
    · omega
    · unfold Ld.tkRows
      rw [if_neg (by rw [h]; decide)]
attribute [local go_sem ↓] Go.wp_at_zero Go.wp_at_succ

theorem rs_new (s : ByteArray) (w : World) : Rs w.heap.size (w.alloc (.cells #[.string s, .int .i64 0, .bool false] 56)) s ⟨s.data.toList, false⟩ := ⟨0, Nat.zero_le _, rfl, heap_alloc_new w _⟩
theorem Own.empty (w : World) : Own (w.alloc (.cells #[] 46)) (.slice (some ⟨w.heap.size, 0, none⟩) 0 0) (some w.heap.size) [] := ⟨Sl.empty w _ _, (fun _ h => by cases h), List.Pairwise.nil, (fun _ h => by cases h)⟩
theorem rk_start (s : ByteArray) (w : World) : Rk w w.heap.size s ⟨s.data.toList, false⟩ (.slice (some ⟨w.heap.size + 1, 0, none⟩) 0 0) [] ((w.alloc (.cells #[.string s, .int .i64 0, .bool false] 56)).alloc (.cells #[] 46)) := by
  have h1 := rs_new s w
  have h2 := Own.empty (w.alloc (.cells #[.string s, .int .i64 0, .bool false] 56))
  have es : (w.alloc (.cells #[.string s, .int .i64 0, .bool false] 56)).heap.size = w.heap.size + 1 := by simp
  have a1 : RowKit.Below w.heap.size w (w.alloc (.cells #[.string s, .int .i64 0, .bool false] 56)) := (Below.refl _ _).alloc (Nat.le_refl _) _
  have a2 : RowKit.Below (w.alloc (.cells #[.string s, .int .i64 0, .bool false] 56)).heap.size (w.alloc (.cells #[.string s, .int .i64 0, .bool false] 56)) ((w.alloc (.cells #[.string s, .int .i64 0, .bool false] 56)).alloc (.cells #[] 46)) := (Below.refl _ _).alloc (Nat.le_refl _) _
  rw [es] at h2
  refine ⟨_, [], h1.same a2, h2, rfl, fun q hq => ?_, a1.trans (a2.mono a1.size), Nat.le_refl _⟩
  rcases hq with h | ⟨_, h, -⟩
  · have := Option.some.inj h
    omega
  · cases h
theorem RK.start {w : World} {c : Nat} {s : ByteArray} {u : St} (h : Rs c w s u) : RK w c w.heap.size s u 0 (.slice none 0 0) none [] (w.alloc (.cells #[.int .i64 0, .slice none 0 0] 46)) := by
  have a1 : RowKit.Below w.heap.size w (w.alloc (.cells #[.int .i64 0, .slice none 0 0] 46)) := (Below.refl _ _).alloc (Nat.le_refl _) _
  exact ⟨h.same a1, Blk.new _ _ _, ⟨rfl, .inl ⟨rfl, rfl, rfl⟩⟩, Kb.of_below a1, ⟨h.lt, Nat.le_refl _⟩, fun k h => by cases h⟩

set_option maxHeartbeats 8000000 in
set_option maxRecDepth 100000 in
theorem rdect (s : ByteArray) (w : World) (hs : s.size ≤ 281474976710656) :
    Calls Tryz.prog 9 #[.string s] w (DecdT w (Ld.decT 6 65 s.data.toList)) := by
  obtain ⟨q0, e0⟩ : ∃ q, St.byte 108 ⟨s.data.toList, false⟩ = q := ⟨_, rfl⟩
  obtain ⟨Tf, qf, e2⟩ : ∃ x q, Ld.tkRows 6 65 q0 [] = (x, q) := ⟨_, _, rfl⟩
  obtain ⟨u9, e3⟩ : ∃ q, St.byte 101 qf = q := ⟨_, rfl⟩
  have hR : Ld.decT 6 65 s.data.toList = if u9.done = 0 ∧ Ld.goodB Tf = true then some Tf else none := by
    unfold Ld.decT Ld.tkTab
    rw [e0, e2, e3]
  obtain ⟨R, hRR⟩ : ∃ R, Ld.decT 6 65 s.data.toList = R := ⟨_, rfl⟩
  rw [hRR]
  rw [hRR] at hR
  have HR := Lib.hid hR
  clear hRR
  have HE2 := Lib.hid e2
  have hD1 := rk_start s w
  obtain ⟨W0, hW0⟩ : ∃ W0, (w.alloc (.cells #[.string s, .int .i64 0, .bool false] 56)).alloc (.cells #[] 46) = W0 := ⟨_, rfl⟩
  obtain ⟨c, hc⟩ : ∃ c, w.heap.size = c := ⟨_, rfl⟩
  rw [hW0, hc] at hD1
  have HD1 := Lib.hid hD1
  have HWE := Lib.hid hW0
  have HC := Lib.hid hc
  obtain ⟨i0, hi0, hz0, hz1, hz2⟩ := infoSlot
  obtain ⟨i1, hi1, hy0, hy1, hy2⟩ := infoSeen
  clear e2 hR hD1 hW0 hc
  go_enter Tryz.func9, Tryz.ntmps9
  go_wp2_with fail
  rw [HWE.out, HC.out]
  refine (rf_open c s _ W0 HD1.out.rd hs).mono ?_
  rw [e0]
  rintro e w2 ⟨rfl, r2, k2⟩
  have HD2 := Lib.hid (HD1.out.call r2 k2)
  clear r2 k2 e0 HD1
  go_wp2_with fail
  go_loopw [5] (fun tv wr => ∃ (v : St) (T : Ld.Tb), T.length ≤ 65 ∧ Rk w c s v tv T wr ∧ Ld.tkRows 6 (65 - T.length) v T = (Tf, qf)) (fun tv _ => 65 - sliceLen (some tv))
  case atStart => exact ⟨q0, [], by simp, HD2.out, HE2.out⟩
  case round =>
    obtain ⟨v, T, hT65, hdk, hts⟩ := hrel
    have HD := Lib.hid hdk
    have HTS := Lib.hid hts
    obtain ⟨n, hn⟩ : ∃ n, T.length = n := ⟨_, rfl⟩
    obtain ⟨ao, cp, htv, -⟩ := hdk.tab
    rw [hn] at htv hT65
    subst htv
    have HNN := Lib.hid hn
    have hmr := Lib.hid (rf_more c s v wr hdk.rd hs)
    obtain ⟨mo, hmo⟩ : ∃ b, v.more = b := ⟨_, rfl⟩
    rw [hmo] at hmr
    have HMO := Lib.hid hmo
    clear hdk hts hn hmo HD2 HE2
    go_upto_region 4 with fail
    go_cut [20] (fun sx wx => sx = .bool (mo && decide (n < 65)) ∧ RowKit.Below wr.heap.size wr wx)
    case first =>
      cases mo with
      | false =>
        go_wp2_with fail
        refine hmr.out.mono ?_
        rintro e w' ⟨rfl, hb'⟩
        go_wp2_with fail
        go_meet
        case rel => exact ⟨rfl, hb'⟩
      | true =>
        go_wp2_with fail
        refine hmr.out.mono ?_
        rintro e w' ⟨rfl, hb'⟩
        go_wp2_with fail
        go_meet
        case rel => exact ⟨boolX (by simp; omega), hb'⟩
    case rest =>
      obtain ⟨rfl, hbc⟩ := hcut
      have HO := Lib.hid (HD.out.call (HD.out.rd.same hbc) (Kb.of_below hbc))
      obtain ⟨wo, rfl⟩ : ∃ wo : World, wo = wc := ⟨_, rfl⟩
      clear hbc hmr HD
      by_cases hgo : mo = true ∧ n < 65
      · obtain ⟨rfl, hn65⟩ := hgo
        rw [decide_eq_true hn65]
        obtain ⟨v0, g0⟩ : ∃ q, St.byte 108 v = q := ⟨_, rfl⟩
        obtain ⟨p, v1, g1⟩ : ∃ x q, St.int v0 = (x, q) := ⟨_, _, rfl⟩
        obtain ⟨Lf, vf, g2⟩ : ∃ x q, Ld.tkSlots 6 v1 [] = (x, q) := ⟨_, _, rfl⟩
        have hrow : Ld.tkRow 6 v = ((p, Lf), vf.byte 101) := by unfold Ld.tkRow; rw [g0, g1, g2]
        have HTS2 : Hid (Ld.tkRows 6 (65 - (T ++ [(p, Lf)]).length) (vf.byte 101) (T ++ [(p, Lf)]) = (Tf, qf)) := by
          have := rk_R_more (n := 65) (u := v) (T := T) (by rw [HNN.out]; exact hn65) HMO.out
          rw [hrow, HTS.out] at this
          exact this.symm
        have HK0 := Lib.hid (RK.start HO.out.rd)
        have HOP := Lib.hid (rf_open c s v _ HK0.out.rd hs)
        rw [g0] at HOP
        have HG2 := Lib.hid g2
        clear hrow HTS g0 g2
        go_wp2_with fail
        refine HOP.out.mono ?_
        rintro e w3 ⟨rfl, r3, k3⟩
        have HK1 := Lib.hid (HK0.out.call r3 k3)
        have HCI := Lib.hid (rf_int c s v0 _ HK1.out.rd hs)
        rw [g1] at HCI
        clear r3 k3 HK0 HOP g1
        go_wp2_with fail
        refine HCI.out.mono ?_
        rintro e w4 ⟨rfl, r4, k4⟩
        have HK2 := Lib.hid (HK1.out.call r4 k4)
        have f0 := HK2.out.bx.free (i := 0)
        have c0 := HK2.out.bx.cell (i := 0) rfl
        have HK3 := Lib.hid (HK2.out.num p)
        clear r4 k4 HK1 HCI
        go_wp2_with fail
        clear f0 c0 HK2
        go_loopw [7] (fun _ wr => ∃ (z : St) (L : List Ld.Sl) (sv : Value) (gb : Option Nat), L.length ≤ 6 ∧ RK wo c wo.heap.size s z p sv gb L wr ∧ Ld.tkSlots (6 - L.length) z L = (Lf, vf)) (fun _ wr => 6 - sliceLen (wr.cell? ⟨wo.heap.size, 1, none⟩))
        case atStart => exact ⟨v1, [], _, none, by simp, HK3.out, HG2.out⟩
        case round =>
          obtain ⟨z, L, sv, gb, hL6, htk, hts⟩ := hrel
          have HT0 := Lib.hid htk
          have HTI := Lib.hid hts
          obtain ⟨ao2, cp2, hsv, -, -, -⟩ := Sl.make htk.sl
          obtain ⟨l, hl⟩ : ∃ l, L.length = l := ⟨_, rfl⟩
          rw [hl] at hsv hL6
          subst hsv
          have HL := Lib.hid hl
          have HC1 : Hid (wr.cell? ⟨wo.heap.size, 1, none⟩ = some (.slice ao2 l cp2)) := htk.bx.cell (i := 1) rfl
          have hmr := Lib.hid (rf_more c s z wr htk.rd hs)
          obtain ⟨mo2, hmo⟩ : ∃ b, z.more = b := ⟨_, rfl⟩
          rw [hmo] at hmr
          have HMO2 := Lib.hid hmo
          clear htk hts hl hmo HK3 HG2
          go_upto_region 8 with fail
          go_cut [34] (fun sx wx => sx = .bool (mo2 && decide (l < 6)) ∧ RowKit.Below wr.heap.size wr wx)
          case first =>
            cases mo2 with
            | false =>
              go_wp2_with fail
              refine hmr.out.mono ?_
              rintro e w' ⟨rfl, hb'⟩
              go_wp2_with fail
              go_meet
              case rel => exact ⟨rfl, hb'⟩
            | true =>
              go_wp2_with fail
              refine hmr.out.mono ?_
              rintro e w' ⟨rfl, hb'⟩
              have c1 := bcell6 hb' HC1.out
              go_wp2_with fail
              go_meet
              case rel => exact ⟨boolX (by simp; omega), hb'⟩
          case rest =>
            obtain ⟨rfl, hbc⟩ := hcut
            have HT := Lib.hid (HT0.out.below hbc)
            clear hbc hmr HT0
            by_cases hgo2 : mo2 = true ∧ l < 6
            · obtain ⟨rfl, hl6⟩ := hgo2
              rw [decide_eq_true hl6]
              obtain ⟨y0, h0⟩ : ∃ q, St.byte 108 z = q := ⟨_, rfl⟩
              obtain ⟨n0, y1, h1⟩ : ∃ x q, St.int y0 = (x, q) := ⟨_, _, rfl⟩
              obtain ⟨n1, y2, h2⟩ : ∃ x q, St.int y1 = (x, q) := ⟨_, _, rfl⟩
              obtain ⟨n2, y3, h3⟩ : ∃ x q, St.int y2 = (x, q) := ⟨_, _, rfl⟩
              have htk : Ld.tkSlot z = (⟨n0, n1, n2⟩, y3.byte 101) := by unfold Ld.tkSlot; rw [h0, h1, h2, h3]
              have HTI2 : Hid (Ld.tkSlots (6 - (L ++ [(⟨n0, n1, n2⟩ : Ld.Sl)]).length) (y3.byte 101) (L ++ [(⟨n0, n1, n2⟩ : Ld.Sl)]) = (Lf, vf)) := by
                have := tkS_more (n := 6) (u := z) (L := L) (by rw [HL.out]; exact hl6) HMO2.out
                rw [htk, HTI.out] at this
                exact this.symm
              have HY0 := Lib.hid HT.out.slot
              have HOP := Lib.hid (rf_open c s z _ HY0.out.k.rd hs)
              rw [h0] at HOP
              have HH1 := Lib.hid h1
              have HH2 := Lib.hid h2
              have HH3 := Lib.hid h3
              clear htk HTI h0 h1 h2 h3 HT
              go_wp2_with fail
              refine HOP.out.mono ?_
              rintro e w3 ⟨rfl, r3, k3⟩
              have HY1 := Lib.hid (HY0.out.call r3 k3)
              have HCI := Lib.hid (rf_int c s y0 _ HY1.out.k.rd hs)
              rw [HH1.out] at HCI
              clear r3 k3 HY0 HOP HH1
              go_wp2_with fail
              refine HCI.out.mono ?_
              rintro e w4 ⟨rfl, r4, k4⟩
              have HY2 := Lib.hid (HY1.out.call r4 k4)
              have f0 := HY2.out.b.free (i := 0)
              have c0 := HY2.out.b.cell (i := 0) rfl
              have HY3 := Lib.hid (HY2.out.set0 n0)
              have HCJ := Lib.hid (rf_int c s y1 _ HY3.out.k.rd hs)
              rw [HH2.out] at HCJ
              clear r4 k4 HY1 HCI HH2
              go_wp2_with fail
              refine HCJ.out.mono ?_
              rintro e w5 ⟨rfl, r5, k5⟩
              clear f0 c0
              have HY4 := Lib.hid (HY3.out.call r5 k5)
              have f1 := HY4.out.b.free (i := 1)
              have c1 := HY4.out.b.cell (i := 1) rfl
              have HY5 := Lib.hid (HY4.out.set1 n1)
              have HCK := Lib.hid (rf_int c s y2 _ HY5.out.k.rd hs)
              rw [HH3.out] at HCK
              clear r5 k5 HY2 HY3 HCJ HH3
              go_wp2_with fail
              refine HCK.out.mono ?_
              rintro e w6 ⟨rfl, r6, k6⟩
              clear f1 c1
              have HY6 := Lib.hid (HY5.out.call r6 k6)
              have f2 := HY6.out.b.free (i := 2)
              have c2 := HY6.out.b.cell (i := 2) rfl
              have HY7 := Lib.hid (HY6.out.set2 n2)
              have HCL := Lib.hid (rf_close c s y3 _ HY7.out.k.rd hs)
              clear r6 k6 HY4 HY5 HCK
              go_wp2_with fail
              refine HCL.out.mono ?_
              rintro e w8 ⟨rfl, r8, k8⟩
              clear f2 c2
              have HY8 := Lib.hid (HY7.out.call r8 k8)
              clear r8 k8 HY6 HY7 HCL
              have x1 : w8.cell? ⟨wo.heap.size, 1, none⟩ = some (.slice ao2 l cp2) := HY8.out.k.bx.cell (i := 1) rfl
              have b0 := HY8.out.b.cell (i := 0) rfl
              have b1 := HY8.out.b.cell (i := 1) rfl
              have b2 := HY8.out.b.cell (i := 2) rfl
              obtain ⟨XS, hXS⟩ : ∃ XS, L.flatMap three = XS := ⟨_, rfl⟩
              have hal : RowKit.Below w8.heap.size w8 (w8.alloc (.cells #[.int .i64 n0, .int .i64 n1, .int .i64 n2] 40)) := (Below.refl _ _).alloc (Nat.le_refl _) _
              have hsl := HY8.out.k.sl.below hal
              rw [HL.out, hXS] at hsl
              have HSL := Lib.hid hsl
              have HPUSH : Hid (∀ w9 g q cap gb', Sl w9 (.slice (some ⟨g, q, none⟩) (l + 1) cap) gb' 40 3 (l + 1) (XS ++ three ⟨n0, n1, n2⟩) → (w8.alloc (.cells #[.int .i64 n0, .int .i64 n1, .int .i64 n2] 40)).grownBy w9 gb → gb' = some g → (gb' = gb ∨ (w8.alloc (.cells #[.int .i64 n0, .int .i64 n1, .int .i64 n2] 40)).heap.size ≤ g) → RK wo c wo.heap.size s (y3.byte 101) p (.slice (some ⟨g, q, none⟩) (l + 1) cap) gb' (L ++ [⟨n0, n1, n2⟩]) (w9.setCell ⟨wo.heap.size, 1, none⟩ (.slice (some ⟨g, q, none⟩) (l + 1) cap)) ∧ w9.cell? ⟨wo.heap.size, 1, none⟩ = some (.slice ao2 l cp2) ∧ w9.frozen? ⟨wo.heap.size, 1, none⟩ = false) := fun w9 g q cap gb' hs9 hgr hgb hn' => by
                rw [← hXS, ← HL.out] at hs9
                have := HY8.out.k.push hal hgr hs9 hgb hn'
                rw [HL.out] at this
                exact this
              have HONE : Hid (∀ u ∈ three ⟨n0, n1, n2⟩, u.oneCell' = true) := one_three1 _
              have HNW : Hid (∀ j u, (three ⟨n0, n1, n2⟩)[j]? = some u → World.cell? (w8.alloc (.cells #[.int .i64 n0, .int .i64 n1, .int .i64 n2] 40)) (Addr.add ⟨w8.heap.size, 0, none⟩ j) = some u) := World.news_of_block (cs := #[.int .i64 n0, .int .i64 n1, .int .i64 n2]) (t := 40) (fr := (0, 0)) (heap_alloc_new w8 _)
              have HBY : Hid ((l + 1) * 24 ≤ 140737488355328) := by show _ ≤ _; omega
              have H63 : Hid (l + 1 ≤ 9223372036854775807) := by show _ ≤ _; omega
              clear hXS hal hsl HY8
              go_wp2_with (at_builtin; go_must (refine wpList_append_sl _ (by rfl) _ _ _ (by rfl) 40 i0 (.agg #[.int .i64 0, .int .i64 0, .int .i64 0]) 3 24 Tryz.underlying44 hi0 hz0 hz1 hz2 rfl (.slice ao2 l cp2) gb l XS (by rfl) HSL.out ⟨w8.heap.size, 0, none⟩ 1 1 (three ⟨n0, n1, n2⟩) (by rfl) (by rfl) HNW.out HONE.out (by decide) HBY.out H63.out ?_))
              intro g9 q9 cap9 w9 gb9 hown9 hgrow9 hgb9 hnew9
              obtain ⟨hT9, c9, f9⟩ := HPUSH.out w9 g9 q9 cap9 gb9 hown9 hgrow9 hgb9 (hnew9.imp id (fun h => by simpa using h))
              have HT9 := Lib.hid hT9
              clear hT9 hown9 hgrow9 hgb9 hnew9 HSL HPUSH HNW HONE b0 b1 b2 x1
              go_wp2_with fail
              go_roundw
              case rel => exact ⟨_, _, _, _, by rw [List.length_append, HL.out]; show l + 1 ≤ 6; omega, HT9.out, HTI2.out⟩
              case measure =>
                have c10 : World.cell? (w9.setCell ⟨wo.heap.size, 1, none⟩ (.slice (some ⟨g9, q9, none⟩) (l + 1) cap9)) ⟨wo.heap.size, 1, none⟩ = some (.slice (some ⟨g9, q9, none⟩) (l + 1) cap9) := HT9.out.bx.cell (i := 1) rfl
                rw [c10, HC1.out]
                simp only [sliceLen]
                omega
            · have hgo' : (mo2 && decide (l < 6)) = false := by
                rcases Bool.eq_false_or_eq_true mo2 with h | h
                · rw [h, decide_eq_false (fun h5 => hgo2 ⟨h, h5⟩)]; rfl
                · rw [h]; rfl
              rw [hgo']
              have hfin : (L, z) = (Lf, vf) := by
                rw [← HTI.out]
                refine (tkS_over ?_).symm
                rcases Bool.eq_false_or_eq_true mo2 with h | h
                · exact .inl (by rw [HL.out]; exact fun h5 => hgo2 ⟨h, h5⟩)
                · exact .inr (by rw [HMO2.out]; exact h)
              injection hfin with hf1 hf2
              subst hf1 hf2
              clear hgo2 hgo' HTI HMO2 HC1
              have HCL := Lib.hid (rf_close c s z _ HT.out.rd hs)
              go_wp2_with fail
              refine HCL.out.mono ?_
              rintro e w7 ⟨rfl, r7, k7⟩
              have HT7 := Lib.hid (HT.out.call r7 k7)
              have x0 := HT7.out.bx.cell (i := 0) rfl
              have x1 := HT7.out.bx.cell (i := 1) rfl
              clear r7 k7 HT HCL
              obtain ⟨gb9, xs, hs6, hf6⟩ := HO.out.push (x := (p, L)) HT7.out.sl (fun k hk => (HT7.out.far k hk).1) HT7.out.rd HT7.out.kb
              rw [HNN.out] at hs6 hf6
              have HS6 := Lib.hid hs6
              have HF6 := Lib.hid hf6
              have HNW : Hid (∀ j u, [Value.int .i64 p, .slice ao2 l cp2][j]? = some u → World.cell? (w7.alloc (.cells #[.int .i64 p, .slice ao2 l cp2] 46)) (Addr.add ⟨w7.heap.size, 0, none⟩ j) = some u) := World.news_of_block (cs := #[.int .i64 p, .slice ao2 l cp2]) (t := 46) (fr := (0, 0)) (heap_alloc_new w7 _)
              have HBY : Hid ((n + 1) * 32 ≤ 140737488355328) := by show _ ≤ _; omega
              have H63 : Hid (n + 1 ≤ 9223372036854775807) := by show _ ≤ _; omega
              clear hs6 hf6 HT7
              go_wp2_with (at_builtin; go_must (refine wpList_append_sl _ (by rfl) _ _ _ (by rfl) 46 i1 (.agg #[.int .i64 0, .slice none 0 0]) 2 32 Tryz.underlying22 hi1 hy0 hy1 hy2 rfl (.slice ao n cp) gb9 n xs (by rfl) HS6.out ⟨w7.heap.size, 0, none⟩ 1 1 [.int .i64 p, .slice ao2 l cp2] (by rfl) (by rfl) HNW.out (by simp [Value.oneCell']) (by decide) HBY.out H63.out ?_))
              intro g9 q9 cap9 w9 gb8 hown9 hgrow9 hgb9 hnew9
              have HD9 := Lib.hid (HF6.out w9 g9 q9 cap9 gb8 hown9 hgrow9 hgb9 (hnew9.imp id (fun h => by simpa using h)))
              clear hown9 hgrow9 hgb9 hnew9 HS6 HF6 HNW x0 x1
              go_wp2_with fail
              go_roundw
              case rel => exact ⟨_, _, by rw [List.length_append, HNN.out]; show n + 1 ≤ 65; omega, HD9.out, HTS2.out⟩
              case measure => simp only [sliceLen]; omega
      · have hgo' : (mo && decide (n < 65)) = false := by
          rcases Bool.eq_false_or_eq_true mo with h | h
          · rw [h, decide_eq_false (fun h5 => hgo ⟨h, h5⟩)]; rfl
          · rw [h]; rfl
        rw [hgo']
        have hfin : (T, v) = (Tf, qf) := by
          rw [← HTS.out]
          refine (rk_R_over ?_).symm
          rcases Bool.eq_false_or_eq_true mo with h | h
          · exact .inl (by rw [HNN.out]; exact fun h5 => hgo ⟨h, h5⟩)
          · exact .inr (by rw [HMO.out]; exact h)
        injection hfin with hf1 hf2
        subst hf1 hf2
        have HE3 := Lib.hid e3
        clear hgo hgo' HTS HMO e3
        have CC := rf_close c s v wo HO.out.rd hs
        rw [HE3.out] at CC
        have HCC := Lib.hid CC
        clear CC
        go_wp2_with fail
        refine HCC.out.mono ?_
        rintro e w7 ⟨rfl, r7, k7⟩
        have HD7 := Lib.hid (HO.out.call r7 k7)
        clear r7 k7 HO HCC
        have CD := Lib.hid (rf_done c s u9 w7 HD7.out.rd hs)
        obtain ⟨dn, hdn⟩ : ∃ z, u9.done = z := ⟨_, rfl⟩
        rw [hdn] at CD HR
        have CG := Lib.hid (fun w' (h : RowKit.Below w7.heap.size w7 w') => good_any _ _ T w' (HD7.out.tab.below h))
        clear hdn
        by_cases hd0 : dn = 0
        · subst hd0
          obtain ⟨g, hg⟩ : ∃ g, Ld.goodB T = g := ⟨_, rfl⟩
          rw [hg] at CG HR
          go_wp2_with fail
          refine CD.out.mono ?_
          rintro e w' ⟨rfl, hbd⟩
          have HBD := Lib.hid hbd
          clear hbd
          go_wp2_with fail
          refine (CG.out w' HBD.out).mono ?_
          rintro e w8 ⟨rfl, hb8⟩
          have HB8 := Lib.hid (HBD.out.trans (hb8.mono HBD.out.size))
          clear hb8 hg
          cases g with
          | false =>
            obtain rfl : R = none := HR.out
            go_wp2_with fail
            go_ret2
            exact ⟨rfl, HD7.out.low.trans (HB8.out.mono HD7.out.low.size)⟩
          | true =>
            obtain rfl : R = some T := HR.out
            go_wp2_with fail
            go_ret2
            exact ⟨⟨_, rfl, HD7.out.tab.below HB8.out⟩, HD7.out.low.trans (HB8.out.mono HD7.out.low.size)⟩
        · have hdd : (dn != 0) = true := by simpa using hd0
          obtain rfl : R = none := by rw [HR.out, if_neg (fun h => hd0 h.1)]
          go_wp2_with fail
          refine CD.out.mono ?_
          rintro e w' ⟨rfl, hbd⟩
          have HBD := Lib.hid hbd
          clear hbd
          go_wp2_with fail
          go_ret2
          exact ⟨rfl, HD7.out.low.trans (HBD.out.mono HD7.out.low.size)⟩
end Go.Proofs.YtloallndnmofnaaGreatDoor
