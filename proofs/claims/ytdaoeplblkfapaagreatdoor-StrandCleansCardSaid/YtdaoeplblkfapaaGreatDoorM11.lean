import Derived.Test.YtdaoeplblkfapaaGreatDoorM09
import Derived.Test.YtdaoeplblkfapaaGreatDoorShelfB
import Derived.Test.YtdaoeplblkfapaaGreatDoorM10
import Derived.Deep.RegionWith
import Derived.Test.YtdaoeplblkfapaaGreatDoorM04
import Derived.Test.YtdaoeplblkfapaaGreatDoorM01
import Derived.Test.YtdaoeplblkfapaaGreatDoorM02

/- THE CONTRACT OF strand.frames. -/
namespace Go.Proofs.YtdaoeplblkfapaaGreatDoor
open Go.RowKit

theorem put_enc (b : Pl.Bt) (hg : Pl.goodB b = true) (w : World) : Calls Tryz.prog 123 #[.string ⟨(Pl.enc b).toArray⟩] w fun e w' => e = .returned (.tuple #[.string ⟨(fr b).toArray⟩, .int .i64 0]) ∧ Below w.heap.size w w' := by
  have := Fr.put_fits ⟨(Pl.enc b).toArray⟩ w (by rw [size_list]; exact (good_enc hg).1)
  exact this
theorem strCells_by (l : List UInt8) : Lib.strCells ⟨l.toArray⟩ = Lib.byteCells l := rfl
theorem byteCells_app (a b : List UInt8) : Lib.byteCells (a ++ b) = Lib.byteCells a ++ Lib.byteCells b := by simp [Lib.byteCells]
theorem frs_short {l : List Pl.Bt} (h : ∀ b ∈ l, Pl.goodB b = true) : (frs l).length ≤ 1130 * l.length := by
  induction l with
  | nil => simp [frs]
  | cons b l ih =>
    have h1 := (good_enc (h b List.mem_cons_self)).2.2
    have h2 := ih fun c hc => h c (List.mem_cons_of_mem _ hc)
    rw [frs_cons, List.length_append, List.length_cons]
    omega
theorem frs_next {L : List (Pl.Bt × Value)} {k : Nat} {p : Pl.Bt × Value} (h : L[k]? = some p) : frs ((L.take (k + 1)).map (·.1)) = frs ((L.take k).map (·.1)) ++ fr p.1 := by
  have hl := (List.getElem?_eq_some_iff.1 h).1
  rw [List.take_succ_eq_append_getElem hl, List.map_append, frs_append]
  rw [List.getElem?_eq_getElem hl] at h
  rw [Option.some.inj h]
  simp [frs]
set_option maxHeartbeats 2000000 in
set_option maxRecDepth 100000 in
theorem frames_any {A : Nat → Prop} (v : Value) (L : List (Pl.Bt × Value)) (w : World) (lb : Lb w) (h : BtIn A w v L) (hg : ∀ p ∈ L, Pl.goodB p.1 = true) (hn : L.length ≤ 1048576) :
    Calls Tryz.prog 80 #[v] w fun e w' => e = .returned (.string ⟨(frs (L.map (·.1))).toArray⟩) ∧ Below w.heap.size w w' := by
  obtain ⟨a, cap, rfl⟩ := h.form
  obtain ⟨n, hnn⟩ : ∃ n, L.length = n := ⟨_, rfl⟩
  have HL := Lib.hid h
  rw [hnn] at hn ⊢
  have HN := Lib.hid hnn
  have HG := Lib.hid hg
  have HLB := Lib.hid lb
  clear h hg lb hnn
  go_enter Tryz.func80, Tryz.ntmps80
  go_wp2_with fail
  go_loopw [12] (fun iv wr => ∃ k : Nat, k ≤ n ∧ iv = .int .i64 k ∧ IsBu w.heap.size w.heap.size (Lib.byteCells (frs ((L.take k).map (·.1)))) wr ∧ Below w.heap.size w wr ∧ w.heap.size < wr.heap.size) (fun iv _ => n - (intOf iv).toNat)
  case atStart =>
    refine ⟨0, Nat.zero_le _, rfl, .inl ⟨Nat.le_refl _, .slice none 0 0, heap_alloc_new w _, World.ownsRow_nil _ _ _ _, by simp [Value.ownBlock]⟩, (Below.refl _ _).alloc (Nat.le_refl _) _, by simp⟩
  case round =>
    obtain ⟨k, hk, rfl, hbu, hb, hlt⟩ := hrel
    have HBU := Lib.hid hbu
    have HB := Lib.hid hb
    clear hbu hb
    by_cases hkn : k < n
    · obtain ⟨q, hq⟩ : ∃ q, L[k]? = some q := ⟨_, List.getElem?_eq_getElem (by rw [HN.out]; exact hkn)⟩
      have hgood := HG.out q (List.mem_of_getElem? hq)
      have hnx := frs_next hq
      have hsh := frs_short (l := (L.take (k + 1)).map (·.1)) (fun b hb => by
        obtain ⟨p, hp, rfl⟩ := List.mem_map.1 hb
        exact HG.out p (List.mem_of_mem_take hp))
      have hle : ((L.take (k + 1)).map (·.1)).length ≤ n := by rw [List.length_map, List.length_take, HN.out]; omega
      obtain ⟨⟨base, count, prod, seq, time, recs⟩, rv⟩ := q
      obtain ⟨b, o, cap', e, -, hbl, d0, d1, d2, d3, d4, d5, hr⟩ := (HL.out.below HB.out).get hq
      injection e with e1 e2 e3
      subst e1 e3
      obtain ⟨ra, rc, hrv⟩ := hr.slice
      have HE := Lib.hid fun (wx : World) (hbx : Below wr.heap.size wr wx) => dencode ⟨base, count, prod, seq, time, recs⟩ rv wx ((HLB.out.below HLB.out.size HB.out).below (by have := HLB.out.size; have := HB.out.size; omega) hbx) (RcIn.recs (Rds.below hr hbx)) (by have := (Pl.enc_short hgood).2.2; simp only at this ⊢; omega)
      rw [if_pos hgood] at HE
      have HP := Lib.hid fun wx => put_enc ⟨base, count, prod, seq, time, recs⟩ hgood wx
      obtain ⟨E, hE⟩ : ∃ E : ByteArray, (⟨(Pl.enc ⟨base, count, prod, seq, time, recs⟩).toArray⟩ : ByteArray) = E := ⟨_, rfl⟩
      obtain ⟨F, hF⟩ : ∃ F : ByteArray, (⟨(fr ⟨base, count, prod, seq, time, recs⟩).toArray⟩ : ByteArray) = F := ⟨_, rfl⟩
      simp only at HE
      rw [hE] at HE HP
      rw [hF] at HP
      have HF := Lib.hid hF
      have HNX := Lib.hid hnx
      have HSH := Lib.hid (Nat.le_trans hsh (Nat.mul_le_mul_left 1130 hle))
      rw [hrv] at d5 HE
      obtain ⟨m, hm⟩ : ∃ m, recs.length = m := ⟨_, rfl⟩
      rw [hm] at d5 HE
      clear hq hgood hnx hsh hle e2 hr hE hF hrv hm
      go_wp2_with fail
      refine (HE.out _ ((Below.refl _ _).alloc (Nat.le_refl _) _)).mono ?_
      rintro e w2 ⟨rfl, b2⟩
      have H2 : Hid (Below wr.heap.size wr w2) := ((Below.refl _ wr).alloc (Nat.le_refl _) _).trans (b2.mono (by simp))
      clear b2
      go_wp2_with fail
      refine (HP.out _).mono ?_
      rintro e w3 ⟨rfl, b3⟩
      have H3 : Hid (Below wr.heap.size wr w3) := H2.out.trans (b3.mono H2.out.size)
      clear b3
      have hw := write_any w.heap.size w.heap.size _ F w3 (IsBu.below HBU.out H3.out) (by
        have h1 := congrArg List.length HNX.out
        have h2 := HSH.out
        rw [List.length_append] at h1
        rw [← HF.out, size_list, Lib.byteCells_length]
        omega) (by have := H3.out.size; omega)
      have HW := Lib.hid hw
      clear hw
      go_wp2_with fail
      refine HW.out.mono ?_
      rintro e w4 ⟨⟨y, rfl⟩, h4, b4⟩
      rw [← HF.out, strCells_by, ← byteCells_app, ← HNX.out] at h4
      have H4 := Lib.hid h4
      have HB4 : Hid (Below w.heap.size w w4) := (HB.out.trans (H3.out.mono HB.out.size)).trans b4
      have hlt4 : w.heap.size < w4.heap.size := by have := b4.size; have := H3.out.size; omega
      have HLT4 := Lib.hid hlt4
      clear h4 b4 hlt4
      go_wp2_with fail
      go_roundw
      case rel => exact ⟨k + 1, hkn, by go_num, .inr H4.out, HB4.out, HLT4.out⟩
      case measure => simp [intOf]; omega
    · obtain rfl : k = n := by omega
      have hs := Tryz.Builder_String_any w.heap.size w.heap.size (frs (L.map (·.1))) wr (by
        have := HBU.out
        rw [List.take_of_length_le (by rw [HN.out]; exact Nat.le_refl _)] at this
        exact this) (by omega)
      have HS := Lib.hid hs
      clear hs
      go_wp2_with fail
      refine HS.out.mono ?_
      rintro e w2 ⟨rfl, b2⟩
      have H2 := Lib.hid b2
      clear b2
      go_wp2_with fail
      go_ret
      exact ⟨rfl, HB.out.trans H2.out⟩
end Go.Proofs.YtdaoeplblkfapaaGreatDoor

/- WHAT Next ANSWERS, in plain words. -/
namespace Go.Proofs.YtdaoeplblkfapaaGreatDoor.Fr
open Go.RowKit

theorem bytes4 {s : ByteArray} {a b c d : UInt8} {t : List UInt8} (h : s.data.toList = a :: b :: c :: d :: t) : ∃ hs : 4 ≤ s.size, s[0] = a ∧ s[1] = b ∧ s[2] = c ∧ s[3] = d := by
  have hl : s.data.toList.length = s.size := (Lib.size_eq s).symm
  have hs : 4 ≤ s.size := by rw [← hl, h]; simp
  have at' : ∀ (i : Nat) (hi : i < s.size) (x : UInt8), s.data.toList[i]? = some x → s[i] = x := fun i hi x hx => by
    have e : s.data.toList[i]? = some s[i] := by
      rw [List.getElem?_eq_getElem (by rw [hl]; exact hi)]
      simp
      rfl
    exact Option.some.inj (e.symm.trans hx)
  exact ⟨hs, at' 0 (by omega) a (by rw [h]; rfl), at' 1 (by omega) b (by rw [h]; rfl), at' 2 (by omega) c (by rw [h]; rfl), at' 3 (by omega) d (by rw [h]; rfl)⟩

theorem Pl.nx_long {l t : List UInt8} {a b c d e f g i : UInt8} {n : Nat} (hl : l = a :: b :: c :: d :: e :: f :: g :: i :: t) (hn : Pl.num a.toNat b.toNat c.toNat d.toNat = n) (h : 16384 < n) : Pl.nx l = ([], 4) := by
  subst hl hn
  simp only [Pl.nx]
  rw [if_pos h]
theorem Pl.nx_short {l t : List UInt8} {a b c d e f g i : UInt8} {n : Nat} (hl : l = a :: b :: c :: d :: e :: f :: g :: i :: t) (hn : Pl.num a.toNat b.toNat c.toNat d.toNat = n) (h : ¬ 16384 < n) (h2 : t.length < n) : Pl.nx l = ([], 5) := by
  subst hl hn
  simp only [Pl.nx]
  rw [if_neg h, if_pos h2]
theorem Pl.nx_good {l t : List UInt8} {a b c d e f g i : UInt8} {n m : Nat} (hl : l = a :: b :: c :: d :: e :: f :: g :: i :: t) (hn : Pl.num a.toNat b.toNat c.toNat d.toNat = n) (hm : Pl.num e.toNat f.toNat g.toNat i.toNat = m) (h : ¬ 16384 < n) (h2 : ¬ t.length < n) (h3 : U (Pl.sum (t.take n)) = (m : Int)) : Pl.nx l = (t.take n, 0) := by
  subst hl hn hm
  simp only [Pl.nx]
  rw [if_neg h, if_neg h2, if_pos ((Pl.ofNat_num (Pl.num_lt e f g i)).2 (by unfold U at h3; omega))]
theorem Pl.nx_wrong {l t : List UInt8} {a b c d e f g i : UInt8} {n m : Nat} (hl : l = a :: b :: c :: d :: e :: f :: g :: i :: t) (hn : Pl.num a.toNat b.toNat c.toNat d.toNat = n) (hm : Pl.num e.toNat f.toNat g.toNat i.toNat = m) (h : ¬ 16384 < n) (h2 : ¬ t.length < n) (h3 : ¬ U (Pl.sum (t.take n)) = (m : Int)) : Pl.nx l = ([], 6) := by
  subst hl hn hm
  simp only [Pl.nx]
  rw [if_neg h, if_neg h2, if_neg (fun h => h3 (by have := (Pl.ofNat_num (Pl.num_lt e f g i)).1 h; unfold U; omega))]
/-- What Next answers at a place. -/
def Res (s : ByteArray) (p : Nat) : Ending := .returned (.tuple #[.string ⟨(Pl.nx (s.data.toList.drop p)).1.toArray⟩, .int .i64 (Pl.next s.data.toList p).2.1, .int .i64 ((Pl.nx (s.data.toList.drop p)).2 : Nat)])
theorem next_place {s : ByteArray} {p : Nat} (hp : p ≤ s.size) : (Pl.next s.data.toList p).2.1 = if (Pl.nx (s.data.toList.drop p)).2 = 0 then (p : Int) + 8 + (Pl.nx (s.data.toList.drop p)).1.length else 0 := by
  have hl : s.data.toList.length = s.size := (Lib.size_eq s).symm
  unfold Pl.next
  rw [if_neg (by omega), Int.toNat_natCast]
  split <;> rfl
theorem res_of {s : ByteArray} {p : Nat} {B : List UInt8} {E : Nat} {Z : Int} (h1 : Pl.nx (s.data.toList.drop p) = (B, E)) (hp : p ≤ s.size) (h3 : Z = if E = 0 then (p : Int) + 8 + B.length else 0) : Ending.returned (.tuple #[.string ⟨B.toArray⟩, .int .i64 Z, .int .i64 (E : Nat)]) = Res s p := by
  unfold Res
  rw [next_place hp, h1, h3]

theorem res_good {s y : ByteArray} {p n : Nat} {B : List UInt8} (hy : y = ⟨B.toArray⟩) (hn : y.size = n) (h1 : Pl.nx (s.data.toList.drop p) = (B, 0)) (hp : p ≤ s.size) (hB : B.length = n) : Ending.returned (.tuple #[.string y, .int .i64 ((p : Int) + 8 + (y.size : Nat)), .int .i64 0]) = Res s p := by
  rw [← res_of h1 hp rfl, hn, hy, if_pos rfl, hB]
  rfl
theorem res_rgood {s y : ByteArray} {p n : Nat} {B : List UInt8} (hy : y = ⟨B.toArray⟩) (h1 : Pl.nx (s.data.toList.drop p) = (B, 0)) (hp : p ≤ s.size) (hB : B.length = n) : Ending.returned (.tuple #[.string y, .int .i64 ((p : Int) + 8 + (n : Nat)), .int .i64 0]) = Res s p := by
  rw [← res_of h1 hp rfl, hy, if_pos rfl, hB]
  rfl
end Go.Proofs.YtdaoeplblkfapaaGreatDoor.Fr

/- THE CONTRACT OF the program's Next. -/
namespace Go.Proofs.YtdaoeplblkfapaaGreatDoor.Fr
open Go.RowKit

/-- first, from whatever world above W. -/
theorem first_b {W : World} {B : Nat} (s : ByteArray) {a b c d : UInt8} {t : List UInt8} (h : s.data.toList = a :: b :: c :: d :: t) (w : World) (hW : B ≤ W.heap.size) (hb : Below B W w) :
    Calls Tryz.prog 204 #[.string s] w fun e w' => e = .returned (.agg #[.int .u8 (a.toNat : Int), .int .u8 (b.toNat : Int), .int .u8 (c.toNat : Int), .int .u8 (d.toNat : Int)]) ∧ Below B W w' := by
  obtain ⟨hs, e0, e1, e2, e3⟩ := bytes4 h
  have C := first_any s w hs
  rw [e0, e1, e2, e3] at C
  exact C.mono fun _ _ ⟨he, hb'⟩ => ⟨he, hb.trans (hb'.mono (Nat.le_trans hW hb.size))⟩
theorem number_b {W : World} {B : Nat} (a b c d : UInt8) (w : World) (hW : B ≤ W.heap.size) (hb : Below B W w) :
    Calls Tryz.prog 205 #[.agg #[.int .u8 (a.toNat : Int), .int .u8 (b.toNat : Int), .int .u8 (c.toNat : Int), .int .u8 (d.toNat : Int)]] w fun e w' => e = .returned (.int .u32 ((Pl.num a.toNat b.toNat c.toNat d.toNat : Nat) : Int)) ∧ Below B W w' := by
  rw [U_of _ (Pl.num_lt a b c d)]
  exact (number_any a b c d w).mono fun _ _ ⟨he, hb'⟩ => ⟨he, hb.trans (hb'.mono (Nat.le_trans hW hb.size))⟩

set_option maxHeartbeats 1000000 in
set_option maxRecDepth 100000 in
theorem next_out (s : ByteArray) (z : Int) (w : World) (hz : z < 0 ∨ (s.size : Int) < z) :
    Calls Tryz.prog 175 #[.string s, .int .i64 z] w fun e w' => e = .returned (.tuple #[.string ⟨#[]⟩, .int .i64 0, .int .i64 1]) ∧ w = w' := by
  by_cases h0 : z < 0
  · go_enter Tryz.func175, Tryz.ntmps175
    go_wp2
    go_ret3
    exact ⟨rfl, rfl⟩
  · have h1 : (s.size : Int) < z := by omega
    clear hz
    go_enter Tryz.func175, Tryz.ntmps175
    go_wp2
    go_ret3
    exact ⟨rfl, rfl⟩
set_option maxHeartbeats 1000000 in
set_option maxRecDepth 100000 in
theorem next_few (s : ByteArray) (a : Nat) (w : World) (ha : a ≤ s.size) (h8 : s.size - a < 8) (_hs : s.size ≤ 1048576) :
    Calls Tryz.prog 175 #[.string s, .int .i64 a] w fun e w' => e = .returned (.tuple #[.string ⟨#[]⟩, .int .i64 0, .int .i64 5]) ∧ w = w' := by
  go_enter Tryz.func175, Tryz.ntmps175
  go_wp2
  go_ret3
  exact ⟨rfl, rfl⟩

set_option maxHeartbeats 4000000 in
set_option maxRecDepth 100000 in
theorem next_many (s : ByteArray) (p : Nat) (w : World) (hp : p + 8 ≤ s.size) (hs : s.size ≤ 1048576) {a b c d e f g i : UInt8} {t : List UInt8} (hl : s.data.toList.drop p = a :: b :: c :: d :: e :: f :: g :: i :: t) :
    Calls Tryz.prog 175 #[.string s, .int .i64 p] w fun e w' => e = Res s p ∧ Below w.heap.size w w' := by
  have e1 : (s.extract p s.size).data.toList = a :: b :: c :: d :: e :: f :: g :: i :: t := by
    rw [Lib.extract_data, List.take_of_length_le (by rw [List.length_drop]; have := Lib.size_eq s; omega), hl]
  have e0 : (s.extract p s.size).size = s.size - p := by rw [ByteArray.size_extract]; omega
  obtain ⟨r, hr⟩ : ∃ r, s.extract p s.size = r := ⟨_, rfl⟩
  rw [hr] at e0 e1
  have hr8 : 8 ≤ r.size := by omega
  have hr9 : r.size ≤ 1048576 := by omega
  have e2 : (r.extract 4 r.size).data.toList = e :: f :: g :: i :: t := by
    rw [Lib.extract_data, e1, List.take_of_length_le (by
      have h1 := congrArg List.length e1
      have := Lib.size_eq r
      simp only [List.drop_succ_cons, List.drop_zero]
      simp at h1 ⊢
      omega)]
    rfl
  have F1 := fun w' (hb : Below w.heap.size w w') => first_b _ e1 w' (Nat.le_refl _) hb
  have F2 := fun w' (hb : Below w.heap.size w w') => first_b _ e2 w' (Nat.le_refl _) hb
  have N1 := fun w' (hb : Below w.heap.size w w') => number_b a b c d w' (Nat.le_refl _) hb
  have N2 := fun w' (hb : Below w.heap.size w w') => number_b e f g i w' (Nat.le_refl _) hb
  obtain ⟨n, hn⟩ : ∃ n, Pl.num a.toNat b.toNat c.toNat d.toNat = n := ⟨_, rfl⟩
  obtain ⟨m, hm⟩ : ∃ m, Pl.num e.toNat f.toNat g.toNat i.toNat = m := ⟨_, rfl⟩
  rw [hn] at N1
  rw [hm] at N2
  have HF1 := Lib.hid F1
  have HF2 := Lib.hid F2
  have HN1 := Lib.hid N1
  have HN2 := Lib.hid N2
  have HN := Lib.hid hn
  have HM := Lib.hid hm
  have H1 := Lib.hid hl
  have H2 := Lib.hid e1
  have H3 := Lib.hid e2
  have HE := Lib.hid e0
  have HT : Hid (t.length = r.size - 8) := by
    have h1 := congrArg List.length e1
    have := Lib.size_eq r
    simp at h1
    show t.length = _
    omega
  have hb0 : Below w.heap.size w w.drew := below_drewN w 1
  clear hl e1 e2 e0 F1 F2 N1 N2 hn hm
  go_enter Tryz.func175, Tryz.ntmps175
  go_wp2_with fail
  have HR := Lib.hid hr
  clear hr
  go_region_with (first | (go_at_call 204; ((with_reducible refine (HF1.out _ ?_).mono ?_); assumption; rintro e w' ⟨rfl, hb1⟩)) | (go_at_call 204; ((with_reducible refine (HF2.out _ ?_).mono ?_); assumption; rintro e w' ⟨rfl, hb1⟩)) | (go_at_call 205; ((with_reducible refine (HN1.out _ ?_).mono ?_); assumption; rintro e w' ⟨rfl, hb1⟩)) | (go_at_call 205; ((with_reducible refine (HN2.out _ ?_).mono ?_); assumption; rintro e w' ⟨rfl, hb1⟩)))
  all_goals
    by_cases h1 : 16384 < n
    · go_wp2_with fail
      go_ret3
      exact ⟨res_of (Pl.nx_long H1.out HN.out h1) (by omega) rfl, ‹Below _ _ _›⟩
    · by_cases h2 : r.size - 8 < n
      · go_wp2_with fail
        go_ret3
        exact ⟨res_of (Pl.nx_short H1.out HN.out h1 (by rw [HT.out]; exact h2)) (by omega) rfl, ‹Below _ _ _›⟩
      · obtain ⟨y, hy⟩ : ∃ y, (r.extract 8 r.size).extract 0 n = y := ⟨_, rfl⟩
        have hy1 := Lib.hid hy
        have hyl : Hid (y.data.toList = t.take n) := by
          have e : (r.extract 8 r.size).data.toList = t := by
            rw [Lib.extract_data, H2.out, List.take_of_length_le (by
              have h1 := HT.out
              simp only [List.drop_succ_cons, List.drop_zero]
              omega)]
            rfl
          show y.data.toList = _
          rw [← hy, Lib.extract_data, e, List.drop_zero, Nat.sub_zero]
        have hys : y.size = n := by
          have h1 := HT.out
          have h3 := congrArg List.length hyl.out
          rw [List.length_take] at h3
          have := Lib.size_eq y
          omega
        have HYS := Lib.hid hys
        have hyb : y.size ≤ 140737488355328 := by omega
        have C1 := fun w => sum_any y w hyb
        rw [hyl.out] at C1
        obtain ⟨v, hv⟩ : ∃ v, U (Pl.sum (t.take n)) = v := ⟨_, rfl⟩
        have HV := Lib.hid hv
        rw [hv] at C1
        clear hv hys
        by_cases h3 : v = (m : Int)
        · have h4 : (v != (m : Int)) = false := by rw [h3]; exact bne_self_eq_false _
          have H3' := Lib.hid h3
          clear h3
          go_wp2_with (go_at_call 161; ((with_reducible refine (C1 _).mono ?_); rintro e w' ⟨rfl, rfl⟩))
          go_ret3
          exact ⟨res_good (ofList_eq y _ hyl.out.symm) HYS.out (Pl.nx_good H1.out HN.out HM.out h1 (by rw [HT.out]; exact h2) (by rw [HV.out]; exact H3'.out)) (by omega) (by have h1 := HT.out; rw [List.length_take]; omega), ‹Below _ _ _›⟩
        · have h4 : (v != (m : Int)) = true := by rw [bne_iff_ne]; exact h3
          have H3' := Lib.hid h3
          clear h3
          go_wp2_with (go_at_call 161; ((with_reducible refine (C1 _).mono ?_); rintro e w' ⟨rfl, rfl⟩))
          go_ret3
          exact ⟨res_of (Pl.nx_wrong H1.out HN.out HM.out h1 (by rw [HT.out]; exact h2) (by rw [HV.out]; exact H3'.out)) (by omega) rfl, ‹Below _ _ _›⟩
end Go.Proofs.YtdaoeplblkfapaaGreatDoor.Fr

/- THE CONTRACT OF the document's Next. -/
namespace Go.Proofs.YtdaoeplblkfapaaGreatDoor.Fr
open Go.RowKit

theorem rread_l (s : ByteArray) {a b c d : UInt8} {t : List UInt8} (h : s.data.toList = a :: b :: c :: d :: t) (w : World) :
    Calls Tryz.prog 177 #[.string s] w fun e w' => e = .returned (.int .u32 ((Pl.num a.toNat b.toNat c.toNat d.toNat : Nat) : Int)) ∧ ∃ n, w' = w.drewN n := by
  obtain ⟨hs, e0, e1, e2, e3⟩ := bytes4 h
  have C := read_any s w hs
  rw [e0, e1, e2, e3] at C
  rw [U_of _ (Pl.num_lt a b c d)]
  exact C

set_option maxHeartbeats 1000000 in
set_option maxRecDepth 100000 in
theorem rnext_out (s : ByteArray) (z : Int) (w : World) (hz : z < 0 ∨ (s.size : Int) < z) :
    Calls Tryz.prog 146 #[.string s, .int .i64 z] w fun e w' => e = .returned (.tuple #[.string ⟨#[]⟩, .int .i64 0, .int .i64 1]) ∧ w = w' := by
  by_cases h0 : z < 0
  · go_enter Tryz.func146, Tryz.ntmps146
    go_wp2
    go_ret3
    exact ⟨rfl, rfl⟩
  · have h1 : (s.size : Int) < z := by omega
    clear hz
    go_enter Tryz.func146, Tryz.ntmps146
    go_wp2
    go_ret3
    exact ⟨rfl, rfl⟩
set_option maxHeartbeats 1000000 in
set_option maxRecDepth 100000 in
theorem rnext_few (s : ByteArray) (a : Nat) (w : World) (ha : a ≤ s.size) (h8 : s.size - a < 8) (hs : s.size ≤ 1048576) :
    Calls Tryz.prog 146 #[.string s, .int .i64 a] w fun e w' => e = .returned (.tuple #[.string ⟨#[]⟩, .int .i64 0, .int .i64 5]) ∧ w = w' := by
  go_enter Tryz.func146, Tryz.ntmps146
  go_wp2
  go_ret3
  exact ⟨rfl, rfl⟩

set_option maxHeartbeats 4000000 in
set_option maxRecDepth 100000 in
theorem rnext_many (s : ByteArray) (p : Nat) (w : World) (hp : p + 8 ≤ s.size) (hs : s.size ≤ 1048576) {a b c d e f g i : UInt8} {t : List UInt8} (hl : s.data.toList.drop p = a :: b :: c :: d :: e :: f :: g :: i :: t) :
    Calls Tryz.prog 146 #[.string s, .int .i64 p] w fun e w' => e = Res s p ∧ Below w.heap.size w w' := by
  have hss := Lib.size_eq s
  have htl : t.length = s.size - p - 8 := by
    have h1 := congrArg List.length hl
    rw [List.length_drop] at h1
    simp at h1
    omega
  have e1 : (s.extract p s.size).data.toList = a :: b :: c :: d :: e :: f :: g :: i :: t := by
    rw [Lib.extract_data, List.take_of_length_le (by rw [List.length_drop]; omega), hl]
  have hl4 : s.data.toList.drop (p + 4) = e :: f :: g :: i :: t := by rw [← List.drop_drop, hl]; rfl
  have hl8 : s.data.toList.drop (p + 8) = t := by rw [← List.drop_drop, hl]; rfl
  have e2 : (s.extract (p + 4) s.size).data.toList = e :: f :: g :: i :: t := by
    rw [Lib.extract_data, List.take_of_length_le (by rw [List.length_drop]; omega), hl4]
  obtain ⟨r, hr⟩ : ∃ r, s.extract p s.size = r := ⟨_, rfl⟩
  obtain ⟨r4, hr4⟩ : ∃ r, s.extract (p + 4) s.size = r := ⟨_, rfl⟩
  rw [hr] at e1
  rw [hr4] at e2
  have N1 := fun w => rread_l r e1 w
  have N2 := fun w => rread_l r4 e2 w
  obtain ⟨n, hn⟩ : ∃ n, Pl.num a.toNat b.toNat c.toNat d.toNat = n := ⟨_, rfl⟩
  obtain ⟨m, hm⟩ : ∃ m, Pl.num e.toNat f.toNat g.toNat i.toNat = m := ⟨_, rfl⟩
  rw [hn] at N1
  rw [hm] at N2
  obtain ⟨y, hy⟩ : ∃ y, s.extract (p + 8) (p + 8 + n) = y := ⟨_, rfl⟩
  have hyl : y.data.toList = t.take n := by
    rw [← hy, Lib.extract_data, hl8, show p + 8 + n - (p + 8) = n by omega]
  have HN1 : Hid (∀ w', Calls Tryz.prog 177 #[.string r] w' fun e w'' => e = .returned (.int .u32 (n : Int)) ∧ Below w'.heap.size w' w'') := fun w' => (N1 w').mono fun _ _ ⟨he, k, hk⟩ => ⟨he, hk ▸ below_drewN _ _⟩
  have HN2 := Lib.hid N2
  have HN := Lib.hid hn
  have HM := Lib.hid hm
  have H1 := Lib.hid hl
  have HT := Lib.hid htl
  have HYL := Lib.hid hyl
  clear hl e1 e2 N1 N2 hn hm htl hss hyl hl4 hl8
  by_cases h1 : 16384 < n
  · clear hy hr4
    go_enter Tryz.func146, Tryz.ntmps146
    go_wp2_with (go_at_call 177; ((with_reducible refine (HN1.out _).mono ?_); rintro e w1 ⟨rfl, b1⟩))
    go_ret3
    exact ⟨res_of (Pl.nx_long H1.out HN.out h1) (by omega) rfl, b1⟩
  · by_cases h2 : s.size < p + 8 + n
    · clear hy hr4
      go_enter Tryz.func146, Tryz.ntmps146
      go_wp2_with (go_at_call 177; ((with_reducible refine (HN1.out _).mono ?_); rintro e w1 ⟨rfl, b1⟩))
      go_ret3
      exact ⟨res_of (Pl.nx_short H1.out HN.out h1 (by rw [HT.out]; omega)) (by omega) rfl, b1⟩
    · have hys : y.size = n := by
        have h1 := HT.out
        have h3 := congrArg List.length HYL.out
        rw [List.length_take] at h3
        have := Lib.size_eq y
        omega
      have HYS := Lib.hid hys
      have hyb : y.size ≤ 140737488355328 := by omega
      have C1 := fun w => (rsum_any y w hyb).mono (R' := fun e w' => e = .returned (.int .u32 (U (Pl.sum y.data.toList))) ∧ w' = w) fun _ _ ⟨he, hw⟩ => ⟨he, hw.symm⟩
      rw [HYL.out] at C1
      obtain ⟨v, hv⟩ : ∃ v, U (Pl.sum (t.take n)) = v := ⟨_, rfl⟩
      have HV := Lib.hid hv
      rw [hv] at C1
      have HC1 := Lib.hid C1
      clear hv hys C1 hyb
      by_cases h3 : v = (m : Int)
      · have h4 : (v != (m : Int)) = false := by rw [h3]; exact bne_self_eq_false _
        have H3' := Lib.hid h3
        clear h3
        go_enter Tryz.func146, Tryz.ntmps146
        go_wp2_with (go_at_call 177; ((with_reducible refine (HN1.out _).mono ?_); rintro e w1 ⟨rfl, b1⟩))
        go_quiet (first | (go_at_call 103; exact Calls.quiet_of_same (HC1.out _)) | (go_at_call 177; exact Calls.quiet_of (HN2.out _)))
        go_wp2_with fail
        go_ret3
        exact ⟨res_rgood (hy.trans (ofList_eq y _ HYL.out.symm)) (Pl.nx_good H1.out HN.out HM.out h1 (by rw [HT.out]; omega) (by rw [HV.out]; exact H3'.out)) (by omega) (by have h1 := HT.out; rw [List.length_take]; omega), b1.trans (below_drewN _ _)⟩
      · have h4 : (v != (m : Int)) = true := by rw [bne_iff_ne]; exact h3
        have H3' := Lib.hid h3
        clear h3
        go_enter Tryz.func146, Tryz.ntmps146
        go_wp2_with (go_at_call 177; ((with_reducible refine (HN1.out _).mono ?_); rintro e w1 ⟨rfl, b1⟩))
        go_quiet (first | (go_at_call 103; exact Calls.quiet_of_same (HC1.out _)) | (go_at_call 177; exact Calls.quiet_of (HN2.out _)))
        go_wp2_with fail
        go_ret3
        exact ⟨res_of (Pl.nx_wrong H1.out HN.out HM.out h1 (by rw [HT.out]; omega) (by rw [HV.out]; exact H3'.out)) (by omega) rfl, b1.trans (below_drewN _ _)⟩
end Go.Proofs.YtdaoeplblkfapaaGreatDoor.Fr

/- Next AT EVERY PLACE, the program's and the document's: one contract each. -/
namespace Go.Proofs.YtdaoeplblkfapaaGreatDoor.Fr
open Go.RowKit

theorem res_few {s : ByteArray} {p : Nat} (hp : p ≤ s.size) (h8 : s.size - p < 8) : Ending.returned (.tuple #[.string ⟨#[]⟩, .int .i64 0, .int .i64 5]) = Res s p := by
  have hl : s.data.toList.length = s.size := (Lib.size_eq s).symm
  exact res_of (Pl.nx_few (by rw [List.length_drop]; omega)) hp rfl
theorem next_at (s : ByteArray) (p : Nat) (w : World) (hp : p ≤ s.size) (hs : s.size ≤ 1048576) :
    Calls Tryz.prog 175 #[.string s, .int .i64 p] w fun e w' => e = Res s p ∧ Below w.heap.size w w' := by
  by_cases h8 : s.size - p < 8
  · rw [← res_few hp h8]
    exact (next_few s p w hp h8 hs).mono fun _ _ ⟨he, hw⟩ => ⟨he, hw ▸ Below.refl _ _⟩
  · have hl : s.data.toList.length = s.size := (Lib.size_eq s).symm
    obtain ⟨a, b, c, d, e, f, g, i, t, h⟩ := Pl.eight (l := s.data.toList.drop p) (by rw [List.length_drop]; omega)
    exact next_many s p w (by omega) hs h
theorem rnext_at (s : ByteArray) (p : Nat) (w : World) (hp : p ≤ s.size) (hs : s.size ≤ 1048576) :
    Calls Tryz.prog 146 #[.string s, .int .i64 p] w fun e w' => e = Res s p ∧ Below w.heap.size w w' := by
  by_cases h8 : s.size - p < 8
  · rw [← res_few hp h8]
    exact (rnext_few s p w hp h8 hs).mono fun _ _ ⟨he, hw⟩ => ⟨he, hw ▸ Below.refl _ _⟩
  · have hl : s.data.toList.length = s.size := (Lib.size_eq s).symm
    obtain ⟨a, b, c, d, e, f, g, i, t, h⟩ := Pl.eight (l := s.data.toList.drop p) (by rw [List.length_drop]; omega)
    exact rnext_many s p w (by omega) hs h
/-- Next's answer, part by part: a frame is there. -/
theorem res_ok {s : ByteArray} {p : Nat} (hp : p ≤ s.size) (h : (Pl.nx (s.data.toList.drop p)).2 = 0) : Res s p = Ending.returned (.tuple #[.string ⟨(Pl.nx (s.data.toList.drop p)).1.toArray⟩, .int .i64 ((p + 8 + (Pl.nx (s.data.toList.drop p)).1.length : Nat) : Int), .int .i64 0]) := by
  rw [← res_of (s := s) (p := p) (B := (Pl.nx (s.data.toList.drop p)).1) (E := 0) (Prod.ext rfl h) hp rfl, if_pos rfl]
  have e : ((p + 8 + (Pl.nx (s.data.toList.drop p)).1.length : Nat) : Int) = (p : Int) + 8 + (Pl.nx (s.data.toList.drop p)).1.length := by omega
  rw [e]
  rfl
/-- None is there: nothing beside the error. -/
theorem nx_none {l : List UInt8} (h : (Pl.nx l).2 ≠ 0) : (Pl.nx l).1 = [] := by
  rcases Nat.lt_or_ge l.length 8 with h8 | h8
  · rw [Pl.nx_few h8]
  · obtain ⟨a, b, c, d, e, f, g, i, t, rfl⟩ := Pl.eight h8
    simp only [Pl.nx] at h ⊢
    split
    · rfl
    · split
      · rfl
      · split
        · rename_i h1 h2 h3
          rw [if_neg h1, if_neg h2, if_pos h3] at h
          exact absurd rfl h
        · rfl
theorem res_no {s : ByteArray} {p : Nat} (hp : p ≤ s.size) (h : (Pl.nx (s.data.toList.drop p)).2 ≠ 0) : Res s p = Ending.returned (.tuple #[.string ⟨#[]⟩, .int .i64 0, .int .i64 ((Pl.nx (s.data.toList.drop p)).2 : Nat)]) := by
  rw [← res_of (s := s) (p := p) (B := []) (E := (Pl.nx (s.data.toList.drop p)).2) (Prod.ext (nx_none h) rfl) hp rfl, if_neg h]
end Go.Proofs.YtdaoeplblkfapaaGreatDoor.Fr

/- THE CONTRACT OF crate.taken: a record is taken off a reader. -/
namespace Go.Proofs.YtdaoeplblkfapaaGreatDoor
open Go.RowKit

theorem int_len (u : St) : u.int.2.s.length ≤ u.s.length := by
  obtain ⟨s, bad⟩ := u
  cases bad with
  | true => exact Nat.le_refl _
  | false =>
    cases hr : Pl.rInt s with
    | none => simp [St.int, hr]
    | some p =>
      obtain ⟨n, r⟩ := p
      have e := (Pl.rInt_some hr).1
      simp [St.int, hr]
      rw [e]; simp
theorem text_len (most : Int) (u : St) : (u.text most).2.s.length ≤ u.s.length := by
  obtain ⟨s, bad⟩ := u
  cases bad with
  | true => exact Nat.le_refl _
  | false =>
    cases hr : Pl.rText most s with
    | none => simp [St.text, hr]
    | some p =>
      obtain ⟨t, r⟩ := p
      have e := (Pl.rText_some hr).1
      simp [St.text, hr]
      rw [e]; simp
theorem byte_len (c : UInt8) (u : St) : (u.byte c).s.length ≤ u.s.length := by
  obtain ⟨s, bad⟩ := u
  cases bad with
  | true => exact Nat.le_refl _
  | false =>
    cases hr : Pl.rByte c s with
    | none => simp [St.byte, hr]
    | some r =>
      have e := Pl.rByte_some hr
      simp [St.byte, hr]
      rw [e]; simp

/-- What is known while taken runs: the reader in block c stands at u; the record in block x holds cs; the result's block r holds nothing. -/
structure TS (w : World) (c x r : Nat) (u : St) (cs : Array Value) (W : World) : Prop where
  rd : Rd c W u
  bx : Blk W x cs 75
  br : Blk W r zeroR 75
  kb : Kb c w W
  lo : c < w.heap.size ∧ w.heap.size ≤ x ∧ w.heap.size ≤ r ∧ x ≠ r
theorem TS.call {w W W' : World} {c x r : Nat} {u u' : St} {cs : Array Value} (h : TS w c x r u cs W) (hr : Rd c W' u') (hk : Kb c W W') : TS w c x r u' cs W' :=
  ⟨hr, h.bx.kb hk (by have := h.lo; omega), h.br.kb hk (by have := h.lo; omega), h.kb.trans hk, h.lo⟩
theorem Kb.setNew {w W : World} {c x i : Nat} (h : Kb c w W) (hx : w.heap.size ≤ x) (v : Value) : Kb c w (W.setCell ⟨x, i, none⟩ v) :=
  ⟨h.os, h.tape, h.output, Nat.le_trans h.size (by simp [World.setCell]), fun k hk hn => (Below.heap_setCell W ⟨x, i, none⟩ v k (by show k ≠ x; omega)).trans (h.block k hk hn)⟩
theorem TS.store {w W : World} {c x r : Nat} {u : St} {cs : Array Value} (h : TS w c x r u cs W) (i : Nat) (v : Value) : TS w c x r u (cs.setIfInBounds i v) (W.setCell ⟨x, i, none⟩ v) :=
  ⟨h.rd.other (Kb.setCell W v) (by have := h.lo; omega), h.bx.set v, h.br.setOther v (by have := h.lo; omega), h.kb.setNew h.lo.2.1 v, h.lo⟩
theorem undR' : (Tryz.prog.underlying 75).map (fun d => match d with | .struct _ | .array _ _ => true | _ => false) = some true := by kernel_rfl
theorem sizeR : (Tryz.prog.info? 75).map (·.size) = some 4 := by kernel_rfl
theorem two_retR {fn : Func} {pp uu : Nat} {W : World} {rb : Nat} {a0 a1 a2 a3 n : Value} {tmps : Array Value} (hf : fn.results = #[.cell pp 75, .tmp uu]) (hb : Blk W rb #[a0, a1, a2, a3] 75) (h2 : tmps.getD pp undef = .pointer (some ⟨rb, 0, none⟩)) (h3 : tmps.getD uu undef = n) :
    (results fn tmps).run Tryz.prog W = .ok (.tuple #[.agg #[a0, a1, a2, a3], n]) W := by
  obtain ⟨d, hd, hs⟩ : ∃ d, Tryz.prog.underlying 75 = some d ∧ (match d with | .struct _ | .array _ _ => true | _ => false) = true := by
    have h := undR'
    cases hd : Tryz.prog.underlying 75 with
    | none => rw [hd] at h; cases h
    | some d => rw [hd] at h; exact ⟨d, rfl, Option.some.inj h⟩
  rw [results_cell_tmp (p := pp) (u := uu) (ty := 75) hf, h2, h3]
  have hl := run_loadVar_row (P := Tryz.prog) W rb 75 75 #[a0, a1, a2, a3] (0, 0) d hb hd (by cases d <;> exact hs) sizeR
  simp [asAddr, hl]
theorem Blk.four {w : World} {r : Nat} {a0 a1 a2 a3 : Value} {T : TypeId} (h : Blk w r #[a0, a1, a2, a3] T) (v0 v1 v2 v3 : Value) :
    Blk ((((w.setCell ⟨r, 0, none⟩ v0).setCell ⟨r, 1, none⟩ v1).setCell ⟨r, 2, none⟩ v2).setCell ⟨r, 3, none⟩ v3) r #[v0, v1, v2, v3] T :=
  (((h.set (i := 0) v0).set (i := 1) v1).set (i := 2) v2).set (i := 3) v3
/-- Whether the last number says yes or no. -/
def rightB (g : Int) : Bool := g == 0 || g == 1

set_option maxHeartbeats 2000000 in
set_option maxRecDepth 100000 in
theorem dtaken (c : Nat) (u : St) (w : World) (lb : Lb w) (hr : Rd c w u) (hc : 8 ≤ c) (hs : u.s.length ≤ 281474976710656) :
    Calls Tryz.prog 210 #[.pointer (some ⟨c, 0, none⟩)] w fun e w' => e = .returned (.tuple #[.agg #[.int .i64 (rdR u).1.off, .string ⟨(rdR u).1.key.toArray⟩, .string ⟨(rdR u).1.val.toArray⟩, .bool (rdR u).1.gone], .bool (rightB (rdR u).2.1)]) ∧ Rd c w' (rdR u).2.2 ∧ Kb c w w' := by
  obtain ⟨q0, e0⟩ : ∃ q, St.byte 108 u = q := ⟨_, rfl⟩
  obtain ⟨o, q1, e1⟩ : ∃ x q, St.int q0 = (x, q) := ⟨_, _, rfl⟩
  obtain ⟨ky, q2, e2⟩ : ∃ x q, St.text 16 q1 = (x, q) := ⟨_, _, rfl⟩
  obtain ⟨vl, q3, e3⟩ : ∃ x q, St.text 64 q2 = (x, q) := ⟨_, _, rfl⟩
  obtain ⟨g, q4, e4⟩ : ∃ x q, St.int q3 = (x, q) := ⟨_, _, rfl⟩
  obtain ⟨q5, e5⟩ : ∃ q, St.byte 101 q4 = q := ⟨_, rfl⟩
  have hrd : rdR u = (⟨o, ky, vl, g == 1⟩, g, q5) := by subst e0; simp [rdR, e1, e2, e3, e4, e5]
  rw [hrd]
  have l0 : q0.s.length ≤ 281474976710656 := Nat.le_trans (e0 ▸ byte_len 108 u) hs
  have l1 : q1.s.length ≤ 281474976710656 := by have h := int_len q0; rw [e1] at h; exact Nat.le_trans h l0
  have l2 : q2.s.length ≤ 281474976710656 := by have h := text_len 16 q1; rw [e2] at h; exact Nat.le_trans h l1
  have l3 : q3.s.length ≤ 281474976710656 := by have h := text_len 64 q2; rw [e3] at h; exact Nat.le_trans h l2
  have l4 : q4.s.length ≤ 281474976710656 := by have h := int_len q3; rw [e4] at h; exact Nat.le_trans h l3
  have hclt := hr.lt
  have hr0 := Blk.new w zeroR 75
  have hx0 := Blk.new (w.alloc (.cells zeroR 75)) zeroR 75
  have hal1 : Below w.heap.size w (w.alloc (.cells zeroR 75)) := (Below.refl _ _).alloc (Nat.le_refl _) _
  have hal2 : Below (w.alloc (.cells zeroR 75)).heap.size (w.alloc (.cells zeroR 75)) ((w.alloc (.cells zeroR 75)).alloc (.cells zeroR 75)) := (Below.refl _ _).alloc (Nat.le_refl _) _
  have es1 : (w.alloc (.cells zeroR 75)).heap.size = w.heap.size + 1 := by simp
  have hlow := hal1.trans (hal2.mono hal1.size)
  have hr1 := hr0.below hal2
  rw [es1] at hx0
  have HT : TS w c (w.heap.size + 1) w.heap.size u zeroR ((w.alloc (.cells zeroR 75)).alloc (.cells zeroR 75)) := ⟨hr.same hlow, hx0, hr1, Kb.of_below hlow, hclt, by omega, Nat.le_refl _, by omega⟩
  obtain ⟨W0, hW0⟩ : ∃ W0, (w.alloc (.cells zeroR 75)).alloc (.cells zeroR 75) = W0 := ⟨_, rfl⟩
  rw [hW0] at HT
  unfold zeroR at hW0
  have HWE := Lib.hid hW0
  have H0 := Lib.hid HT
  have HLB := Lib.hid lb
  clear hr0 hx0 hal1 hal2 es1 hlow hr1 HT hW0 hr lb hclt hrd
  go_enter Tryz.func210, Tryz.ntmps210
  go_wp2_with fail
  rw [HWE.out]
  refine (rd_open c u _ H0.out.rd hs).mono ?_
  rw [e0]
  rintro e w1 ⟨rfl, r1, k1⟩
  have H1 := Lib.hid (H0.out.call r1 k1)
  clear r1 k1 H0 e0
  have C := rd_int c q0 _ (HLB.out.kb hc H1.out.kb) H1.out.rd l0
  rw [e1] at C
  go_wp2_with fail
  refine C.mono ?_
  clear C e1
  rintro e w2 ⟨rfl, r2, k2⟩
  have H2 := Lib.hid (H1.out.call r2 k2)
  have f0 := H2.out.bx.free (i := 0)
  have c0 := H2.out.bx.cell (i := 0) rfl
  clear r2 k2 H1
  go_wp2_with fail
  have H3 : Hid (TS w c (w.heap.size + 1) w.heap.size q1 #[.int .i64 o, .string ⟨#[]⟩, .string ⟨#[]⟩, .bool false] (w2.setCell ⟨w.heap.size + 1, 0, none⟩ (.int .i64 o))) := H2.out.store 0 (.int .i64 o)
  clear f0 c0 H2
  have C := rd_text c q1 16 _ (HLB.out.kb hc H3.out.kb) H3.out.rd l1
  rw [e2] at C
  refine C.mono ?_
  clear C e2
  rintro e w3 ⟨rfl, r3, k3⟩
  have H4 := Lib.hid (H3.out.call r3 k3)
  have f1 := H4.out.bx.free (i := 1)
  have c1 := H4.out.bx.cell (i := 1) rfl
  clear r3 k3 H3
  go_wp2_with fail
  have H5 : Hid (TS w c (w.heap.size + 1) w.heap.size q2 #[.int .i64 o, .string ⟨ky.toArray⟩, .string ⟨#[]⟩, .bool false] (w3.setCell ⟨w.heap.size + 1, 1, none⟩ (.string ⟨ky.toArray⟩))) := H4.out.store 1 (.string ⟨ky.toArray⟩)
  clear f1 c1 H4
  have C := rd_text c q2 64 _ (HLB.out.kb hc H5.out.kb) H5.out.rd l2
  rw [e3] at C
  refine C.mono ?_
  clear C e3
  rintro e w4 ⟨rfl, r4, k4⟩
  have H6 := Lib.hid (H5.out.call r4 k4)
  have f2 := H6.out.bx.free (i := 2)
  have c2 := H6.out.bx.cell (i := 2) rfl
  clear r4 k4 H5
  go_wp2_with fail
  have H7 : Hid (TS w c (w.heap.size + 1) w.heap.size q3 #[.int .i64 o, .string ⟨ky.toArray⟩, .string ⟨vl.toArray⟩, .bool false] (w4.setCell ⟨w.heap.size + 1, 2, none⟩ (.string ⟨vl.toArray⟩))) := H6.out.store 2 (.string ⟨vl.toArray⟩)
  clear f2 c2 H6
  have C := rd_int c q3 _ (HLB.out.kb hc H7.out.kb) H7.out.rd l3
  rw [e4] at C
  refine C.mono ?_
  clear C e4
  rintro e w5 ⟨rfl, r5, k5⟩
  have H8 := Lib.hid (H7.out.call r5 k5)
  clear r5 k5 H7
  go_wp2_with fail
  refine (rd_close c q4 _ H8.out.rd l4).mono ?_
  rw [e5]
  rintro e w6 ⟨rfl, r6, k6⟩
  have H9 := Lib.hid (H8.out.call r6 k6)
  have f3 := H9.out.bx.free (i := 3)
  have c0 := H9.out.bx.cell (i := 0) rfl
  have c1 := H9.out.bx.cell (i := 1) rfl
  have c2 := H9.out.bx.cell (i := 2) rfl
  have c3 := H9.out.bx.cell (i := 3) rfl
  have r0 : World.cell? _ ⟨w.heap.size, 0, none⟩ = some (.int .i64 0) := H9.out.br.cell (i := 0) rfl
  have g0 := H9.out.br.free (i := 0)
  have r1 : World.cell? _ ⟨w.heap.size, 1, none⟩ = some (.string ⟨#[]⟩) := H9.out.br.cell (i := 1) rfl
  have g1 := H9.out.br.free (i := 1)
  have r2 : World.cell? _ ⟨w.heap.size, 2, none⟩ = some (.string ⟨#[]⟩) := H9.out.br.cell (i := 2) rfl
  have g2 := H9.out.br.free (i := 2)
  have r3 : World.cell? _ ⟨w.heap.size, 3, none⟩ = some (.bool false) := H9.out.br.cell (i := 3) rfl
  have g3 := H9.out.br.free (i := 3)
  have HA : Hid (TS w c (w.heap.size + 1) w.heap.size q5 #[.int .i64 o, .string ⟨ky.toArray⟩, .string ⟨vl.toArray⟩, .bool (g == 1)] (w6.setCell ⟨w.heap.size + 1, 3, none⟩ (.bool (g == 1)))) := H9.out.store 3 (.bool (g == 1))
  clear r6 k6 H8 e5 H9
  have fin : ∀ (v0 v1 v2 v3 : Value), Rd c (((((w6.setCell ⟨w.heap.size + 1, 3, none⟩ (.bool (g == 1))).setCell ⟨w.heap.size, 0, none⟩ v0).setCell ⟨w.heap.size, 1, none⟩ v1).setCell ⟨w.heap.size, 2, none⟩ v2).setCell ⟨w.heap.size, 3, none⟩ v3) q5 ∧ Kb c w (((((w6.setCell ⟨w.heap.size + 1, 3, none⟩ (.bool (g == 1))).setCell ⟨w.heap.size, 0, none⟩ v0).setCell ⟨w.heap.size, 1, none⟩ v1).setCell ⟨w.heap.size, 2, none⟩ v2).setCell ⟨w.heap.size, 3, none⟩ v3) := fun v0 v1 v2 v3 => by
    have hlo := HA.out.lo
    have hn : c ≠ w.heap.size := by omega
    exact ⟨(((HA.out.rd.other (Kb.setCell _ _) hn).other (Kb.setCell _ _) hn).other (Kb.setCell _ _) hn).other (Kb.setCell _ _) hn, (((HA.out.kb.setNew (Nat.le_refl _) v0).setNew (Nat.le_refl _) v1).setNew (Nat.le_refl _) v2).setNew (Nat.le_refl _) v3⟩
  have HFIN := Lib.hid fin
  have HBR : Hid (Blk (w6.setCell ⟨w.heap.size + 1, 3, none⟩ (.bool (g == 1))) w.heap.size #[.int .i64 0, .string ⟨#[]⟩, .string ⟨#[]⟩, .bool false] 75) := HA.out.br
  clear fin
  by_cases h0 : g = 0
  · have hr0 : rightB g = true := by subst h0; rfl
    have HRB := Lib.hid hr0
    have h1 : (g == 0) = true := beq_iff_eq.2 h0
    have H0' := Lib.hid h0
    clear h0 hr0
    go_wp2_with fail
    refine bodyPost_ret (two_retR rfl (HBR.out.four (.int .i64 o) (.string ⟨ky.toArray⟩) (.string ⟨vl.toArray⟩) (.bool (g == 1))) rfl rfl) rfl ⟨?_, (HFIN.out _ _ _ _).1, (HFIN.out _ _ _ _).2⟩
    rw [HRB.out]
    rfl
  · have h1 : (g == 0) = false := beq_eq_false_iff_ne.2 h0
    have hr0 : rightB g = (g == 1) := by unfold rightB; rw [h1]; rfl
    have HRB := Lib.hid hr0
    have H0' := Lib.hid h0
    clear h0 hr0
    go_wp2_with fail
    refine bodyPost_ret (two_retR rfl (HBR.out.four (.int .i64 o) (.string ⟨ky.toArray⟩) (.string ⟨vl.toArray⟩) (.bool (g == 1))) rfl rfl) rfl ⟨?_, (HFIN.out _ _ _ _).1, (HFIN.out _ _ _ _).2⟩
    rw [HRB.out]
    rfl
end Go.Proofs.YtdaoeplblkfapaaGreatDoor

/- Decoding, said plainly: what a loop's steps come to; what Decode answers in the program's own values. -/
namespace Go.Proofs.YtdaoeplblkfapaaGreatDoor
open Go.RowKit

theorem rdR_of {u q0 q1 q2 q3 q4 : St} {o g : Int} {ky vl : List UInt8} (h0 : St.byte 108 u = q0) (h1 : St.int q0 = (o, q1)) (h2 : St.text 16 q1 = (ky, q2)) (h3 : St.text 64 q2 = (vl, q3)) (h4 : St.int q3 = (g, q4)) : rdR u = (⟨o, ky, vl, g == 1⟩, g, St.byte 101 q4) := by
  subst h0
  simp [rdR, h1, h2, h3, h4]
theorem loop_step {n : Nat} {u q : St} {acc : List Pl.Rc} {R : Option (List Pl.Rc × St)} {x : Pl.Rc} {g : Int} (h : loopR (9 - n) u acc = R) (hn : n < 9) (hm : u.more = true) (hr : rdR u = (x, g, q)) : (if g < 0 ∨ 1 < g then none else loopR (9 - (n + 1)) q (acc ++ [x])) = R := by
  obtain ⟨m, e⟩ : ∃ m, 9 - n = m + 1 := ⟨8 - n, by omega⟩
  have e2 : 9 - (n + 1) = m := by omega
  rw [e] at h
  rw [e2, ← h]
  simp only [loopR, hm, hr, if_true]
theorem loop_over {n : Nat} {u : St} {acc : List Pl.Rc} {R : Option (List Pl.Rc × St)} (h : loopR (9 - n) u acc = R) (hn : ¬ n < 9 ∨ u.more = false) : R = some (acc, u) := by
  rw [← h]
  cases e : 9 - n with
  | zero => rfl
  | succ m => rcases hn with hn | hn; · omega
              · simp [loopR, hn]
theorem dec_of {s : List UInt8} {u0 u1 u2 u3 u4 u5 : St} {x0 x1 x2 x3 x4 : Int} (h : St.byte 108 ⟨s, false⟩ = u0) (h0 : St.int u0 = (x0, u1)) (h1 : St.int u1 = (x1, u2)) (h2 : St.int u2 = (x2, u3)) (h3 : St.int u3 = (x3, u4)) (h4 : St.int u4 = (x4, u5)) :
    decB s = match loopR 9 u5 [] with | none => none | some (rs, u) => if (St.byte 101 u).done = 0 ∧ Pl.goodB ⟨x0, x1, x2, x3, x4, rs⟩ = true then some ⟨x0, x1, x2, x3, x4, rs⟩ else none := by
  have e : rdH ⟨s, false⟩ = ((x0, x1, x2, x3, x4), u5) := by
    subst h
    simp [rdH, h0, h1, h2, h3, h4]
  unfold decB
  rw [e]
  rfl
theorem int_64 (u : St) : Pl.I64 (St.int u).1 := by
  obtain ⟨l, bad⟩ := u
  cases bad with
  | true => exact ⟨by simp [St.int], by simp [St.int]⟩
  | false =>
    cases hr : Pl.rInt l with
    | none => simp [St.int, hr]; exact ⟨by omega, by omega⟩
    | some p => simp [St.int, hr]; exact (Pl.rInt_some hr).2
theorem int_64' {u u' : St} {x : Int} (h : St.int u = (x, u')) : Pl.I64 x := by have := int_64 u; rw [h] at this; exact this
/-- What Decode answers, in the program's own values. -/
def DecOut (r : Option Pl.Bt) (e : Ending) (w' : World) : Prop :=
  match r with
  | none => e = .returned (.tuple #[.agg #[.int .i64 0, .int .i64 0, .int .i64 0, .int .i64 0, .int .i64 0, .slice none 0 0], .int .i64 3])
  | some b => ∃ v, Recs v b.recs w' ∧ e = .returned (.tuple #[.agg #[.int .i64 b.base, .int .i64 b.count, .int .i64 b.prod, .int .i64 b.seq, .int .i64 b.time, v], .int .i64 0])
end Go.Proofs.YtdaoeplblkfapaaGreatDoor
