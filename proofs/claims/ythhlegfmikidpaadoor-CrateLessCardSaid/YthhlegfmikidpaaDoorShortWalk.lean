/- The walk of the law CrateShort. -/
import Derived.Test.YthhlegfmikidpaaDoorDAwake
namespace Go.Proofs.YthhlegfmikidpaaDoor
open Go.RowKit

/-- A batch that came in: its records are read at the world where the call begins. -/
structure Come (b : Pl.Bt) (v : Value) (w : World) : Prop where
  recs : Recs v b.recs w
  len : b.recs.length ≤ maxLen
  keys : ∀ x ∈ b.recs, x.key.length ≤ maxLen ∧ x.val.length ≤ maxLen
  i0 : Pl.I64 b.base
  i1 : Pl.I64 b.count
theorem great_few {l : List Pl.Rc} (h : greatB l = false) : l.length ≤ 40 := by
  unfold greatB at h
  rw [Bool.or_eq_false_iff] at h
  have := of_decide_eq_false h.1
  omega

theorem byte_at {S : ByteArray} {l : List UInt8} (hS : (⟨l.toArray⟩ : ByteArray) = S) (i : Nat) (c : UInt8) (hc : l[i]? = some c) (h : i < S.size) : (S[i]'h) = c := by
  subst hS
  have hi := (List.getElem?_eq_some_iff.1 hc).1
  have := (List.getElem?_eq_some_iff.1 hc).2
  show l.toArray[i] = c
  simp [this]
theorem enc_first (b : Pl.Bt) : (Pl.enc b)[0]? = some 108 := rfl
theorem enc_last (b : Pl.Bt) : (Pl.enc b)[(Pl.enc b).length - 1]? = some 101 := by
  obtain ⟨l, hl⟩ : ∃ l, Pl.enc b = l ++ [101] := ⟨108 :: (Pl.wInt b.base ++ Pl.wInt b.count ++ Pl.wInt b.prod ++ Pl.wInt b.seq ++ Pl.wInt b.time ++ Pl.encRs b.recs), by simp [Pl.enc]⟩
  rw [hl]
  simp

set_option maxHeartbeats 2000000 in
set_option maxRecDepth 100000 in
theorem short_any (b : Pl.Bt) (v : Value) (w : World) (lb : Lb w) (h : Come b v w) :
    Calls Tryd.prog 10 #[.agg #[.int .i64 b.base, .int .i64 b.count, .int .i64 b.prod, .int .i64 b.seq, .int .i64 b.time, v]] w fun e w' => e = .returned (.bool true) ∧ Below w.heap.size w w' := by
  obtain ⟨base, count, prod, seq, time, ls⟩ := b
  obtain ⟨hrec, hlen, hkeys, -, -⟩ := h
  simp only at hrec hlen hkeys ⊢
  have hb0 := Blk.new w #[.int .i64 base, .int .i64 count, .int .i64 prod, .int .i64 seq, .int .i64 time, v] 24
  have hw0 : Below w.heap.size w (w.alloc (.cells #[.int .i64 base, .int .i64 count, .int .i64 prod, .int .i64 seq, .int .i64 time, v] 24)) := (Below.refl _ _).alloc (Nat.le_refl _) _
  have lb0 := lb.below lb.size hw0
  obtain ⟨W0, hW0⟩ : ∃ W0, w.alloc (.cells #[.int .i64 base, .int .i64 count, .int .i64 prod, .int .i64 seq, .int .i64 time, v] 24) = W0 := ⟨_, rfl⟩
  rw [hW0] at hb0 hw0 lb0
  have HE := Lib.hid hW0
  have HB0 := Lib.hid hb0
  have HW0 := Lib.hid hw0
  have HAW := Lib.hid (awake_any W0 lb0)
  have HRW := Lib.hid hrec
  have HKY := Lib.hid hkeys
  have HLB := Lib.hid lb
  clear hb0 hw0 lb0 hW0 hrec hkeys lb
  obtain ⟨a, cap, rfl⟩ : ∃ a cap, v = .slice a ls.length cap := by obtain ⟨a, cap, rfl, -⟩ := HRW.out; exact ⟨a, cap, rfl⟩
  go_enter Tryd.func10, Tryd.ntmps10
  go_wp2_with fail
  rw [HE.out]
  refine HAW.out.mono ?_
  rintro e w1 ⟨rfl, b1⟩
  have HB1 := Lib.hid (HB0.out.below b1)
  have HW1 := Lib.hid (HW0.out.trans (b1.mono HW0.out.size))
  have c5 := HB1.out.cell (i := 5) rfl
  clear b1 HB0 HW0 HAW
  go_wp2_with fail
  have C := great_any _ ls w1 (HRW.out.below HW1.out) hlen HKY.out
  cases hg : greatB ls with
  | true =>
    rw [hg] at C
    refine C.mono ?_
    rintro e w2 ⟨rfl, b2⟩
    go_wp2_with fail
    go_ret
    exact ⟨rfl, HW1.out.trans (b2.mono HW1.out.size)⟩
  | false =>
    rw [hg] at C
    have h40 := great_few hg
    refine C.mono ?_
    clear C hg
    rintro e w2 ⟨rfl, b2⟩
    have HB2 := Lib.hid (HB1.out.below b2)
    have HW2 := Lib.hid (HW1.out.trans (b2.mono HW1.out.size))
    clear b2 HB1 HW1 c5
    have c0 := HB2.out.cell (i := 0) rfl
    have c1 := HB2.out.cell (i := 1) rfl
    have c2 := HB2.out.cell (i := 2) rfl
    have c3 := HB2.out.cell (i := 3) rfl
    have c4 := HB2.out.cell (i := 4) rfl
    have c5 := HB2.out.cell (i := 5) rfl
    have C := dencode ⟨base, count, prod, seq, time, ls⟩ _ w2 (HLB.out.below HLB.out.size HW2.out) (HRW.out.below HW2.out) (by show ls.length ≤ _; omega)
    cases hgd : Pl.goodB ⟨base, count, prod, seq, time, ls⟩ with
    | false =>
      rw [hgd, if_neg (by decide)] at C
      have HC := Lib.hid C
      clear C hgd
      go_wp2_with fail
      refine HC.out.mono ?_
      rintro e w3 ⟨rfl, b3⟩
      have HW3 := Lib.hid (HW2.out.trans (b3.mono HW2.out.size))
      clear b3
      go_wp2_with fail
      go_ret
      exact ⟨rfl, HW3.out⟩
    | true =>
      rw [hgd, if_pos rfl] at C
      have hsh := Pl.enc_short hgd
      obtain ⟨S, hS⟩ : ∃ S : ByteArray, (⟨(Pl.enc ⟨base, count, prod, seq, time, ls⟩).toArray⟩ : ByteArray) = S := ⟨_, rfl⟩
      rw [hS] at C
      have HC := Lib.hid C
      have hsz : S.size = (Pl.enc ⟨base, count, prod, seq, time, ls⟩).length := by rw [← hS, size_list]
      rw [← hsz] at hsh
      obtain ⟨hs1, hs2, hs3⟩ := hsh
      simp only at hs1 hs3
      have HS := Lib.hid hS
      have HSZ := Lib.hid hsz
      clear C hgd hS hsz
      go_wp2_with fail
      refine HC.out.mono ?_
      rintro e w3 ⟨rfl, b3⟩
      have HW3 := Lib.hid (HW2.out.trans (b3.mono HW2.out.size))
      have HB3 := Lib.hid (HB2.out.below b3)
      clear b3 c0 c1 c2 c3 c4 c5 HC
      have c5 := HB3.out.cell (i := 5) rfl
      go_wp2_with fail
      · go_ret
        exact ⟨congrArg (fun b => Ending.returned (.bool b)) (beq_iff_eq.2 (by rw [byte_at HS.out (S.size - 1) 101 (by rw [HSZ.out]; exact enc_last _)]; rfl)), HW3.out⟩
      · exfalso
        rename_i hh
        rw [byte_at HS.out 0 108 (enc_first _)] at hh
        exact absurd hh (by decide)
end Go.Proofs.YthhlegfmikidpaaDoor
