/- 'awake' answers true: the document's examples. -/
import Derived.Test.YtjjlkijconlbaaaDoorWalk4
namespace Go.Proofs.YtjjlkijconlbaaaDoor
open Go.RowKit

theorem wInt_one : Pl.wInt 1 = [105, 49, 101] := by
  have : Lib.itoa 1 = [49] := by
    unfold Lib.itoa
    rw [if_neg (by decide), Lib.decDigits_one (by decide)]
    rfl
  rw [Pl.wInt, this]; rfl
theorem wInt_m5 : Pl.wInt (-5) = [105, 45, 53, 101] := by
  have : Lib.itoa (-5) = [45, 53] := by
    unfold Lib.itoa
    rw [if_pos (by decide), Lib.decDigits_one (by decide)]
    rfl
  rw [Pl.wInt, this]; rfl
theorem wText_empty : Pl.wText [] = [48, 58] := by
  have : Lib.itoa ((([] : List UInt8).length : Nat) : Int) = [48] := by
    unfold Lib.itoa
    rw [if_neg (by decide), Lib.decDigits_one (by decide)]
    rfl
  rw [Pl.wText, this]; rfl
theorem wText_hi : Pl.wText [104, 105] = [50, 58, 104, 105] := by
  have : Lib.itoa ((([104, 105] : List UInt8).length : Nat) : Int) = [50] := by
    unfold Lib.itoa
    rw [if_neg (by decide), Lib.decDigits_one (by decide)]
    rfl
  rw [Pl.wText, this]; rfl

theorem aw2 : St.int ⟨[105, 49, 101, 48, 58, 101], false⟩ = (1, ⟨[48, 58, 101], false⟩) := by
  have h := Pl.rInt_w 1 (by unfold Pl.I64; omega) [48, 58, 101]
  rw [wInt_one] at h
  simp only [St.int]
  rw [show ([105, 49, 101, 48, 58, 101] : List UInt8) = [105, 49, 101] ++ [48, 58, 101] from rfl, h]
  rfl
theorem aw3 : St.text 0 ⟨[48, 58, 101], false⟩ = ([], ⟨[101], false⟩) := by
  have h := Pl.rText_w [] 0 (by simp) (by simp) [101]
  rw [wText_empty] at h
  simp only [St.text]
  rw [show ([48, 58, 101] : List UInt8) = [48, 58] ++ [101] from rfl, h]
  rfl

theorem done_cases (u : St) : (u.done = 0 ∧ u.bad = false ∧ u.s = []) ∨ u.done = 3 := by
  obtain ⟨s, bad⟩ := u
  cases bad with
  | true => right; rfl
  | false =>
    cases s with
    | nil => left; exact ⟨rfl, rfl, rfl⟩
    | cons x s => right; rfl
theorem cell_two_new0 (w : World) (x y : Value) (T : TypeId) : (w.alloc (.cells #[x, y] T)).cell? ⟨w.heap.size, 0 + 0, none⟩ = some x := by
  have h := heap_alloc_new w (.cells #[x, y] T)
  unfold World.cell?
  rw [h]
  rfl
theorem cell_two_new1 (w : World) (x y : Value) (T : TypeId) : (w.alloc (.cells #[x, y] T)).cell? ⟨w.heap.size, 0 + 1, none⟩ = some y := by
  have h := heap_alloc_new w (.cells #[x, y] T)
  unfold World.cell?
  rw [h]
  rfl

set_option maxHeartbeats 1000000 in
theorem awake_any (w : World) (hl : Lb w) :
    Calls Tryd.prog 11 #[] w fun e w' => e = .returned (.bool true) ∧ Below w.heap.size w w' := by
  have i1 : Pl.I64 1 := by unfold Pl.I64; omega
  have i5 : Pl.I64 (-5) := by unfold Pl.I64; omega
  go_enter Tryd.func11, Tryd.ntmps11
  go_wp2_with fail
  have C := bead_int 1 i1 w hl
  rw [wInt_one] at C
  refine C.mono ?_
  clear C
  rintro e w1 ⟨rfl, b1⟩
  have hl1 := hl.below hl.size b1
  have C := bead_text ⟨#[]⟩ (by decide) w1 hl1
  rw [show Pl.wText (⟨#[]⟩ : ByteArray).data.toList = [48, 58] from wText_empty] at C
  go_wp2_with fail
  refine C.mono ?_
  clear C
  rintro e w2 ⟨rfl, b2⟩
  have hl2 := hl1.below hl1.size b2
  have b12 := b1.trans (b2.mono b1.size)
  clear b1 b2 hl1
  go_wp2_with fail
  have hs2 : ∀ (o : Obj), w2.heap.size < (w2.alloc o).heap.size := fun o => by simp
  have C := bead_list w2.heap.size 0 2 [⟨#[105, 49, 101]⟩, ⟨#[48, 58]⟩] (w2.alloc (.cells #[.string ⟨#[105, 49, 101]⟩, .string ⟨#[48, 58]⟩] 9)) (by
    intro j x hx
    match j with
    | 0 => obtain rfl := Option.some.inj hx; exact cell_two_new0 _ _ _ _
    | 1 => obtain rfl := Option.some.inj hx; exact cell_two_new1 _ _ _ _
    | j + 2 => simp at hx) (hs2 _) (by decide) (by decide) (by decide)
  refine C.mono ?_
  clear C
  rintro e w3 ⟨rfl, b3⟩
  have b13 : Below w.heap.size w w3 := (b12.alloc b12.size _).trans (b3.mono (by simp; exact Nat.le_succ_of_le b12.size))
  have hl3 := hl.below hl.size b13
  clear b12 b3 hl2 hs2
  go_wp2_with fail
  refine (rd_new _ _).mono ?_
  rintro e w4 ⟨rfl, r4, b4⟩
  have hB : 6 ≤ w3.heap.size := hl3.size
  have hW : w.heap.size ≤ w3.heap.size := b13.size
  have b14 : Below w.heap.size w w4 := b13.trans (b4.mono hW)
  have hl4 := hl.below hl.size b14
  have HS : w3.heap.size < w4.heap.size := r4.lt
  clear b4 hl3 b13
  obtain ⟨b, hb⟩ : ∃ b, w3.heap.size = b := ⟨_, rfl⟩
  rw [hb] at r4 hB hW HS ⊢
  clear hb
  have r4 : Rd b w4 ⟨[108, 105, 49, 101, 48, 58, 101], false⟩ := r4
  go_wp2_with fail
  refine (rd_open b _ _ r4 (by decide)).mono ?_
  rintro e w5 ⟨rfl, r5, b5⟩
  have r5 : Rd b w5 ⟨[105, 49, 101, 48, 58, 101], false⟩ := r5
  have b15 : Below w.heap.size w w5 := b14.trans (b5.below hW HS)
  have hl5 := hl.below hl.size b15
  clear r4 b5 hl4 b14 HS
  go_wp2_with fail
  have C := rd_int b _ w5 hl5 r5 (by decide)
  rw [aw2] at C
  refine C.mono ?_
  clear C
  rintro e w6 ⟨rfl, r6, b6⟩
  have b16 : Below w.heap.size w w6 := b15.trans (b6.below hW r5.lt)
  have hl6 := hl.below hl.size b16
  clear r5 b6 hl5 b15
  go_wp2_with fail
  have C := rd_text b _ 0 w6 hl6 r6 (by decide)
  rw [aw3] at C
  refine C.mono ?_
  clear C
  rintro e w7 ⟨rfl, r7, b7⟩
  have b17 : Below w.heap.size w w7 := b16.trans (b7.below hW r6.lt)
  have hl7 := hl.below hl.size b17
  clear r6 b7 hl6 b16
  go_wp2_with fail
  refine (rd_more b _ _ r7).mono ?_
  rintro e w' ⟨rfl, rfl⟩
  go_wp2_with fail
  refine (rd_close b _ _ r7 (by decide)).mono ?_
  rintro e w8 ⟨rfl, r8, b8⟩
  have r8 : Rd b w8 ⟨[], false⟩ := r8
  have b18 : Below w.heap.size w w8 := b17.trans (b8.below hW r7.lt)
  have hl8 := hl.below hl.size b18
  clear r7 b8 hl7 b17
  go_wp2_with fail
  have C := bead_int (-5) i5 w8 hl8
  rw [wInt_m5] at C
  refine C.mono ?_
  clear C
  rintro e w9 ⟨rfl, b9⟩
  have r9 := r8.same b9
  have b19 : Below w.heap.size w w9 := b18.trans (b9.mono b18.size)
  have hl9 := hl.below hl.size b19
  clear r8 b9 hl8 b18
  go_wp2_with fail
  have C := bead_text ⟨#[104, 105]⟩ (by decide) w9 hl9
  rw [show Pl.wText (⟨#[104, 105]⟩ : ByteArray).data.toList = [50, 58, 104, 105] from wText_hi] at C
  refine C.mono ?_
  clear C
  rintro e w10 ⟨rfl, b10⟩
  have r10 := r9.same b10
  have b110 : Below w.heap.size w w10 := b19.trans (b10.mono b19.size)
  have hl10 := hl.below hl.size b110
  clear r9 b10 hl9 b19
  go_wp2_with fail
  refine (rd_done b _ _ r10).mono ?_
  rintro e w' ⟨rfl, rfl⟩
  go_wp2_with fail
  refine (rd_new _ _).mono ?_
  rintro e w11 ⟨rfl, r11, b11⟩
  have b111 : Below w.heap.size w w11 := b110.trans (b11.mono b110.size)
  clear r10 b11 hl10 b110
  go_wp2_with fail
  refine (rd_done _ _ _ r11).mono ?_
  rintro e w' ⟨rfl, rfl⟩
  go_wp2_with fail
  go_ret
  exact ⟨rfl, b111⟩
end Go.Proofs.YtjjlkijconlbaaaDoor
