/- THE CONTRACT of the laws' awake. -/
import Derived.Test.YtaefcbgmljaleaaShL
namespace Go.Proofs.Ytaefcbgmljaleaa
open Go.RowKit

def sa : ByteArray := ⟨#[97]⟩
def sb : ByteArray := ⟨#[98]⟩
theorem sa_list : sa.toList = [97] := by rw [Lib.toList_data]; rfl
theorem sb_list : sb.toList = [98] := by rw [Lib.toList_data]; rfl
theorem ab_name : Sh.nameB sa = true ∧ Sh.nameB sb = true := ⟨by decide, by decide⟩
theorem ab_good : Sh.goodB [sa, sb] = true ∧ Sh.goodB [sb, sa] = false := by
  have h1 : Sh.leB sb sa = false := by unfold Sh.leB; rw [sa_list, sb_list]; decide
  have h2 : Sh.leB sa sb = true := by unfold Sh.leB; rw [sa_list, sb_list]; decide
  obtain ⟨n1, n2⟩ := ab_name
  constructor
  · simp [Sh.goodB, Sh.goodTo, Sh.atB, List.range_succ, n1, n2, h1]
  · simp [Sh.goodB, Sh.goodTo, Sh.atB, List.range_succ, n1, n2, h2]
theorem ab_ms : Sh.msOf 4 [sa, sb] = [sa, sa, sb] := by
  unfold Sh.msOf
  rw [if_pos ⟨ab_good.1, by decide, by decide⟩]
  rfl
theorem ab_parts : Sh.pOf 0 [sa, sa, sb] sa = [1, 2] := by
  have h1 : Sh.eqB sa sa = true := Sh.eqB_iff.2 rfl
  have h2 : Sh.eqB sb sa = false := by unfold Sh.eqB; rw [sa_list, sb_list]; decide
  simp [Sh.pOf, h1, h2]
set_option maxHeartbeats 4000000 in
theorem awake_any (w : World) : Calls Try.prog 6 #[] w fun e w' => e = .returned (.bool true) ∧ Below w.heap.size w w' := by
  obtain ⟨W1, hW1⟩ : ∃ W1, w.alloc (.cells #[.string ⟨#[97]⟩, .string ⟨#[98]⟩] 9) = W1 := ⟨_, rfl⟩
  have hN1 : Nms (fun b => b = w.heap.size) W1 (.slice (some ⟨w.heap.size, 0, none⟩) 2 2) [sa, sb] := by
    rw [← hW1]
    exact Rds.lit (n := 2) (size := 1) 9 rfl
  have HN1 := Lib.hid hN1
  have HB1 : Hid (Below w.heap.size w W1) := Lib.hid (by rw [← hW1]; exact (Below.refl _ _).alloc (Nat.le_refl _) _)
  have HA := fun wx (hb : Below W1.heap.size W1 wx) => assign_any 4 _ [sa, sb] wx (HN1.out.below hb)
  have HO := fun wx (hb : Below W1.heap.size W1 wx) => owner_any 4 _ [sa, sb] 3 wx (HN1.out.below hb)
  have HP := fun wx (hb : Below W1.heap.size W1 wx) => parts_any 4 _ [sa, sb] sa wx (HN1.out.below hb)
  have HG := fun wx (hb : Below W1.heap.size W1 wx) => good_any _ [sa, sb] wx (HN1.out.below hb)
  rw [ab_ms] at HA HO HP
  rw [ab_parts] at HP
  rw [ab_good.1] at HG
  have HAA := Lib.hid HA
  have HOO := Lib.hid HO
  have HPP := Lib.hid HP
  have HGG := Lib.hid HG
  have HR := Lib.hid (Below.refl W1.heap.size W1)
  clear hN1 HA HO HP HG
  go_enter Try.func6, Try.ntmps6
  go_wp2_with fail
  refine (HAA.out _ HR.out).mono ?_
  rintro e w2 ⟨hb2, va, ga, rfl, hz2⟩
  obtain ⟨b, p, cap, rfl, -, -, c1⟩ := asg_at hz2 (j := 1) (x := sa) rfl
  obtain ⟨b', p', cap', e, -, c2, -⟩ := asg_at hz2 (j := 2) (x := sb) rfl
  obtain ⟨rfl, rfl⟩ : b = b' ∧ p = p' := by injection e with e _ _; injection e with e; injection e with e1 e2; exact ⟨e1, e2⟩
  have HB2 := Lib.hid hb2
  have c1' : w2.cell? ⟨b, p + 1 * 2 + 1, none⟩ = some (.string ⟨#[97]⟩) := c1
  have c2' : w2.cell? ⟨b, p + 2 * 2, none⟩ = some (.int .i64 3) := c2
  have hbl : b < w2.heap.size := World.block_lt_of_cell? _ _ c1'
  clear e hz2 hb2 c1 c2
  go_wp2_with fail
  refine (HOO.out _ HB2.out).mono ?_
  rintro e w3 ⟨hb3, rfl⟩
  have HB3 := Lib.hid (HB2.out.trans (hb3.mono HB2.out.size))
  have hre : (Value.tuple #[.string ((Sh.ownerOf [sa, sa, sb] 3).getD ⟨#[]⟩), .bool (Sh.ownerOf [sa, sa, sb] 3).isSome]) = .tuple #[.string ⟨#[98]⟩, .bool true] := rfl
  rw [hre]
  have c1 := (hb3.cell (p := ⟨b, p + 1 * 2 + 1, none⟩) hbl).trans c1'
  have c2 := (hb3.cell (p := ⟨b, p + 2 * 2, none⟩) hbl).trans c2'
  clear c1' c2' hb3 hre
  go_wp2_with fail
  refine (HPP.out _ HB3.out).mono ?_
  rintro e w4 ⟨hb4, v4, g4, rfl, hz4⟩
  have HB4 := Lib.hid (HB3.out.trans (hb4.mono HB3.out.size))
  have HZ4 := Lib.hid hz4
  clear c1 c2 hb4 hz4
  have HI := Lib.hid (ints_any v4 (.slice (some ⟨w4.heap.size, 0, none⟩) 2 2) [1, 2] [1, 2] (w4.alloc (.cells #[.int .i64 1, .int .i64 2] 3)) (HZ4.out.below ((Below.refl _ _).alloc (Nat.le_refl _) _)).rd (Rds.lit (n := 2) (size := 1) (cs := [.int .i64 1, .int .i64 2]) 3 rfl) (by decide))
  go_wp2_with fail
  refine HI.out.mono ?_
  rintro e w5 ⟨rfl, n5, rfl⟩
  have HB5 : Hid (Below W1.heap.size W1 ((w4.alloc (.cells #[.int .i64 1, .int .i64 2] 3)).drewN n5)) := Lib.hid ((HB4.out.alloc HB4.out.size _).trans (below_drewN _ _))
  obtain ⟨w5, hw5⟩ : ∃ w5, (w4.alloc (.cells #[.int .i64 1, .int .i64 2] 3)).drewN n5 = w5 := ⟨_, rfl⟩
  rw [hw5] at HB5 ⊢
  clear hw5
  have hd : decide ((([1, 2] : List Int)) = [1, 2]) = true := rfl
  rw [hd]
  clear hd
  go_wp2_with fail
  refine (HGG.out _ HB5.out).mono ?_
  rintro e w6 ⟨rfl, hb6⟩
  have HB6 := Lib.hid (HB5.out.trans (hb6.mono HB5.out.size))
  obtain ⟨W7, hW7⟩ : ∃ W7, w6.alloc (.cells #[.string ⟨#[98]⟩, .string ⟨#[97]⟩] 9) = W7 := ⟨_, rfl⟩
  have HB7 : Hid (Below W1.heap.size W1 W7) := Lib.hid (by rw [← hW7]; exact HB6.out.alloc HB6.out.size _)
  have hN7 : Nms (fun b => b = w6.heap.size) W7 (.slice (some ⟨w6.heap.size, 0, none⟩) 2 2) [sb, sa] := by
    rw [← hW7]
    exact Rds.lit (n := 2) (size := 1) 9 rfl
  have HG7 := good_any _ [sb, sa] W7 hN7
  rw [ab_good.2] at HG7
  have HGH := Lib.hid HG7
  clear hb6 hN7 HG7
  go_wp2_with fail
  refine HGH.out.mono ?_
  rintro e w8 ⟨rfl, hb8⟩
  have HB8 := Lib.hid (HB7.out.trans (hb8.mono HB7.out.size))
  clear hb8
  go_wp2_with fail
  go_ret
  exact ⟨rfl, HB1.out.trans (HB8.out.mono HB1.out.size)⟩
end Go.Proofs.Ytaefcbgmljaleaa
