/- The document's own digits (heliographref01.digits, Int, Text): the decimal numeral. -/
import Derived.Test.YtmkinnheoejphaaGreatDoorWalk4
import Derived.Deep.QuietTactic
import Derived.BigQuiet
namespace Go.Proofs.YtmkinnheoejphaaGreatDoor
open Go.RowKit

/-- The ten digits. -/
def tenDigits : ByteArray := ⟨#[48, 49, 50, 51, 52, 53, 54, 55, 56, 57]⟩
theorem ten_fin : ∀ i : Fin 10, (tenDigits.data.toList.drop i.val).take 1 = [UInt8.ofNat (48 + i.val)] := by decide +kernel
theorem ten_at (i : Nat) (h : i < 10) : tenDigits.extract i (i + 1) = ⟨[UInt8.ofNat (48 + i)].toArray⟩ := by
  apply ofList_eq
  rw [Lib.extract_data, show i + 1 - i = 1 by omega]
  exact (ten_fin ⟨i, h⟩).symm

set_option maxHeartbeats 1000000 in
set_option maxRecDepth 100000 in
theorem digits_any (u : Nat) : u < 18446744073709551616 → ∀ (w : World), Calls Tryz.prog 66 #[.int .u64 u] w fun e w' => e = .returned (.string ⟨(Lib.decDigits u).toArray⟩) ∧ ∃ n, w' = w.drewN n := by
  induction u using Nat.strongRecOn with
  | _ u ih =>
    intro hu w
    by_cases h : u < 10
    · have hten := ten_at u h
      have hd := Lib.decDigits_one h
      have HD := Lib.hid hd
      have HT := Lib.hid hten
      clear hten hd ih
      go_enter Tryz.func66, Tryz.ntmps66
      go_wp2
      go_ret
      exact ⟨congrArg (fun x => Ending.returned (.string x)) (by rw [HD.out]; exact HT.out), 0, rfl⟩
    · have ihq := ih (u / 10) (by omega) (by omega)
      obtain ⟨q, hq0⟩ : ∃ q, u / 10 = q := ⟨_, rfl⟩
      obtain ⟨r, hr0⟩ : ∃ r, u % 10 = r := ⟨_, rfl⟩
      have hr10 : r < 10 := by omega
      have hq : (u : Int) / 10 = (q : Int) := by omega
      have hr : (u : Int) % 10 = (r : Int) := by omega
      have hten : (⟨#[48, 49, 50, 51, 52, 53, 54, 55, 56, 57]⟩ : ByteArray).extract r (r + 1) = ⟨#[UInt8.ofNat (48 + r)]⟩ := ten_at r hr10
      have hd : Lib.decDigits u = Lib.decDigits q ++ [UInt8.ofNat (48 + r)] := by rw [Lib.decDigits, dif_neg h, hq0, hr0]
      have hlen := Lib.nDigits_le20 q (by omega)
      rw [← Lib.decDigits_length] at hlen
      rw [hq0] at ihq
      obtain ⟨l, hl⟩ : ∃ l, l = Lib.decDigits q := ⟨_, rfl⟩
      obtain ⟨c, hc⟩ : ∃ c, c = UInt8.ofNat (48 + r) := ⟨_, rfl⟩
      rw [← hl] at hlen ihq hd
      rw [← hc] at hd hten
      have HD := Lib.hid hd
      have IH := Lib.hid ihq
      clear ih ihq hd hl hc hq0 hr0
      go_enter Tryz.func66, Tryz.ntmps66
      go_wp2_with fail
      go_quiet ((go_at_call 66; exact Calls.quiet_of (IH.out _)))
      go_wp2_with fail
      go_ret
      exact ⟨congrArg (fun x => Ending.returned (.string x)) (by rw [HD.out]; exact app_mk l [c]), nq, rfl⟩

theorem below_of_drewN {w w' : World} (h : ∃ n, w' = w.drewN n) : Below w.heap.size w w' := by
  obtain ⟨n, rfl⟩ := h
  exact below_drewN w n

set_option maxHeartbeats 1000000 in
set_option maxRecDepth 100000 in
/-- heliographref01.Int. -/
theorem ref_int (n : Int) (hn : Pl.I64 n) (w : World) :
    Calls Tryz.prog 45 #[.int .i64 n] w fun e w' => e = .returned (.string ⟨(Pl.wInt n).toArray⟩) ∧ Below w.heap.size w w' := by
  obtain ⟨h0, h1⟩ := hn
  by_cases hneg : n < 0
  · have hw : Pl.wInt n = 105 :: 45 :: (Lib.decDigits n.natAbs ++ [101]) := by
      unfold Pl.wInt Lib.itoa
      rw [if_pos hneg]
      rfl
    have C := digits_any n.natAbs (by omega)
    have hlen := Lib.nDigits_le20 n.natAbs (by omega)
    rw [← Lib.decDigits_length] at hlen
    obtain ⟨l, hl⟩ : ∃ l, l = Lib.decDigits n.natAbs := ⟨_, rfl⟩
    rw [← hl] at C hw hlen
    have e1 : ((n.natAbs : Nat) : Int) = -(n + 1) + 1 := by omega
    rw [e1] at C
    have HC := Lib.hid C
    have HW := Lib.hid hw
    clear hl C hw e1
    go_enter Tryz.func45, Tryz.ntmps45
    go_wp2_with fail
    refine (HC.out _).mono ?_
    rintro e w1 ⟨rfl, h2⟩
    have hb := below_of_drewN h2
    clear h2
    go_wp2_with fail
    all_goals first | (exfalso; omega) | skip
    go_ret
    exact ⟨congrArg (fun x => Ending.returned (.string x)) (by rw [HW.out]; exact (congrArg (· ++ _) (app_mk [105, 45] _)).trans (app_mk _ [101])), hb⟩
  · have hw : Pl.wInt n = 105 :: (Lib.decDigits n.toNat ++ [101]) := by
      unfold Pl.wInt Lib.itoa
      rw [if_neg hneg]
    have C := digits_any n.toNat (by omega)
    have hlen := Lib.nDigits_le20 n.toNat (by omega)
    rw [← Lib.decDigits_length] at hlen
    obtain ⟨l, hl⟩ : ∃ l, l = Lib.decDigits n.toNat := ⟨_, rfl⟩
    rw [← hl] at C hw hlen
    have e1 : ((n.toNat : Nat) : Int) = n := by omega
    rw [e1] at C
    have HC := Lib.hid C
    have HW := Lib.hid hw
    clear hl C hw e1
    go_enter Tryz.func45, Tryz.ntmps45
    go_wp2_with fail
    refine (HC.out _).mono ?_
    rintro e w1 ⟨rfl, h2⟩
    have hb := below_of_drewN h2
    clear h2
    go_wp2_with fail
    all_goals first | (exfalso; omega) | skip
    go_ret
    exact ⟨congrArg (fun x => Ending.returned (.string x)) (by rw [HW.out]; exact (congrArg (· ++ _) (app_mk [105] _)).trans (app_mk _ [101])), hb⟩

end Go.Proofs.YtmkinnheoejphaaGreatDoor
