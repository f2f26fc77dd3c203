/- THE CONTRACT of slices.IndexFunc over records, with the closure of Thin. -/
import Derived.Test.YtfapigccdbpepaaDClone
import Derived.Test.YtfapigccdbpepaaCRecs
namespace Go.Proofs.Ytfapigccdbpepaa
open Go.RowKit

/-- The first record that isn't in l. -/
def FirstOut (kp : Pl.Rc → Bool) (L : List Pl.Rc) (i : Int) : Prop :=
  (i = -1 ∧ ∀ x ∈ L, kp x = true) ∨ ∃ k : Nat, i = k ∧ k < L.length ∧ (∀ j y, j < k → L[j]? = some y → kp y = true) ∧ ∀ y, L[k]? = some y → kp y = false
set_option maxHeartbeats 1000000 in
set_option maxRecDepth 100000 in
theorem indexF_any {A' : Nat → Prop} (bh bm bt : Nat) (v : Value) (kp : Pl.Rc → Bool) (L : List Pl.Rc) (w : World) (hcl : ∀ x ∈ L, ∀ wx, Below w.heap.size w wx → Calls Try.prog 27 #[.agg #[.int .i64 x.off, .string ⟨x.key.toArray⟩, .string ⟨x.val.toArray⟩, .bool x.gone], .pointer (some ⟨bh, 0, none⟩), .pointer (some ⟨bm, 0, none⟩), .pointer (some ⟨bt, 0, none⟩)] wx fun e w' => e = .returned (.bool (!kp x)) ∧ Below wx.heap.size wx w') (hv : RcIn A' w v L) (hL : L.length ≤ 1048576) :
    Calls Try.prog 41 #[v, .func (.func 27) #[] #[.pointer (some ⟨bh, 0, none⟩), .pointer (some ⟨bm, 0, none⟩), .pointer (some ⟨bt, 0, none⟩)]] w fun e w' => ∃ i : Int, e = .returned (.int .i64 i) ∧ FirstOut kp L i ∧ Below w.heap.size w w' := by
  obtain ⟨va, vc, rfl⟩ := Rds.form hv
  obtain ⟨m, hm⟩ : ∃ m, L.length = m := ⟨_, rfl⟩
  have HM := Lib.hid hm
  have HV := Lib.hid hv
  have HMI := Lib.hid hcl
  rw [hm] at hL ⊢
  clear hcl hv hm
  go_enter Try.func41, Try.ntmps41
  go_wp2_with fail
  go_loopw [5, 8] (fun _ iv wr => ∃ k : Nat, k ≤ m ∧ iv = .int .i64 k ∧ (∀ j y, j < k → L[j]? = some y → kp y = true) ∧ Below w.heap.size w wr) (fun _ iv _ => m - (intOf iv).toNat)
  case atStart => exact ⟨0, Nat.zero_le _, rfl, fun j y h => absurd h (Nat.not_lt_zero _), Below.refl _ _⟩
  case round =>
    obtain ⟨k, hk, rfl, hno, hbw⟩ := hrel
    have HNO := Lib.hid hno
    have HBW := Lib.hid hbw
    clear hno hbw
    by_cases hlt : k < m
    · have hdk : decide ((k : Int) < (m : Int)) = true := by simp; omega
      obtain ⟨y, hg⟩ : ∃ y, L[k]? = some y := ⟨_, List.getElem?_eq_getElem (by rw [HM.out]; exact hlt)⟩
      obtain ⟨a1, cap1, e1, hc⟩ := RcIn.recs (HV.out.below HBW.out)
      obtain ⟨b, off, rfl, hbl, c0, c1, c2, c3⟩ := hc k y hg
      have e1' : va = some ⟨b, off, none⟩ := by injection e1
      subst e1'
      have HG := Lib.hid hg
      have HCM := Lib.hid (HMI.out y (List.mem_of_getElem? HG.out) wr HBW.out)
      obtain ⟨q, hq⟩ : ∃ q, (!kp y) = q := ⟨_, rfl⟩
      have HQ := Lib.hid hq
      rw [hq] at HCM
      have k0 : (0 : Int) ≤ (k : Int) := by omega
      have k1 : (k : Int) < (m : Int) := by omega
      clear hg hbl hc e1 hq
      go_wp2_with fail
      refine HCM.out.mono ?_
      rintro e w2 ⟨rfl, hb2⟩
      have HB2 := Lib.hid (HBW.out.trans (hb2.mono HBW.out.size))
      clear hb2
      cases q with
      | true =>
        have he : kp y = false := by have := HQ.out; simpa using this
        have HF : Hid (FirstOut kp L k) := Lib.hid (.inr ⟨k, rfl, by rw [HM.out]; exact hlt, HNO.out, fun z hz => by rw [HG.out] at hz; exact Option.some.inj hz ▸ he⟩)
        clear he
        go_wp2_with fail
        go_ret
        exact ⟨_, rfl, HF.out, HB2.out⟩
      | false =>
        have he : kp y = true := by have := HQ.out; simpa using this
        have HF : Hid (∀ j z, j < k + 1 → L[j]? = some z → kp z = true) := Lib.hid fun j z hj hz => by
          by_cases hjk : j = k
          · subst hjk
            rw [HG.out] at hz
            exact Option.some.inj hz ▸ he
          · exact HNO.out j z (by omega) hz
        clear he
        go_wp2_with fail
        go_roundw
        case rel => exact ⟨k + 1, by omega, by go_num, HF.out, HB2.out⟩
        case measure => simp [intOf]; omega
    · have hdk : decide ((k : Int) < (m : Int)) = false := by simp; omega
      have HF : Hid (FirstOut kp L (-1)) := Lib.hid (.inl ⟨rfl, fun x hx => by
        obtain ⟨j, hj⟩ := List.getElem?_of_mem hx
        have hjl := (List.getElem?_eq_some_iff.1 hj).1
        exact HNO.out j x (by rw [HM.out] at hjl; omega) hj⟩)
      go_wp2_with fail
      go_ret
      exact ⟨_, rfl, HF.out, HBW.out⟩
end Go.Proofs.Ytfapigccdbpepaa
