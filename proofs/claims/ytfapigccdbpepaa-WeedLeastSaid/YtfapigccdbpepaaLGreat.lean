/- THE CONTRACTS of the laws' great, small. -/
import Derived.Test.YtfapigccdbpepaaLKit
namespace Go.Proofs.Ytfapigccdbpepaa
open Go.RowKit

/-- A record that isn't too great. -/
def okR (x : Pl.Rc) : Prop := x.key.length ≤ 200 ∧ x.val.length ≤ 200
def Eqw2 (w w' : World) : Prop := w' = w
set_option maxRecDepth 100000 in
set_option maxHeartbeats 2000000 in
theorem small_any {A : Nat → Prop} (v : Value) (zs : List Pl.Rc) (w : World) (h : RcIn A w v zs) :
    Calls Try.prog 20 #[v] w fun e w' => ∃ g, e = .returned (.bool g) ∧ Eqw2 w w' ∧ (g = true → ∀ j x, j < 40 → zs[j]? = some x → okR x) := by
  obtain ⟨a, cap, rfl, hc⟩ := h.recs
  obtain ⟨N, hN⟩ : ∃ N, zs.length = N := ⟨_, rfl⟩
  have HN := Lib.hid hN
  have HC := Lib.hid hc
  rw [hN]
  clear h hc hN
  go_enter Try.func20, Try.ntmps20
  go_wp2_with fail
  go_loopw [3] (fun iv wr => ∃ i : Nat, i ≤ N ∧ i ≤ 40 ∧ iv = .int .i64 i ∧ Eqw2 w wr ∧ (∀ j x, j < i → zs[j]? = some x → okR x)) (fun iv _ => 40 - (intOf iv).toNat)
  case atStart => exact ⟨0, Nat.zero_le _, by omega, rfl, rfl, fun j x hj => by omega⟩
  case round =>
    obtain ⟨i, hi, hi40, rfl, hw, hok⟩ := hrel
    have hwe : wr = w := hw
    subst hwe
    have HOK := Lib.hid hok
    clear hok hw
    by_cases hlt : i < N
    · by_cases hl40 : i < 40
      · obtain ⟨x, hx⟩ : ∃ x, zs[i]? = some x := ⟨_, List.getElem?_eq_getElem (by rw [HN.out]; exact hlt)⟩
        obtain ⟨b, o, rfl, hbl, c0, c1, c2, c3⟩ := HC.out i x hx
        obtain ⟨off, key, val, gone⟩ := x
        have i0 : (0 : Int) ≤ (i : Int) := by omega
        have i1 : (i : Int) < (N : Int) := by omega
        have hdl : decide ((i : Int) < (N : Int)) = true := by simp; omega
        have hd40 : decide ((i : Int) < 40) = true := by simp; omega
        have HX := Lib.hid hx
        obtain ⟨kl, hkl⟩ : ∃ kl, (⟨key.toArray⟩ : ByteArray).size = kl := ⟨_, rfl⟩
        obtain ⟨vl, hvl⟩ : ∃ vl, (⟨val.toArray⟩ : ByteArray).size = vl := ⟨_, rfl⟩
        have HKL : Hid (key.length = kl) := Lib.hid (by rw [← hkl]; simp [ByteArray.size])
        have HVL : Hid (val.length = vl) := Lib.hid (by rw [← hvl]; simp [ByteArray.size])
        simp only at c0 c1 c2 c3
        clear hx hbl
        by_cases g1 : 200 < kl
        · have h1 : decide ((200 : Int) < (kl : Int)) = true := by simp; omega
          go_wp2_with fail
          go_ret
          exact ⟨false, rfl, rfl, fun h => by cases h⟩
        · have h1 : decide ((200 : Int) < (kl : Int)) = false := by simp; omega
          by_cases g2 : 200 < vl
          · have h2 : decide ((200 : Int) < (vl : Int)) = true := by simp; omega
            go_wp2_with fail
            go_ret
            exact ⟨false, rfl, rfl, fun h => by cases h⟩
          · have h2 : decide ((200 : Int) < (vl : Int)) = false := by simp; omega
            have HNX : Hid (∀ j x, j < i + 1 → zs[j]? = some x → okR x) := Lib.hid fun j x hj hxj => by
              by_cases hji : j = i
              · subst hji
                rw [HX.out] at hxj
                cases hxj
                exact ⟨by rw [HKL.out]; omega, by rw [HVL.out]; omega⟩
              · exact HOK.out j x (by omega) hxj
            clear g1 g2
            go_wp2_with fail
            go_roundw
            case rel => exact ⟨i + 1, by omega, by omega, by go_num, rfl, HNX.out⟩
            case measure => simp [intOf]; omega
      · have hdl : decide ((i : Int) < (N : Int)) = true := by simp; omega
        have hd40 : decide ((i : Int) < 40) = false := by simp; omega
        go_wp2_with fail
        go_ret
        exact ⟨true, rfl, rfl, fun _ j x hj => HOK.out j x (by omega)⟩
    · have hdl : decide ((i : Int) < (N : Int)) = false := by simp; omega
      go_wp2_with fail
      go_ret
      exact ⟨true, rfl, rfl, fun _ j x hj hx => HOK.out j x (by have := (List.getElem?_eq_some_iff.1 hx).1; rw [HN.out] at this; omega) hx⟩

/-- A batch that isn't too great. -/
def okB (b : Pl.Bt) : Prop := b.recs.length ≤ 12 ∧ ∀ (j : Nat) (x : Pl.Rc), b.recs[j]? = some x → okR x
set_option maxRecDepth 100000 in
set_option maxHeartbeats 4000000 in
theorem great_any {A : Nat → Prop} (v : Value) (L : List (Pl.Bt × Value)) (w : World) (h : BtIn A w v L) :
    Calls Try.prog 11 #[v] w fun e w' => ∃ g, e = .returned (.bool g) ∧ Eqw2 w w' ∧ (g = false → L.length ≤ 30 ∧ ∀ (j : Nat) (p : Pl.Bt × Value), L[j]? = some p → okB p.1) := by
  obtain ⟨a1, cap1, rfl⟩ := h.form
  obtain ⟨m, hm⟩ : ∃ m, L.length = m := ⟨_, rfl⟩
  have HV := Lib.hid h
  have HM := Lib.hid hm
  rw [hm] at HV ⊢
  clear h hm
  go_enter Try.func11, Try.ntmps11
  by_cases g0 : 30 < m
  · have hd : decide ((30 : Int) < (m : Int)) = true := by simp; omega
    go_wp2_with fail
    go_ret
    exact ⟨true, rfl, rfl, fun h => by cases h⟩
  have hd : decide ((30 : Int) < (m : Int)) = false := by simp; omega
  go_wp2_with fail
  go_loopw [3, 4] (fun iv _ wr => ∃ i : Nat, i ≤ m ∧ iv = .int .i64 i ∧ Eqw2 w wr ∧ (∀ (j : Nat) (p : Pl.Bt × Value), j < i → L[j]? = some p → okB p.1)) (fun iv _ _ => m - (intOf iv).toNat)
  case atStart => exact ⟨0, Nat.zero_le _, rfl, rfl, fun j x hj => by omega⟩
  case round =>
    obtain ⟨i, hi, rfl, hw, hok⟩ := hrel
    have hwe : w = wr := hw.symm
    subst hwe
    have HOK := Lib.hid hok
    clear hok hw
    by_cases hlt : i < m
    · obtain ⟨⟨⟨tb, tc, tp, ts, tt, ls⟩, sv⟩, hg⟩ : ∃ q, L[i]? = some q := ⟨_, List.getElem?_eq_getElem (by rw [HM.out]; exact hlt)⟩
      obtain ⟨b1, o1, cp1, e1, -, -, c0, c1, c2, c3, c4, c5, hr1⟩ := HV.out.get hg
      obtain rfl : a1 = some ⟨b1, o1, none⟩ := by injection e1
      obtain ⟨a2, cap2, rfl⟩ := hr1.slice
      obtain ⟨n, hn⟩ : ∃ n, ls.length = n := ⟨_, rfl⟩
      rw [hn] at hr1 c5
      have HR1 := Lib.hid hr1
      have HNN := Lib.hid hn
      have HG := Lib.hid hg
      have i0 : (0 : Int) ≤ (i : Int) := by omega
      have i1 : (i : Int) < (m : Int) := by omega
      clear hn hg hr1 e1 c0 c1 c2 c3 c4
      by_cases g1 : 12 < n
      · have h1 : decide ((12 : Int) < (n : Int)) = true := by simp; omega
        go_wp2_with fail
        go_ret
        exact ⟨true, rfl, rfl, fun h => by cases h⟩
      have h1 : decide ((12 : Int) < (n : Int)) = false := by simp; omega
      go_wp2_with fail
      go_loopw [4] (fun kv wr' => ∃ k : Nat, k ≤ n ∧ kv = .int .i64 k ∧ Eqw2 w wr' ∧ (∀ (j : Nat) (x : Pl.Rc), j < k → ls[j]? = some x → okR x)) (fun kv _ => n - (intOf kv).toNat)
      case atStart => exact ⟨0, Nat.zero_le _, rfl, rfl, fun j x hj => by omega⟩
      case round =>
        obtain ⟨k, hk, rfl, hw, hok2⟩ := hrel
        have hwe : w = wr := hw.symm
        subst hwe
        have HOK2 := Lib.hid hok2
        clear hok2 hw
        by_cases hkn : k < n
        · obtain ⟨x, hy⟩ : ∃ y, ls[k]? = some y := ⟨_, List.getElem?_eq_getElem (by rw [HNN.out]; exact hkn)⟩
          obtain ⟨a3, cap3, e3, hrc⟩ := HR1.out.recs
          rw [HNN.out] at e3
          have hrc2 : a2 = a3 := by injection e3
          subst hrc2
          obtain ⟨b3, o3, rfl, hbl3, d0, d1, d2, d3⟩ := hrc k _ hy
          obtain ⟨off, key, val, gone⟩ := x
          have HY := Lib.hid hy
          obtain ⟨kl, hkl⟩ : ∃ kl, (⟨key.toArray⟩ : ByteArray).size = kl := ⟨_, rfl⟩
          obtain ⟨vl, hvl⟩ : ∃ vl, (⟨val.toArray⟩ : ByteArray).size = vl := ⟨_, rfl⟩
          have HKL : Hid (key.length = kl) := Lib.hid (by rw [← hkl]; simp [ByteArray.size])
          have HVL : Hid (val.length = vl) := Lib.hid (by rw [← hvl]; simp [ByteArray.size])
          have k0 : (0 : Int) ≤ (k : Int) := by omega
          have k1 : (k : Int) < (n : Int) := by omega
          simp only at d0 d1 d2 d3
          clear hrc e3 hy hbl3 d0 d3
          by_cases g2 : 200 < kl
          · have h2 : decide ((200 : Int) < (kl : Int)) = true := by simp; omega
            go_wp2_with fail
            go_ret
            exact ⟨true, rfl, rfl, fun h => by cases h⟩
          have h2 : decide ((200 : Int) < (kl : Int)) = false := by simp; omega
          by_cases g3 : 200 < vl
          · have h3 : decide ((200 : Int) < (vl : Int)) = true := by simp; omega
            go_wp2_with fail
            go_ret
            exact ⟨true, rfl, rfl, fun h => by cases h⟩
          have h3 : decide ((200 : Int) < (vl : Int)) = false := by simp; omega
          have HNX : Hid (∀ (j : Nat) (x : Pl.Rc), j < k + 1 → ls[j]? = some x → okR x) := Lib.hid fun j x hj hxj => by
            by_cases hjk : j = k
            · subst hjk
              rw [HY.out] at hxj
              cases hxj
              exact ⟨by rw [HKL.out]; omega, by rw [HVL.out]; omega⟩
            · exact HOK2.out j x (by omega) hxj
          clear g2 g3
          go_wp2_with fail
          go_roundw
          case rel => exact ⟨k + 1, by omega, by go_num, rfl, HNX.out⟩
          case measure => simp [intOf]; omega
        · have HNX : Hid (∀ (j : Nat) (p : Pl.Bt × Value), j < i + 1 → L[j]? = some p → okB p.1) := Lib.hid fun j p hj hpj => by
            by_cases hji : j = i
            · subst hji
              rw [HG.out] at hpj
              cases hpj
              exact ⟨by rw [HNN.out]; omega, fun q x hx => HOK2.out q x (by have := (List.getElem?_eq_some_iff.1 hx).1; rw [HNN.out] at this; omega) hx⟩
            · exact HOK.out j p (by omega) hpj
          go_wp2_with fail
          go_roundw
          case rel => exact ⟨i + 1, by omega, by go_num, rfl, HNX.out⟩
          case measure => simp [intOf]; omega
    · have HF : Hid (∀ (j : Nat) (p : Pl.Bt × Value), L[j]? = some p → okB p.1) := Lib.hid fun j p hp => HOK.out j p (by have := (List.getElem?_eq_some_iff.1 hp).1; rw [HM.out] at this; omega) hp
      go_wp2_with fail
      go_ret
      exact ⟨false, rfl, rfl, fun _ => ⟨by omega, HF.out⟩⟩
end Go.Proofs.Ytfapigccdbpepaa
