/- THE CONTRACTS of the laws' Ints, great, awake. -/
import Derived.Test.YtaefcbgmljaleaaShO
import Derived.Deep.QuietTactic
import Derived.BigQuiet
namespace Go.Proofs.Ytaefcbgmljaleaa
open Go.RowKit

theorem Rds.lit {w : World} {n size : Nat} {cs : List Value} (e : TypeId) (h : cs.length = n * size) : Rds (fun b => b = w.heap.size) (w.alloc (.cells cs.toArray e)) (.slice (some ⟨w.heap.size, 0, none⟩) n n) size n cs :=
  ⟨h, .inr ⟨_, _, rfl, fun _ => ⟨_, 0, rfl, rfl, by simp, fun j x hj => (Blk.new w _ e).cell (by rw [Nat.zero_add, List.getElem?_toArray]; exact hj)⟩⟩⟩
theorem nums_at {A : Nat → Prop} {w : World} {v : Value} {m : Nat} {zs : List Int} (h : Rds A w v 1 m (zs.map (Value.int .i64))) {j : Nat} {z : Int} (hm : 0 < m) (hj : zs[j]? = some z) : ∃ b p cap, v = .slice (some ⟨b, p, none⟩) m cap ∧ A b ∧ b < w.heap.size ∧ w.cell? ⟨b, p + j, none⟩ = some (.int .i64 z) := by
  obtain ⟨b, p, cap, h1, h2, h3, h4⟩ := Rds.at h hm
  exact ⟨b, p, cap, h1, h2, h3, h4 j _ (by rw [List.getElem?_map, hj]; rfl)⟩
def IntsOut (w : World) (xs ys : List Int) (e : Ending) (w' : World) : Prop := e = .returned (.bool (decide (xs = ys))) ∧ ∃ n, w' = w.drewN n
theorem ext_upto {xs ys : List Int} {n : Nat} (hx : xs.length = n) (hy : ys.length = n) (h : ∀ j, j < n → xs[j]? = ys[j]?) : xs = ys := by
  apply List.ext_getElem?
  intro j
  by_cases hj : j < n
  · exact h j hj
  · rw [List.getElem?_eq_none (by omega), List.getElem?_eq_none (by omega)]
set_option maxHeartbeats 2000000 in
theorem ints_any {A B : Nat → Prop} (u v : Value) (xs ys : List Int) (w : World) (hu : Rds A w u 1 xs.length (xs.map (Value.int .i64))) (hv : Rds B w v 1 ys.length (ys.map (Value.int .i64))) (hle : xs.length ≤ 1048576) :
    Calls Try.prog 12 #[u, v] w fun e w' => IntsOut w xs ys e w' := by
  obtain ⟨a1, c1, rfl⟩ := Rds.form hu
  obtain ⟨a2, c2, rfl⟩ := Rds.form hv
  obtain ⟨m, hm⟩ : ∃ m, xs.length = m := ⟨_, rfl⟩
  obtain ⟨n, hn⟩ : ∃ n, ys.length = n := ⟨_, rfl⟩
  have HU := Lib.hid hu
  have HV := Lib.hid hv
  have HM := Lib.hid hm
  have HN := Lib.hid hn
  rw [hm] at HU hle ⊢
  rw [hn] at HV ⊢
  clear hu hv hm hn
  by_cases hmn : m = n
  · subst hmn
    go_enter Try.func12, Try.ntmps12
    go_wp2_with fail
    go_loopw [5] (fun iv wr => ∃ (i q : Nat), i ≤ m ∧ iv = .int .i64 i ∧ wr = w.drewN q ∧ ∀ j, j < i → xs[j]? = ys[j]?) (fun iv _ => m - (intOf iv).toNat)
    case atStart => exact ⟨0, 0, Nat.zero_le _, rfl, rfl, fun j hj => by omega⟩
    case round =>
      obtain ⟨i, q, hi, rfl, rfl, hok⟩ := hrel
      have HOK := Lib.hid hok
      clear hok
      by_cases hlt : i < m
      · obtain ⟨x, hx⟩ : ∃ x, xs[i]? = some x := ⟨_, List.getElem?_eq_getElem (by rw [HM.out]; exact hlt)⟩
        obtain ⟨y, hy⟩ : ∃ y, ys[i]? = some y := ⟨_, List.getElem?_eq_getElem (by rw [HN.out]; exact hlt)⟩
        obtain ⟨b1, p1, k1, e1, -, -, d1⟩ := nums_at HU.out (by omega) hx
        obtain ⟨b2, p2, k2, e2, -, -, d2⟩ := nums_at HV.out (by omega) hy
        obtain rfl : a1 = some ⟨b1, p1, none⟩ := by injection e1
        obtain rfl : a2 = some ⟨b2, p2, none⟩ := by injection e2
        have HX := Lib.hid hx
        have HY := Lib.hid hy
        have i0 : (0 : Int) ≤ (i : Int) := by omega
        have i1 : (i : Int) < (m : Int) := by omega
        clear e1 e2 hx hy
        by_cases hxy : x = y
        · have HNX : Hid (∀ j, j < i + 1 → xs[j]? = ys[j]?) := Lib.hid fun j hj => by
            by_cases h : j = i
            · subst h; rw [HX.out, HY.out, hxy]
            · exact HOK.out j (by omega)
          subst hxy
          go_wp2_with fail
          go_quiet (fail)
          go_wp2_with fail
          go_roundw
          case rel => exact ⟨i + 1, _, by omega, by go_num, rfl, HNX.out⟩
          case measure => simp [intOf]; omega
        · have HD : Hid (decide (xs = ys) = false) := Lib.hid (decide_eq_false fun e => by
            have h1 := HX.out
            rw [e, HY.out] at h1
            exact hxy (Option.some.inj h1).symm)
          have hne : (x == y) = false := by simp [hxy]
          have hne2 : (x != y) = true := by simp [hxy]
          clear hxy
          go_wp2_with fail
          go_quiet (fail)
          go_wp2_with fail
          go_ret
          exact ⟨by rw [HD.out]; rfl, q + nq, by simp⟩
      · have HD : Hid (decide (xs = ys) = true) := Lib.hid (decide_eq_true (ext_upto HM.out HN.out fun j hj => HOK.out j (by omega)))
        go_wp2_with fail
        go_ret
        exact ⟨by rw [HD.out]; rfl, _, rfl⟩
  · have HD : Hid (decide (xs = ys) = false) := Lib.hid (decide_eq_false fun e => hmn (by rw [← HM.out, ← HN.out, e]))
    have hne : ((m : Int) == (n : Int)) = false := by simp; omega
    have hne2 : ((m : Int) != (n : Int)) = true := by simp; omega
    go_enter Try.func12, Try.ntmps12
    go_wp2_with fail
    go_ret
    exact ⟨by rw [HD.out]; rfl, 0, rfl⟩

def GrtOut (w : World) (n : Nat) (e : Ending) (w' : World) : Prop := ∃ g, e = .returned (.bool g) ∧ w = w' ∧ (g = false → n ≤ 50)
set_option maxHeartbeats 2000000 in
theorem great_any {A : Nat → Prop} (v : Value) (L : List ByteArray) (w : World) (h : Nms A w v L) : Calls Try.prog 7 #[v] w fun e w' => GrtOut w L.length e w' := by
  obtain ⟨a, cap, rfl⟩ := h.form
  obtain ⟨m, hm⟩ : ∃ m, L.length = m := ⟨_, rfl⟩
  have HV := Lib.hid h
  have HM := Lib.hid hm
  rw [hm]
  clear h hm
  go_enter Try.func7, Try.ntmps7
  by_cases g0 : 50 < m
  · have hd : decide ((50 : Int) < (m : Int)) = true := by simp; omega
    go_wp2_with fail
    go_ret
    exact ⟨true, rfl, rfl, fun h => by cases h⟩
  have hd : decide ((50 : Int) < (m : Int)) = false := by simp; omega
  go_wp2_with fail
  go_loop [3] (fun iv => ∃ i : Nat, i ≤ m ∧ iv = .int .i64 i) (fun iv => m - (intOf iv).toNat)
  case atStart => exact ⟨0, Nat.zero_le _, rfl⟩
  case round =>
    obtain ⟨i, hi, rfl⟩ := hrel
    by_cases hlt : i < m
    · obtain ⟨x, hx⟩ : ∃ x, L[i]? = some x := ⟨_, List.getElem?_eq_getElem (by rw [HM.out]; exact hlt)⟩
      obtain ⟨b, p, cap', e, -, -, c0⟩ := HV.out.at hx
      obtain rfl : a = some ⟨b, p, none⟩ := by injection e
      obtain ⟨z, hz⟩ : ∃ z, x.size = z := ⟨_, rfl⟩
      have i0 : (0 : Int) ≤ (i : Int) := by omega
      have i1 : (i : Int) < (m : Int) := by omega
      clear e hx
      by_cases hb : 1000 < z
      · have h1 : decide ((1000 : Int) < (z : Int)) = true := by simp; omega
        go_wp2_with fail
        go_ret
        exact ⟨true, rfl, rfl, fun h => by cases h⟩
      · have h1 : decide ((1000 : Int) < (z : Int)) = false := by simp; omega
        go_wp2_with fail
        go_round
        case rel => exact ⟨i + 1, by omega, by go_num⟩
        case measure => simp [intOf]; omega
    · go_wp2_with fail
      go_ret
      exact ⟨false, rfl, rfl, fun _ => by omega⟩
end Go.Proofs.Ytaefcbgmljaleaa
