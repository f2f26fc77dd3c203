/- THE CONTRACTS of the document's Ints, Places, Same (of equal plans), of the laws' in. -/
import Derived.Test.YtmkinnheoejphaaGreatDoorPnL
import Derived.Deep.QuietTactic
import Derived.BigQuiet
import Derived.Lib.QuietBelow
namespace Go.Proofs.YtmkinnheoejphaaGreatDoor
open Go.RowKit

theorem nums_at {A : Nat → Prop} {w : World} {v : Value} {m : Nat} {zs : List Int} (h : Rds A w v 1 m (zs.map (Value.int .i64))) {j : Nat} {z : Int} (hm : 0 < m) (hj : zs[j]? = some z) : ∃ b p cap, v = .slice (some ⟨b, p, none⟩) m cap ∧ A b ∧ b < w.heap.size ∧ w.cell? ⟨b, p + j, none⟩ = some (.int .i64 z) := by
  obtain ⟨b, p, cap, h1, h2, h3, h4⟩ := Rds.at h hm
  exact ⟨b, p, cap, h1, h2, h3, h4 j _ (by rw [List.getElem?_map, hj]; rfl)⟩
def IntsOut (w : World) (xs ys : List Int) (e : Ending) (w' : World) : Prop := e = .returned (.bool (decide (xs = ys))) ∧ ∃ n, w' = w.drewN n
theorem ext_upto {xs ys : List Int} {n : Nat} (hx : xs.length = n) (hy : ys.length = n) (h : ∀ j, j < n → xs[j]? = ys[j]?) : xs = ys := by
  apply List.ext_getElem?
  intro j
  by_cases hj : j < n
  · exact h j hj
  · rw [List.getElem?_eq_none (by omega), List.getElem?_eq_none (by omega)]
set_option maxHeartbeats 2000000 in
set_option maxRecDepth 100000 in
theorem ints_any {A B : Nat → Prop} (u v : Value) (xs ys : List Int) (w : World) (hu : Rds A w u 1 xs.length (xs.map (Value.int .i64))) (hv : Rds B w v 1 ys.length (ys.map (Value.int .i64))) (hle : xs.length ≤ 1048576) :
    Calls Tryz.prog 12 #[u, v] w fun e w' => IntsOut w xs ys e w' := by
  obtain ⟨a1, c1, rfl⟩ := Rds.form hu
  obtain ⟨a2, c2, rfl⟩ := Rds.form hv
  obtain ⟨m, hm⟩ : ∃ m, xs.length = m := ⟨_, rfl⟩
  obtain ⟨n, hn⟩ : ∃ n, ys.length = n := ⟨_, rfl⟩
  have HU := Lib.hid hu
  have HV := Lib.hid hv
  have HM := Lib.hid hm
  have HN := Lib.hid hn
  rw [hm] at HU hle ⊢
  rw [hn] at HV ⊢
  clear hu hv hm hn
  by_cases hmn : m = n
  · subst hmn
    go_enter Tryz.func12, Tryz.ntmps12
    go_wp2_with fail
    go_loopw [5] (fun iv wr => ∃ (i q : Nat), i ≤ m ∧ iv = .int .i64 i ∧ wr = w.drewN q ∧ ∀ j, j < i → xs[j]? = ys[j]?) (fun iv _ => m - (intOf iv).toNat)
    case atStart => exact ⟨0, 0, Nat.zero_le _, rfl, rfl, fun j hj => by omega⟩
    case round =>
      obtain ⟨i, q, hi, rfl, rfl, hok⟩ := hrel
      have HOK := Lib.hid hok
      clear hok
      by_cases hlt : i < m
      · obtain ⟨x, hx⟩ : ∃ x, xs[i]? = some x := ⟨_, List.getElem?_eq_getElem (by rw [HM.out]; exact hlt)⟩
        obtain ⟨y, hy⟩ : ∃ y, ys[i]? = some y := ⟨_, List.getElem?_eq_getElem (by rw [HN.out]; exact hlt)⟩
        obtain ⟨b1, p1, k1, e1, -, -, d1⟩ := nums_at HU.out (by omega) hx
        obtain ⟨b2, p2, k2, e2, -, -, d2⟩ := nums_at HV.out (by omega) hy
        obtain rfl : a1 = some ⟨b1, p1, none⟩ := by injection e1
        obtain rfl : a2 = some ⟨b2, p2, none⟩ := by injection e2
        have HX := Lib.hid hx
        have HY := Lib.hid hy
        have i0 : (0 : Int) ≤ (i : Int) := by omega
        have i1 : (i : Int) < (m : Int) := by omega
        clear e1 e2 hx hy
        by_cases hxy : x = y
        · have HNX : Hid (∀ j, j < i + 1 → xs[j]? = ys[j]?) := Lib.hid fun j hj => by
            by_cases h : j = i
            · subst h; rw [HX.out, HY.out, hxy]
            · exact HOK.out j (by omega)
          subst hxy
          go_wp2_with fail
          go_quiet (fail)
          go_wp2_with fail
          go_roundw
          case rel => exact ⟨i + 1, _, by omega, by go_num, rfl, HNX.out⟩
          case measure => simp [intOf]; omega
        · have HD : Hid (decide (xs = ys) = false) := Lib.hid (decide_eq_false fun e => by
            have h1 := HX.out
            rw [e, HY.out] at h1
            exact hxy (Option.some.inj h1).symm)
          have hne : (x == y) = false := by simp [hxy]
          have hne2 : (x != y) = true := by simp [hxy]
          clear hxy
          go_wp2_with fail
          go_quiet (fail)
          go_wp2_with fail
          go_ret
          exact ⟨by rw [HD.out]; rfl, q + nq, by simp⟩
      · have HD : Hid (decide (xs = ys) = true) := Lib.hid (decide_eq_true (ext_upto HM.out HN.out fun j hj => HOK.out j (by omega)))
        go_wp2_with fail
        go_ret
        exact ⟨by rw [HD.out]; rfl, _, rfl⟩
  · have HD : Hid (decide (xs = ys) = false) := Lib.hid (decide_eq_false fun e => hmn (by rw [← HM.out, ← HN.out, e]))
    have hne : ((m : Int) == (n : Int)) = false := by simp; omega
    have hne2 : ((m : Int) != (n : Int)) = true := by simp; omega
    go_enter Tryz.func12, Tryz.ntmps12
    go_wp2_with fail
    go_ret
    exact ⟨by rw [HD.out]; rfl, 0, rfl⟩
def Pn.ptB (a b : Pn.Pt) : Bool := (a.ep == b.ep) && (a.le == b.le) && decide (a.ch = b.ch)
theorem Pn.ptB_self (a : Pn.Pt) : Pn.ptB a a = true := by simp [Pn.ptB]
theorem Blk.cells3 {w : World} {b : Nat} {a0 a1 a2 : Value} {T : TypeId} (h : Blk w b #[a0, a1, a2] T) : w.cell? ⟨b, 0, none⟩ = some a0 ∧ w.cell? ⟨b, 1, none⟩ = some a1 ∧ w.cell? ⟨b, 2, none⟩ = some a2 := ⟨h.cell rfl, h.cell rfl, h.cell rfl⟩
set_option maxHeartbeats 2000000 in
set_option maxRecDepth 100000 in
theorem places_any {A B : Nat → Prop} (a b : Pn.Pt) (u v : Value) (w : World) (hu : Ns A w u a.ch) (hv : Ns B w v b.ch) (hl : a.ch.length ≤ 64) :
    Calls Tryz.prog 38 #[ptv a u, ptv b v] w fun e w' => BolOut w (Pn.ptB a b) e w' := by
  obtain ⟨ae, ac, al⟩ := a
  obtain ⟨be, bc, bl⟩ := b
  simp only at hu hv hl
  unfold ptv
  simp only
  obtain ⟨a1, c1, rfl⟩ := hu.form
  obtain ⟨a2, c2, rfl⟩ := hv.form
  obtain ⟨D, hD⟩ : ∃ D, decide (ac = bc) = D := ⟨_, rfl⟩
  have HP : Hid (Pn.ptB ⟨ae, ac, al⟩ ⟨be, bc, bl⟩ = ((ae == be) && (al == bl) && D)) := Lib.hid (by rw [← hD]; rfl)
  obtain ⟨n1, hn1⟩ : ∃ n, ac.length = n := ⟨_, rfl⟩
  obtain ⟨n2, hn2⟩ : ∃ n, bc.length = n := ⟨_, rfl⟩
  have hI := fun wx (hb : Below w.heap.size w wx) => ints_any _ _ ac bc wx (hu.below hb) (hv.below hb) (by omega)
  unfold IntsOut at hI
  rw [hD, hn1, hn2] at hI
  rw [hn1, hn2]
  obtain ⟨W1, hW1⟩ : ∃ W, w.alloc (.cells #[.int .i64 ae, .slice a1 n1 c1, .int .i64 al] 49) = W := ⟨_, rfl⟩
  obtain ⟨W2, hW2⟩ : ∃ W, W1.alloc (.cells #[.int .i64 be, .slice a2 n2 c2, .int .i64 bl] 49) = W := ⟨_, rfl⟩
  have hb1 : Below w.heap.size w W1 := by rw [← hW1]; exact (Below.refl _ _).alloc (Nat.le_refl _) _
  have hb12 : Below W1.heap.size W1 W2 := by rw [← hW2]; exact (Below.refl _ _).alloc (Nat.le_refl _) _
  have k1 : Blk W2 w.heap.size #[.int .i64 ae, .slice a1 n1 c1, .int .i64 al] 49 := by
    refine Blk.below ?_ hb12
    rw [← hW1]; exact Blk.new _ _ _
  have k2 : Blk W2 W1.heap.size #[.int .i64 be, .slice a2 n2 c2, .int .i64 bl] 49 := by rw [← hW2]; exact Blk.new _ _ _
  have hb2 := hb1.trans (hb12.mono hb1.size)
  have HI := Lib.hid (hI W2 hb2)
  have HB2 := Lib.hid hb2
  obtain ⟨x0, x1, x2⟩ := k1.cells3
  obtain ⟨y0, y1, y2⟩ := k2.cells3
  clear hb1 hb12 k1 k2 hb2 hI hu hv hl hD hn1 hn2
  go_enter Tryz.func38, Tryz.ntmps38
  go_upto_region 1 with fail
  by_cases h1 : ae = be
  · by_cases h2 : al = bl
    · have HR : Hid (Pn.ptB ⟨ae, ac, al⟩ ⟨be, bc, bl⟩ = D) := Lib.hid (by rw [HP.out]; simp [h1, h2])
      subst h1 h2
      go_wp2_with fail
      refine HI.out.mono ?_
      rintro e w3 ⟨rfl, n, rfl⟩
      go_wp2_with fail
      go_ret
      exact ⟨by rw [HR.out]; rfl, HB2.out.trans ((below_drewN (B := W2.heap.size) W2 n).mono HB2.out.size)⟩
    · have HR : Hid (Pn.ptB ⟨ae, ac, al⟩ ⟨be, bc, bl⟩ = false) := Lib.hid (by rw [HP.out]; simp [h2])
      have hb : (al == bl) = false := by simp [h2]
      subst h1
      clear h2
      go_wp2_with fail
      go_ret
      exact ⟨by rw [HR.out]; rfl, HB2.out⟩
  · have HR : Hid (Pn.ptB ⟨ae, ac, al⟩ ⟨be, bc, bl⟩ = false) := Lib.hid (by rw [HP.out]; simp [h1])
    have hb : (ae == be) = false := by simp [h1]
    clear h1
    go_wp2_with fail
    go_ret
    exact ⟨by rw [HR.out]; rfl, HB2.out⟩
end Go.Proofs.YtmkinnheoejphaaGreatDoor
