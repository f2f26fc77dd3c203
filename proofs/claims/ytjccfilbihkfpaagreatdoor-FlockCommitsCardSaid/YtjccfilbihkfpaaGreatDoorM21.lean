import Derived.Test.YtjccfilbihkfpaaGreatDoorM20
import Derived.Deep.QuietTactic
import Derived.BigQuiet

/- THE CONTRACTS of the laws' group, member, off. -/
namespace Go.Proofs.YtjccfilbihkfpaaGreatDoor
open Go.RowKit

namespace Fk
/-- Whether a text is in a list. -/
def hasB (L : List ByteArray) (y : ByteArray) : Bool := L.any fun x => Sh.eqB x y
theorem hasB_iff {L : List ByteArray} {y : ByteArray} : hasB L y = true ↔ y ∈ L := by
  unfold hasB
  rw [List.any_eq_true]
  exact ⟨fun ⟨x, h1, h2⟩ => Sh.eqB_iff.1 h2 ▸ h1, fun h => ⟨y, h, Sh.eqB_iff.2 rfl⟩⟩
theorem hasB_not {L : List ByteArray} {y : ByteArray} (h : y ∉ L) : hasB L y = false := by
  rcases hb : hasB L y with _ | _
  · rfl
  · exact absurd (hasB_iff.1 hb) h
/-- The offset that a group's points tell of a partition; -1: none. -/
def offOf (l : List (Int × Int)) (p : Int) : Int := match l.find? (fun q => q.1 == p) with
  | none => -1
  | some q => q.2
theorem offOf_none {l : List (Int × Int)} {p : Int} (h : ∀ q ∈ l, q.1 ≠ p) : offOf l p = -1 := by
  unfold offOf
  have : l.find? (fun q => q.1 == p) = none := List.find?_eq_none.2 fun q hq => by simpa using h q hq
  rw [this]
theorem offOf_first {l : List (Int × Int)} {p : Int} {i : Nat} {q : Int × Int} (hi : l[i]? = some q) (hq : q.1 = p) (h : ∀ j x, j < i → l[j]? = some x → x.1 ≠ p) : offOf l p = q.2 := by
  unfold offOf
  have : l.find? (fun q => q.1 == p) = some q := by
    obtain ⟨hil, he⟩ := List.getElem?_eq_some_iff.1 hi
    rw [List.find?_eq_some_iff_getElem]
    refine ⟨by simpa using hq, i, hil, he, fun j hj => ?_⟩
    have := h j _ hj (List.getElem?_eq_getElem (by omega))
    simpa using this
  rw [this]
end Fk
theorem group_ret {W : World} {rb : Nat} {a0 a1 a2 a3 a4 n : Value} {tmps : Array Value} (hb : Blk W rb #[a0, a1, a2, a3, a4] 44) (h2 : tmps.getD 4 undef = .pointer (some ⟨rb, 0, none⟩)) (h3 : tmps.getD 5 undef = n) :
    (results Tryz.f16 tmps).run Tryz.prog W = .ok (.tuple #[.agg #[a0, a1, a2, a3, a4], n]) W := by
  obtain ⟨d, hd, hs⟩ := undFlock
  rw [results_cell_tmp (p := 4) (u := 5) (ty := 44) rfl, h2, h3]
  have hl := run_loadVar_row (P := Tryz.prog) W rb 44 44 #[a0, a1, a2, a3, a4] (0, 0) d hb hd (by cases d <;> exact hs) sizeFlock
  simp [asAddr, hl]
theorem str_ne {x y : ByteArray} (h : x ≠ y) : (x.toList == y.toList) = false := by
  rcases he : (x.toList == y.toList) with _ | _
  · rfl
  · exact absurd (Sh.eqB_iff.1 he) h
set_option maxHeartbeats 4000000 in
set_option maxRecDepth 100000 in
theorem member_any {A : Nat → Prop} (v : Value) (L : List ByteArray) (y : ByteArray) (w : World) (h : Nms A w v L) (hl : L.length ≤ 64) :
    Calls Tryz.prog 17 #[v, .string y] w fun e w' => SmeOut w (Fk.hasB L y) e w' := by
  obtain ⟨D, hD⟩ : ∃ D, Fk.hasB L y = D := ⟨_, rfl⟩
  rw [hD]
  have HD := Lib.hid hD
  have HV := Lib.hid h
  obtain ⟨a, cap, rfl⟩ := h.form
  obtain ⟨m, hm⟩ : ∃ m, L.length = m := ⟨_, rfl⟩
  have HM := Lib.hid hm
  rw [hm] at HV hl ⊢
  clear h hm hD
  go_enter Tryz.func17, Tryz.ntmps17
  go_wp2_with fail
  go_loop [5] (fun s5 => ∃ i : Nat, i ≤ m ∧ s5 = .int .i64 i ∧ ∀ j x, j < i → L[j]? = some x → x ≠ y) (fun s5 => m - (intOf s5).toNat)
  case atStart => exact ⟨0, Nat.zero_le _, rfl, fun j x hj => absurd hj (Nat.not_lt_zero _)⟩
  case round =>
    obtain ⟨i, hi, rfl, hno⟩ := hrel
    have HNO := Lib.hid hno
    clear hno
    by_cases hlt : i < m
    · obtain ⟨x, hx⟩ : ∃ x, L[i]? = some x := ⟨_, List.getElem?_eq_getElem (by rw [HM.out]; exact hlt)⟩
      have hv := HV.out
      rw [← HM.out] at hv
      obtain ⟨b, p, cap', ev, -, hbl, c0⟩ := hv.at hx
      rw [HM.out] at ev
      obtain rfl : a = some ⟨b, p, none⟩ := by injection ev
      have HX := Lib.hid hx
      have i0 : (0 : Int) ≤ (i : Int) := by omega
      have i1 : (i : Int) < (m : Int) := by omega
      clear ev hx hv
      by_cases he : x = y
      · have hd : (x.toList == y.toList) = true := by rw [he]; simp
        have HT : Hid (D = true) := Lib.hid (by rw [← HD.out]; exact Fk.hasB_iff.2 (by rw [← he]; exact List.mem_of_getElem? HX.out))
        go_wp2_with fail
        go_ret
        exact ⟨by rw [HT.out]; rfl, rfl⟩
      · have hd := str_ne he
        have HNX : Hid (∀ j z, j < i + 1 → L[j]? = some z → z ≠ y) := Lib.hid fun j z hj hz => by
          rcases Nat.lt_or_ge j i with h | h
          · exact HNO.out j z h hz
          · obtain rfl : j = i := by omega
            rw [HX.out] at hz
            obtain rfl := Option.some.inj hz
            exact he
        go_wp2_with fail
        go_round
        case rel => exact ⟨i + 1, by omega, by go_num, HNX.out⟩
        case measure => simp [intOf]; omega
    · have him : i = m := by omega
      have HT : Hid (D = false) := Lib.hid (by
        rw [← HD.out]
        refine Fk.hasB_not fun h => ?_
        obtain ⟨j, hj, e⟩ := List.getElem_of_mem h
        exact HNO.out j _ (by rw [HM.out] at hj; omega) (List.getElem?_eq_getElem hj) e)
      go_wp2_with fail
      go_ret
      exact ⟨by rw [HT.out]; rfl, rfl⟩
set_option maxHeartbeats 4000000 in
set_option maxRecDepth 100000 in
theorem off_any {A : Nat → Prop} (gv : Value) (g : Fk.G) (p : Int) (w : World) (h : GvAt A w gv g) (hl : g.pts.length ≤ 64) :
    Calls Tryz.prog 19 #[gv, .int .i64 p] w fun e w' => BtOut w (Fk.offOf g.pts p) e w' := by
  obtain ⟨mv, pv, rfl, hmn, hpn⟩ := h
  obtain ⟨gnm, ggen, gparts, gmem, gpts⟩ := g
  obtain ⟨a, cap, rfl⟩ := hpn.form
  simp only at hpn hl ⊢
  obtain ⟨D, hD⟩ : ∃ D, Fk.offOf gpts p = D := ⟨_, rfl⟩
  rw [hD]
  have HD := Lib.hid hD
  obtain ⟨W1, hW1⟩ : ∃ W, w.alloc (.cells #[.string gnm, .int .i64 ggen, .int .i64 gparts, mv, .slice a gpts.length cap] 44) = W := ⟨_, rfl⟩
  have hb1 : Below w.heap.size w W1 := by rw [← hW1]; exact (Below.refl _ _).alloc (Nat.le_refl _) _
  have k1 : Blk W1 w.heap.size #[.string gnm, .int .i64 ggen, .int .i64 gparts, mv, .slice a gpts.length cap] 44 := by rw [← hW1]; exact Blk.new _ _ _
  have HV := Lib.hid (Pts.below hpn hb1)
  have HB1 := Lib.hid hb1
  obtain ⟨m, hm⟩ : ∃ m, gpts.length = m := ⟨_, rfl⟩
  have HM := Lib.hid hm
  rw [hm] at HV k1 hW1 hl ⊢
  have c4 : W1.cell? ⟨w.heap.size, 4, none⟩ = some (.slice a m cap) := k1.cell rfl
  clear hmn hpn hm hD k1 hb1
  go_enter Tryz.func19, Tryz.ntmps19
  go_wp2_with fail
  go_loop [5] (fun s5 => ∃ i : Nat, i ≤ m ∧ s5 = .int .i64 i ∧ ∀ j x, j < i → gpts[j]? = some x → x.1 ≠ p) (fun s5 => m - (intOf s5).toNat)
  case atStart => exact ⟨0, Nat.zero_le _, rfl, fun j x hj => absurd hj (Nat.not_lt_zero _)⟩
  case round =>
    obtain ⟨i, hi, rfl, hno⟩ := hrel
    have HNO := Lib.hid hno
    clear hno
    by_cases hlt : i < m
    · obtain ⟨x, hx⟩ : ∃ x, gpts[i]? = some x := ⟨_, List.getElem?_eq_getElem (by rw [HM.out]; exact hlt)⟩
      have hv := HV.out
      rw [← HM.out] at hv
      obtain ⟨b, o, cap', ev, -, hbl, e0, e1⟩ := hv.at hx
      rw [HM.out] at ev
      obtain rfl : a = some ⟨b, o, none⟩ := by injection ev
      have HX := Lib.hid hx
      obtain ⟨x1, x2⟩ := x
      simp only at e0 e1
      have i0 : (0 : Int) ≤ (i : Int) := by omega
      have i1 : (i : Int) < (m : Int) := by omega
      clear ev hx hv
      by_cases he : x1 = p
      · have HT : Hid (D = x2) := Lib.hid (by rw [← HD.out]; exact Fk.offOf_first HX.out he HNO.out)
        go_wp2_with fail
        go_ret
        exact ⟨by rw [HT.out]; rfl, HB1.out⟩
      · have HNX : Hid (∀ j z, j < i + 1 → gpts[j]? = some z → z.1 ≠ p) := Lib.hid fun j z hj hz => by
          rcases Nat.lt_or_ge j i with h | h
          · exact HNO.out j z h hz
          · obtain rfl : j = i := by omega
            rw [HX.out] at hz
            obtain rfl := Option.some.inj hz
            exact he
        go_wp2_with fail
        go_round
        case rel => exact ⟨i + 1, by omega, by go_num, HNX.out⟩
        case measure => simp [intOf]; omega
    · have him : i = m := by omega
      have HT : Hid (D = -1) := Lib.hid (by
        rw [← HD.out]
        refine Fk.offOf_none fun q h => ?_
        obtain ⟨j, hj, rfl⟩ := List.getElem_of_mem h
        exact HNO.out j _ (by rw [HM.out] at hj; omega) (List.getElem?_eq_getElem hj))
      go_wp2_with fail
      go_ret
      exact ⟨by rw [HT.out]; rfl, HB1.out⟩
theorem Fk.fnd_first {L : List Fk.G} (hk : Fk.Ok L) {n : ByteArray} {i : Nat} {g : Fk.G} (hi : L[i]? = some g) (hn : g.name = n) : Fk.fnd L n = some g := by
  rw [← hn]
  exact Fk.fnd_of_mem hk (List.mem_of_getElem? hi)
theorem Fk.fnd_nowhere {L : List Fk.G} {n : ByteArray} (h : ∀ (j : Nat) (g : Fk.G), L[j]? = some g → g.name ≠ n) : Fk.fnd L n = none := by
  cases hf : Fk.fnd L n with
  | none => rfl
  | some g =>
    obtain ⟨h1, h2⟩ := Fk.fnd_some hf
    exact absurd h2 (h _ _ h1)
set_option maxHeartbeats 4000000 in
set_option maxRecDepth 100000 in
theorem group_any {A : Nat → Prop} (v : Value) (L : List Fk.G) (n : ByteArray) (w : World) (h : GsR A w v L) (hA : ∀ b, A b → b < w.heap.size) (hk : Fk.Ok L) :
    Calls Tryz.prog 16 #[v, .string n] w fun e w' => FndOut A w (Fk.fndD L n) (Fk.fnd L n).isSome e w' := by
  obtain ⟨W1, hW1⟩ : ∃ W, w.alloc (.cells #[.string ⟨#[]⟩, .int .i64 0, .int .i64 0, .slice none 0 0, .slice none 0 0] 44) = W := ⟨_, rfl⟩
  have hB1 : Below w.heap.size w W1 := by rw [← hW1]; exact (Below.refl _ _).alloc (Nat.le_refl _) _
  have hk1 : Blk W1 w.heap.size #[.string ⟨#[]⟩, .int .i64 0, .int .i64 0, .slice none 0 0, .slice none 0 0] 44 := by rw [← hW1]; exact Blk.new _ _ _
  have HV := Lib.hid (h.below hB1)
  have HB1 := Lib.hid hB1
  have HK1 := Lib.hid hk1
  have HA := Lib.hid hA
  have HOK := Lib.hid hk
  have hl := hk.len
  obtain ⟨a, cap, rfl⟩ := h.form
  obtain ⟨m, hm⟩ : ∃ m, L.length = m := ⟨_, rfl⟩
  have HM := Lib.hid hm
  rw [hm] at HV hl ⊢
  obtain ⟨c0, c1, c2, c3, c4⟩ := hk1.cells5
  have f0 := hk1.free (i := 0)
  have f1 := hk1.free (i := 1)
  have f2 := hk1.free (i := 2)
  have f3 := hk1.free (i := 3)
  have f4 := hk1.free (i := 4)
  clear h hB1 hk1 hA hk hm
  go_enter Tryz.func16, Tryz.ntmps16
  go_wp2_with fail
  go_loop [6] (fun s6 => ∃ i : Nat, i ≤ m ∧ s6 = .int .i64 i ∧ ∀ j x, j < i → L[j]? = some x → x.name ≠ n) (fun s6 => m - (intOf s6).toNat)
  case atStart => exact ⟨0, Nat.zero_le _, rfl, fun j x hj => absurd hj (Nat.not_lt_zero _)⟩
  case round =>
    obtain ⟨i, hi, rfl, hno⟩ := hrel
    have HNO := Lib.hid hno
    clear hno
    by_cases hlt : i < m
    · obtain ⟨g, hx⟩ : ∃ g, L[i]? = some g := ⟨_, List.getElem?_eq_getElem (by rw [HM.out]; exact hlt)⟩
      have hv := HV.out
      rw [← HM.out] at hv
      obtain ⟨b, p, cap', mv, pv, ev, -, hbl, hen, d0, d1, d2, d3, d4⟩ := hv.at hx
      rw [HM.out] at ev
      obtain rfl : a = some ⟨b, p, none⟩ := by injection ev
      obtain ⟨ma, mc, rfl⟩ := hen.1.form
      obtain ⟨pa, pc, rfl⟩ := hen.2.form
      have HEN := Lib.hid hen
      have HX := Lib.hid hx
      have i0 : (0 : Int) ≤ (i : Int) := by omega
      have i1 : (i : Int) < (m : Int) := by omega
      clear ev hx hv hen
      by_cases he : g.name = n
      · have hd : (g.name.toList == n.toList) = true := by rw [he]; simp
        have HT : Hid (Fk.fnd L n = some g) := Lib.hid (Fk.fnd_first HOK.out HX.out he)
        have HTD : Hid (Fk.fndD L n = g) := Lib.hid (by unfold Fk.fndD; rw [HT.out]; rfl)
        go_wp2_with fail
        have HF := HK1.out.five (.string n) (.int .i64 g.gen) (.int .i64 g.parts) (.slice ma g.mem.length mc) (.slice pa g.pts.length pc)
        refine bodyPost_ret (group_ret HF rfl rfl) rfl ?_
        rw [HT.out, HTD.out]
        exact ⟨_, rfl, ⟨_, _, by rw [← he], HEN.out.kb (five_kb _ _ _ _ _ _ _) fun c hc _ e => by have := HA.out c hc; omega⟩, (five_kb _ _ _ _ _ _ _).low HB1.out (Nat.le_refl _) HK1.out.lt⟩
      · have hd := str_ne he
        have HNX : Hid (∀ j z, j < i + 1 → L[j]? = some z → z.name ≠ n) := Lib.hid fun j z hj hz => by
          rcases Nat.lt_or_ge j i with h | h
          · exact HNO.out j z h hz
          · obtain rfl : j = i := by omega
            rw [HX.out] at hz
            obtain rfl := Option.some.inj hz
            exact he
        go_wp2_with fail
        go_round
        case rel => exact ⟨i + 1, by omega, by go_num, HNX.out⟩
        case measure => simp [intOf]; omega
    · have him : i = m := by omega
      have HT : Hid (Fk.fnd L n = none) := Lib.hid (Fk.fnd_nowhere fun j g hj => HNO.out j g (by have := (List.getElem?_eq_some_iff.1 hj).1; rw [HM.out] at this; omega) hj)
      have HTD : Hid (Fk.fndD L n = Fk.zeroG) := Lib.hid (by unfold Fk.fndD; rw [HT.out]; rfl)
      go_wp2_with fail
      refine bodyPost_ret (group_ret (HK1.out.five _ _ _ _ _) rfl rfl) rfl ?_
      rw [HT.out, HTD.out]
      exact ⟨_, rfl, GvAt.zero _ _, (five_kb _ _ _ _ _ _ _).low HB1.out (Nat.le_refl _) HK1.out.lt⟩
end Go.Proofs.YtjccfilbihkfpaaGreatDoor

/- THE CONTRACTS of the document's Ints and Resps, of two answers that are the same. -/
namespace Go.Proofs.YtjccfilbihkfpaaGreatDoor
open Go.RowKit

theorem Rds.lit {w : World} {n size : Nat} {cs : List Value} (e : TypeId) (h : cs.length = n * size) : Rds (fun b => b = w.heap.size) (w.alloc (.cells cs.toArray e)) (.slice (some ⟨w.heap.size, 0, none⟩) n n) size n cs :=
  ⟨h, .inr ⟨_, _, rfl, Nat.le_refl _, fun _ => ⟨_, 0, rfl, rfl, by simp, fun j x hj => (Blk.new w _ e).cell (by rw [Nat.zero_add, List.getElem?_toArray]; exact hj)⟩⟩⟩
theorem nums_at {A : Nat → Prop} {w : World} {v : Value} {m : Nat} {zs : List Int} (h : Rds A w v 1 m (zs.map (Value.int .i64))) {j : Nat} {z : Int} (hm : 0 < m) (hj : zs[j]? = some z) : ∃ b p cap, v = .slice (some ⟨b, p, none⟩) m cap ∧ A b ∧ b < w.heap.size ∧ w.cell? ⟨b, p + j, none⟩ = some (.int .i64 z) := by
  obtain ⟨b, p, cap, h1, h2, h3, h4⟩ := Rds.at h hm
  exact ⟨b, p, cap, h1, h2, h3, h4 j _ (by rw [List.getElem?_map, hj]; rfl)⟩
def IntsOut (w : World) (xs ys : List Int) (e : Ending) (w' : World) : Prop := e = .returned (.bool (decide (xs = ys))) ∧ ∃ n, w' = w.drewN n
theorem ext_upto {xs ys : List Int} {n : Nat} (hx : xs.length = n) (hy : ys.length = n) (h : ∀ j, j < n → xs[j]? = ys[j]?) : xs = ys := by
  apply List.ext_getElem?
  intro j
  by_cases hj : j < n
  · exact h j hj
  · rw [List.getElem?_eq_none (by omega), List.getElem?_eq_none (by omega)]
set_option maxHeartbeats 2000000 in
set_option maxRecDepth 100000 in
theorem ints_any {A B : Nat → Prop} (u v : Value) (xs ys : List Int) (w : World) (hu : Rds A w u 1 xs.length (xs.map (Value.int .i64))) (hv : Rds B w v 1 ys.length (ys.map (Value.int .i64))) (hle : xs.length ≤ 1048576) :
    Calls Tryz.prog 37 #[u, v] w fun e w' => IntsOut w xs ys e w' := by
  obtain ⟨a1, c1, rfl⟩ := Rds.form hu
  obtain ⟨a2, c2, rfl⟩ := Rds.form hv
  obtain ⟨m, hm⟩ : ∃ m, xs.length = m := ⟨_, rfl⟩
  obtain ⟨n, hn⟩ : ∃ n, ys.length = n := ⟨_, rfl⟩
  have HU := Lib.hid hu
  have HV := Lib.hid hv
  have HM := Lib.hid hm
  have HN := Lib.hid hn
  rw [hm] at HU hle ⊢
  rw [hn] at HV ⊢
  clear hu hv hm hn
  by_cases hmn : m = n
  · subst hmn
    go_enter Tryz.func37, Tryz.ntmps37
    go_wp2_with fail
    go_loopw [5] (fun iv wr => ∃ (i q : Nat), i ≤ m ∧ iv = .int .i64 i ∧ wr = w.drewN q ∧ ∀ j, j < i → xs[j]? = ys[j]?) (fun iv _ => m - (intOf iv).toNat)
    case atStart => exact ⟨0, 0, Nat.zero_le _, rfl, rfl, fun j hj => by omega⟩
    case round =>
      obtain ⟨i, q, hi, rfl, rfl, hok⟩ := hrel
      have HOK := Lib.hid hok
      clear hok
      by_cases hlt : i < m
      · obtain ⟨x, hx⟩ : ∃ x, xs[i]? = some x := ⟨_, List.getElem?_eq_getElem (by rw [HM.out]; exact hlt)⟩
        obtain ⟨y, hy⟩ : ∃ y, ys[i]? = some y := ⟨_, List.getElem?_eq_getElem (by rw [HN.out]; exact hlt)⟩
        obtain ⟨b1, p1, k1, e1, -, -, d1⟩ := nums_at HU.out (by omega) hx
        obtain ⟨b2, p2, k2, e2, -, -, d2⟩ := nums_at HV.out (by omega) hy
        obtain rfl : a1 = some ⟨b1, p1, none⟩ := by injection e1
        obtain rfl : a2 = some ⟨b2, p2, none⟩ := by injection e2
        have HX := Lib.hid hx
        have HY := Lib.hid hy
        have i0 : (0 : Int) ≤ (i : Int) := by omega
        have i1 : (i : Int) < (m : Int) := by omega
        clear e1 e2 hx hy
        by_cases hxy : x = y
        · have HNX : Hid (∀ j, j < i + 1 → xs[j]? = ys[j]?) := Lib.hid fun j hj => by
            by_cases h : j = i
            · subst h; rw [HX.out, HY.out, hxy]
            · exact HOK.out j (by omega)
          subst hxy
          go_wp2_with fail
          go_quiet (fail)
          go_wp2_with fail
          go_roundw
          case rel => exact ⟨i + 1, _, by omega, by go_num, rfl, HNX.out⟩
          case measure => simp [intOf]; omega
        · have HD : Hid (decide (xs = ys) = false) := Lib.hid (decide_eq_false fun e => by
            have h1 := HX.out
            rw [e, HY.out] at h1
            exact hxy (Option.some.inj h1).symm)
          have hne : (x == y) = false := by simp [hxy]
          have hne2 : (x != y) = true := by simp [hxy]
          clear hxy
          go_wp2_with fail
          go_quiet (fail)
          go_wp2_with fail
          go_ret
          exact ⟨by rw [HD.out]; rfl, q + nq, by simp⟩
      · have HD : Hid (decide (xs = ys) = true) := Lib.hid (decide_eq_true (ext_upto HM.out HN.out fun j hj => HOK.out j (by omega)))
        go_wp2_with fail
        go_ret
        exact ⟨by rw [HD.out]; rfl, _, rfl⟩
  · have HD : Hid (decide (xs = ys) = false) := Lib.hid (decide_eq_false fun e => hmn (by rw [← HM.out, ← HN.out, e]))
    have hne : ((m : Int) == (n : Int)) = false := by simp; omega
    have hne2 : ((m : Int) != (n : Int)) = true := by simp; omega
    go_enter Tryz.func37, Tryz.ntmps37
    go_wp2_with fail
    go_ret
    exact ⟨by rw [HD.out]; rfl, 0, rfl⟩
set_option maxHeartbeats 4000000 in
set_option maxRecDepth 100000 in
theorem resps_same (cl qn : Int) (t : Fk.T) (z1 z2 : Nat) (p1 p2 : Value) (w : World) (h1 : IsN z1 w p1 t.parts) (h2 : IsN z2 w p2 t.parts) (hl : t.parts.length ≤ 64) :
    Calls Tryz.prog 21 #[.agg (rsp cl qn t.code t.off t.gen p1), .agg (rsp cl qn t.code t.off t.gen p2)] w fun e w' => e = .returned (.bool true) ∧ Below w.heap.size w w' := by
  obtain ⟨co, of, gn, l⟩ := t
  simp only at h1 h2 hl ⊢
  obtain ⟨W1, hW1⟩ : ∃ W, w.alloc (.cells (rsp cl qn co of gn p1) 39) = W := ⟨_, rfl⟩
  obtain ⟨W2, hW2⟩ : ∃ W, W1.alloc (.cells (rsp cl qn co of gn p2) 39) = W := ⟨_, rfl⟩
  have hb1 : Below w.heap.size w W1 := by rw [← hW1]; exact (Below.refl _ _).alloc (Nat.le_refl _) _
  have hb12 : Below W1.heap.size W1 W2 := by rw [← hW2]; exact (Below.refl _ _).alloc (Nat.le_refl _) _
  have hb2 := hb1.trans (hb12.mono hb1.size)
  have k1 : Blk W2 w.heap.size (rsp cl qn co of gn p1) 39 := by
    refine Blk.below ?_ hb12
    rw [← hW1]; exact Blk.new _ _ _
  have k2 : Blk W2 W1.heap.size (rsp cl qn co of gn p2) 39 := by rw [← hW2]; exact Blk.new _ _ _
  have HI := Lib.hid (ints_any p1 p2 l l W2 ((h1.below hb2).choose_spec.rd) ((h2.below hb2).choose_spec.rd) (by omega))
  have HB2 := Lib.hid hb2
  obtain ⟨x0, x1, x2, x3, x4, x5, x6, x7⟩ := k1.cells8
  obtain ⟨y0, y1, y2, y3, y4, y5, y6, y7⟩ := k2.cells8
  have HK := Lib.hid (And.intro k1 k2)
  clear hb1 hb12 hb2 k1 k2 h1 h2 hl
  go_enter Tryz.func21, Tryz.ntmps21
  go_wp2_with fail
  refine HI.out.mono ?_
  rintro e w3 ⟨rfl, n, rfl⟩
  have hd : decide (l = l) = true := decide_eq_true rfl
  rw [hd]
  have z7 : (W2.drewN n).cell? ⟨w.heap.size, 7, none⟩ = some (.slice none 0 0) := x7
  have HBD := Lib.hid (HB2.out.trans ((below_drewN (B := W2.heap.size) W2 n).mono HB2.out.size))
  obtain ⟨W3, hW3⟩ : ∃ W, W2.drewN n = W := ⟨_, rfl⟩
  rw [hW3] at z7 HBD ⊢
  clear hd hW3
  go_wp2_with fail
  go_loop [5] (fun s5 => s5 = .int .i64 0) (fun _ => 0)
  case atStart => rfl
  case round =>
    obtain rfl := hrel
    go_wp2_with fail
    go_ret
    exact ⟨rfl, HBD.out⟩
end Go.Proofs.YtjccfilbihkfpaaGreatDoor
