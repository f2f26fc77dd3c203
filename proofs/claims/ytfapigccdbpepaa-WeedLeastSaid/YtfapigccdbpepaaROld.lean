/- THE CONTRACT OF the document's Old. -/
import Derived.Test.YtfapigccdbpepaaGRef
import Derived.Deep.RegionLaw
import Derived.Test.YtfapigccdbpepaaGat
namespace Go.Proofs.Ytfapigccdbpepaa
open Go.RowKit

/-- A slice of numbers that is read. -/
def Nm (A : Nat → Prop) (w : World) (v : Value) (xs : List Int) : Prop := Rds A w v 1 xs.length (xs.map (Value.int .i64))
theorem Nm.form {A : Nat → Prop} {w : World} {v : Value} {xs : List Int} (h : Nm A w v xs) : ∃ a cap, v = .slice a xs.length cap := Rds.form h
theorem Nm.below {A : Nat → Prop} {w w' : World} {v : Value} {xs : List Int} (h : Nm A w v xs) (b : Below w.heap.size w w') : Nm A w' v xs := Rds.below h b
theorem Nm.at {A : Nat → Prop} {w : World} {v : Value} {xs : List Int} (h : Nm A w v xs) {j : Nat} {x : Int} (hj : xs[j]? = some x) : ∃ b o cap, v = .slice (some ⟨b, o, none⟩) xs.length cap ∧ w.cell? ⟨b, o + j, none⟩ = some (.int .i64 x) := by
  have hl := (List.getElem?_eq_some_iff.1 hj).1
  obtain ⟨b, o, cap, e, -, -, hc⟩ := Rds.at h (by omega)
  exact ⟨b, o, cap, e, hc j _ (by rw [List.getElem?_map, hj]; rfl)⟩
/-- What can't be a row's. -/
def OldBad (ends bytes : List Int) : Prop := ends.length ≠ bytes.length ∨ 4096 < ends.length ∨ ∃ b ∈ bytes, b < 0 ∨ 1099511627776 < b
/-- P8.1. -/
structure OldSays (ends bytes : List Int) (high keep : Int) (k : Nat) : Prop where
  bad : OldBad ends bytes → k = 0
  good : ¬ OldBad ends bytes → ∃ n, OverSays (bytes.map fun b => ((0, b) : P2)) keep n ∧ k ≤ n ∧ (∀ j e, j < k → ends[j]? = some e → e ≤ high) ∧ (k = n ∨ ∃ e, ends[k]? = some e ∧ high < e)
theorem old_one {ends bytes : List Int} {high keep : Int} {k m : Nat} (h : OldSays ends bytes high keep k) (h' : OldSays ends bytes high keep m) : k = m := by
  by_cases hb : OldBad ends bytes
  · rw [h.bad hb, h'.bad hb]
  · obtain ⟨n, h1, h2, h3, h4⟩ := h.good hb
    obtain ⟨n', g1, g2, g3, g4⟩ := h'.good hb
    obtain rfl := over_one h1 g1
    rcases Nat.lt_trichotomy k m with hk | hk | hk
    · rcases h4 with h4 | ⟨e, he, hh⟩
      · omega
      · have := g3 k e hk he
        omega
    · exact hk
    · rcases g4 with g4 | ⟨e, he, hh⟩
      · omega
      · have := h3 m e hk he
        omega
theorem take_pairs {bytes : List Int} {i : Nat} {b : Int} (h : bytes[i]? = some b) : (bytes.take (i + 1)).map (fun b => ((0, b) : P2)) = (bytes.take i).map (fun b => ((0, b) : P2)) ++ [(0, b)] := by
  rw [List.take_add_one, h, List.map_append]
  rfl

/-- One size more in the document's row. -/
theorem ru_end {w3 w9 : World} {g N cap1 g1 p1 : Nat} {gb gb' : Option Nat} {L : List P2} {p : P2} {v : Value} (hr : Ru w3 g gb L) (hN : L.length = N) (_hgr : w3.grownBy w9 gb) (hgb : gb' = some g1) (hnw : gb' = gb ∨ w3.heap.size ≤ g1)
    (hb : Blk w9 g #[v] 73) (ho : Sl w9 (.slice (some ⟨g1, p1, none⟩) (N + 1) cap1) gb' 75 2 (N + 1) (L.flatMap two ++ two p)) :
    Ru (w9.setCell ⟨g, 0, none⟩ (.slice (some ⟨g1, p1, none⟩) (N + 1) cap1)) g gb' (L ++ [p]) := by
  have hlt := hr.lt
  have hne : some g ≠ gb' := by
    rcases hnw with e | e
    · rw [e]; exact hr.ne
    · rw [hgb]; intro e'; cases e'; omega
  refine ⟨hne, _, hb.set (i := 0) _, ?_⟩
  rw [List.length_append, hN, List.flatMap_append]
  have := ho.setCell ⟨g, 0, none⟩ (.slice (some ⟨g1, p1, none⟩) (N + 1) cap1) hne
  simpa using this

set_option maxHeartbeats 4000000 in
set_option maxRecDepth 100000 in
theorem rold {A A' : Nat → Prop} (ev bv : Value) (ends bytes : List Int) (high keep : Int) (w : World) (he : Nm A w ev ends) (hb : Nm A' w bv bytes) (hle : ends.length ≤ 1099511627776) (hlb : bytes.length ≤ 1099511627776) :
    Calls Try.prog 19 #[ev, bv, .int .i64 high, .int .i64 keep] w fun e w' => (∃ k : Nat, e = .returned (.int .i64 k) ∧ OldSays ends bytes high keep k) ∧ Below w.heap.size w w' := by
  obtain ⟨a1, cap1, rfl⟩ := he.form
  obtain ⟨a2, cap2, rfl⟩ := hb.form
  obtain ⟨en, hen⟩ : ∃ n, ends.length = n := ⟨_, rfl⟩
  obtain ⟨bn, hbn⟩ : ∃ n, bytes.length = n := ⟨_, rfl⟩
  rw [hen] at he hle ⊢
  rw [hbn] at hb hlb ⊢
  have HE := Lib.hid he
  have HB := Lib.hid hb
  have HEN := Lib.hid hen
  have HBN := Lib.hid hbn
  clear he hb hen hbn
  by_cases h1 : ¬ en = bn
  · have hbad : OldBad ends bytes := .inl (by rw [HEN.out, HBN.out]; exact h1)
    have hd : ((en : Int) != (bn : Int)) = true := by rw [bne_iff_ne]; omega
    have HS : Hid (OldSays ends bytes high keep 0) := Lib.hid ⟨fun _ => rfl, fun h => absurd hbad h⟩
    clear hbad
    go_enter Try.func19, Try.ntmps19
    go_wp2_with fail
    go_ret
    exact ⟨⟨0, rfl, HS.out⟩, Below.refl _ _⟩
  have h1 : en = bn := Classical.not_not.1 h1
  subst h1
  by_cases h2 : 4096 < en
  · have hbad : OldBad ends bytes := .inr (.inl (by rw [HEN.out]; exact h2))
    have hd : decide ((4096 : Int) < (en : Int)) = true := by simp; omega
    have hd0 : ((en : Int) != (en : Int)) = false := by simp
    have HS : Hid (OldSays ends bytes high keep 0) := Lib.hid ⟨fun _ => rfl, fun h => absurd hbad h⟩
    clear hbad
    go_enter Try.func19, Try.ntmps19
    go_wp2_with fail
    go_ret
    exact ⟨⟨0, rfl, HS.out⟩, Below.refl _ _⟩
  have hd : decide ((4096 : Int) < (en : Int)) = false := by simp; omega
  have hd0 : ((en : Int) != (en : Int)) = false := by simp
  have hq : en ≤ 4096 := by omega
  clear h2 hle hlb
  go_enter Try.func19, Try.ntmps19
  go_wp2_with fail
  have hru : Ru (w.alloc (.cells #[.slice none 0 0] 73)) w.heap.size none [] := ⟨by simp, _, Blk.new _ _ _, by simp, .inl ⟨rfl, rfl, rfl⟩⟩
  have hb0 : Below w.heap.size w (w.alloc (.cells #[.slice none 0 0] 73)) := (Below.refl _ _).alloc (Nat.le_refl _) _
  obtain ⟨i0, hi0, hz0, hz1, hz2⟩ := infoS
  have HI := Lib.hid (And.intro hi0 (And.intro hz0 (And.intro hz1 hz2)))
  obtain ⟨G, hG⟩ : ∃ G, w.heap.size = G := ⟨_, rfl⟩
  rw [hG] at hru ⊢
  have HG := Lib.hid hG
  have H0 := Lib.hid (And.intro hru hb0)
  clear hru hb0 hG hi0 hz0 hz1 hz2
  go_loopw [10] (fun iv wr => ∃ (i : Nat) (gb : Option Nat), i ≤ en ∧ iv = .int .i64 i ∧ Ru wr G gb ((bytes.take i).map fun b => ((0, b) : P2)) ∧ Below w.heap.size w wr ∧ (∀ k, gb = some k → G ≤ k) ∧ ∀ b ∈ bytes.take i, 0 ≤ b ∧ b ≤ 1099511627776) (fun iv _ => en - (intOf iv).toNat)
  case atStart => exact ⟨0, none, Nat.zero_le _, rfl, H0.out.1, H0.out.2, (fun k e => by cases e), fun b hb => by cases hb⟩
  case round =>
    obtain ⟨i, gb, hi, rfl, hru, hbw, hgb, hall⟩ := hrel
    have HRU := Lib.hid hru
    have HBW := Lib.hid hbw
    have HGB := Lib.hid hgb
    have HAL := Lib.hid hall
    clear hgb hall H0
    by_cases hlt : i < en
    · obtain ⟨x, hx⟩ : ∃ x, bytes[i]? = some x := ⟨_, List.getElem?_eq_getElem (by rw [HBN.out]; exact hlt)⟩
      obtain ⟨b, o, cap, e, c0⟩ := (HB.out.below hbw).at hx
      obtain rfl : a2 = some ⟨b, o, none⟩ := by injection e
      have HX := Lib.hid hx
      clear e hx
      by_cases hx1 : x < 0
      · have hbad : OldBad ends bytes := .inr (.inr ⟨x, List.mem_of_getElem? HX.out, .inl hx1⟩)
        have HS : Hid (OldSays ends bytes high keep 0) := Lib.hid ⟨fun _ => rfl, fun h => absurd hbad h⟩
        have hd1 : decide (x < 0) = true := by simpa using hx1
        clear hbad hru hbw
        go_wp2_with fail
        go_ret
        exact ⟨⟨0, rfl, HS.out⟩, HBW.out⟩
      by_cases hx2 : 1099511627776 < x
      · have hbad : OldBad ends bytes := .inr (.inr ⟨x, List.mem_of_getElem? HX.out, .inr hx2⟩)
        have HS : Hid (OldSays ends bytes high keep 0) := Lib.hid ⟨fun _ => rfl, fun h => absurd hbad h⟩
        have hd1 : decide (x < 0) = false := by simpa using hx1
        have hd2 : decide (1099511627776 < x) = true := by simpa using hx2
        clear hbad hru hbw
        go_wp2_with fail
        go_ret
        exact ⟨⟨0, rfl, HS.out⟩, HBW.out⟩
      have hd1 : decide (x < 0) = false := by simpa using hx1
      have hd2 : decide (1099511627776 < x) = false := by simpa using hx2
      obtain ⟨Lp, hLp⟩ : ∃ Lp, (bytes.take i).map (fun b => ((0, b) : P2)) = Lp := ⟨_, rfl⟩
      have hLn : Lp.length = i := by rw [← hLp, List.length_map, List.length_take, HBN.out]; omega
      have HNX : Hid ((bytes.take (i + 1)).map (fun b => ((0, b) : P2)) = Lp ++ [(0, x)]) := Lib.hid (by rw [← hLp]; exact take_pairs HX.out)
      rw [hLp] at hru HRU
      obtain ⟨v, h1, h2⟩ := hru.lies
      obtain ⟨ao, cap', rfl, hc, -⟩ := h2.make
      rw [hLn] at h1 h2 hc
      have HLN := Lib.hid hLn
      have hal : Below wr.heap.size wr (World.alloc (World.drew wr) (.cells #[.int .i64 0, .int .i64 x] 75)) := (Below.refl wr.heap.size wr).drew.alloc (Nat.le_refl _) _
      have HS4 := Lib.hid (h2.same (fun k hk => hal.block k (h2.lt k hk)))
      have HG4 := Lib.hid (h1.below hal)
      have HR4 := Lib.hid (HRU.out.below hal)
      have HAA := Lib.hid hal
      have HNEWS : Hid (∀ j u, (two (((0 : Int), x) : P2))[j]? = some u → World.cell? (World.alloc (World.drew wr) (.cells #[.int .i64 0, .int .i64 x] 75)) (Addr.add ⟨wr.heap.size, 0, none⟩ j) = some u) := Lib.hid fun j u hj => by
        rw [Addr.add_lit, Nat.zero_add]
        exact (Blk.new wr.drew _ _).cell (by rw [← hj, ← List.getElem?_toArray]; rfl)
      have HONE : Hid (∀ u ∈ two (((0 : Int), x) : P2), u.oneCell' = true) := Lib.hid fun u hu => by
        simp only [two, List.mem_cons, List.not_mem_nil, or_false] at hu
        rcases hu with rfl | rfl <;> rfl
      have HBY : Hid ((i + 1) * 16 ≤ 140737488355328) := Lib.hid (by omega)
      have H63 : Hid (i + 1 ≤ 9223372036854775807) := Lib.hid (by omega)
      have c1 := h1.cell (i := 0) rfl
      have c1' := HG4.out.cell (i := 0) rfl
      have c1'' := (h1.below (w' := World.alloc wr (.cells #[.int .i64 0, .int .i64 x] 75)) ((Below.refl wr.heap.size wr).alloc (Nat.le_refl _) _)).cell (i := 0) rfl
      obtain ⟨hi0, hz0, hz1, hz2⟩ := HI.out
      clear hru hbw hLp hLn h1 h2 hal hx1 hx2
      go_wp2_with fail
      go_region_law ((refine step_append_sl _ (by rfl) _ _ _ (by rfl) 75 i0 (.agg #[.int .i64 0, .int .i64 0]) 2 16 Try.underlying71 hi0 hz0 hz1 hz2 rfl (.slice ao i cap') gb i (Lp.flatMap two) (by rfl) HS4.out ⟨wr.heap.size, 0, none⟩ 1 1 (two (((0 : Int), x) : P2)) (by rfl) (by rfl) HNEWS.out HONE.out (by decide) HBY.out H63.out ?_; intro g1 p1 cap1 w9 gb' hown hgrow hgb hnew; have HB9 := Lib.hid (HG4.out.grown hgrow HR4.out.ne); have HO9 := Lib.hid hown; have HGR := Lib.hid hgrow; have HGB2 := Lib.hid hgb; have HNW := Lib.hid hnew; have q5 := HB9.out.cell (i := 0) rfl; have q6 := HB9.out.free (i := 0); clear hown hgrow hgb hnew))
      all_goals (
        have HRE := Lib.hid (ru_end HR4.out HLN.out HGR.out HGB2.out (by have := HNW.out; rcases this with h | h; exact .inl h; exact .inr h) HB9.out HO9.out)
        have HBE := Lib.hid ((Below.appended (z := w.heap.size) (HBW.out.trans (HAA.out.mono HBW.out.size)) HGR.out (by rw [HG.out]; exact HGB.out) (Nat.le_trans HBW.out.size HAA.out.size)).setCell (p := ⟨G, 0, none⟩) (Nat.le_of_eq HG.out) (.slice (some ⟨g1, p1, none⟩) (i + 1) cap1))
        have HGN : Hid (∀ k, gb' = some k → G ≤ k) := Lib.hid fun k e => by
          rcases HNW.out with h | h
          · exact HGB.out k (h ▸ e)
          · rw [HGB2.out] at e; cases e; have h2 : wr.heap.size ≤ g1 := Nat.le_trans (by simp [World.drew]) h; have := HBW.out.size; have := HG.out; omega
        go_wp2_with fail
        go_roundw
        case rel => exact ⟨i + 1, gb', by omega, by go_num, by rw [HNX.out]; exact HRE.out, HBE.out, HGN.out, fun b hb => by
          rw [List.take_add_one, HX.out] at hb
          rcases List.mem_append.1 hb with hb | hb
          · exact HAL.out b hb
          · obtain rfl : b = x := by simpa using hb
            exact ⟨by simpa using hd1, by simpa using hd2⟩⟩
        case measure => simp [intOf]; omega)
    · have hbl : bytes.take i = bytes := List.take_of_length_le (by rw [HBN.out]; omega)
      rw [hbl] at HRU HAL
      have HOV := Lib.hid (rover_any keep wr G gb _ HRU.out (fun p hp => by
        obtain ⟨b, hb, rfl⟩ := List.mem_map.1 hp
        have := HAL.out b hb
        exact ⟨Int.le_refl _, (by decide : (0 : Int) ≤ 1099511627776), this.1, this.2⟩) (by rw [List.length_map, HBN.out]; exact hq))
      clear hru hbw hbl
      go_wp2_with fail
      refine HOV.out.mono ?_
      rintro e w2 ⟨⟨n, rfl, hn⟩, hb2⟩
      have HOS := Lib.hid hn
      have hnl : n = 0 ∨ n < en := by
        by_cases hL : bytes = []
        · exact .inl (hn.1 (by rw [hL]; rfl))
        · right
          have := (hn.2.1 (by simpa using hL)).1
          rwa [List.length_map, HBN.out] at this
      have HB2 := Lib.hid (HBW.out.trans (hb2.mono HBW.out.size))
      have HNG : Hid (¬ OldBad ends bytes) := Lib.hid fun h => by
        rcases h with h | h | ⟨b, hb, h⟩
        · exact h (by rw [HEN.out, HBN.out])
        · rw [HEN.out] at h; omega
        · have := HAL.out b hb; omega
      clear hn hb2
      go_wp2_with fail
      go_loopw [12] (fun kv wz => ∃ k : Nat, k ≤ n ∧ kv = .int .i64 k ∧ Below w.heap.size w wz ∧ ∀ j e, j < k → ends[j]? = some e → e ≤ high) (fun kv _ => n - (intOf kv).toNat)
      case atStart => exact ⟨0, Nat.zero_le _, rfl, HB2.out, fun j e hj => absurd hj (by omega)⟩
      case round =>
        obtain ⟨k, hk, rfl, hbz, hall⟩ := hrel
        have HBZ := Lib.hid hbz
        have HA2 := Lib.hid hall
        clear hall
        by_cases hkn : k < n
        · obtain ⟨x, hx⟩ : ∃ x, ends[k]? = some x := ⟨_, List.getElem?_eq_getElem (by rw [HEN.out]; omega)⟩
          obtain ⟨b, o, cap, e, c0⟩ := (HE.out.below hbz).at hx
          obtain rfl : a1 = some ⟨b, o, none⟩ := by injection e
          have HX := Lib.hid hx
          have hke : k < en := by omega
          clear e hx hbz
          by_cases hxh : x ≤ high
          · have hd3 : decide (x ≤ high) = true := by simpa using hxh
            go_wp2_with fail
            go_roundw
            case rel => exact ⟨k + 1, by omega, by go_num, HBZ.out, fun j e hj he => by
              rcases Nat.lt_or_ge j k with h | h
              · exact HA2.out j e h he
              · obtain rfl : j = k := by omega
                rw [HX.out] at he
                cases he
                exact hxh⟩
            case measure => simp [intOf]; omega
          · have hd3 : decide (x ≤ high) = false := by simpa using hxh
            go_wp2_with fail
            go_ret
            exact ⟨⟨k, rfl, fun h => absurd h HNG.out, fun _ => ⟨n, HOS.out, by omega, HA2.out, .inr ⟨x, HX.out, by omega⟩⟩⟩, HBZ.out⟩
        · obtain rfl : k = n := by omega
          clear hbz
          go_wp2_with fail
          go_ret
          exact ⟨⟨k, rfl, fun h => absurd h HNG.out, fun _ => ⟨k, HOS.out, by omega, HA2.out, .inl rfl⟩⟩, HBZ.out⟩
end Go.Proofs.Ytfapigccdbpepaa
