/- The walk of the law LedgerOnce. -/
import Derived.Test.YtloallndnmofnaaDoorOnce0
import Derived.Deep.QuietTactic
import Derived.BigQuiet
import Derived.IntWalk
namespace Go.Proofs.YtloallndnmofnaaDoor
open Go.RowKit

set_option maxHeartbeats 8000000 in
set_option maxRecDepth 100000 in
theorem once_any (v : Value) (zs : List P2) (w : World) (lb : Lg w) (h : Pairs w w.heap.size v zs) :
    Calls Tryd.prog 4 #[v] w fun e w' => e = .returned (.bool true) ∧ RowKit.Below w.heap.size w w' := by
  have h2 := lb.size
  obtain ⟨a, cap, hv, -⟩ := h.lies
  subst hv
  obtain ⟨m, hm⟩ : ∃ m, zs.length = m := ⟨_, rfl⟩
  have HP := Lib.hid h
  rw [hm] at HP ⊢
  have HM := Lib.hid hm
  have H2 := Lib.hid h2
  have HA := Lib.hid (awake_any w lb)
  have HLB := Lib.hid lb
  clear h h2 lb hm
  go_enter Tryd.func4, Tryd.ntmps4
  go_wp2_with fail
  refine HA.out.mono ?_
  rintro e w1 ⟨rfl, b1⟩
  have HN := Lib.hid (s_new w w1 b1 (HLB.out.below HLB.out.size b1))
  have HB1 := Lib.hid b1
  clear b1 HA
  go_wp2_with fail
  refine HN.out.mono ?_
  rintro e w2 ⟨rfl, hls, b2⟩
  have a1 : RowKit.Below w2.heap.size w2 (w2.alloc (.cells #[.int .i64 0, .int .i64 0, .int .i64 0, .int .i64 0] 50)) := (Below.refl _ _).alloc (Nat.le_refl _) _
  have k1 := Blk.new w2 #[.int .i64 0, .int .i64 0, .int .i64 0, .int .i64 0] 50
  obtain ⟨w3, hw3⟩ : ∃ W, w2.alloc (.cells #[.int .i64 0, .int .i64 0, .int .i64 0, .int .i64 0] 50) = W := ⟨_, rfl⟩
  have s3 : w3.heap.size = w2.heap.size + 1 := by rw [← hw3]; simp
  rw [hw3] at a1 k1
  have a2 : RowKit.Below w3.heap.size w3 (w3.alloc (.cells #[.slice none 0 0, .slice none 0 0, .slice none 0 0, .slice none 0 0] 52)) := (Below.refl _ _).alloc (Nat.le_refl _) _
  have k2 := Blk.new w3 #[.slice none 0 0, .slice none 0 0, .slice none 0 0, .slice none 0 0] 52
  obtain ⟨w4, hw4⟩ : ∃ W, w3.alloc (.cells #[.slice none 0 0, .slice none 0 0, .slice none 0 0, .slice none 0 0] 52) = W := ⟨_, rfl⟩
  rw [hw4] at a2 k2
  have hON : On w w4 w1.heap.size w2.heap.size w3.heap.size (fun k => k = w1.heap.size) [] (fun _ => []) (fun _ => .slice none 0 0) (fun _ => none) := by
    have i1 := hls.lgr.bnd _ rfl
    have i2 := hls.low.size
    refine ⟨(hls.below a1).below a2, k1.below a2, k2, fun p _ => ⟨rfl, .inl ⟨rfl, rfl, rfl⟩⟩, ⟨by omega, by show ¬ (_ = _); omega, by show ¬ (_ = _); omega, by omega, by omega⟩, (fun p k _ h => by cases h), (fun p q k _ _ _ h => by cases h)⟩
  have HO := Lib.hid hON
  rw [s3] at HO
  obtain ⟨rb, hrb⟩ : ∃ rb, w1.heap.size = rb := ⟨_, rfl⟩
  obtain ⟨nb, hnb⟩ : ∃ nb, w2.heap.size = nb := ⟨_, rfl⟩
  obtain ⟨bb, hbb⟩ : ∃ bb, w2.heap.size + 1 = bb := ⟨_, rfl⟩
  have HW3 := Lib.hid hw3
  have HW4 := Lib.hid hw4
  have HE := Lib.hid (And.intro hrb (And.intro hnb hbb))
  rw [hrb, hbb, hnb] at HO
  clear hON a1 a2 k1 k2 hls b2 s3 hw3 hw4 hrb hnb hbb
  go_wp2_with fail
  rw [HW3.out, HW4.out, HE.out.1, HE.out.2.2, HE.out.2.1]
  go_loopw [6, 7] (fun ev iv wr => ∃ (i e : Nat) (B : Nat → Prop) (T : Ld.Tb) (hs : Nat → List Int) (V : Nat → Value) (G : Nat → Option Nat), i ≤ m ∧ e ≤ i ∧ (i : Int) ≤ 120 ∧ ev = .int .i64 e ∧ iv = .int .i64 i ∧ On w wr rb nb bb B T hs V G ∧ Ld.Came T hs e ∧ (∀ p, p < 4 → (hs p).length ≤ e)) (fun _ iv _ => m - (intOf iv).toNat)
  case atStart => exact ⟨0, 0, _, [], fun _ => [], _, _, by omega, by omega, by omega, rfl, rfl, HO.out, Ld.Came.nil, fun _ _ => Nat.le_refl _⟩
  case round =>
    obtain ⟨i, e, B, T, hs, V, G, hi, hei, hi120, rfl, rfl, hon, hcame, hlen⟩ := hrel
    have HO2 := Lib.hid hon
    have HCM := Lib.hid hcame
    have HLN := Lib.hid hlen
    clear hon hcame hlen HW3 HW4 HO HE
    by_cases hlt : i < m
    · by_cases hl2 : (i : Int) < 120
      · obtain ⟨z, hz⟩ : ∃ z, zs[i]? = some z := ⟨_, List.getElem?_eq_getElem (by rw [HM.out]; exact hlt)⟩
        obtain ⟨a', cap', hv, hc⟩ := (HP.out.below HO2.out.ls.low).lies
        obtain ⟨b, off, rfl, hblt, c0, c1⟩ := hc i z hz
        injection hv with hv1 hv2 hv3
        subst hv1
        obtain ⟨z0, z1⟩ := z
        obtain ⟨P, hP1, hP2, hP3⟩ := mod_nat z0 4 (by omega) (by omega)
        obtain ⟨S, hS1, hS2, hS3⟩ := mod_nat z1 40 (by omega) (by omega)
        have hP4 : P < 4 := by omega
        have hS4 : S < 40 := by omega
        simp only at c0 c1
        clear hc hz hv2 hv3 HP
        have hck0 := HCM.out.chk HO2.out.ls.good hP4 (seq := S) (by omega)
        by_cases hS5 : (hs P).length < S
        · have hck : Ld.check T P S = (⟨0, 0, 0⟩, 20) := by
            rw [hck0, if_pos (by omega), if_neg (by omega)]; rfl
          have HCK := Lib.hid (s_check HO2.out.ls P S 0 0 0 20 hck)
          have HAE : Hid (Ld.addE T P S e = 20) := by show _ = _; rw [HCM.out.addE HO2.out.ls.good hP4 (by omega), hck]
          clear hck hck0
          go_wp2_with fail
          refine HCK.out.mono ?_
          rintro x v1 ⟨rfl, hb1⟩
          have a1 : RowKit.Below v1.heap.size v1 (v1.alloc (.cells #[.int .i64 0, .int .i64 0, .int .i64 0] 41)) := (Below.refl _ _).alloc (Nat.le_refl _) _
          have hbx := Blk.new v1 #[.int .i64 0, .int .i64 0, .int .i64 0] 41
          obtain ⟨v2, hv2⟩ : ∃ W, v1.alloc (.cells #[.int .i64 0, .int .i64 0, .int .i64 0] 41) = W := ⟨_, rfl⟩
          have hnx : ¬ B v1.heap.size := fun hb => by have := HO2.out.ls.lgr.bnd _ hb; have := hb1.size; omega
          rw [hv2] at a1 hbx
          have hO3 := (HO2.out.below hb1).below a1
          obtain ⟨xb, hxb⟩ : ∃ xb, v1.heap.size = xb := ⟨_, rfl⟩
          rw [hxb] at hbx hnx
          have HO3 := Lib.hid hO3
          have HBX := Lib.hid hbx
          have HNX := Lib.hid hnx
          have HV2 := Lib.hid (And.intro hv2 hxb)
          clear a1 hbx hnx hb1 hO3 HCK hv2 hxb
          go_wp2_with fail
          rw [HV2.out.1, HV2.out.2]
          refine (dbatch _ _ _ _).mono ?_
          rintro x v3 ⟨g, rfl, hr, hb3⟩
          have hO4 := HO3.out.below hb3
          have HBX4 := Lib.hid (HBX.out.below hb3)
          have HAD := Lib.hid (s_add (prod := (P : Int)) (seq := (S : Int)) (base := (e : Int)) hO4.ls H2.out hr (Ld.numB_nat (by omega)) (Ld.numB_nat (by omega)) (by omega) (by omega))
          have HO4 := Lib.hid hO4
          clear hr hb3 hO4
          go_wp2_with fail
          refine HAD.out.mono ?_
          rintro x v5 ⟨rfl, B', hls5, hm5⟩
          rw [HAE.out]
          rw [HAE.out] at hls5
          have HO5 := Lib.hid (HO4.out.ledger hls5 hm5)
          have HBX5 := Lib.hid (HBX4.out.moved hm5 HNX.out).1
          obtain ⟨n, hn⟩ : ∃ n, (hs P).length = n := ⟨_, rfl⟩
          have HN := Lib.hid hn
          have d0 : v5.cell? ⟨nb, P, none⟩ = some (.int .i64 (n : Nat)) := by
            have := HO5.out.nx.cell (four_at _ hP4)
            unfold cnt at this
            rw [hn] at this
            exact this
          have y0 := HBX5.out.cell (i := 0) rfl
          have y1 := HBX5.out.cell (i := 1) rfl
          have y2 := HBX5.out.cell (i := 2) rfl
          have hP5 : (P : Int) < 4 := by omega
          clear hls5 hm5 hn HAD HAE
          rw [HN.out] at hS5
          have hne : ((S : Int) == (n : Int)) = false := by simp; omega
          have hgt : (n : Int) < (S : Int) := by omega
          have hgt' : n < S := hS5
          go_wp2_with fail
          go_roundw
          case rel => exact ⟨i + 1, e, B', T, hs, V, G, by omega, by omega, by omega, rfl, by go_num, HO5.out, HCM.out, HLN.out⟩
          case measure => simp [intOf]; omega
        · by_cases hS7 : (hs P).length = S
          · have hck : Ld.check T P S = (⟨0, 0, 0⟩, 0) := by
              rw [hck0, if_pos (by omega), if_pos (by omega)]; rfl
            clear hS5
            have hS5 := hS7
            clear hS7
            have HAE2 : Hid (Ld.addE T P S e = 0) := by show _ = _; rw [HCM.out.addE HO2.out.ls.good hP4 (by omega), hck]
            have HCK := Lib.hid (s_check HO2.out.ls P S 0 0 0 0 hck)
            have HAE : Hid (Ld.addE T P S e = 0) := by show _ = _; rw [HCM.out.addE HO2.out.ls.good hP4 (by omega), hck]
            clear hck hck0
            go_wp2_with fail
            refine HCK.out.mono ?_
            rintro x v1 ⟨rfl, hb1⟩
            have a1 : RowKit.Below v1.heap.size v1 (v1.alloc (.cells #[.int .i64 0, .int .i64 0, .int .i64 0] 41)) := (Below.refl _ _).alloc (Nat.le_refl _) _
            have hbx := Blk.new v1 #[.int .i64 0, .int .i64 0, .int .i64 0] 41
            obtain ⟨v2, hv2⟩ : ∃ W, v1.alloc (.cells #[.int .i64 0, .int .i64 0, .int .i64 0] 41) = W := ⟨_, rfl⟩
            have hnx : ¬ B v1.heap.size := fun hb => by have := HO2.out.ls.lgr.bnd _ hb; have := hb1.size; omega
            rw [hv2] at a1 hbx
            have hO3 := (HO2.out.below hb1).below a1
            obtain ⟨xb, hxb⟩ : ∃ xb, v1.heap.size = xb := ⟨_, rfl⟩
            rw [hxb] at hbx hnx
            have HO3 := Lib.hid hO3
            have HBX := Lib.hid hbx
            have HNX := Lib.hid hnx
            have HV2 := Lib.hid (And.intro hv2 hxb)
            clear a1 hbx hnx hb1 hO3 HCK hv2 hxb
            go_wp2_with fail
            rw [HV2.out.1, HV2.out.2]
            refine (dbatch _ _ _ _).mono ?_
            rintro x v3 ⟨g, rfl, hr, hb3⟩
            have hO4 := HO3.out.below hb3
            have HBX4 := Lib.hid (HBX.out.below hb3)
            have HAD := Lib.hid (s_add (prod := (P : Int)) (seq := (S : Int)) (base := (e : Int)) hO4.ls H2.out hr (Ld.numB_nat (by omega)) (Ld.numB_nat (by omega)) (by omega) (by omega))
            have HO4 := Lib.hid hO4
            clear hr hb3 hO4
            go_wp2_with fail
            refine HAD.out.mono ?_
            rintro x v5 ⟨rfl, B', hls5, hm5⟩
            rw [HAE.out]
            rw [HAE.out, if_pos rfl] at hls5
            have HO5 := Lib.hid (HO4.out.ledger hls5 hm5)
            have HBX5 := Lib.hid (HBX4.out.moved hm5 HNX.out).1
            obtain ⟨n, hn⟩ : ∃ n, (hs P).length = n := ⟨_, rfl⟩
            have HN := Lib.hid hn
            have d0 : v5.cell? ⟨nb, P, none⟩ = some (.int .i64 (n : Nat)) := by
              have := HO5.out.nx.cell (four_at _ hP4)
              unfold cnt at this
              rw [hn] at this
              exact this
            have y0 := HBX5.out.cell (i := 0) rfl
            have y1 := HBX5.out.cell (i := 1) rfl
            have y2 := HBX5.out.cell (i := 2) rfl
            have hP5 : (P : Int) < 4 := by omega
            clear hls5 hm5 hn HAD HAE
            rw [HN.out] at hS5
            have hS6 : S = n := hS5.symm
            subst hS6
            clear hS5
            obtain ⟨i0, hi0, hz0, hz1, hz2⟩ := infoInt
            have hbc := HO5.out.bs.cell (four_at V hP4)
            have hsl := HO5.out.sl P hP4
            rw [HN.out] at hsl
            have hal : RowKit.Below v5.heap.size v5 (v5.alloc (.cells #[.int .i64 e] 3)) := (Below.refl _ _).alloc (Nat.le_refl _) _
            have HS5 := Lib.hid (hsl.below hal)
            have HNEWS : Hid (∀ j u, ([Value.int .i64 e] : List Value)[j]? = some u → World.cell? (v5.alloc (.cells #[.int .i64 e] 3)) (Addr.add ⟨v5.heap.size, 0, none⟩ j) = some u) := World.news_of_block (cs := #[.int .i64 e]) (t := 3) (fr := (0, 0)) (heap_alloc_new v5 _)
            have HONE : Hid (∀ u ∈ ([Value.int .i64 e] : List Value), u.oneCell' = true) := by
              intro u hu
              rw [List.mem_singleton.1 hu]
              rfl
            have hSe := HLN.out P hP4
            rw [HN.out] at hSe
            have HBY : Hid ((S + 1) * 8 ≤ 140737488355328) := by show _ ≤ _; omega
            have H63 : Hid (S + 1 ≤ 9223372036854775807) := by show _ ≤ _; omega
            have HAL := Lib.hid hal
            have HO5' := HO5
            have hbc2 := bcell6 hal hbc
            have HCM2 : Hid (Ld.Came (Ld.addT T P S e 1) (Ld.upd hs P e) ((e + 1 : Nat) : Int)) := by
              have := HCM.out.add HO2.out.ls.good hP4 (by omega) (by omega) (by rw [HN.out]; omega) (by rw [HN.out]; exact HAE2.out)
              rw [HN.out] at this
              exact this
            have HLN2 : Hid (∀ p, p < 4 → ((Ld.upd hs P e) p).length ≤ e + 1) := by
              intro p hp
              have := HLN.out p hp
              unfold Ld.upd
              split
              · have := HLN.out P hP4; simp; omega
              · omega
            have hee : ((e : Nat) : Int) + 1 = ((e + 1 : Nat) : Int) := by omega
            have HEE := Lib.hid hee
            have HV := Lib.hid hbc
            clear hsl hal hee
            go_wp2_with (at_builtin; refine wpList_append_sl _ (by rfl) _ _ _ (by rfl) 3 i0 (.int .i64 0) 1 8 Tryd.underlying51 hi0 hz0 hz1 hz2 rfl (V P) (G P) S (ints (hs P)) (by rfl) HS5.out ⟨v5.heap.size, 0, none⟩ 1 1 [.int .i64 e] (by rfl) (by rfl) HNEWS.out HONE.out (by decide) HBY.out H63.out ?_)
            intro g1 p1 cap1 w9 gb' hown hgrow hgb hnew
            have hpush := HO5.out.push H2.out hP4 (e := (e : Int)) (v := .slice (some ⟨g1, p1, none⟩) (S + 1) cap1) HAL.out (by rw [HN.out]; exact hown) hgrow hgb (hnew.imp id (fun h => by simpa using h))
            rw [HN.out] at hpush
            obtain ⟨hp1, q1, q2, q3, q4⟩ := hpush
            unfold cnt at q3
            rw [HN.out] at q3
            have HON9 := Lib.hid hp1
            have hbn : nb ≠ bb := HO5.out.nB.1
            clear hown hgrow hgb hnew hp1 hbc hbc2
            go_wp2_with fail
            go_roundw
            case rel => exact ⟨i + 1, e + 1, B', _, _, _, _, by omega, by omega, by omega, by go_num, by go_num, HON9.out, HCM2.out, HLN2.out⟩
            case measure => simp [intOf]; omega
          · by_cases hS8 : S + 5 < (hs P).length
            · have hck : Ld.check T P S = (⟨0, 0, 0⟩, 21) := by
                rw [hck0, if_neg (by omega), if_pos hS8]; rfl
              clear hS5 hS7
              have hS5 := hS8
              clear hS8
              have HCK := Lib.hid (s_check HO2.out.ls P S 0 0 0 21 hck)
              have HAE : Hid (Ld.addE T P S e = 21) := by show _ = _; rw [HCM.out.addE HO2.out.ls.good hP4 (by omega), hck]
              clear hck hck0
              go_wp2_with fail
              refine HCK.out.mono ?_
              rintro x v1 ⟨rfl, hb1⟩
              have a1 : RowKit.Below v1.heap.size v1 (v1.alloc (.cells #[.int .i64 0, .int .i64 0, .int .i64 0] 41)) := (Below.refl _ _).alloc (Nat.le_refl _) _
              have hbx := Blk.new v1 #[.int .i64 0, .int .i64 0, .int .i64 0] 41
              obtain ⟨v2, hv2⟩ : ∃ W, v1.alloc (.cells #[.int .i64 0, .int .i64 0, .int .i64 0] 41) = W := ⟨_, rfl⟩
              have hnx : ¬ B v1.heap.size := fun hb => by have := HO2.out.ls.lgr.bnd _ hb; have := hb1.size; omega
              rw [hv2] at a1 hbx
              have hO3 := (HO2.out.below hb1).below a1
              obtain ⟨xb, hxb⟩ : ∃ xb, v1.heap.size = xb := ⟨_, rfl⟩
              rw [hxb] at hbx hnx
              have HO3 := Lib.hid hO3
              have HBX := Lib.hid hbx
              have HNX := Lib.hid hnx
              have HV2 := Lib.hid (And.intro hv2 hxb)
              clear a1 hbx hnx hb1 hO3 HCK hv2 hxb
              go_wp2_with fail
              rw [HV2.out.1, HV2.out.2]
              refine (dbatch _ _ _ _).mono ?_
              rintro x v3 ⟨g, rfl, hr, hb3⟩
              have hO4 := HO3.out.below hb3
              have HBX4 := Lib.hid (HBX.out.below hb3)
              have HAD := Lib.hid (s_add (prod := (P : Int)) (seq := (S : Int)) (base := (e : Int)) hO4.ls H2.out hr (Ld.numB_nat (by omega)) (Ld.numB_nat (by omega)) (by omega) (by omega))
              have HO4 := Lib.hid hO4
              clear hr hb3 hO4
              go_wp2_with fail
              refine HAD.out.mono ?_
              rintro x v5 ⟨rfl, B', hls5, hm5⟩
              rw [HAE.out]
              rw [HAE.out] at hls5
              have HO5 := Lib.hid (HO4.out.ledger hls5 hm5)
              have HBX5 := Lib.hid (HBX4.out.moved hm5 HNX.out).1
              obtain ⟨n, hn⟩ : ∃ n, (hs P).length = n := ⟨_, rfl⟩
              have HN := Lib.hid hn
              have d0 : v5.cell? ⟨nb, P, none⟩ = some (.int .i64 (n : Nat)) := by
                have := HO5.out.nx.cell (four_at _ hP4)
                unfold cnt at this
                rw [hn] at this
                exact this
              have y0 := HBX5.out.cell (i := 0) rfl
              have y1 := HBX5.out.cell (i := 1) rfl
              have y2 := HBX5.out.cell (i := 2) rfl
              have hP5 : (P : Int) < 4 := by omega
              clear hls5 hm5 hn HAD HAE
              rw [HN.out] at hS5
              have hne : ((S : Int) == (n : Int)) = false := by simp; omega
              have hle : ¬ n < S := by omega
              have hlt5 : (S : Int) + 5 < (n : Int) := by omega
              go_wp2_with fail
              go_roundw
              case rel => exact ⟨i + 1, e, B', T, hs, V, G, by omega, by omega, by omega, rfl, by go_num, HO5.out, HCM.out, HLN.out⟩
              case measure => simp [intOf]; omega
            · have hck : Ld.check T P S = (⟨(S : Int), (hs P).getD S 0, (hs P).getD S 0 + 1⟩, 13) := by
                rw [hck0, if_neg (by omega), if_neg hS8]
              have hS9 : S < (hs P).length ∧ ¬ S + 5 < (hs P).length := ⟨by omega, hS8⟩
              clear hS5 hS7 hS8
              have hS5 := hS9
              clear hS9
              have hS10 := hS5.1
              have hlow := HCM.out.low P ((hs P).getD S 0) hP4 (by
                rw [List.getD_eq_getElem?_getD, List.getElem?_eq_getElem (by omega)]
                exact List.getElem_mem _)
              obtain ⟨q, hq⟩ : ∃ q, (hs P).getD S 0 = q := ⟨_, rfl⟩
              rw [hq] at hck hlow
              obtain ⟨hq0, hq1⟩ := hlow
              have HQ := Lib.hid hq
              clear hq
              have HCK := Lib.hid (s_check HO2.out.ls P S S q (q + 1) 13 hck)
              have HAE : Hid (Ld.addE T P S e = 13) := by show _ = _; rw [HCM.out.addE HO2.out.ls.good hP4 (by omega), hck]
              clear hck hck0
              go_wp2_with fail
              refine HCK.out.mono ?_
              rintro x v1 ⟨rfl, hb1⟩
              have a1 : RowKit.Below v1.heap.size v1 (v1.alloc (.cells #[.int .i64 S, .int .i64 q, .int .i64 (q + 1)] 41)) := (Below.refl _ _).alloc (Nat.le_refl _) _
              have hbx := Blk.new v1 #[.int .i64 S, .int .i64 q, .int .i64 (q + 1)] 41
              obtain ⟨v2, hv2⟩ : ∃ W, v1.alloc (.cells #[.int .i64 S, .int .i64 q, .int .i64 (q + 1)] 41) = W := ⟨_, rfl⟩
              have hnx : ¬ B v1.heap.size := fun hb => by have := HO2.out.ls.lgr.bnd _ hb; have := hb1.size; omega
              rw [hv2] at a1 hbx
              have hO3 := (HO2.out.below hb1).below a1
              obtain ⟨xb, hxb⟩ : ∃ xb, v1.heap.size = xb := ⟨_, rfl⟩
              rw [hxb] at hbx hnx
              have HO3 := Lib.hid hO3
              have HBX := Lib.hid hbx
              have HNX := Lib.hid hnx
              have HV2 := Lib.hid (And.intro hv2 hxb)
              clear a1 hbx hnx hb1 hO3 HCK hv2 hxb
              go_wp2_with fail
              rw [HV2.out.1, HV2.out.2]
              refine (dbatch _ _ _ _).mono ?_
              rintro x v3 ⟨g, rfl, hr, hb3⟩
              have hO4 := HO3.out.below hb3
              have HBX4 := Lib.hid (HBX.out.below hb3)
              have HAD := Lib.hid (s_add (prod := (P : Int)) (seq := (S : Int)) (base := (e : Int)) hO4.ls H2.out hr (Ld.numB_nat (by omega)) (Ld.numB_nat (by omega)) (by omega) (by omega))
              have HO4 := Lib.hid hO4
              clear hr hb3 hO4
              go_wp2_with fail
              refine HAD.out.mono ?_
              rintro x v5 ⟨rfl, B', hls5, hm5⟩
              rw [HAE.out]
              rw [HAE.out] at hls5
              have HO5 := Lib.hid (HO4.out.ledger hls5 hm5)
              have HBX5 := Lib.hid (HBX4.out.moved hm5 HNX.out).1
              obtain ⟨n, hn⟩ : ∃ n, (hs P).length = n := ⟨_, rfl⟩
              have HN := Lib.hid hn
              have d0 : v5.cell? ⟨nb, P, none⟩ = some (.int .i64 (n : Nat)) := by
                have := HO5.out.nx.cell (four_at _ hP4)
                unfold cnt at this
                rw [hn] at this
                exact this
              have y0 := HBX5.out.cell (i := 0) rfl
              have y1 := HBX5.out.cell (i := 1) rfl
              have y2 := HBX5.out.cell (i := 2) rfl
              have hP5 : (P : Int) < 4 := by omega
              clear hls5 hm5 hn HAD HAE
              have hS6 := hS5.1
              rw [HN.out] at hS5 hS6
              have hne : ((S : Int) == (n : Int)) = false := by simp; omega
              have hle : ¬ n < S := by omega
              have hlt5 : ¬ ((S : Int) + 5 < (n : Int)) := by omega
              have hlt6 : decide ((S : Int) + 5 < (n : Int)) = false := by simp; omega
              have hsl := HO5.out.sl P hP4
              have hbc := HO5.out.bs.cell (four_at V hP4)
              obtain ⟨ao, cp, hV, -, hpos, -⟩ := hsl.make
              rw [HN.out] at hV hpos
              obtain ⟨gg, off2, rfl, hG⟩ := hpos (by omega)
              rw [hV] at hbc
              have hcell := hsl.cell (by rw [hV]) S (.int .i64 ((hs P).getD S 0)) (by
                unfold ints
                rw [List.getElem?_map, List.getElem?_eq_getElem (by rw [HN.out]; omega)]
                simp [List.getD_eq_getElem?_getD, List.getElem?_eq_getElem (show S < (hs P).length by rw [HN.out]; omega)])
              rw [HQ.out] at hcell
              have hw : IntKind.i64.wrap (q + 1) = q + 1 := IntWalk.i64_in _ (by omega)
              have hSi : (S : Int) < (n : Int) := by omega
              have hSi0 : (0 : Int) ≤ (S : Int) := by omega
              have hPi0 : (0 : Int) ≤ (P : Int) := by omega
              clear hsl hV hpos hG
              go_wp2_with fail
              go_quiet (fail)
              obtain ⟨w6, hw6⟩ : ∃ W, v5.drewN nq = W := ⟨_, rfl⟩
              have HO6 : Hid (On w w6 rb nb bb B' T hs V G) := by rw [← hw6]; exact HO5.out.below (below_drewN v5 nq)
              rw [hw6]
              clear hw6 hw
              go_wp2_with fail
              go_roundw
              case rel => exact ⟨i + 1, e, B', T, hs, V, G, by omega, by omega, by omega, rfl, by go_num, HO6.out, HCM.out, HLN.out⟩
              case measure => simp [intOf]; omega
      · go_wp2_with fail
        go_ret
        exact ⟨rfl, HO2.out.ls.low⟩
    · have hge : decide (i < m) = false := decide_eq_false hlt
      go_wp2_with fail
      go_ret
      exact ⟨rfl, HO2.out.ls.low⟩
end Go.Proofs.YtloallndnmofnaaDoor
