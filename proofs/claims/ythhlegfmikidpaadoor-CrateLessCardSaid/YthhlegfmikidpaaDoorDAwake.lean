/- 'awake' answers true; 'great'. -/
import Derived.Test.YthhlegfmikidpaaDoorDDecode
import Derived.Test.YthhlegfmikidpaaDoorDEncode
namespace Go.Proofs.YthhlegfmikidpaaDoor
open Go.RowKit

theorem wInt_digit (n : Nat) (h : n < 10) : Pl.wInt n = [105, UInt8.ofNat (48 + n), 101] := by
  have : Lib.itoa (n : Int) = [UInt8.ofNat (48 + n)] := by
    unfold Lib.itoa
    rw [if_neg (by omega), show ((n : Int)).toNat = n by omega, Lib.decDigits_one h]
  rw [Pl.wInt, this]; rfl
theorem wText_digit (t : List UInt8) (h : t.length < 10) : Pl.wText t = UInt8.ofNat (48 + t.length) :: 58 :: t := by
  have : Lib.itoa ((t.length : Nat) : Int) = [UInt8.ofNat (48 + t.length)] := by
    unfold Lib.itoa
    rw [if_neg (by omega), show ((t.length : Int)).toNat = t.length by omega, Lib.decDigits_one h]
  rw [Pl.wText, this]; rfl
def awR : Pl.Rc := ⟨0, [107], [118], false⟩
def awB : Pl.Bt := ⟨5, 1, 1, 0, 9, [⟨5, [107], [118], false⟩]⟩
theorem aw_good : Pl.goodB awB = true := by decide +kernel
theorem aw_fits : Pl.fitsB awB.recs = true := by decide +kernel
theorem aw_pack : Pl.packB [awR] 5 1 0 9 = some awB := by
  unfold Pl.packB
  rw [if_pos ⟨by decide +kernel, by decide +kernel⟩]
  rfl
theorem aw_enc : Pl.enc awB = [108, 105, 53, 101, 105, 49, 101, 105, 49, 101, 105, 48, 101, 105, 57, 101, 108, 105, 53, 101, 49, 58, 107, 49, 58, 118, 105, 48, 101, 101, 101] := by
  have e5 := wInt_digit 5 (by omega)
  have e1 := wInt_digit 1 (by omega)
  have e0 := wInt_digit 0 (by omega)
  have e9 := wInt_digit 9 (by omega)
  have ek := wText_digit [107] (by decide)
  have ev := wText_digit [118] (by decide)
  have E5 : Pl.wInt 5 = _ := e5
  have E1 : Pl.wInt 1 = _ := e1
  have E0 : Pl.wInt 0 = _ := e0
  have E9 : Pl.wInt 9 = _ := e9
  have EG : Pl.wInt (Pl.goneN false) = _ := e0
  simp only [Pl.enc, awB, Pl.encRs, List.map_cons, List.map_nil, Pl.encR, EG, E5, E1, E0, E9, ek, ev]
  rfl

set_option maxHeartbeats 2000000 in
set_option maxRecDepth 100000 in
theorem awake_any (w : World) (lb : Lb w) :
    Calls Tryd.prog 11 #[] w fun e w' => e = .returned (.bool true) ∧ Below w.heap.size w w' := by
  have hb0 := Blk.new w #[.int .i64 0, .string ⟨#[107]⟩, .string ⟨#[118]⟩, .bool false] 41
  have hw0 : Below w.heap.size w (w.alloc (.cells #[.int .i64 0, .string ⟨#[107]⟩, .string ⟨#[118]⟩, .bool false] 41)) := (Below.refl _ _).alloc (Nat.le_refl _) _
  have hrec : Recs (.slice (some ⟨w.heap.size, 0, none⟩) 1 1) [awR] (w.alloc (.cells #[.int .i64 0, .string ⟨#[107]⟩, .string ⟨#[118]⟩, .bool false] 41)) := ⟨_, _, rfl, fun j x hj => by
    match j, hj with
    | 0, hj =>
      obtain rfl := Option.some.inj hj
      exact ⟨_, _, rfl, hb0.lt, hb0.cell (i := 0) rfl, hb0.cell (i := 1) rfl, hb0.cell (i := 2) rfl, hb0.cell (i := 3) rfl⟩
    | j + 1, hj => simp at hj⟩
  have C := dpack _ [awR] 5 1 0 9 _ (lb.below lb.size hw0) hrec (by decide)
  rw [aw_pack] at C
  have C1 : Calls Tryd.prog 23 #[.slice (some ⟨w.heap.size, 0, none⟩) 1 1, .int .i64 5, .int .i64 1, .int .i64 0, .int .i64 9] (w.alloc (.cells #[.int .i64 0, .string ⟨#[107]⟩, .string ⟨#[118]⟩, .bool false] 41)) fun e w' => Below w.heap.size w w' ∧ ∃ a1 p1, Recs (.slice a1 1 p1) awB.recs w' ∧ e = .returned (.tuple #[.agg #[.int .i64 5, .int .i64 1, .int .i64 1, .int .i64 0, .int .i64 9, .slice a1 1 p1], .int .i64 0]) := C.mono fun e w' h => ⟨hw0.trans (h.1.mono hw0.size), by
    obtain ⟨-, v, hv, he⟩ := h
    have hv' := hv
    obtain ⟨a, p, rfl, -⟩ := hv'
    exact ⟨a, p, hv, he⟩⟩
  have HC1 := Lib.hid C1
  have HLB := Lib.hid lb
  clear lb C C1 hrec hb0 hw0
  go_enter Tryd.func11, Tryd.ntmps11
  go_wp2_with fail
  refine HC1.out.mono ?_
  rintro e w1 ⟨b1, a1, p1, hv1, rfl⟩
  have k1 := Blk.new w1 #[.int .i64 5, .int .i64 1, .int .i64 1, .int .i64 0, .int .i64 9, .slice a1 1 p1] 24
  have al1 : Below w1.heap.size w1 (w1.alloc (.cells #[.int .i64 5, .int .i64 1, .int .i64 1, .int .i64 0, .int .i64 9, .slice a1 1 p1] 24)) := (Below.refl _ _).alloc (Nat.le_refl _) _
  have hw1 := b1.trans (al1.mono b1.size)
  have hv1' := hv1.below al1
  have C := dencode awB (.slice a1 1 p1) _ (HLB.out.below HLB.out.size hw1) hv1' (by decide)
  rw [aw_good, if_pos rfl, aw_enc] at C
  have HC2 : Hid (Calls Tryd.prog 13 #[.agg #[.int .i64 5, .int .i64 1, .int .i64 1, .int .i64 0, .int .i64 9, .slice a1 1 p1]] (w1.alloc (.cells #[.int .i64 5, .int .i64 1, .int .i64 1, .int .i64 0, .int .i64 9, .slice a1 1 p1] 24)) fun e w' => e = .returned (.tuple #[.string ⟨#[108, 105, 53, 101, 105, 49, 101, 105, 49, 101, 105, 48, 101, 105, 57, 101, 108, 105, 53, 101, 49, 58, 107, 49, 58, 118, 105, 48, 101, 101, 101]⟩, .int .i64 0]) ∧ Below (w1.alloc (.cells #[.int .i64 5, .int .i64 1, .int .i64 1, .int .i64 0, .int .i64 9, .slice a1 1 p1] 24)).heap.size (w1.alloc (.cells #[.int .i64 5, .int .i64 1, .int .i64 1, .int .i64 0, .int .i64 9, .slice a1 1 p1] 24)) w') := C
  have HK1 := Lib.hid k1
  have HV1 := Lib.hid hv1'
  have HW1 := Lib.hid hw1
  clear C k1 al1 hw1 hv1' hv1 b1 HC1
  go_wp2_with fail
  refine HC2.out.mono ?_
  rintro e w2 ⟨rfl, b2⟩
  have HK2 := Lib.hid (HK1.out.below b2)
  have HV2 := Lib.hid (HV1.out.below b2)
  have HW2 := Lib.hid (HW1.out.trans (b2.mono HW1.out.size))
  clear b2 HK1 HV1 HW1 HC2
  have C := ddecode ⟨#[108, 105, 53, 101, 105, 49, 101, 105, 49, 101, 105, 48, 101, 105, 57, 101, 108, 105, 53, 101, 49, 58, 107, 49, 58, 118, 105, 48, 101, 101, 101]⟩ w2 (HLB.out.below HLB.out.size HW2.out) (by decide)
  rw [show (⟨#[108, 105, 53, 101, 105, 49, 101, 105, 49, 101, 105, 48, 101, 105, 57, 101, 108, 105, 53, 101, 49, 58, 107, 49, 58, 118, 105, 48, 101, 101, 101]⟩ : ByteArray).data.toList = Pl.enc awB from aw_enc.symm, dec_enc aw_good] at C
  have HC3 : Hid (Calls Tryd.prog 21 #[.string ⟨#[108, 105, 53, 101, 105, 49, 101, 105, 49, 101, 105, 48, 101, 105, 57, 101, 108, 105, 53, 101, 49, 58, 107, 49, 58, 118, 105, 48, 101, 101, 101]⟩] w2 fun e w' => Below w2.heap.size w2 w' ∧ ∃ a2 p2, Recs (.slice a2 1 p2) awB.recs w' ∧ e = .returned (.tuple #[.agg #[.int .i64 5, .int .i64 1, .int .i64 1, .int .i64 0, .int .i64 9, .slice a2 1 p2], .int .i64 0])) := C.mono fun e w' h => ⟨h.1, by
    obtain ⟨-, v, hv, he⟩ := h
    have hv' := hv
    obtain ⟨a, p, rfl, -⟩ := hv'
    exact ⟨a, p, hv, he⟩⟩
  clear C
  go_wp2_with fail
  refine HC3.out.mono ?_
  rintro e w3 ⟨b3, a2, p2, hv2, rfl⟩
  have k3 := Blk.new w3 #[.int .i64 5, .int .i64 1, .int .i64 1, .int .i64 0, .int .i64 9, .slice a2 1 p2] 24
  have a3 : Below w3.heap.size w3 (w3.alloc (.cells #[.int .i64 5, .int .i64 1, .int .i64 1, .int .i64 0, .int .i64 9, .slice a2 1 p2] 24)) := (Below.refl _ _).alloc (Nat.le_refl _) _
  have HK4 := Lib.hid ((HK2.out.below b3).below a3)
  have HV4 := Lib.hid ((HV2.out.below b3).below a3)
  have HU4 := Lib.hid (hv2.below a3)
  have HW4 := Lib.hid (HW2.out.trans ((b3.trans (a3.mono b3.size)).mono HW2.out.size))
  have HL4 := Lib.hid k3
  have C := dencode ⟨0, 0, 0, 0, 0, []⟩ (.slice none 0 0) _ (HLB.out.below HLB.out.size HW4.out) ⟨none, 0, rfl, fun j x hj => by simp at hj⟩ (by decide)
  rw [show Pl.goodB ⟨0, 0, 0, 0, 0, []⟩ = false from by decide +kernel, if_neg (by decide)] at C
  have HC4 := Lib.hid C
  clear C k3 a3 b3 hv2 HK2 HV2 HW2 HC3
  go_wp2_with fail
  refine HC4.out.mono ?_
  rintro e w5 ⟨rfl, b5⟩
  have HK5 := Lib.hid (HK4.out.below b5)
  have HL5 := Lib.hid (HL4.out.below b5)
  have HV5 := Lib.hid (HV4.out.below b5)
  have HU5 := Lib.hid (HU4.out.below b5)
  have HW5 := Lib.hid (HW4.out.trans (b5.mono HW4.out.size))
  clear b5 HK4 HL4 HV4 HU4 HW4 HC4
  have c0 := HK5.out.cell (i := 0) rfl
  have d0 := HL5.out.cell (i := 0) rfl
  have c1 := HK5.out.cell (i := 1) rfl
  have d1 := HL5.out.cell (i := 1) rfl
  have c2 := HK5.out.cell (i := 2) rfl
  have d2 := HL5.out.cell (i := 2) rfl
  have c3 := HK5.out.cell (i := 3) rfl
  have d3 := HL5.out.cell (i := 3) rfl
  have c4 := HK5.out.cell (i := 4) rfl
  have d4 := HL5.out.cell (i := 4) rfl
  have c5 := HK5.out.cell (i := 5) rfl
  have d5 := HL5.out.cell (i := 5) rfl
  have C := dsame awB awB (.slice a1 1 p1) (.slice a2 1 p2) w5 HV5.out HU5.out (by decide) (by decide)
  rw [show Pl.sameB awB awB = true from Pl.sameB_iff.2 rfl] at C
  have HC5 : Hid (Calls Tryd.prog 19 #[.agg #[.int .i64 5, .int .i64 1, .int .i64 1, .int .i64 0, .int .i64 9, .slice a1 1 p1], .agg #[.int .i64 5, .int .i64 1, .int .i64 1, .int .i64 0, .int .i64 9, .slice a2 1 p2]] w5 fun e w' => e = .returned (.bool true) ∧ Below w5.heap.size w5 w') := C
  clear C
  go_wp2_with fail
  refine HC5.out.mono ?_
  rintro e w6 ⟨rfl, b6⟩
  have HK6 := Lib.hid (HK5.out.below b6)
  have HV6 := Lib.hid (HV5.out.below b6)
  have HW6 := Lib.hid (HW5.out.trans (b6.mono HW5.out.size))
  clear b6 HK5 HL5 HV5 HU5 HW5 HC5 c0 c1 c2 c3 c4 c5 d0 d1 d2 d3 d4 d5
  have C := dgood 5 1 1 0 9 awB.recs (.slice a1 1 p1) w6 (HLB.out.below HLB.out.size HW6.out) HV6.out (by decide)
  rw [show Pl.goodB ⟨5, 1, 1, 0, 9, awB.recs⟩ = true from aw_good] at C
  have HC6 := Lib.hid C
  have c0 := HK6.out.cell (i := 0) rfl
  have c1 := HK6.out.cell (i := 1) rfl
  have c2 := HK6.out.cell (i := 2) rfl
  have c3 := HK6.out.cell (i := 3) rfl
  have c4 := HK6.out.cell (i := 4) rfl
  have c5 := HK6.out.cell (i := 5) rfl
  clear C
  go_wp2_with fail
  refine HC6.out.mono ?_
  rintro e w7 ⟨rfl, b7⟩
  have HK7 := Lib.hid (HK6.out.below b7)
  have HV7 := Lib.hid (HV6.out.below b7)
  have HW7 := Lib.hid (HW6.out.trans (b7.mono HW6.out.size))
  clear b7 HK6 HV6 HW6 HC6 c0 c1 c2 c3 c4 c5
  have C := dfits (.slice a1 1 p1) awB.recs w7 HV7.out (by decide)
  rw [aw_fits] at C
  have HC7 := Lib.hid C
  have c5 := HK7.out.cell (i := 5) rfl
  clear C
  go_wp2_with fail
  refine HC7.out.mono ?_
  rintro e w8 ⟨rfl, b8⟩
  have HW8 := Lib.hid (HW7.out.trans (b8.mono HW7.out.size))
  clear b8 HK7 HV7 HW7 HC7 c5
  have C := dfits (.slice none 0 0) [] w8 ⟨none, 0, rfl, fun j x hj => by simp at hj⟩ (by decide)
  rw [show Pl.fitsB [] = false from rfl] at C
  have HC8 := Lib.hid C
  clear C
  go_wp2_with fail
  refine HC8.out.mono ?_
  rintro e w9 ⟨rfl, b9⟩
  have HW9 := Lib.hid (HW8.out.trans (b9.mono HW8.out.size))
  clear b9 HW8 HC8
  go_wp2_with fail
  go_ret
  exact ⟨rfl, HW9.out⟩

def greatB (l : List Pl.Rc) : Bool := decide (40 < l.length) || l.any fun x => decide (1000 < x.key.length ∨ 1000 < x.val.length)
set_option maxHeartbeats 2000000 in
set_option maxRecDepth 100000 in
theorem great_any (v : Value) (ls : List Pl.Rc) (w : World) (h : Recs v ls w) (hl : ls.length ≤ maxLen) (hs : ∀ x ∈ ls, x.key.length ≤ maxLen ∧ x.val.length ≤ maxLen) :
    Calls Tryd.prog 12 #[v] w fun e w' => e = .returned (.bool (greatB ls)) ∧ Below w.heap.size w w' := by
  obtain ⟨a, cap, rfl, hc⟩ := h
  obtain ⟨m, hm⟩ : ∃ m, ls.length = m := ⟨_, rfl⟩
  obtain ⟨r, hr⟩ : ∃ r, greatB ls = r := ⟨_, rfl⟩
  rw [hr]
  rw [hm] at hl ⊢
  have HR := Lib.hid hr
  have HM := Lib.hid hm
  have HC := Lib.hid hc
  have HS := Lib.hid hs
  unfold maxLen at hl
  clear hm hc hr hs
  by_cases h40 : 40 < m
  · go_enter Tryd.func12, Tryd.ntmps12
    go_wp2_with fail
    go_ret
    exact ⟨congrArg (fun b => Ending.returned (.bool b)) (by rw [← HR.out, greatB, HM.out, decide_eq_true (by omega)]; rfl), Below.refl _ _⟩
  · go_enter Tryd.func12, Tryd.ntmps12
    go_wp2_with fail
    go_loopw [3] (fun iv wr => ∃ k : Nat, k ≤ m ∧ iv = .int .i64 k ∧ wr = w ∧ (ls.take k).any (fun x => decide (1000 < x.key.length ∨ 1000 < x.val.length)) = false) (fun iv _ => m - (intOf iv).toNat)
    case atStart => exact ⟨0, Nat.zero_le _, rfl, rfl, rfl⟩
    case round =>
      obtain ⟨k, hk, rfl, rfl, hany⟩ := hrel
      have HA := Lib.hid hany
      clear hany
      by_cases hlt : k < m
      · obtain ⟨x, hx⟩ : ∃ x, ls[k]? = some x := ⟨_, List.getElem?_eq_getElem (by rw [HM.out]; exact hlt)⟩
        obtain ⟨b, off, rfl, hbl, c0, c1, c2, c3⟩ := HC.out k x hx
        obtain ⟨hs1, hs2⟩ := HS.out x (List.mem_of_getElem? hx)
        obtain ⟨K, hK⟩ : ∃ K : ByteArray, (⟨x.key.toArray⟩ : ByteArray) = K := ⟨_, rfl⟩
        obtain ⟨V, hV⟩ : ∃ V : ByteArray, (⟨x.val.toArray⟩ : ByteArray) = V := ⟨_, rfl⟩
        have hKs : x.key.length = K.size := by rw [← hK, size_list]
        have hVs : x.val.length = V.size := by rw [← hV, size_list]
        rw [hK] at c1
        rw [hV] at c2
        have HX := Lib.hid hx
        have HKS := Lib.hid hKs
        have HVS := Lib.hid hVs
        rw [hKs] at hs1
        rw [hVs] at hs2
        unfold maxLen at hs1 hs2
        clear hx hK hV hKs hVs hbl c0 c3
        by_cases h1 : 1000 < K.size
        · have hbad : greatB ls = true := by
            rw [greatB, Bool.or_eq_true]
            exact Or.inr (List.any_eq_true.2 ⟨x, List.mem_of_getElem? HX.out, decide_eq_true (Or.inl (by rw [HKS.out]; exact h1))⟩)
          have HBD := Lib.hid hbad
          clear hbad
          go_wp2_with fail
          go_ret
          exact ⟨congrArg (fun b => Ending.returned (.bool b)) (by rw [← HR.out, HBD.out]), Below.refl _ _⟩
        · by_cases h2 : 1000 < V.size
          · have hbad : greatB ls = true := by
              rw [greatB, Bool.or_eq_true]
              exact Or.inr (List.any_eq_true.2 ⟨x, List.mem_of_getElem? HX.out, decide_eq_true (Or.inr (by rw [HVS.out]; exact h2))⟩)
            have HBD := Lib.hid hbad
            clear hbad
            go_wp2_with fail
            go_ret
            exact ⟨congrArg (fun b => Ending.returned (.bool b)) (by rw [← HR.out, HBD.out]), Below.refl _ _⟩
          · have hnx : Hid ((ls.take (k + 1)).any (fun x => decide (1000 < x.key.length ∨ 1000 < x.val.length)) = false) := by
              show _ = _
              rw [List.take_add_one, HX.out, List.any_append, HA.out]
              simp only [Option.toList_some, List.any_cons, List.any_nil, Bool.or_false, Bool.false_or]
              exact decide_eq_false (by rw [HKS.out, HVS.out]; omega)
            go_wp2_with fail
            go_roundw
            case rel => exact ⟨k + 1, by omega, by go_num, trivial, hnx.out⟩
            case measure => simp [intOf]; omega
      · go_wp2_with fail
        go_ret
        have h := HA.out
        rw [List.take_of_length_le (by rw [HM.out]; omega)] at h
        exact ⟨congrArg (fun b => Ending.returned (.bool b)) (by rw [← HR.out, greatB, h, HM.out, decide_eq_false (by omega)]; rfl), Below.refl _ _⟩
end Go.Proofs.YthhlegfmikidpaaDoor
