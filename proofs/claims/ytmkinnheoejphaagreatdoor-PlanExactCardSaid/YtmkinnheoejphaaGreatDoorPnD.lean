/- THE CONTRACTS OF Life, Wants, isPlace, Good. -/
import Derived.Test.YtmkinnheoejphaaGreatDoorPnC
namespace Go.Proofs.YtmkinnheoejphaaGreatDoor
open Go.RowKit

theorem Pn.life_first {l : List (Int × Int)} {n : Int} {i : Nat} {q : Int × Int} (hi : l[i]? = some q) (hq : q.1 = n) (h : ∀ j x, j < i → l[j]? = some x → x.1 ≠ n) : Pn.life l n = q.2 := by
  unfold Pn.life
  have : l.find? (fun q => q.1 == n) = some q := by
    obtain ⟨hil, he⟩ := List.getElem?_eq_some_iff.1 hi
    rw [List.find?_eq_some_iff_getElem]
    refine ⟨by simpa using hq, i, hil, he, fun j hj => ?_⟩
    have := h j _ hj (List.getElem?_eq_getElem (by omega))
    simpa using this
  rw [this]
theorem Pn.life_none {l : List (Int × Int)} {n : Int} (h : ∀ q ∈ l, q.1 ≠ n) : Pn.life l n = 0 := by
  unfold Pn.life
  have : l.find? (fun q => q.1 == n) = none := List.find?_eq_none.2 fun q hq => by simpa using h q hq
  rw [this]
set_option maxHeartbeats 1000000 in
set_option maxRecDepth 100000 in
theorem life_any {A : Nat → Prop} (pv : Value) (p : Pn.P) (n : Int) (w : World) (h : PlR A w pv p) (hl : p.lives.length ≤ 64) : Calls Tryz.prog 15 #[pv, .int .i64 n] w fun e w' => NumOut w (Pn.life p.lives n) e w' := by
  obtain ⟨sv, lv, rfl, -, hv⟩ := h
  obtain ⟨nodes, copies, parts, lives⟩ := p
  simp only [plv] at hv hl ⊢
  obtain ⟨a, cap, rfl⟩ := hv.form
  obtain ⟨D, hD⟩ : ∃ D, Pn.life lives n = D := ⟨_, rfl⟩
  rw [hD]
  have HD := Lib.hid hD
  obtain ⟨m, hm⟩ : ∃ m, lives.length = m := ⟨_, rfl⟩
  have HM := Lib.hid hm
  obtain ⟨W1, hW1⟩ : ∃ W, w.alloc (.cells #[.int .i64 nodes, .int .i64 copies, sv, .slice a lives.length cap] 25) = W := ⟨_, rfl⟩
  have hB1 : Below w.heap.size w W1 := by rw [← hW1]; exact (Below.refl _ _).alloc (Nat.le_refl _) _
  have hk1 : Blk W1 w.heap.size #[.int .i64 nodes, .int .i64 copies, sv, .slice a lives.length cap] 25 := by rw [← hW1]; exact Blk.new _ _ _
  have HV := Lib.hid (hv.below hB1)
  have HB1 := Lib.hid hB1
  have HR := Lib.hid (Below.refl W1.heap.size W1)
  rw [hm] at hW1 hk1 HV hl ⊢
  have c3 : W1.cell? ⟨w.heap.size, 3, none⟩ = some (.slice a m cap) := hk1.cell rfl
  clear hv hB1 hk1 hm hD
  go_enter Tryz.func15, Tryz.ntmps15
  go_wp2_with fail
  go_loopw [6, 10] (fun _ s10 wx => ∃ i : Nat, i ≤ m ∧ s10 = .int .i64 i ∧ Below W1.heap.size W1 wx ∧ ∀ j x, j < i → lives[j]? = some x → x.1 ≠ n) (fun _ s10 _ => m - (intOf s10).toNat)
  case atStart => exact ⟨0, Nat.zero_le _, rfl, HR.out, fun j x hj => absurd hj (Nat.not_lt_zero _)⟩
  case round =>
    obtain ⟨i, hi, rfl, hb, hno⟩ := hrel
    have HNO := Lib.hid hno
    have HB := Lib.hid hb
    clear hno
    by_cases hlt : i < m
    · obtain ⟨x, hx⟩ : ∃ x, lives[i]? = some x := ⟨_, List.getElem?_eq_getElem (by rw [HM.out]; exact hlt)⟩
      have hv := HV.out.below hb
      rw [← HM.out] at hv
      obtain ⟨b, p, cap', ev, -, hbl, e0, e1⟩ := hv.at hx
      rw [HM.out] at ev
      obtain rfl : a = some ⟨b, p, none⟩ := by injection ev
      have HX := Lib.hid hx
      obtain ⟨xn, xl⟩ := x
      simp only at e0 e1
      have i0 : (0 : Int) ≤ (i : Int) := by omega
      have i1 : (i : Int) < (m : Int) := by omega
      clear ev hx hv hb
      by_cases he : xn = n
      · have HT : Hid (D = xl) := Lib.hid (by rw [← HD.out]; exact Pn.life_first HX.out he HNO.out)
        subst he
        have HE : Hid (Below w.heap.size w (wr.alloc (.cells #[.int .i64 xn, .int .i64 xl] 55))) := Lib.hid ((HB1.out.trans (HB.out.mono HB1.out.size)).alloc (HB1.out.trans (HB.out.mono HB1.out.size)).size _)
        go_wp2_with fail
        go_ret
        exact ⟨by rw [HT.out]; rfl, HE.out⟩
      · have HNX : Hid (∀ j z, j < i + 1 → lives[j]? = some z → z.1 ≠ n) := Lib.hid fun j z hj hz => by
          rcases Nat.lt_or_ge j i with h | h
          · exact HNO.out j z h hz
          · obtain rfl : j = i := by omega
            rw [HX.out] at hz
            obtain rfl := Option.some.inj hz
            exact he
        have hne : (xn == n) = false := by simp [he]
        clear he
        have HE : Hid (Below W1.heap.size W1 (wr.alloc (.cells #[.int .i64 xn, .int .i64 xl] 55))) := Lib.hid (HB.out.alloc HB.out.size _)
        go_wp2_with fail
        go_roundw
        case rel => exact ⟨i + 1, by omega, by go_num, HE.out, HNX.out⟩
        case measure => simp [intOf]; omega
    · have HT : Hid (D = 0) := Lib.hid (by
        rw [← HD.out]
        refine Pn.life_none fun q h => ?_
        obtain ⟨j, hj, rfl⟩ := List.getElem_of_mem h
        exact HNO.out j _ (by rw [HM.out] at hj; omega) (List.getElem?_eq_getElem hj))
      clear hb
      go_wp2_with fail
      go_ret
      exact ⟨by rw [HT.out]; rfl, HB1.out.trans (HB.out.mono HB1.out.size)⟩

theorem Pn.idx_snoc {α : Type} (f : α → Bool) : ∀ (l : List α) (k : Nat) (x : α), Pn.idx f k (l ++ [x]) = Pn.idx f k l ++ if f x = true then [k + l.length] else []
  | [], k, x => by simp only [List.nil_append, Pn.idx, List.length_nil, Nat.add_zero]
  | y :: l, k, x => by
    simp only [List.cons_append, Pn.idx]
    rw [Pn.idx_snoc f l (k + 1) x]
    have : k + 1 + l.length = k + (y :: l).length := by simp; omega
    rw [this]
    split <;> simp
theorem Pn.idx_take {α : Type} (f : α → Bool) {l : List α} {i : Nat} {x : α} (h : l[i]? = some x) : Pn.idx f 0 (l.take (i + 1)) = Pn.idx f 0 (l.take i) ++ if f x = true then [i] else [] := by
  rw [List.take_add_one, h]
  have hl : (l.take i).length = i := by rw [List.length_take]; have := (List.getElem?_eq_some_iff.1 h).1; omega
  have := Pn.idx_snoc f (l.take i) 0 x
  rw [hl, Nat.zero_add] at this
  exact this
theorem Pn.idx_len {α : Type} (f : α → Bool) : ∀ (l : List α) (k : Nat), (Pn.idx f k l).length ≤ l.length
  | [], _ => Nat.le_refl _
  | x :: l, k => by
    unfold Pn.idx
    have := Pn.idx_len f l (k + 1)
    split <;> simp <;> omega
/-- Places, as numbers of the program's. -/
def Pn.nums (l : List Nat) : List Int := l.map fun (k : Nat) => (k : Int)
theorem infoInt : Info Tryz.prog 3 1 8 (.int .i64 0) := Info.of (by kernel_rfl) rfl
def LstOut (w : World) (l : List Int) (e : Ending) (w' : World) : Prop := Below w.heap.size w w' ∧ ∃ v gb, e = .returned v ∧ NsO w.heap.size w' v gb l
theorem NsO.nil (z : Nat) (w : World) : NsO z w (.slice none 0 0) none [] := Wz.nil z w _ _
section
variable {P : Program} {ops : Array Oper} {rest : List Oper} {o : Oper} {a : Act} {Q : Exit → Act → World → Prop} {z : Nat} {w : World} {v : Value} {gb : Option Nat} {l : List Int}
/-- A number more in a list of the call's own. -/
theorem wp_num {t : TypeId} (hi : Info P 3 1 8 (.int .i64 0)) (ht : P.underlying t = some (.slice 3)) (hgd : o.guard = none) (s y : Operand)
    (ho : o.op = .call { callee := .builtin .append, args := #[s, y], argTypes := #[t, t] })
    (hs : a.eval s = v) (h : NsO z w v gb l) (b c : Nat) (n : Int) (hx : a.eval y = .slice (some ⟨b, 0, none⟩) 1 c) (hn : w.cell? ⟨b, 0, none⟩ = some (.int .i64 n)) (hl : l.length ≤ 1048576) (hz : z ≤ w.heap.size)
    (k : ∀ v' gb' w', NsO z w' v' gb' (l ++ [n]) → w.grownBy w' gb → (∀ b, gb' = some b → gb = some b ∨ w.heap.size ≤ b) → wpList P ops Q rest (a.put o.dst v') w') : wpList P ops Q (o :: rest) a w := by
  refine wp_add hi ht hgd s y ho hs h ⟨b, 0, none⟩ c [.int .i64 n] hx rfl (fun j u hj => ?_) (by simp [Value.oneCell']) hl (by decide) hz fun v' gb' w' h1 h2 h3 => k v' gb' w' ?_ h2 h3
  · match j, hj with
    | 0, hj => injection hj with hj; subst hj; rw [Addr.add_lit]; exact hn
    | j + 1, hj => simp at hj
  · unfold NsO
    rw [List.length_append, List.map_append]
    exact h1
end
theorem ns_snoc (l : List Int) (x : Int) : l.map (Value.int .i64) ++ [.int .i64 x] = (l ++ [x]).map (Value.int .i64) := by simp
set_option maxHeartbeats 2000000 in
set_option maxRecDepth 100000 in
theorem wants_any {A : Nat → Prop} (pv : Value) (p : Pn.P) (n : Int) (w : World) (h : PlR A w pv p) (hl : p.parts.length ≤ 64) (hc : ∀ x ∈ p.parts, x.ch.length ≤ 64) : Calls Tryz.prog 17 #[pv, .int .i64 n] w fun e w' => LstOut w (Pn.nums (Pn.wants p n)) e w' := by
  obtain ⟨sv, lv, rfl, hv, -⟩ := h
  obtain ⟨nodes, copies, parts, lives⟩ := p
  simp only [plv] at hv hl hc ⊢
  obtain ⟨a, cap, rfl⟩ := hv.form
  obtain ⟨D, hD⟩ : ∃ D, Pn.wants ⟨nodes, copies, parts, lives⟩ n = D := ⟨_, rfl⟩
  rw [hD]
  have HD : Hid (D = if 1 ≤ n ∧ n ≤ nodes then Pn.idx (Pn.wantB copies n) 0 parts else []) := Lib.hid (by rw [← hD]; rfl)
  obtain ⟨m, hm⟩ : ∃ m, parts.length = m := ⟨_, rfl⟩
  have HM := Lib.hid hm
  have HC := Lib.hid hc
  obtain ⟨W1, hW1⟩ : ∃ W, w.alloc (.cells #[.int .i64 nodes, .int .i64 copies, .slice a parts.length cap, lv] 25) = W := ⟨_, rfl⟩
  have hB1 : Below w.heap.size w W1 := by rw [← hW1]; exact (Below.refl _ _).alloc (Nat.le_refl _) _
  have hk1 : Blk W1 w.heap.size #[.int .i64 nodes, .int .i64 copies, .slice a parts.length cap, lv] 25 := by rw [← hW1]; exact Blk.new _ _ _
  have HV := Lib.hid (hv.below hB1)
  have HB1 := Lib.hid hB1
  have HR := Lib.hid (Below.refl W1.heap.size W1)
  rw [hm] at hW1 hk1 HV hl ⊢
  have HK1 := Lib.hid hk1
  have c0 : W1.cell? ⟨w.heap.size, 0, none⟩ = some (.int .i64 nodes) := hk1.cell rfl
  have c2 : W1.cell? ⟨w.heap.size, 2, none⟩ = some (.slice a m cap) := hk1.cell rfl
  clear hv hB1 hk1 hm hD hc
  go_enter Tryz.func17, Tryz.ntmps17
  by_cases h1 : n < 1
  · have HT : Hid (D = []) := Lib.hid (by rw [HD.out, if_neg (by omega)])
    go_wp2_with fail
    go_ret
    exact ⟨HB1.out, _, none, rfl, by rw [HT.out]; exact NsO.nil _ _⟩
  by_cases h2 : nodes < n
  · have HT : Hid (D = []) := Lib.hid (by rw [HD.out, if_neg (by omega)])
    go_wp2_with fail
    go_ret
    exact ⟨HB1.out, _, none, rfl, by rw [HT.out]; exact NsO.nil _ _⟩
  have HT : Hid (D = Pn.idx (Pn.wantB copies n) 0 parts) := Lib.hid (by rw [HD.out, if_pos (by omega)])
  clear HD
  go_wp2_with fail
  go_loopw [5, 6, 7, 19] (fun s5 _ _ s19 wx => ∃ (i : Nat) (gb : Option Nat), i ≤ m ∧ s19 = .int .i64 i ∧ Below W1.heap.size W1 wx ∧ NsO W1.heap.size wx s5 gb (Pn.nums (Pn.idx (Pn.wantB copies n) 0 (parts.take i)))) (fun _ _ _ s19 _ => m - (intOf s19).toNat)
  case atStart => exact ⟨0, none, Nat.zero_le _, rfl, HR.out, by simp only [List.take_zero]; exact NsO.nil _ _⟩
  case round =>
    obtain ⟨i, gb, hi, rfl, hb, hw⟩ := hrel
    have HB := Lib.hid hb
    have HW := Lib.hid hw
    obtain ⟨aw, cw, rfl⟩ := hw.ns.form
    by_cases hlt : i < m
    · obtain ⟨x, hx⟩ : ∃ x, parts[i]? = some x := ⟨_, List.getElem?_eq_getElem (by rw [HM.out]; exact hlt)⟩
      have hv := HV.out.below hb
      rw [← HM.out] at hv
      obtain ⟨b, p, cap', cv, ev, -, hbl, hns, e0, e1, e2⟩ := hv.at hx
      rw [HM.out] at ev
      obtain rfl : a = some ⟨b, p, none⟩ := by injection ev
      have hc64 := HC.out x (List.mem_of_getElem? hx)
      have HIX := Lib.hid (Pn.idx_take (Pn.wantB copies n) hx)
      have hwl : (Pn.idx (Pn.wantB copies n) 0 (parts.take i)).length ≤ 64 := Nat.le_trans (Pn.idx_len _ _ _) (by rw [List.length_take]; omega)
      obtain ⟨xe, xc, xl⟩ := x
      simp only at e0 e1 e2 hns hc64
      obtain ⟨ca, cc, rfl⟩ := hns.form
      obtain ⟨cn, hcn⟩ : ∃ n, xc.length = n := ⟨_, rfl⟩
      have i0 : (0 : Int) ≤ (i : Int) := by omega
      have i1 : (i : Int) < (m : Int) := by omega
      obtain ⟨W2, hW2⟩ : ∃ W, wr.alloc (.cells #[.int .i64 xe, .slice ca xc.length cc, .int .i64 xl] 49) = W := ⟨_, rfl⟩
      have hb2 : Below wr.heap.size wr W2 := by rw [← hW2]; exact (Below.refl _ _).alloc (Nat.le_refl _) _
      have hk2 : Blk W2 wr.heap.size #[.int .i64 xe, .slice ca xc.length cc, .int .i64 xl] 49 := by rw [← hW2]; exact Blk.new _ _ _
      have HCT := Lib.hid (contains_any _ xc n W2 (hns.below hb2) hc64)
      have HWB : Hid (Pn.wantB copies n ⟨xe, xc, xl⟩ = (decide ((xc.length : Int) < copies) && (xl == 0) && !xc.contains n)) := Lib.hid rfl
      obtain ⟨B, hB⟩ : ∃ B, xc.contains n = B := ⟨_, rfl⟩
      rw [hB] at HCT HWB
      have HB2 := Lib.hid (HB.out.trans (hb2.mono HB.out.size))
      have HW2 := Lib.hid (Wz.below hw hb2)
      have HK2 := Lib.hid hk2
      rw [hcn] at hW2 hk2 HCT HWB e1
      have d1 : W2.cell? ⟨wr.heap.size, 1, none⟩ = some (.slice ca cn cc) := hk2.cell rfl
      have d2 : W2.cell? ⟨wr.heap.size, 2, none⟩ = some (.int .i64 xl) := hk2.cell rfl
      have c1 : W2.cell? ⟨w.heap.size, 1, none⟩ = some (.int .i64 copies) := (HK1.out.below HB2.out).cell rfl
      have HWH := Lib.hid hW2
      have HWL := Lib.hid hwl
      clear ev hx hv hb hw hns hc64 hb2 hk2 hB hcn HK2 hW2 hwl
      go_upto_region 7 with fail
      rw [HWH.out]
      clear e0 e1 e2 HWH
      go_cut [41] from 24 to 41 (fun s wx => s = .bool (decide ((cn : Int) < copies) && (xl == 0) && !B) ∧ wx = W2)
      case first =>
        by_cases k1 : (cn : Int) < copies
        · by_cases k2 : xl = 0
          · subst k2
            go_wp2_with fail
            refine HCT.out.mono ?_
            rintro e w3 ⟨rfl, rfl⟩
            go_wp2_with fail
            go_meet
            case rel => exact ⟨by simp <;> omega, rfl⟩
          · have k3 : (xl == 0) = false := by simp [k2]
            clear k2
            go_wp2_with fail
            go_meet
            case rel => exact ⟨by simp [k3], rfl⟩
        · have k4 : decide ((cn : Int) < copies) = false := decide_eq_false k1
          go_wp2_with fail
          go_meet
          case rel => exact ⟨by simp [k4], rfl⟩
      case rest =>
      obtain ⟨hs, hw⟩ := hcut
      rw [← HWB.out] at hs
      have hw' : W2 = wc := hw.symm
      subst hw'
      subst hs
      clear hw
      cases hf : Pn.wantB copies n ⟨xe, xc, xl⟩ with
      | false =>
        have HIY : Hid (Pn.idx (Pn.wantB copies n) 0 (parts.take (i + 1)) = Pn.idx (Pn.wantB copies n) 0 (parts.take i)) := Lib.hid (by rw [HIX.out, hf]; simp)
        clear hf
        go_wp2_with fail
        go_roundw
        case rel => exact ⟨i + 1, gb, by omega, by go_num, HB2.out, by rw [HIY.out]; exact HW2.out⟩
        case measure => simp [intOf]; omega
      | true =>
        have HIY : Hid (Pn.idx (Pn.wantB copies n) 0 (parts.take (i + 1)) = Pn.idx (Pn.wantB copies n) 0 (parts.take i) ++ [i]) := Lib.hid (by rw [HIX.out, hf]; simp)
        obtain ⟨T, hT⟩ : ∃ T, Pn.idx (Pn.wantB copies n) 0 (parts.take i) = T := ⟨_, rfl⟩
        rw [hT] at HIY HW2 HWL ⊢
        have HTL : Hid ((Pn.nums T).length ≤ 64) := Lib.hid (by unfold Pn.nums; rw [List.length_map]; exact HWL.out)
        clear hf hT
        obtain ⟨W3, hW3⟩ : ∃ W, W2.alloc (.cells #[.int .i64 (i : Int)] 3) = W := ⟨_, rfl⟩
        have hb3 : Below W2.heap.size W2 W3 := by rw [← hW3]; exact (Below.refl _ _).alloc (Nat.le_refl _) _
        have HN : Hid (W3.cell? ⟨W2.heap.size, 0, none⟩ = some (.int .i64 (i : Int))) := Lib.hid (by rw [← hW3]; exact (Blk.new W2 #[.int .i64 (i : Int)] 3).cell rfl)
        have HB3 := Lib.hid (HB2.out.trans (hb3.mono HB2.out.size))
        have HW3 := Lib.hid (Wz.below HW2.out hb3)
        clear hb3
        obtain ⟨tn, htn⟩ : ∃ n, (Pn.nums T).length = n := ⟨_, rfl⟩
        have HTN := Lib.hid htn
        rw [htn]
        clear htn
        go_wp2_with (at_builtin; refine wp_num infoInt Tryz.underlying32 (by rfl) _ _ (by rfl) (by rfl) (by rw [← HTN.out]; exact HW3.out) W2.heap.size 1 (i : Int) (by rfl) HN.out (by have := HTL.out; omega) HB3.out.size ?_)
        intro v' g' w' hz' hg' _
        have HZ' : Hid (NsO W1.heap.size w' v' g' (Pn.nums (Pn.idx (Pn.wantB copies n) 0 (parts.take (i + 1))))) := Lib.hid (by
          rw [HIY.out]
          unfold Pn.nums at hz' ⊢
          rw [List.map_append]
          exact hz')
        have HB' := Lib.hid (Below.appended HB3.out hg' HW3.out.2 HB3.out.size)
        clear hz' hg'
        go_wp2_with fail
        go_roundw
        case rel => exact ⟨i + 1, g', by omega, by go_num, HB'.out, HZ'.out⟩
        case measure => simp [intOf]; omega
    · have HF : Hid (NsO w.heap.size wr (.slice aw (Pn.nums (Pn.idx (Pn.wantB copies n) 0 (parts.take i))).length cw) gb (Pn.nums D)) := Lib.hid (by
        rw [HT.out]
        have e : parts.take i = parts := List.take_of_length_le (by rw [HM.out]; omega)
        rw [e] at hw ⊢
        exact hw.mono HB1.out.size)
      clear hb hw
      go_wp2_with fail
      go_ret
      exact ⟨HB1.out.trans (HB.out.mono HB1.out.size), _, gb, rfl, HF.out⟩
end Go.Proofs.YtmkinnheoejphaaGreatDoor
