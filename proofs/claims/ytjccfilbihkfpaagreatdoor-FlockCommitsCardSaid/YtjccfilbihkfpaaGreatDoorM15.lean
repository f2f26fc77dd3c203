import Derived.Test.YtjccfilbihkfpaaGreatDoorM14

/- THE CONTRACTS OF slices.Grow, slices.Concat at texts. -/
namespace Go.Proofs.YtjccfilbihkfpaaGreatDoor
open Go.RowKit

def GrwOut (w : World) (e : Ending) (w' : World) : Prop := Below w.heap.size w w' ∧ ∃ v gb, e = .returned v ∧ Wz w.heap.size w' v gb 9 1 0 []
set_option maxHeartbeats 2000000 in
set_option maxRecDepth 100000 in
theorem grow_any (n : Nat) (w : World) (hn : n ≤ 64) : Calls Tryz.prog 87 #[.slice none 0 0, .int .i64 n] w fun e w' => GrwOut w e w' := by
  obtain ⟨i, hi, i1, i2, i3, i4⟩ := infoText
  by_cases h0 : n = 0
  · subst h0
    go_enter Tryz.func87, Tryz.ntmps87
    go_wp2_with fail
    go_ret
    exact ⟨Below.refl _ _, _, none, rfl, Wz.nil _ _ _ _⟩
  · have hold : (Builtin.firstCells i.size 0 (.slice none 0 0)).run Tryz.prog w.drew = .ok ([] : List Value).toArray w.drew := by simp [Builtin.firstCells]
    obtain ⟨G, hG⟩ : ∃ G, grownCap w (0 + n) 0 9 = G := ⟨_, rfl⟩
    have hGe : n ≤ G := by rw [← hG]; have := grownCap_ge w (0 + n) 0 9; omega
    have hr : ∀ ty, (Builtin.append_ #[41, 3] ty #[.slice none 0 0, .int .i64 n]).run Tryz.prog w =
        .ok (.slice (some ⟨w.heap.size, 0, none⟩) n G) (w.drew.alloc (.cells (([] : List Value).toArray ++ Builtin.zeroCells (Value.string ByteArray.empty).cells n ++ Builtin.zeroCells (Value.string ByteArray.empty).cells (G - n)) 9)) := fun ty => by
      have h := Lib.run_append_grow_zeros w 41 3 ty 9 i _ .i64 .i64 Tryz.underlying41 Tryz.underlying3 hi i1 none 0 0 [] hold n (by omega) (by omega) (by omega) (by omega) (by rw [i3]; omega) (by rw [i3]; exact growslice_fits (by omega) (by omega))
      rw [hG] at h
      simpa using h
    have HB : Hid (Below w.heap.size w (w.drew.alloc (.cells (([] : List Value).toArray ++ Builtin.zeroCells (Value.string ByteArray.empty).cells n ++ Builtin.zeroCells (Value.string ByteArray.empty).cells (G - n)) 9))) := Lib.hid (((Below.refl w.heap.size w).drew).alloc (Nat.le_refl _) _)
    have HF : Hid (Wz w.heap.size (w.drew.alloc (.cells (([] : List Value).toArray ++ Builtin.zeroCells (Value.string ByteArray.empty).cells n ++ Builtin.zeroCells (Value.string ByteArray.empty).cells (G - n)) 9)) (.slice (some ⟨w.heap.size, 0, none⟩) 0 G) (some w.heap.size) 9 1 0 []) := Lib.hid ⟨⟨rfl, .inr ⟨w.heap.size, 0, G, _, rfl, rfl, heap_alloc_new w.drew _, Nat.zero_le _, by
      simp only [Array.size_append, size_zeroCells]
      show 0 + G * 1 ≤ _
      have h1 : (Value.string ByteArray.empty).cells.size = 1 := rfl
      rw [h1]
      simp
      omega, by simp⟩⟩, fun b e => by cases e; exact Nat.le_refl _⟩
    obtain ⟨W, hW⟩ : ∃ W, w.drew.alloc (.cells (([] : List Value).toArray ++ Builtin.zeroCells (Value.string ByteArray.empty).cells n ++ Builtin.zeroCells (Value.string ByteArray.empty).cells (G - n)) 9) = W := ⟨_, rfl⟩
    rw [hW] at HB HF hr
    have hn0 : (0 : Int) < (n : Int) := by omega
    have HR := Lib.hid hr
    have hG63 : G ≤ 9223372036854775807 := by
      have := grownCap_le_maxLen w (0 + n) 0 9 (by unfold maxLen; omega)
      rw [hG] at this
      unfold maxLen at this
      omega
    clear hr hW hold hG hi i1 i2 i3 i4
    go_enter Tryz.func87, Tryz.ntmps87
    go_wp2_with (at_builtin; refine Lib.wpList_append_run _ rfl _ _ _ _ rfl _ _ rfl rfl _ _ (HR.out _) ?_)
    go_ret
    exact ⟨HB.out, _, some w.heap.size, rfl, HF.out⟩
/-- Slices of texts, in a row. -/
structure Nss (A : Nat → Prop) (w : World) (b p : Nat) (S : List (Value × List ByteArray)) : Prop where
  lt : b < w.heap.size
  cell : ∀ j x, S[j]? = some x → w.cell? ⟨b, p + j, none⟩ = some x.1
  nms : ∀ x ∈ S, Nms A w x.1 x.2
theorem Nss.below {A : Nat → Prop} {w w' : World} {b p : Nat} {S : List (Value × List ByteArray)} (h : Nss A w b p S) (k : Below w.heap.size w w') : Nss A w' b p S :=
  ⟨Nat.lt_of_lt_of_le h.lt k.size, fun j x hj => (k.cell (p := ⟨b, p + j, none⟩) h.lt).trans (h.cell j x hj), fun x hx => (h.nms x hx).below k⟩
/-- All of them. -/
def cat (S : List (Value × List ByteArray)) : List ByteArray := S.flatMap (·.2)
theorem cat_succ {S : List (Value × List ByteArray)} {i : Nat} {x : Value × List ByteArray} (h : S[i]? = some x) : cat (S.take (i + 1)) = cat (S.take i) ++ x.2 := by
  unfold cat
  rw [List.take_add_one, h]
  simp
theorem cat_le (S : List (Value × List ByteArray)) : ∀ i, (cat (S.take i)).length ≤ (cat S).length := fun i => by
  have : cat S = cat (S.take i) ++ cat (S.drop i) := by unfold cat; rw [← List.flatMap_append, List.take_append_drop]
  rw [this, List.length_append]
  omega
set_option maxHeartbeats 4000000 in
set_option maxRecDepth 100000 in
theorem concat_any {A : Nat → Prop} (b p m cap : Nat) (S : List (Value × List ByteArray)) (w : World) (h : Nss A w b p S) (hm : S.length = m) (hm8 : m ≤ 8) (ht : (cat S).length ≤ 64) :
    Calls Tryz.prog 66 #[.slice (some ⟨b, p, none⟩) m cap] w fun e w' => ClnOut 9 1 w (cat S).length ((cat S).map Value.string) e w' := by
  obtain ⟨t, htt⟩ : ∃ t, (cat S).length = t := ⟨_, rfl⟩
  have HTT := Lib.hid htt
  have HLE : Hid (∀ i, (cat (S.take i)).length ≤ t) := Lib.hid fun i => by rw [← htt]; exact cat_le S i
  have HS := Lib.hid h
  have HM := Lib.hid hm
  have HFN : Hid (cat (S.take m) = cat S) := Lib.hid (by rw [← hm, List.take_length])
  rw [htt] at ht ⊢
  have hnil : (cat (S.take 0)).length = 0 := by simp [cat]
  have HNL : Hid ((cat (S.take 0)) = []) := Lib.hid (by simp [cat])
  have HGR := Lib.hid (grow_any t w ht)
  clear h hm htt
  go_enter Tryz.func66, Tryz.ntmps66
  go_wp2_with fail
  go_loop [3, 5, 11] (fun s3 _ s11 => ∃ i : Nat, i ≤ m ∧ s11 = .int .i64 i ∧ s3 = .int .i64 ((cat (S.take i)).length : Nat)) (fun _ _ s11 => m - (intOf s11).toNat)
  case atStart => exact ⟨0, Nat.zero_le _, rfl, by rw [HNL.out]; rfl⟩
  case round =>
    obtain ⟨i, hi, rfl, rfl⟩ := hrel
    by_cases hlt : i < m
    · obtain ⟨x, hx⟩ : ∃ x, S[i]? = some x := ⟨_, List.getElem?_eq_getElem (by rw [HM.out]; exact hlt)⟩
      have c0 := HS.out.cell i x hx
      have hnx := HS.out.nms x (List.mem_of_getElem? hx)
      obtain ⟨xv, xl⟩ := x
      obtain ⟨xa, xc, ev⟩ := hnx.form
      simp only at ev c0
      subst ev
      have HC := Lib.hid (cat_succ hx)
      have hle := HLE.out (i + 1)
      obtain ⟨q, hq⟩ : ∃ q, (cat (S.take i)).length = q := ⟨_, rfl⟩
      obtain ⟨y, hy⟩ : ∃ y, xl.length = y := ⟨_, rfl⟩
      have hqy : (cat (S.take (i + 1))).length = q + y := by rw [HC.out, List.length_append, hq, hy]
      rw [hqy] at hle
      rw [hy] at c0
      rw [hq]
      have HQY := Lib.hid hqy
      have i0 : (0 : Int) ≤ (i : Int) := by omega
      have i1 : (i : Int) < (m : Int) := by omega
      have hqy0 : ¬ ((q : Int) + (y : Int) < 0) := by omega
      clear hx hnx hq hy hqy
      go_wp2_with fail
      go_round
      case rel => exact ⟨i + 1, by omega, by go_num, by rw [HQY.out]; go_num⟩
      case measure => simp [intOf]; omega
    · obtain rfl : i = m := by omega
      have HQ : Hid ((cat (S.take i)).length = t) := Lib.hid (by rw [HFN.out, HTT.out])
      rw [HQ.out]
      clear hnil
      go_wp2_with fail
      refine HGR.out.mono ?_
      rintro e w1 ⟨hb1, v1, g1, rfl, hz1⟩
      obtain ⟨a1, k1, rfl⟩ := hz1.form
      have HB1 := Lib.hid hb1
      have HZ1 : Hid (Wz w.heap.size w1 (.slice a1 0 k1) g1 9 1 (cat (S.take 0)).length ((cat (S.take 0)).map Value.string)) := Lib.hid (by rw [HNL.out]; exact hz1)
      clear hb1 hz1 HGR
      go_wp2_with fail
      go_loopw [6, 8, 27] (fun s6 _ s27 wr => ∃ (j : Nat) (gb : Option Nat), j ≤ i ∧ s27 = .int .i64 j ∧ Below w.heap.size w wr ∧ Wz w.heap.size wr s6 gb 9 1 (cat (S.take j)).length ((cat (S.take j)).map Value.string)) (fun _ _ s27 _ => i - (intOf s27).toNat)
      case atStart => exact ⟨0, g1, Nat.zero_le _, rfl, HB1.out, HZ1.out⟩
      case round =>
        obtain ⟨j, gb, hj, rfl, hb, hz⟩ := hrel
        have HB := Lib.hid hb
        have HZ := Lib.hid hz
        by_cases hjt : j < i
        · obtain ⟨x, hx⟩ : ∃ x, S[j]? = some x := ⟨_, List.getElem?_eq_getElem (by rw [HM.out]; exact hjt)⟩
          have hss := HS.out.below hb
          have c0 := hss.cell j x hx
          have hnx := hss.nms x (List.mem_of_getElem? hx)
          obtain ⟨xv, xl⟩ := x
          obtain ⟨xa, xc, ev⟩ := hnx.form
          simp only at ev c0
          subst ev
          have HC := Lib.hid (cat_succ hx)
          have hle := HLE.out (j + 1)
          have HX := Lib.hid hnx
          obtain ⟨aa, ac, rfl⟩ := hz.form
          have hll : (cat (S.take j)).length + xl.length ≤ 64 := by rw [← List.length_append, ← HC.out]; omega
          have HLL := Lib.hid hll
          have j0 : (0 : Int) ≤ (j : Int) := by omega
          have j1 : (j : Int) < (i : Int) := by omega
          obtain ⟨iq, hiq, e1, e2, e3, e4⟩ := infoText
          clear hx hnx hss hb hz hle hll
          go_wp2_with (at_builtin; refine wpList_append_rd (by rfl) _ _ _ (by rfl) 9 iq _ 1 16 Tryz.underlying41 hiq e1 e2 e3 e4 _ gb (cat (S.take j)).length ((cat (S.take j)).map Value.string) (by rfl) HZ.out.1 _ xl.length (xl.map Value.string) (by rfl) HX.out (by intro u hu; obtain ⟨y, -, rfl⟩ := List.mem_map.1 hu; rfl) (by have := HLL.out; omega) (by have := HLL.out; omega) ?_)
          intro v' w' gb' q1 q2 q3
          have HZ' : Hid (Wz w.heap.size w' v' gb' 9 1 (cat (S.take (j + 1))).length ((cat (S.take (j + 1))).map Value.string)) := Lib.hid (by
            rw [HC.out, List.length_append, List.map_append]
            refine ⟨q1, fun b e => ?_⟩
            rcases q3 with q3 | ⟨g, q3, q4⟩
            · exact HZ.out.2 b (by rw [← q3]; exact e)
            · rw [q3] at e; cases e; exact Nat.le_trans HB.out.size q4)
          have HB' := Lib.hid (Below.appended HB.out q2 HZ.out.2 HB.out.size)
          clear q1 q2 q3
          go_wp2_with fail
          go_roundw
          case rel => exact ⟨j + 1, gb', by omega, by go_num, HB'.out, HZ'.out⟩
          case measure => simp [intOf]; omega
        · have HF : Hid (Wz w.heap.size wr u6 gb 9 1 t ((cat S).map Value.string)) := Lib.hid (by
            have e : j = i := by omega
            rw [e, HFN.out, HTT.out] at hz
            exact hz)
          clear hb hz
          go_wp2_with fail
          go_ret
          exact ⟨HB.out, _, gb, rfl, HF.out⟩
end Go.Proofs.YtjccfilbihkfpaaGreatDoor

/- THE CONTRACTS OF noOf, pointOf, turnOf. -/
namespace Go.Proofs.YtjccfilbihkfpaaGreatDoor
open Go.RowKit

def strs (l : List (List UInt8)) : List Value := l.map fun s => .string ⟨s.toArray⟩
theorem strs_snoc (l : List (List UInt8)) (s : List UInt8) : strs (l ++ [s]) = strs l ++ [.string ⟨s.toArray⟩] := by simp [strs]
theorem Sl.new (w : World) (e size n : Nat) (cs : Array Value) (h : cs.size = n * size) : Sl (w.alloc (.cells cs e)) (.slice (some ⟨w.heap.size, 0, none⟩) n n) (some w.heap.size) e size n cs.toList :=
  ⟨by simpa using h, .inr ⟨w.heap.size, 0, n, cs, rfl, rfl, heap_alloc_new w _, Nat.le_refl _, by omega, by rw [List.drop_zero]; exact List.take_of_length_le (by simp; omega)⟩⟩
set_option maxRecDepth 100000 in
theorem bead_list_nil (w : World) : Calls Tryz.prog 68 #[.slice none 0 0] w fun e w' => e = .returned (.string ⟨#[108, 101]⟩) ∧ Below w.heap.size w w' := by
  have C := Lib.hid (Any.strings_Join_none Tryz.lays156 Tryz.Builder_Extra_156 none 0 ⟨#[]⟩ w)
  go_enter Tryz.func68, Tryz.ntmps68
  go_wp2_with fail
  refine C.out.mono ?_
  rintro e w1 ⟨rfl, rfl⟩
  go_wp2_with fail
  all_goals first | (exfalso; omega) | skip
  go_ret
  exact ⟨rfl, Below.refl _ _⟩
theorem list_sl {w : World} {v : Value} {gb : Option Nat} {n : Nat} {l : List (List UInt8)} (h : Sl w v gb 9 1 n (strs l)) (hl : l.length = n) (hn : n ≤ 100) (hlen : l.flatten.length ≤ 281474976710656) :
    Calls Tryz.prog 68 #[v] w fun e w' => e = .returned (.string ⟨(108 :: (l.flatten ++ [101])).toArray⟩) ∧ Below w.heap.size w w' := by
  have h0 := h
  obtain ⟨ao, cap, hv, hcap, hp, hnn⟩ := Sl.make h
  rcases h.2 with ⟨rfl, -, h0⟩ | ⟨g, p, cap', cur, hgb, hv', -⟩
  · have : l = [] := List.eq_nil_of_length_eq_zero (by rw [hl]; exact h0)
    subst this
    exact bead_list_nil w
  have hml : (l.map fun s => (⟨s.toArray⟩ : ByteArray)).length = n := by rw [List.length_map]; exact hl
  have hfl : ((l.map fun s => (⟨s.toArray⟩ : ByteArray)).map (·.data.toList)) = l := by
    rw [List.map_map]
    simp [Function.comp_def]
  rw [hv'] at hv
  injection hv with e1 e2 e3
  subst e3
  have C := bead_list g p cap' (l.map fun s => (⟨s.toArray⟩ : ByteArray)) w (fun j x hj => by
    refine Sl.cell h hv' j _ ?_
    unfold strs
    rw [List.getElem?_map] at hj ⊢
    cases hl' : l[j]? with
    | none => rw [hl'] at hj; cases hj
    | some s => rw [hl'] at hj; obtain rfl := Option.some.inj hj; rfl) (h.lt g hgb) (by rw [hml]; omega) (by rw [hml]; exact hcap) (by rw [hfl]; exact hlen)
  rw [hfl, hml, ← hv'] at C
  exact C
theorem undRec' : (Tryz.prog.underlying 28).map (fun d => match d with | .struct _ | .array _ _ => true | _ => false) = some true := by kernel_rfl
theorem sizeRec : (Tryz.prog.info? 28).map (·.size) = some 4 := by kernel_rfl
theorem undRec : ∃ d, Tryz.prog.underlying 28 = some d ∧ (match d with | .struct _ | .array _ _ => true | _ => false) = true := by
  have h := undRec'
  cases hd : Tryz.prog.underlying 28 with
  | none => rw [hd] at h; cases h
  | some d => rw [hd] at h; exact ⟨d, rfl, Option.some.inj h⟩
theorem ret_noOf {W : World} {rb : Nat} {a0 a1 a2 a3 : Value} {tmps : Array Value} (hb : Blk W rb #[a0, a1, a2, a3] 28) (h2 : tmps.getD 2 undef = .pointer (some ⟨rb, 0, none⟩)) :
    (results Tryz.f31 tmps).run Tryz.prog W = .ok (.agg #[a0, a1, a2, a3]) W := by
  obtain ⟨d, hd, hs⟩ := undRec
  have hl := run_loadVar_row (P := Tryz.prog) W rb 28 28 #[a0, a1, a2, a3] (0, 0) d hb hd (by cases d <;> exact hs) sizeRec
  simp only [results, Tryz.results31]
  rw [Array.getD_eq_getD_getElem?] at h2
  simp [asAddr, hl, h2]
theorem ret_pointOf {W : World} {rb : Nat} {a0 a1 a2 a3 : Value} {tmps : Array Value} (hb : Blk W rb #[a0, a1, a2, a3] 28) (h2 : tmps.getD 6 undef = .pointer (some ⟨rb, 0, none⟩)) :
    (results Tryz.f67 tmps).run Tryz.prog W = .ok (.agg #[a0, a1, a2, a3]) W := by
  obtain ⟨d, hd, hs⟩ := undRec
  have hl := run_loadVar_row (P := Tryz.prog) W rb 28 28 #[a0, a1, a2, a3] (0, 0) d hb hd (by cases d <;> exact hs) sizeRec
  simp only [results, Tryz.results67]
  rw [Array.getD_eq_getD_getElem?] at h2
  simp [asAddr, hl, h2]
theorem ret_turnOf {W : World} {rb : Nat} {a0 a1 a2 a3 : Value} {tmps : Array Value} (hb : Blk W rb #[a0, a1, a2, a3] 28) (h2 : tmps.getD 8 undef = .pointer (some ⟨rb, 0, none⟩)) :
    (results Tryz.f65 tmps).run Tryz.prog W = .ok (.agg #[a0, a1, a2, a3]) W := by
  obtain ⟨d, hd, hs⟩ := undRec
  have hl := run_loadVar_row (P := Tryz.prog) W rb 28 28 #[a0, a1, a2, a3] (0, 0) d hb hd (by cases d <;> exact hs) sizeRec
  simp only [results, Tryz.results65]
  rw [Array.getD_eq_getD_getElem?] at h2
  simp [asAddr, hl, h2]
theorem ret_join {W : World} {rb : Nat} {a0 a1 a2 a3 : Value} {tmps : Array Value} (hb : Blk W rb #[a0, a1, a2, a3] 28) (h2 : tmps.getD 6 undef = .pointer (some ⟨rb, 0, none⟩)) :
    (results Tryz.f28 tmps).run Tryz.prog W = .ok (.agg #[a0, a1, a2, a3]) W := by
  obtain ⟨d, hd, hs⟩ := undRec
  have hl := run_loadVar_row (P := Tryz.prog) W rb 28 28 #[a0, a1, a2, a3] (0, 0) d hb hd (by cases d <;> exact hs) sizeRec
  simp only [results, Tryz.results28]
  rw [Array.getD_eq_getD_getElem?] at h2
  simp [asAddr, hl, h2]
theorem ret_leave {W : World} {rb : Nat} {a0 a1 a2 a3 : Value} {tmps : Array Value} (hb : Blk W rb #[a0, a1, a2, a3] 28) (h2 : tmps.getD 6 undef = .pointer (some ⟨rb, 0, none⟩)) :
    (results Tryz.f29 tmps).run Tryz.prog W = .ok (.agg #[a0, a1, a2, a3]) W := by
  obtain ⟨d, hd, hs⟩ := undRec
  have hl := run_loadVar_row (P := Tryz.prog) W rb 28 28 #[a0, a1, a2, a3] (0, 0) d hb hd (by cases d <;> exact hs) sizeRec
  simp only [results, Tryz.results29]
  rw [Array.getD_eq_getD_getElem?] at h2
  simp [asAddr, hl, h2]
theorem ret_commit {W : World} {rb : Nat} {a0 a1 a2 a3 : Value} {tmps : Array Value} (hb : Blk W rb #[a0, a1, a2, a3] 28) (h2 : tmps.getD 4 undef = .pointer (some ⟨rb, 0, none⟩)) :
    (results Tryz.f30 tmps).run Tryz.prog W = .ok (.agg #[a0, a1, a2, a3]) W := by
  obtain ⟨d, hd, hs⟩ := undRec
  have hl := run_loadVar_row (P := Tryz.prog) W rb 28 28 #[a0, a1, a2, a3] (0, 0) d hb hd (by cases d <;> exact hs) sizeRec
  simp only [results, Tryz.results30]
  rw [Array.getD_eq_getD_getElem?] at h2
  simp [asAddr, hl, h2]
theorem ret_Decide {W : World} {rb : Nat} {a0 a1 a2 a3 : Value} {tmps : Array Value} (hb : Blk W rb #[a0, a1, a2, a3] 28) (h2 : tmps.getD 6 undef = .pointer (some ⟨rb, 0, none⟩)) :
    (results Tryz.f14 tmps).run Tryz.prog W = .ok (.agg #[a0, a1, a2, a3]) W := by
  obtain ⟨d, hd, hs⟩ := undRec
  have hl := run_loadVar_row (P := Tryz.prog) W rb 28 28 #[a0, a1, a2, a3] (0, 0) d hb hd (by cases d <;> exact hs) sizeRec
  simp only [results, Tryz.results14]
  rw [Array.getD_eq_getD_getElem?] at h2
  simp [asAddr, hl, h2]
abbrev zero4 : Array Value := #[.int .i64 0, .string ⟨#[]⟩, .string ⟨#[]⟩, .bool false]
/-- What the records' makers answer. -/
def RecOut (w : World) (x : Fk.Wd) (e : Ending) (w' : World) : Prop := e = .returned (.agg #[.int .i64 0, .string ⟨(Fk.enc x).1.toArray⟩, .string ⟨(Fk.enc x).2.toArray⟩, .bool false]) ∧ Below w.heap.size w w'
theorem four_kb (W : World) (b : Nat) (v0 v1 v2 v3 : Value) : Kb b W ((((W.setCell ⟨b, 0, none⟩ v0).setCell ⟨b, 1, none⟩ v1).setCell ⟨b, 2, none⟩ v2).setCell ⟨b, 3, none⟩ v3) :=
  (((Kb.setCell W v0).trans (Kb.setCell _ v1)).trans (Kb.setCell _ v2)).trans (Kb.setCell _ v3)
theorem Blk.four {w : World} {r : Nat} {a0 a1 a2 a3 : Value} {T : TypeId} (h : Blk w r #[a0, a1, a2, a3] T) (v0 v1 v2 v3 : Value) :
    Blk ((((w.setCell ⟨r, 0, none⟩ v0).setCell ⟨r, 1, none⟩ v1).setCell ⟨r, 2, none⟩ v2).setCell ⟨r, 3, none⟩ v3) r #[v0, v1, v2, v3] T :=
  (((h.set (i := 0) v0).set (i := 1) v1).set (i := 2) v2).set (i := 3) v3
theorem Blk.cells4 {w : World} {b : Nat} {a0 a1 a2 a3 : Value} {T : TypeId} (h : Blk w b #[a0, a1, a2, a3] T) : w.cell? ⟨b, 0, none⟩ = some a0 ∧ w.cell? ⟨b, 1, none⟩ = some a1 ∧ w.cell? ⟨b, 2, none⟩ = some a2 ∧ w.cell? ⟨b, 3, none⟩ = some a3 := ⟨h.cell rfl, h.cell rfl, h.cell rfl, h.cell rfl⟩
theorem Blk.free4 {w : World} {b : Nat} {cs : Array Value} {T : TypeId} (h : Blk w b cs T) : w.frozen? ⟨b, 0, none⟩ = false ∧ w.frozen? ⟨b, 1, none⟩ = false ∧ w.frozen? ⟨b, 2, none⟩ = false ∧ w.frozen? ⟨b, 3, none⟩ = false := ⟨h.free, h.free, h.free, h.free⟩
set_option maxHeartbeats 2000000 in
set_option maxRecDepth 100000 in
theorem noOf_any (c : Int) (hc : Pl.I64 c) (w : World) (lb : Lb w) : Calls Tryz.prog 31 #[.int .i64 c] w fun e w' => RecOut w (.no c) e w' := by
  obtain ⟨W1, hW1⟩ : ∃ W, w.alloc (.cells zero4 28) = W := ⟨_, rfl⟩
  have hb1 : Below w.heap.size w W1 := by rw [← hW1]; exact (Below.refl _ _).alloc (Nat.le_refl _) _
  have k1 : Blk W1 w.heap.size zero4 28 := by rw [← hW1]; exact Blk.new _ _ _
  have CI := bead_int c hc W1 (lb.below lb.size hb1)
  have hlen : (Pl.wInt c).length ≤ 30 := by have := Lib.itoa_length_le c hc.1 hc.2; unfold Pl.wInt; simp; omega
  obtain ⟨S, hS⟩ : ∃ S : ByteArray, (⟨(Pl.wInt c).toArray⟩ : ByteArray) = S := ⟨_, rfl⟩
  have CL := fun w3 => list_sl (l := [Pl.wInt c]) (n := 1) (Sl.new w3 9 1 1 #[.string ⟨(Pl.wInt c).toArray⟩] rfl) rfl (by decide) (by simp; omega)
  obtain ⟨V, hV⟩ : ∃ V : ByteArray, (⟨(Fk.encNv c).toArray⟩ : ByteArray) = V := ⟨_, rfl⟩
  have hE : (108 :: (([Pl.wInt c] : List (List UInt8)).flatten ++ [101])) = Fk.encNv c := by simp [Fk.encNv]
  rw [hE, hV] at CL
  rw [hS] at CI CL
  have HCI := Lib.hid CI
  have HCL := Lib.hid CL
  have HB1 := Lib.hid hb1
  have HK1 := Lib.hid k1
  have HV := Lib.hid hV
  clear CI CL hb1 k1 hV hE hS lb hlen hc
  go_enter Tryz.func31, Tryz.ntmps31
  go_wp2_with fail
  refine HCI.out.mono ?_
  rintro e w2 ⟨rfl, hb2⟩
  have HB2 := Lib.hid hb2
  clear hb2 HCI
  go_wp2_with fail
  refine (HCL.out w2).mono ?_
  rintro e w3 ⟨rfl, hb3⟩
  have ha := (Below.refl w2.heap.size w2).alloc (Nat.le_refl _) (.cells #[.string S] 9)
  have h23 := ha.trans (hb3.mono ha.size)
  have h13 := HB2.out.trans (h23.mono HB2.out.size)
  have k3 := HK1.out.below h13
  obtain ⟨x0, x1, x2, x3⟩ := k3.cells4
  obtain ⟨y0, y1, y2, y3⟩ := k3.free4
  have HK3 := Lib.hid k3
  have H13 := Lib.hid (HB1.out.trans (h13.mono HB1.out.size))
  clear hb3 ha h23 h13 k3 HCL
  go_wp2_with fail
  refine bodyPost_ret (ret_noOf (HK3.out.four (.int .i64 0) (.string ⟨#[110]⟩) (.string V) (.bool false)) rfl) rfl ?_
  refine ⟨?_, (four_kb _ _ _ _ _ _).low H13.out (Nat.le_refl _) HK3.out.lt⟩
  rw [← HV.out]
  rfl
end Go.Proofs.YtjccfilbihkfpaaGreatDoor
