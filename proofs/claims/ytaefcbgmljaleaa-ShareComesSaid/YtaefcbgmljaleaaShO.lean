/- THE CONTRACTS OF share's Owner, Parts. -/
import Derived.Test.YtaefcbgmljaleaaShA
namespace Go.Proofs.Ytaefcbgmljaleaa
open Go.RowKit

/-- A slice that reads as owners. -/
theorem asg_at {z : Nat} {w : World} {v : Value} {gb : Option Nat} {ms : List ByteArray} (h : Wz z w v gb 36 2 ms.length (Sh.ocel 0 ms)) {j : Nat} {x : ByteArray} (hj : ms[j]? = some x) :
    ∃ b p cap, v = .slice (some ⟨b, p, none⟩) ms.length cap ∧ b < w.heap.size ∧ w.cell? ⟨b, p + j * 2, none⟩ = some (.int .i64 ((j : Int) + 1)) ∧ w.cell? ⟨b, p + j * 2 + 1, none⟩ = some (.string x) := by
  obtain ⟨b, p, cap, h1, -, h3, h4⟩ := h.rd.at (Nat.lt_of_le_of_lt (Nat.zero_le _) (List.getElem?_eq_some_iff.1 hj).1)
  obtain ⟨c0, c1⟩ := Sh.ocel_at 0 ms j x hj
  exact ⟨b, p, cap, h1, h3, by rw [h4 _ _ c0]; simp, h4 _ _ c1⟩
def OwnOut (w : World) (o : Option ByteArray) (e : Ending) (w' : World) : Prop := Below w.heap.size w w' ∧ e = .returned (.tuple #[.string (o.getD ⟨#[]⟩), .bool o.isSome])
theorem ownerOf_hit {ms : List ByteArray} {j : Nat} {x : ByteArray} (h : ms[j]? = some x) : Sh.ownerOf ms ((j : Int) + 1) = some x := by
  unfold Sh.ownerOf
  rw [if_pos (by omega), show ((j : Int) + 1 - 1).toNat = j by omega, h]
theorem ownerOf_miss {ms : List ByteArray} {p : Int} (h : ∀ j : Nat, j < ms.length → p ≠ (j : Int) + 1) : Sh.ownerOf ms p = none := by
  unfold Sh.ownerOf
  split
  · refine List.getElem?_eq_none ?_
    rcases Nat.lt_or_ge (p - 1).toNat ms.length with k | k
    · exact absurd (by omega) (h _ k)
    · exact k
  · rfl
set_option maxHeartbeats 2000000 in
theorem owner_any {A : Nat → Prop} (parts : Int) (v : Value) (L : List ByteArray) (p : Int) (w : World) (h : Nms A w v L) :
    Calls Try.prog 10 #[.int .i64 parts, v, .int .i64 p] w fun e w' => OwnOut w (Sh.ownerOf (Sh.msOf parts L) p) e w' := by
  have C := Lib.hid (assign_any parts v L w h)
  obtain ⟨ms, hms⟩ : ∃ ms, Sh.msOf parts L = ms := ⟨_, rfl⟩
  have hl3 : ms.length ≤ 3 := by rw [← hms]; exact Sh.msOf_len
  rw [hms] at C ⊢
  obtain ⟨a, cap, rfl⟩ := h.form
  obtain ⟨n, hn⟩ : ∃ n, L.length = n := ⟨_, rfl⟩
  rw [hn] at C ⊢
  clear h hms hn
  go_enter Try.func10, Try.ntmps10
  go_wp2_with fail
  refine C.out.mono ?_
  rintro e w1 ⟨hb1, va, gb, rfl, hz⟩
  obtain ⟨ao, co, rfl⟩ := hz.form
  obtain ⟨N, hN⟩ : ∃ N, ms.length = N := ⟨_, rfl⟩
  have HB1 := Lib.hid hb1
  have HZ := Lib.hid hz
  have HN := Lib.hid hN
  have HR := Lib.hid (Below.refl w1.heap.size w1)
  rw [hN] at hl3 ⊢
  clear hb1 hz C hN
  go_wp2_with fail
  go_loopw [9, 14] (fun _ jv wr => ∃ j : Nat, j ≤ N ∧ jv = .int .i64 j ∧ Below w1.heap.size w1 wr ∧ ∀ t : Nat, t < j → p ≠ (t : Int) + 1) (fun _ jv _ => N - (intOf jv).toNat)
  case atStart => exact ⟨0, Nat.zero_le _, rfl, HR.out, fun t ht => by omega⟩
  case round =>
    obtain ⟨j, hj, rfl, hb, hne⟩ := hrel
    have HB := Lib.hid hb
    have HNE := Lib.hid hne
    clear hne
    by_cases hlt : j < N
    · obtain ⟨x, hx⟩ : ∃ x, ms[j]? = some x := ⟨_, List.getElem?_eq_getElem (by rw [HN.out]; exact hlt)⟩
      obtain ⟨b, q, cap', e, hbl, c0, c1⟩ := asg_at (HZ.out.below hb) hx
      rw [HN.out] at e
      obtain rfl : ao = some ⟨b, q, none⟩ := by injection e
      have HX := Lib.hid hx
      have j0 : (0 : Int) ≤ (j : Int) := by omega
      have j1 : (j : Int) < (N : Int) := by omega
      have HB2 : Hid (∀ o, Below w1.heap.size w1 (wr.alloc o)) := Lib.hid fun o => hb.alloc hb.size o
      clear e hx hb
      by_cases hp : (j : Int) + 1 = p
      · have HO : Hid (Sh.ownerOf ms p = some x) := Lib.hid (by rw [← hp]; exact ownerOf_hit HX.out)
        have hd : ((j : Int) + 1 == p) = true := by simp [hp]
        go_wp2_with fail
        go_ret2
        exact ⟨HB1.out.trans ((HB2.out _).mono HB1.out.size), by rw [HO.out]; rfl⟩
      · have hd : ((j : Int) + 1 == p) = false := by simp [hp]
        have HNX : Hid (∀ t : Nat, t < j + 1 → p ≠ (t : Int) + 1) := Lib.hid fun t ht e => by
          by_cases h : t = j
          · subst h; exact hp e.symm
          · exact HNE.out t (by omega) e
        clear hp
        go_wp2_with fail
        go_roundw
        case rel => exact ⟨j + 1, by omega, by go_num, HB2.out _, HNX.out⟩
        case measure => simp [intOf]; omega
    · have HO : Hid (Sh.ownerOf ms p = none) := Lib.hid (ownerOf_miss fun t ht => HNE.out t (by rw [HN.out] at ht; omega))
      clear hb
      go_wp2_with fail
      go_ret2
      exact ⟨HB1.out.trans (HB.out.mono HB1.out.size), by rw [HO.out]; rfl⟩

theorem infoInt : Info Try.prog 3 1 8 (.int .i64 0) := Info.of (by kernel_rfl) rfl
/-- Whole numbers in a slice of the call's own. -/
def PrtOut (w : World) (l : List Int) (e : Ending) (w' : World) : Prop := Below w.heap.size w w' ∧ ∃ v gb, e = .returned v ∧ Wz w.heap.size w' v gb 3 1 l.length (l.map (Value.int .i64))
set_option maxHeartbeats 2000000 in
theorem parts_any {A : Nat → Prop} (parts : Int) (v : Value) (L : List ByteArray) (y : ByteArray) (w : World) (h : Nms A w v L) :
    Calls Try.prog 9 #[.int .i64 parts, v, .string y] w fun e w' => PrtOut w (Sh.pOf 0 (Sh.msOf parts L) y) e w' := by
  have C := Lib.hid (assign_any parts v L w h)
  obtain ⟨ms, hms⟩ : ∃ ms, Sh.msOf parts L = ms := ⟨_, rfl⟩
  have hl3 : ms.length ≤ 3 := by rw [← hms]; exact Sh.msOf_len
  rw [hms] at C ⊢
  obtain ⟨a, cap, rfl⟩ := h.form
  obtain ⟨n, hn⟩ : ∃ n, L.length = n := ⟨_, rfl⟩
  rw [hn] at C ⊢
  clear h hms hn
  go_enter Try.func9, Try.ntmps9
  go_wp2_with fail
  refine C.out.mono ?_
  rintro e w1 ⟨hb1, va, gb, rfl, hz⟩
  obtain ⟨ao, co, rfl⟩ := hz.form
  obtain ⟨N, hN⟩ : ∃ N, ms.length = N := ⟨_, rfl⟩
  have HB1 := Lib.hid hb1
  have HZ := Lib.hid hz
  have HN := Lib.hid hN
  have HR := Lib.hid (Below.refl w1.heap.size w1)
  have HZ1 : Hid (Wz w1.heap.size w1 (.slice none 0 0) none 3 1 (Sh.pOf 0 (ms.take 0) y).length ((Sh.pOf 0 (ms.take 0) y).map (Value.int .i64))) := Lib.hid (Wz.nil _ _ _ _)
  rw [hN] at hl3 ⊢
  clear hb1 hz C hN
  go_wp2_with fail
  go_loopw [7, 9, 14] (fun ov _ jv wr => ∃ (j : Nat) (g : Option Nat), j ≤ N ∧ jv = .int .i64 j ∧ Below w1.heap.size w1 wr ∧ Wz w1.heap.size wr ov g 3 1 (Sh.pOf 0 (ms.take j) y).length ((Sh.pOf 0 (ms.take j) y).map (Value.int .i64))) (fun _ _ jv _ => N - (intOf jv).toNat)
  case atStart => exact ⟨0, none, Nat.zero_le _, rfl, HR.out, HZ1.out⟩
  case round =>
    obtain ⟨j, gj, hj, rfl, hb, hzj⟩ := hrel
    by_cases hlt : j < N
    · obtain ⟨x, hx⟩ : ∃ x, ms[j]? = some x := ⟨_, List.getElem?_eq_getElem (by rw [HN.out]; exact hlt)⟩
      obtain ⟨b, q, cap', e, hbl, c0, c1⟩ := asg_at (HZ.out.below hb) hx
      rw [HN.out] at e
      obtain rfl : ao = some ⟨b, q, none⟩ := by injection e
      have HT : Hid (ms.take (j + 1) = ms.take j ++ [x]) := Lib.hid (by rw [List.take_add_one, hx]; rfl)
      have HTL : Hid ((ms.take j).length = j) := Lib.hid (by rw [List.length_take, HN.out]; omega)
      have j0 : (0 : Int) ≤ (j : Int) := by omega
      have j1 : (j : Int) < (N : Int) := by omega
      obtain ⟨M, hM⟩ : ∃ M, (Sh.pOf 0 (ms.take j) y).length = M := ⟨_, rfl⟩
      have hM3 : M ≤ 1048576 := by
        rw [← hM]
        have h1 := Sh.pOf_len 0 (ms.take j) y
        rw [HTL.out] at h1
        omega
      rw [hM] at hzj
      obtain ⟨W2, hW2⟩ : ∃ W2, wr.alloc (.cells #[.int .i64 ((j : Int) + 1), .string x] 36) = W2 := ⟨_, rfl⟩
      have HB2 : Hid (Below w1.heap.size w1 W2) := Lib.hid (by rw [← hW2]; exact hb.alloc hb.size _)
      have hzj2 : Wz w1.heap.size W2 u7 gj 3 1 M ((Sh.pOf 0 (ms.take j) y).map (Value.int .i64)) := by rw [← hW2]; exact hzj.below ((Below.refl _ _).alloc (Nat.le_refl _) _)
      have HK := Lib.hid (Blk.new wr #[.int .i64 ((j : Int) + 1), .string x] 36)
      rw [hW2] at HK
      have d0 : W2.cell? ⟨wr.heap.size, 0, none⟩ = some (.int .i64 ((j : Int) + 1)) := HK.out.cell rfl
      have d1 : W2.cell? ⟨wr.heap.size, 1, none⟩ = some (.string x) := HK.out.cell rfl
      have HM := Lib.hid hM
      clear e hx hb hzj hM
      cases hd : (x.toList == y.toList) with
      | true =>
        obtain ⟨W3, hW3⟩ : ∃ W3, W2.alloc (.cells #[.int .i64 ((j : Int) + 1)] 3) = W3 := ⟨_, rfl⟩
        have HB3 : Hid (Below w1.heap.size w1 W3) := Lib.hid (by rw [← hW3]; exact HB2.out.alloc HB2.out.size _)
        obtain ⟨ac, cc, rfl⟩ := hzj2.form
        have HZ3 : Hid (Wz w1.heap.size W3 (.slice ac M cc) gj 3 1 M ((Sh.pOf 0 (ms.take j) y).map (Value.int .i64))) := Lib.hid (by rw [← hW3]; exact hzj2.below ((Below.refl _ _).alloc (Nat.le_refl _) _))
        have HNEW : Hid (∀ t u, ([.int .i64 ((j : Int) + 1)] : List Value)[t]? = some u → W3.cell? ((⟨W2.heap.size, 0, none⟩ : Addr).add t) = some u) := Lib.hid (by rw [← hW3]; exact built_cells W2 _ _)
        have HP : Hid (Sh.pOf 0 (ms.take (j + 1)) y = Sh.pOf 0 (ms.take j) y ++ [((j : Int) + 1)]) := Lib.hid (by
          rw [HT.out, Sh.pOf_snoc, if_pos (by unfold Sh.eqB; exact hd), HTL.out]
          simp)
        have HM3 := Lib.hid hM3
        clear hzj2
        go_wp2_with (at_builtin; refine wp_add infoInt Try.underlying25 (by rfl) _ _ (by rfl) (by rfl) HZ3.out ⟨W2.heap.size, 0, none⟩ 1 [.int .i64 ((j : Int) + 1)] (by rfl) rfl HNEW.out (by simp [Value.oneCell']) HM3.out (by decide) HB3.out.size ?_)
        intro v' g' w' hz' hg' _
        have HZ' : Hid (Wz w1.heap.size w' v' g' 3 1 (Sh.pOf 0 (ms.take (j + 1)) y).length ((Sh.pOf 0 (ms.take (j + 1)) y).map (Value.int .i64))) := Lib.hid (by
          rw [HP.out, List.length_append, List.map_append, HM.out]
          exact hz')
        have HB' := Lib.hid (Below.appended HB3.out hg' HZ3.out.2 HB3.out.size)
        clear hz' hg'
        go_wp2_with fail
        go_roundw
        case rel => exact ⟨j + 1, g', by omega, by go_num, HB'.out, HZ'.out⟩
        case measure => simp [intOf]; omega
      | false =>
        have HP : Hid (Sh.pOf 0 (ms.take (j + 1)) y = Sh.pOf 0 (ms.take j) y) := Lib.hid (by
          rw [HT.out, Sh.pOf_snoc, if_neg (by unfold Sh.eqB; rw [hd]; decide)])
        have HZ2 : Hid (Wz w1.heap.size W2 u7 gj 3 1 (Sh.pOf 0 (ms.take (j + 1)) y).length ((Sh.pOf 0 (ms.take (j + 1)) y).map (Value.int .i64))) := Lib.hid (by rw [HP.out, HM.out]; exact hzj2)
        clear hzj2
        go_wp2_with fail
        go_roundw
        case rel => exact ⟨j + 1, gj, by omega, by go_num, HB2.out, HZ2.out⟩
        case measure => simp [intOf]; omega
    · have HZF : Hid (Wz w1.heap.size wr u7 gj 3 1 (Sh.pOf 0 ms y).length ((Sh.pOf 0 ms y).map (Value.int .i64))) := Lib.hid (by
        have e : ms.take j = ms := List.take_of_length_le (by rw [HN.out]; omega)
        rw [e] at hzj
        exact hzj)
      have HB := Lib.hid hb
      clear hzj hb
      go_wp2_with fail
      go_ret
      exact ⟨HB1.out.trans (HB.out.mono HB1.out.size), _, gj, rfl, HZF.out.mono HB1.out.size⟩
end Go.Proofs.Ytaefcbgmljaleaa
