/- The walk of the law LedgerTables. -/
import Derived.Test.YtloallndnmofnaaDoorMade
import Derived.Test.YtloallndnmofnaaDoorFr2
import Derived.Deep.QuietTactic
import Derived.BigQuiet
namespace Go.Proofs.YtloallndnmofnaaDoor
open Go.RowKit

namespace Ld
/-- Of each producer the newest are remembered, five at most. -/
structure Kept (T : Tb) (nx : Nat → Nat) : Prop where
  four : ∀ x ∈ T, x.1 < 4
  len : ∀ p : Nat, p < 4 → (Ld.slots T p).length = min (nx p) 5
  last : ∀ p : Nat, p < 4 → ∀ l, (Ld.slots T p).getLast? = some l → l.seq + 1 = nx p
theorem Kept.nil : Kept [] (fun _ => 0) := ⟨(fun _ h => by cases h), (fun _ _ => rfl), (fun _ _ _ h => by cases h)⟩
def updN (nx : Nat → Nat) (p v : Nat) : Nat → Nat := fun q => if q = p then v else nx q
theorem Kept.add {T : Tb} {nx : Nat → Nat} (h : Kept T nx) (hG : goodB T = true) {p seq : Nat} {e : Int} (hp : p < 4) (hz : Ld.addE T p seq e = 0) (he : 0 ≤ e) (he2 : e + 1 ≤ 1099511627776) : Kept (addT T p seq e 1) (updN nx p (seq + 1)) := by
  obtain ⟨-, h2, h3⟩ := add_ok hG hz he (by omega) he2
  have hck : (check T p seq).2 = 0 := by
    unfold Ld.addE at hz
    split at hz
    · assumption
    · rename_i h1; exact absurd hz h1
  obtain ⟨hn1, hn2⟩ := check_num hck
  rw [check_chk hG, hn1, hn2] at hck
  simp only [Bool.and_self, if_true] at hck
  have hsq : seq = nx p := by
    cases hL : Ld.slots T p with
    | nil =>
      have h4 := h.len p hp
      rw [hL] at h4
      simp only [List.length_nil] at h4
      rw [hL] at hck
      unfold chk at hck
      simp only at hck
      split at hck
      · omega
      · simp at hck
    | cons a r =>
      rw [hL] at hck
      obtain ⟨l, hl⟩ : ∃ l, (a :: r).getLast? = some l := ⟨_, List.getLast?_cons⟩
      have h5 := (look_ok (L := a :: r) hck).1
      rw [getLastD_of hl] at h5
      have := h.last p hp l (by rw [hL]; exact hl)
      omega
  refine ⟨fun y hy => ?_, fun q hq => ?_, fun q hq l hl => ?_⟩
  · rcases h3 y hy with h4 | h4
    · rw [h4]; omega
    · exact h.four y h4
  · rw [h2]
    unfold updN
    by_cases hqp : q = p
    · subst hqp
      rw [if_pos rfl, if_pos rfl]
      have h4 := h.len q hq
      unfold last5
      rw [List.length_drop, List.length_append, h4, List.length_cons, List.length_nil]
      omega
    · rw [if_neg (by omega), if_neg hqp]
      exact h.len q hq
  · rw [h2] at hl
    unfold updN
    by_cases hqp : q = p
    · subst hqp
      rw [if_pos rfl, last5_last] at hl
      cases hl
      rw [if_pos rfl]
      simp
    · rw [if_neg (by omega)] at hl
      rw [if_neg hqp]
      exact h.last q hq l hl
/-- What stands of one of them in the table. -/
theorem Kept.row {T : Tb} {nx : Nat → Nat} (h : Kept T nx) (hG : goodB T = true) {k : Nat} {x : Int × List Sl} (hx : T[k]? = some x) :
    ∃ p n : Nat, p < 4 ∧ x.1 = p ∧ x.2.length = n ∧ 1 ≤ n ∧ n ≤ 5 ∧ n = min (nx p) 5 ∧ ∃ l, x.2[n - 1]? = some l ∧ l.seq + 1 = nx p ∧ 0 ≤ l.seq ∧ l.seq ≤ 1099511627776 := by
  have hm := List.mem_of_getElem? hx
  obtain ⟨hn, h1, h5, hsl⟩ := rowOk_iff.1 ((good_iff.1 hG).2.1 x hm)
  have h0 := numB_iff.1 hn
  have h4 := h.four x hm
  obtain ⟨p, hp⟩ : ∃ p : Nat, x.1 = p := ⟨x.1.toNat, by omega⟩
  have hs : Ld.slots T p = x.2 := slots_of (good_iff.1 hG).2.2 (by rw [← hp]; exact hm)
  have hl := h.len p (by omega)
  rw [hs] at hl
  obtain ⟨l, hll⟩ : ∃ l, x.2[x.2.length - 1]? = some l := ⟨_, List.getElem?_eq_getElem (by omega)⟩
  have hla := h.last p (by omega) l (by rw [hs, List.getLast?_eq_getElem?]; exact hll)
  have hok := okS_iff (slots_mem hsl l (List.mem_of_getElem? hll))
  exact ⟨p, _, by omega, hp, rfl, h1, h5, hl, l, hll, hla, hok.1.1, hok.1.2⟩
end Ld
structure Tn (w0 w : World) (rb nb : Nat) (B : Nat → Prop) (T : Ld.Tb) (nx : Nat → Nat) : Prop where
  ls : LS w0 w rb B T
  nxt : Blk w nb (four fun p => .int .i64 (nx p : Nat)) 50
  nB : ¬ B nb ∧ w0.heap.size ≤ nb
section
variable {w0 w w' : World} {rb nb : Nat} {B B' : Nat → Prop} {T T' : Ld.Tb} {nx : Nat → Nat}
theorem Tn.below (h : Tn w0 w rb nb B T nx) (hb : RowKit.Below w.heap.size w w') : Tn w0 w' rb nb B T nx := ⟨h.ls.below hb, h.nxt.below hb, h.nB⟩
theorem Tn.ledger (h : Tn w0 w rb nb B T nx) (hl : LS w0 w' rb B' T') (hm : Moved B B' w w') : Tn w0 w' rb nb B' T' nx :=
  ⟨hl, (h.nxt.moved hm h.nB.1).1, (h.nxt.moved hm h.nB.1).2, h.nB.2⟩
theorem Tn.set (h : Tn w0 w rb nb B T nx) (h2 : 2 ≤ w0.heap.size) {p v : Nat} (hp : p < 4) : Tn w0 (w.setCell ⟨nb, p, none⟩ (.int .i64 (v : Nat))) rb nb B T (Ld.updN nx p v) := by
  have hm : Moved (fun k => k = nb) (fun k => k = nb) w (w.setCell ⟨nb, p, none⟩ (.int .i64 (v : Nat))) := Moved.setCell w _ _ rfl
  refine ⟨(h.ls.moved hm (fun k hk hc => h.nB.1 (hc ▸ hk)) (fun k hk => by rw [hk]; exact h.nB.2) h2).1, ?_, h.nB⟩
  have := h.nxt.set (i := p) (.int .i64 (v : Nat))
  rw [four_set _ hp] at this
  have e : (fun q => if q = p then Value.int .i64 ((v : Nat) : Int) else .int .i64 ((nx q : Nat) : Int)) = fun q => .int .i64 ((Ld.updN nx p v q : Nat) : Int) := by
    funext q
    unfold Ld.updN
    split <;> rfl
  rw [← e]
  exact this
end

set_option maxHeartbeats 4000000 in
set_option maxRecDepth 100000 in
theorem tables_any (v : Value) (zs : List P2) (w : World) (lb : Lg w) (h : Pairs w w.heap.size v zs) :
    Calls Tryd.prog 7 #[v] w fun e w' => e = .returned (.bool true) ∧ RowKit.Below w.heap.size w w' := by
  have h2 := lb.size
  obtain ⟨a, cap, hv, -⟩ := h.lies
  subst hv
  obtain ⟨m, hm⟩ : ∃ m, zs.length = m := ⟨_, rfl⟩
  have HP := Lib.hid h
  rw [hm] at HP ⊢
  have HM := Lib.hid hm
  have H2 := Lib.hid h2
  have HA := Lib.hid (awake_any w lb)
  have HLB := Lib.hid lb
  clear h h2 lb hm
  go_enter Tryd.func7, Tryd.ntmps7
  go_wp2_with fail
  refine HA.out.mono ?_
  rintro e w1 ⟨rfl, b1⟩
  have HN := Lib.hid (s_new w w1 b1 (HLB.out.below HLB.out.size b1))
  have HB1 := Lib.hid b1
  clear b1 HA
  go_wp2_with fail
  refine HN.out.mono ?_
  rintro e w2 ⟨rfl, hls, b2⟩
  have a1 : RowKit.Below w2.heap.size w2 (w2.alloc (.cells #[.int .i64 0, .int .i64 0, .int .i64 0, .int .i64 0] 50)) := (Below.refl _ _).alloc (Nat.le_refl _) _
  have k1 := Blk.new w2 #[.int .i64 0, .int .i64 0, .int .i64 0, .int .i64 0] 50
  obtain ⟨w3, hw3⟩ : ∃ W, w2.alloc (.cells #[.int .i64 0, .int .i64 0, .int .i64 0, .int .i64 0] 50) = W := ⟨_, rfl⟩
  rw [hw3] at a1 k1
  have hTN : Tn w w3 w1.heap.size w2.heap.size (fun k => k = w1.heap.size) [] (fun _ => 0) := by
    have i1 := hls.lgr.bnd _ rfl
    have i2 := hls.low.size
    exact ⟨hls.below a1, k1, by show ¬ (_ = _); omega, by omega⟩
  have HT := Lib.hid hTN
  obtain ⟨r1, hr1⟩ : ∃ rb, w1.heap.size = rb := ⟨_, rfl⟩
  obtain ⟨nb, hnb⟩ : ∃ rb, w2.heap.size = rb := ⟨_, rfl⟩
  have HW3 := Lib.hid (And.intro hw3 (And.intro hr1 hnb))
  rw [hr1, hnb] at HT
  clear hTN hls b2 hr1 hnb hw3 a1 k1
  go_wp2_with fail
  rw [HW3.out.1, HW3.out.2.1, HW3.out.2.2]
  go_loopw [5] (fun iv wr => ∃ (i : Nat) (B : Nat → Prop) (T : Ld.Tb) (nx : Nat → Nat), i ≤ m ∧ (i : Int) ≤ 120 ∧ iv = .int .i64 i ∧ Tn w wr r1 nb B T nx ∧ Ld.Kept T nx ∧ ∀ p, nx p ≤ 31) (fun iv _ => m - (intOf iv).toNat)
  case atStart => exact ⟨0, _, [], _, by omega, by omega, rfl, HT.out, Ld.Kept.nil, fun _ => by omega⟩
  case round =>
    obtain ⟨i, B1, T, nx, hi, hi120, rfl, htn, hkp, h31⟩ := hrel
    have HTN := Lib.hid htn
    have HKP := Lib.hid hkp
    have H31 := Lib.hid h31
    clear htn hkp h31 HT HN HW3
    by_cases hin : i < m ∧ (i : Int) < 120
    · obtain ⟨hlt, hl2⟩ := hin
      obtain ⟨z, hz⟩ : ∃ z, zs[i]? = some z := ⟨_, List.getElem?_eq_getElem (by rw [HM.out]; exact hlt)⟩
      obtain ⟨a', cap', hv, hc⟩ := (HP.out.below HTN.out.ls.low).lies
      obtain ⟨b, off, rfl, hblt, c0, c1⟩ := hc i z hz
      injection hv with hv1 hv2 hv3
      subst hv1
      obtain ⟨z0, z1⟩ := z
      obtain ⟨P, hP1, hP2, hP3⟩ := mod_nat z0 4 (by omega) (by omega)
      obtain ⟨S, hS1, hS2, hS3⟩ := mod_nat z1 30 (by omega) (by omega)
      have hP4 : P < 4 := by omega
      have hS4 : S < 30 := by omega
      have hPw : IntKind.i64.wrap (P : Int) = (P : Int) := by rw [IntKind.wrap_i64]; omega
      have hSw : IntKind.i64.wrap (S : Int) = (S : Int) := by rw [IntKind.wrap_i64]; omega
      simp only at c0 c1
      have hi0 : (0 : Int) ≤ (i : Int) := by omega
      have him : (i : Int) < (m : Int) := by omega
      clear hc hz hv2 hv3 HP hblt
      go_upto_region 8 with fail
      have HB12 : Hid (∀ k, B1 k ∨ k = nb → k < wr.heap.size) := fun k hk => by
        rcases hk with hk | hk
        · exact HTN.out.ls.lgr.bnd k hk
        · rw [hk]; exact HTN.out.nxt.lt
      go_cut [6] (fun s8 wx => ∃ t g : Nat, s8 = .pointer (some ⟨t, 0, none⟩) ∧ Made wr t g i P S B1 (fun k => k = nb) wx)
      case first =>
        have n1 := World.new_ne wr ⟨b, off + i * 2, none⟩ c0
        go_region_held3 (fun w' => w'.cell? ⟨b, off + i * 2, none⟩ = some (.int .i64 z0) ∧ w'.cell? ⟨b, off + i * 2 + 1, none⟩ = some (.int .i64 z1))
          (first
            | go_keep
            | (go_split_ands; exact ⟨bcell6 hb (by assumption), bcell6 hb (by assumption)⟩)
            | (go_split_ands; exact ⟨bcell6 ((Below.refl _ _).alloc (Nat.le_refl _) _) k0, bcell6 ((Below.refl _ _).alloc (Nat.le_refl _) _) k1⟩))
          (first
            | (go_at_call 20; refine (dbatch' _ _ _ _).mono ?_; rintro e w5 ⟨rfl, hr, hb⟩; (first | (have k0 := bcell6 hb c0; have k1 := bcell6 hb c1) | (have k0 := bcell6 hb (bcell6 (alc wr) c0); have k1 := bcell6 hb (bcell6 (alc wr) c1))); (first | (have hz := Blk.below (zero_bat wr) (below_of (wr := wr.alloc (.cells zeroB 34)) hb rfl rfl rfl rfl); have q0 : w5.cell? ⟨wr.heap.size, 0, none⟩ = some (.int .i64 0) := hz.cell (i := 0) rfl; have q1 : w5.cell? ⟨wr.heap.size, 1, none⟩ = some (.int .i64 0) := hz.cell (i := 1) rfl; have q2 : w5.cell? ⟨wr.heap.size, 2, none⟩ = some (.int .i64 0) := hz.cell (i := 2) rfl; have q3 : w5.cell? ⟨wr.heap.size, 3, none⟩ = some (.int .i64 0) := hz.cell (i := 3) rfl; have q4 : w5.cell? ⟨wr.heap.size, 4, none⟩ = some (.int .i64 0) := hz.cell (i := 4) rfl; have q5 : w5.cell? ⟨wr.heap.size, 5, none⟩ = some (.slice none 0 0) := hz.cell (i := 5) rfl; have f0 : w5.frozen? ⟨wr.heap.size, 0, none⟩ = false := hz.free (i := 0); have f1 : w5.frozen? ⟨wr.heap.size, 1, none⟩ = false := hz.free (i := 1); have f2 : w5.frozen? ⟨wr.heap.size, 2, none⟩ = false := hz.free (i := 2); have f3 : w5.frozen? ⟨wr.heap.size, 3, none⟩ = false := hz.free (i := 3); have f4 : w5.frozen? ⟨wr.heap.size, 4, none⟩ = false := hz.free (i := 4); have f5 : w5.frozen? ⟨wr.heap.size, 5, none⟩ = false := hz.free (i := 5)) | skip)))
        · go_wp2_with fail
          go_meet
          exact ⟨_, wr.heap.size + 1, rfl, made_a (base := i) (prod := P) (seq := S) (g := wr.heap.size + 1) HB12.out rfl hr (below_of hb rfl rfl rfl rfl)⟩
        · go_wp2_with fail
          go_meet
          exact ⟨_, wr.heap.size + 1 + 1, rfl, made_b (base := i) (prod := P) (seq := S) (g := wr.heap.size + 1 + 1) HB12.out rfl (by rw [← alc_size]; exact hr) (below_of (wr := wr.alloc (.cells zeroB 34)) hb rfl rfl rfl rfl)⟩
      case rest =>
        obtain ⟨t, g, rfl, hbt, hrc, ⟨n1, n2, n3, n4⟩, hbl⟩ := hcut
        have HT1 := Lib.hid (HTN.out.below hbl)
        have HAD := Lib.hid (s_add (prod := (P : Int)) (seq := (S : Int)) (base := (i : Int)) HT1.out.ls H2.out hrc (Ld.numB_nat (by omega)) (Ld.numB_nat (by omega)) (by omega) (by omega))
        have HBT := Lib.hid hbt
        have HNN := Lib.hid n1
        have htn : t ≠ nb := n2
        have y0 : World.cell? _ ⟨t, 0, none⟩ = some (Value.int .i64 i) := hbt.cell (i := 0) rfl
        have y1 : World.cell? _ ⟨t, 1, none⟩ = some (Value.int .i64 1) := hbt.cell (i := 1) rfl
        have y2 : World.cell? _ ⟨t, 2, none⟩ = some (Value.int .i64 P) := hbt.cell (i := 2) rfl
        have y3 : World.cell? _ ⟨t, 3, none⟩ = some (Value.int .i64 S) := hbt.cell (i := 3) rfl
        have y4 : World.cell? _ ⟨t, 4, none⟩ = some (Value.int .i64 0) := hbt.cell (i := 4) rfl
        have y5 : World.cell? _ ⟨t, 5, none⟩ = some (Value.slice (some ⟨g, 0, none⟩) 1 1) := hbt.cell (i := 5) rfl
        clear hbt hrc n1 n2 n3 n4 hbl c0 c1
        go_wp2_with fail
        refine HAD.out.mono ?_
        rintro e w6 ⟨rfl, B1', hl1, hm1⟩
        have HT2 := Lib.hid (HT1.out.ledger hl1 hm1)
        have HBT2 := Lib.hid (HBT.out.moved hm1 HNN.out).1
        obtain ⟨c, hc⟩ : ∃ c, Ld.addE T P S i = c := ⟨_, rfl⟩
        have HCE := Lib.hid hc
        rw [hc]
        rw [hc] at HT2
        clear hl1 hm1 hc HAD y0 y1 y2 y3 y4 y5
        by_cases hc0 : c = 0
        · subst hc0
          have HT3 : Hid (Tn w (w6.setCell ⟨nb, P, none⟩ (.int .i64 ((S + 1 : Nat) : Int))) r1 nb B1' (Ld.addT T P S i 1) (Ld.updN nx P (S + 1))) := by
            have := HT2.out
            rw [if_pos rfl] at this
            exact this.set H2.out hP4
          have HK3 : Hid (Ld.Kept (Ld.addT T P S i 1) (Ld.updN nx P (S + 1))) := HKP.out.add HTN.out.ls.good hP4 HCE.out (by omega) (by omega)
          have H3 : Hid (∀ p, Ld.updN nx P (S + 1) p ≤ 31) := fun p => by
            unfold Ld.updN
            split
            · omega
            · exact H31.out p
          have y2 : w6.cell? ⟨t, 2, none⟩ = some (Value.int .i64 P) := HBT2.out.cell (i := 2) rfl
          have y3 : w6.cell? ⟨t, 3, none⟩ = some (Value.int .i64 S) := HBT2.out.cell (i := 3) rfl
          have hnx := HT2.out.nxt.cell (four_at (fun p => .int .i64 (nx p : Nat)) hP4)
          have fnx := HT2.out.nxt.free (i := P)
          have hee : (S : Int) + 1 = ((S + 1 : Nat) : Int) := by omega
          have HEE := Lib.hid hee
          clear hee
          have HG3 := HT3.out.ls.good
          have HTB := Lib.hid (s_table HT3.out.ls)
          go_wp2_with fail
          rw [HEE.out]
          refine HTB.out.mono ?_
          rintro e w8 ⟨tv, tb, E, rfl, hown, hE, -, hb8⟩
          have htab := hown.tab (fun _ => True) (fun _ _ => trivial)
          rw [hE] at htab
          have HT4 := Lib.hid (HT3.out.below hb8)
          have HTAB := Lib.hid htab
          obtain ⟨ta, tc, rfl, -⟩ := htab
          obtain ⟨N, hN⟩ : ∃ N, (Ld.addT T P S i 1).length = N := ⟨_, rfl⟩
          rw [hN] at HTAB
          have HN := Lib.hid hN
          have hN64 : N ≤ 64 := by rw [← hN]; exact (Ld.good_iff.1 HG3).1
          have HFR : Hid (∀ w9, RowKit.Below w8.heap.size w8 w9 → Calls Tryd.prog 10 #[.slice ta N tc] w9 (Fromd w9 (Ld.addT T P S i 1))) := fun w9 hb => dfrom_ok _ (Ld.addT T P S i 1) w9 (HTAB.out.below hb) HG3
          rw [hN]
          clear hown hE hb8 hN HTB
          go_wp2_with fail
          go_loopw [8] (fun kv wx => ∃ k : Nat, k ≤ N ∧ kv = .int .i64 k ∧ RowKit.Below w8.heap.size w8 wx) (fun kv _ => N - (intOf kv).toNat)
          case atStart => exact ⟨0, by omega, rfl, Below.refl _ _⟩
          case round =>
            obtain ⟨k, hk, rfl, hbx⟩ := hrel
            have HBX := Lib.hid hbx
            clear hbx
            by_cases hk2 : k < N
            · obtain ⟨x, hx⟩ : ∃ x, (Ld.addT T P S i 1)[k]? = some x := ⟨_, List.getElem?_eq_getElem (by rw [HN.out]; exact hk2)⟩
              obtain ⟨p, n, hp4, hxp, hxn, hn1, hn5, hnm, l, hl, hlq, hl0, hl1⟩ := HK3.out.row HG3 hx
              obtain ⟨a2, c2, hv2, hc⟩ := HTAB.out.below HBX.out
              obtain ⟨b, off, sv, ha, -, d0, d1, hsl⟩ := hc k x hx
              injection hv2 with hv3 hv4 hv5
              obtain rfl : ta = some ⟨b, off, none⟩ := by rw [hv3, ha]
              obtain ⟨a3, c3, rfl, hc3⟩ := hsl
              obtain ⟨b3, off3, rfl, -, e0, -, -⟩ := hc3 (n - 1) l hl
              rw [hxp] at d0
              rw [hxn] at d1
              have hnx := (HT4.out.below HBX.out).nxt.cell (four_at (fun p => .int .i64 ((Ld.updN nx P (S + 1)) p : Nat)) hp4)
              have h31 := H3.out p
              obtain ⟨lq, hlq2⟩ : ∃ z, l.seq = z := ⟨_, rfl⟩
              rw [hlq2] at e0 hlq hl0 hl1
              have hprev : k ≠ 0 → ∃ y : Int, wr.cell? ⟨b, off + (k - 1) * 2, none⟩ = some (.int .i64 y) ∧ y < p := by
                intro hk0
                obtain ⟨y, hy⟩ : ∃ y, (Ld.addT T P S i 1)[k - 1]? = some y := ⟨_, List.getElem?_eq_getElem (by rw [HN.out]; omega)⟩
                obtain ⟨b4, off4, sv4, ha4, -, f0, -, -⟩ := hc (k - 1) y hy
                rw [← hv3] at ha4
                injection ha4 with ha4
                injection ha4 with ha5 ha6
                subst ha5 ha6
                refine ⟨y.1, f0, ?_⟩
                have := Ld.sorted_lt (Ld.good_iff.1 HG3).2.2 hy hx (by omega)
                omega
              have HPV := Lib.hid hprev
              obtain ⟨X, hX⟩ : ∃ X, (Ld.updN nx P (S + 1)) p = X := ⟨_, rfl⟩
              rw [hX] at hnx hnm hlq h31
              have hw1 : IntKind.i64.wrap ((n : Int) - 1) = ((n - 1 : Nat) : Int) := by rw [IntKind.wrap_i64]; omega
              have hw2 : IntKind.i64.wrap (lq + 1) = (X : Int) := by rw [IntKind.wrap_i64]; omega
              have t1 : decide ((n : Int) < 1) = false := by simp; omega
              have t2 : decide ((5 : Int) < (n : Int)) = false := by simp; omega
              have t7 : ¬ ((n : Int) < if (5 : Int) < (X : Int) then 5 else (X : Int)) := by split <;> omega
              have t4 : decide ((n : Int) < if (5 : Int) < (X : Int) then 5 else (X : Int)) = false := decide_eq_false t7
              have hq0 : (0 : Int) ≤ ((n - 1 : Nat) : Int) := by omega
              have hq1 : ((n - 1 : Nat) : Int) < (n : Int) := by omega
              have HNM := Lib.hid (And.intro hnm hlq)
              have hp0 : (0 : Int) ≤ (p : Int) := by omega
              have hp5 : (p : Int) < 4 := by omega
              have hkk0 : (0 : Int) ≤ (k : Int) := by omega
              have hkk1 : (k : Int) < (N : Int) := by omega
              clear hx hc hc3 hxp hxn hl hlq2 hprev hv3 hv4 hv5 ha hX hnm hlq
              by_cases hk0 : k = 0
              · have tk : decide ((0 : Int) < (k : Int)) = false := by simp; omega
                have tk2 : ¬ ((0 : Nat) < k) := by omega
                have tk3 : ¬ ((0 : Int) < (k : Int)) := by omega
                clear hk0
                go_wp2_with fail
                go_quiet (fail)
                go_wp2_with fail
                go_roundw
                case rel => exact ⟨k + 1, by omega, by go_num, HBX.out.trans ((below_drewN _ _).mono HBX.out.size)⟩
                case measure => simp [intOf]; omega
              · have tk : decide ((0 : Int) < (k : Int)) = true := by simp; omega
                have tk2 : (0 : Nat) < k := by omega
                have tk3 : (0 : Int) < (k : Int) := by omega
                obtain ⟨y, hy, hyp⟩ := HPV.out hk0
                have hw4 : IntKind.i64.wrap ((k : Int) - 1) = ((k - 1 : Nat) : Int) := by rw [IntKind.wrap_i64]; omega
                have hj0 : (0 : Int) ≤ ((k - 1 : Nat) : Int) := by omega
                have hj1 : ((k - 1 : Nat) : Int) < (N : Int) := by omega
                have t5 : decide ((p : Int) ≤ y) = false := by simp; omega
                have t6 : decide (y ≥ (p : Int)) = false := by simp; omega
                clear hk0
                go_wp2_with fail
                go_quiet (fail)
                go_wp2_with fail
                go_roundw
                case rel => exact ⟨k + 1, by omega, by go_num, HBX.out.trans ((below_drewN _ _).mono HBX.out.size)⟩
                case measure => simp [intOf]; omega
            · obtain rfl : k = N := by omega
              have HF := Lib.hid (HFR.out wr HBX.out)
              have HLOW : Hid (RowKit.Below w.heap.size w wr) := HT4.out.ls.low.trans (HBX.out.mono HT4.out.ls.low.size)
              have HT5 := Lib.hid (HT4.out.below HBX.out)
              go_wp2_with fail
              refine HF.out.mono ?_
              rintro e w9 ⟨rb9, B9, rfl, -, -, hb9⟩
              have HT6 := Lib.hid (HT5.out.below hb9)
              clear hb9
              go_wp2_with fail
              go_roundw
              case rel => exact ⟨i + 1, B1', (Ld.addT T P S i 1), (Ld.updN nx P (S + 1)), by omega, by omega, by go_num, HT6.out, HK3.out, H3.out⟩
              case measure => simp [intOf]; omega
        ·
          have HT3 : Hid (Tn w w6 r1 nb B1' T nx) := by
            have := HT2.out
            rw [if_neg hc0] at this
            exact this
          have HK3 := HKP
          have H3 := H31
          have hcf : (c == 0) = false := by simpa using hc0
          have HG3 := HT3.out.ls.good
          have HTB := Lib.hid (s_table HT3.out.ls)
          go_wp2_with fail
          refine HTB.out.mono ?_
          rintro e w8 ⟨tv, tb, E, rfl, hown, hE, -, hb8⟩
          have htab := hown.tab (fun _ => True) (fun _ _ => trivial)
          rw [hE] at htab
          have HT4 := Lib.hid (HT3.out.below hb8)
          have HTAB := Lib.hid htab
          obtain ⟨ta, tc, rfl, -⟩ := htab
          obtain ⟨N, hN⟩ : ∃ N, T.length = N := ⟨_, rfl⟩
          rw [hN] at HTAB
          have HN := Lib.hid hN
          have hN64 : N ≤ 64 := by rw [← hN]; exact (Ld.good_iff.1 HG3).1
          have HFR : Hid (∀ w9, RowKit.Below w8.heap.size w8 w9 → Calls Tryd.prog 10 #[.slice ta N tc] w9 (Fromd w9 T)) := fun w9 hb => dfrom_ok _ T w9 (HTAB.out.below hb) HG3
          rw [hN]
          clear hown hE hb8 hN HTB
          go_wp2_with fail
          go_loopw [8] (fun kv wx => ∃ k : Nat, k ≤ N ∧ kv = .int .i64 k ∧ RowKit.Below w8.heap.size w8 wx) (fun kv _ => N - (intOf kv).toNat)
          case atStart => exact ⟨0, by omega, rfl, Below.refl _ _⟩
          case round =>
            obtain ⟨k, hk, rfl, hbx⟩ := hrel
            have HBX := Lib.hid hbx
            clear hbx
            by_cases hk2 : k < N
            · obtain ⟨x, hx⟩ : ∃ x, T[k]? = some x := ⟨_, List.getElem?_eq_getElem (by rw [HN.out]; exact hk2)⟩
              obtain ⟨p, n, hp4, hxp, hxn, hn1, hn5, hnm, l, hl, hlq, hl0, hl1⟩ := HK3.out.row HG3 hx
              obtain ⟨a2, c2, hv2, hc⟩ := HTAB.out.below HBX.out
              obtain ⟨b, off, sv, ha, -, d0, d1, hsl⟩ := hc k x hx
              injection hv2 with hv3 hv4 hv5
              obtain rfl : ta = some ⟨b, off, none⟩ := by rw [hv3, ha]
              obtain ⟨a3, c3, rfl, hc3⟩ := hsl
              obtain ⟨b3, off3, rfl, -, e0, -, -⟩ := hc3 (n - 1) l hl
              rw [hxp] at d0
              rw [hxn] at d1
              have hnx := (HT4.out.below HBX.out).nxt.cell (four_at (fun p => .int .i64 (nx p : Nat)) hp4)
              have h31 := H3.out p
              obtain ⟨lq, hlq2⟩ : ∃ z, l.seq = z := ⟨_, rfl⟩
              rw [hlq2] at e0 hlq hl0 hl1
              have hprev : k ≠ 0 → ∃ y : Int, wr.cell? ⟨b, off + (k - 1) * 2, none⟩ = some (.int .i64 y) ∧ y < p := by
                intro hk0
                obtain ⟨y, hy⟩ : ∃ y, T[k - 1]? = some y := ⟨_, List.getElem?_eq_getElem (by rw [HN.out]; omega)⟩
                obtain ⟨b4, off4, sv4, ha4, -, f0, -, -⟩ := hc (k - 1) y hy
                rw [← hv3] at ha4
                injection ha4 with ha4
                injection ha4 with ha5 ha6
                subst ha5 ha6
                refine ⟨y.1, f0, ?_⟩
                have := Ld.sorted_lt (Ld.good_iff.1 HG3).2.2 hy hx (by omega)
                omega
              have HPV := Lib.hid hprev
              obtain ⟨X, hX⟩ : ∃ X, nx p = X := ⟨_, rfl⟩
              rw [hX] at hnx hnm hlq h31
              have hw1 : IntKind.i64.wrap ((n : Int) - 1) = ((n - 1 : Nat) : Int) := by rw [IntKind.wrap_i64]; omega
              have hw2 : IntKind.i64.wrap (lq + 1) = (X : Int) := by rw [IntKind.wrap_i64]; omega
              have t1 : decide ((n : Int) < 1) = false := by simp; omega
              have t2 : decide ((5 : Int) < (n : Int)) = false := by simp; omega
              have t7 : ¬ ((n : Int) < if (5 : Int) < (X : Int) then 5 else (X : Int)) := by split <;> omega
              have t4 : decide ((n : Int) < if (5 : Int) < (X : Int) then 5 else (X : Int)) = false := decide_eq_false t7
              have hq0 : (0 : Int) ≤ ((n - 1 : Nat) : Int) := by omega
              have hq1 : ((n - 1 : Nat) : Int) < (n : Int) := by omega
              have HNM := Lib.hid (And.intro hnm hlq)
              have hp0 : (0 : Int) ≤ (p : Int) := by omega
              have hp5 : (p : Int) < 4 := by omega
              have hkk0 : (0 : Int) ≤ (k : Int) := by omega
              have hkk1 : (k : Int) < (N : Int) := by omega
              clear hx hc hc3 hxp hxn hl hlq2 hprev hv3 hv4 hv5 ha hX hnm hlq
              by_cases hk0 : k = 0
              · have tk : decide ((0 : Int) < (k : Int)) = false := by simp; omega
                have tk2 : ¬ ((0 : Nat) < k) := by omega
                have tk3 : ¬ ((0 : Int) < (k : Int)) := by omega
                clear hk0
                go_wp2_with fail
                go_quiet (fail)
                go_wp2_with fail
                go_roundw
                case rel => exact ⟨k + 1, by omega, by go_num, HBX.out.trans ((below_drewN _ _).mono HBX.out.size)⟩
                case measure => simp [intOf]; omega
              · have tk : decide ((0 : Int) < (k : Int)) = true := by simp; omega
                have tk2 : (0 : Nat) < k := by omega
                have tk3 : (0 : Int) < (k : Int) := by omega
                obtain ⟨y, hy, hyp⟩ := HPV.out hk0
                have hw4 : IntKind.i64.wrap ((k : Int) - 1) = ((k - 1 : Nat) : Int) := by rw [IntKind.wrap_i64]; omega
                have hj0 : (0 : Int) ≤ ((k - 1 : Nat) : Int) := by omega
                have hj1 : ((k - 1 : Nat) : Int) < (N : Int) := by omega
                have t5 : decide ((p : Int) ≤ y) = false := by simp; omega
                have t6 : decide (y ≥ (p : Int)) = false := by simp; omega
                clear hk0
                go_wp2_with fail
                go_quiet (fail)
                go_wp2_with fail
                go_roundw
                case rel => exact ⟨k + 1, by omega, by go_num, HBX.out.trans ((below_drewN _ _).mono HBX.out.size)⟩
                case measure => simp [intOf]; omega
            · obtain rfl : k = N := by omega
              have HF := Lib.hid (HFR.out wr HBX.out)
              have HLOW : Hid (RowKit.Below w.heap.size w wr) := HT4.out.ls.low.trans (HBX.out.mono HT4.out.ls.low.size)
              have HT5 := Lib.hid (HT4.out.below HBX.out)
              go_wp2_with fail
              refine HF.out.mono ?_
              rintro e w9 ⟨rb9, B9, rfl, -, -, hb9⟩
              have HT6 := Lib.hid (HT5.out.below hb9)
              clear hb9
              go_wp2_with fail
              go_roundw
              case rel => exact ⟨i + 1, B1', T, nx, by omega, by omega, by go_num, HT6.out, HK3.out, H3.out⟩
              case measure => simp [intOf]; omega
    · by_cases hlt : i < m
      · have hl2 : ¬ ((i : Int) < 120) := fun h => hin ⟨hlt, h⟩
        clear hin
        go_wp2_with fail
        go_ret
        exact ⟨rfl, HTN.out.ls.low⟩
      · have hge : decide (i < m) = false := decide_eq_false hlt
        clear hin
        go_wp2_with fail
        go_ret
        exact ⟨rfl, HTN.out.ls.low⟩
end Go.Proofs.YtloallndnmofnaaDoor
