import Derived.Test.YtdaoeplblkfapaaGreatDoorM11
import Derived.Test.YtdaoeplblkfapaaGreatDoorM04

/- THE CONTRACT OF crate.Decode. -/
namespace Go.Proofs.YtdaoeplblkfapaaGreatDoor
open Go.RowKit

/-- What Decode answers, its records in memory beyond H. -/
def DecOutN (H : Nat) (r : Option Pl.Bt) (e : Ending) (w' : World) : Prop :=
  match r with
  | none => e = .returned (.tuple #[.agg #[.int .i64 0, .int .i64 0, .int .i64 0, .int .i64 0, .int .i64 0, .slice none 0 0], .int .i64 3])
  | some b => ∃ v B, w'.ownsRow B 75 4 v b.recs.length (b.recs.flatMap cells4) ∧ H ≤ B ∧ e = .returned (.tuple #[.agg #[.int .i64 b.base, .int .i64 b.count, .int .i64 b.prod, .int .i64 b.seq, .int .i64 b.time, v], .int .i64 0])
/-- What is known while Decode runs: the reader in block c stands at u; the batch in block b holds cs; the result's block r holds nothing. -/
structure DD (w : World) (c b r : Nat) (u : St) (cs : Array Value) (W : World) : Prop where
  rd : Rd c W u
  bb : Blk W b cs 34
  br : Blk W r zeroB 34
  low : Below w.heap.size w W
  lo : w.heap.size ≤ r ∧ w.heap.size ≤ c ∧ w.heap.size ≤ b ∧ c ≠ b ∧ c ≠ r ∧ b ≠ r
theorem DD.call {w W W' : World} {c b r : Nat} {u u' : St} {cs : Array Value} (h : DD w c b r u cs W) (hr : Rd c W' u') (hk : Kb c W W') : DD w c b r u' cs W' :=
  ⟨hr, h.bb.kb hk (by have := h.lo; omega), h.br.kb hk (by have := h.lo; omega), h.low.trans (hk.below h.lo.2.1 h.rd.lt), h.lo⟩
theorem DD.store {w W : World} {c b r : Nat} {u : St} {cs : Array Value} (h : DD w c b r u cs W) (i : Nat) (v : Value) : DD w c b r u (cs.setIfInBounds i v) (W.setCell ⟨b, i, none⟩ v) :=
  ⟨h.rd.other (Kb.setCell W v) (by have := h.lo; omega), h.bb.set v, h.br.setOther v (by have := h.lo; omega), h.low.setCell (p := ⟨b, i, none⟩) h.lo.2.2.1 v, h.lo⟩
theorem DD.below {w W W' : World} {c b r : Nat} {u : St} {cs : Array Value} (h : DD w c b r u cs W) (hb : Below W.heap.size W W') : DD w c b r u cs W' :=
  ⟨h.rd.same hb, h.bb.below hb, h.br.below hb, h.low.trans (hb.mono h.low.size), h.lo⟩
theorem DD.aside {w W W' : World} {c b r x : Nat} {u : St} {cs : Array Value} (h : DD w c b r u cs W) (hk : Kb x W W') (h1 : x ≠ c) (h2 : x ≠ b) (h3 : x ≠ r) (h4 : w.heap.size ≤ x) : DD w c b r u cs W' :=
  ⟨h.rd.other hk (Ne.symm h1), h.bb.kb hk (Ne.symm h2), h.br.kb hk (Ne.symm h3), h.low.trans ⟨hk.os, hk.tape, hk.output, hk.size, fun k hl => hk.block k (Nat.lt_of_lt_of_le hl h.low.size) (by omega)⟩, h.lo⟩
theorem DD.grown {w W W' : World} {c b r base : Nat} {u : St} {cs : Array Value} {row : Option Nat} (h : DD w c b r u cs W) (hg : W.grownBy W' row) (hrow : ∀ k, row = some k → base ≤ k) (hb : w.heap.size ≤ base) (h1 : c < base) (h2 : b < base) (h3 : r < base) : DD w c b r u cs W' := by
  have e : ∀ k, k < base → k < W.heap.size → W'.heap[k]? = W.heap[k]? := fun k hk hl => hg.block k hl (fun e => by have := hrow k e.symm; omega)
  refine ⟨?_, ?_, ?_, ⟨hg.os.trans h.low.os, hg.tape.trans h.low.tape, hg.output.trans h.low.output, Nat.le_trans h.low.size hg.size, fun k hk => (e k (by omega) (Nat.lt_of_lt_of_le hk h.low.size)).trans (h.low.block k hk)⟩, h.lo⟩
  · exact (e c h1 h.rd.lt).trans h.rd
  · exact (e b h2 h.bb.lt).trans h.bb
  · exact (e r h3 h.br.lt).trans h.br

/-- k numbers read. -/
def rdInts : Nat → St → List Int × St
  | 0, u => ([], u)
  | k + 1, u => ((rdInts k u).1 ++ [(St.int (rdInts k u).2).1], (St.int (rdInts k u).2).2)
theorem rdInts_length (k : Nat) (u : St) : (rdInts k u).1.length = k := by
  induction k with
  | zero => rfl
  | succ k ih => simp [rdInts, ih]
theorem rdInts_len (k : Nat) (u : St) : (rdInts k u).2.s.length ≤ u.s.length := by
  induction k with
  | zero => exact Nat.le_refl _
  | succ k ih => exact Nat.le_trans (int_len _) ih
/-- The batch's cells when k numbers have been read. -/
def cells6 (zs : List Int) (v : Value) : Array Value := #[.int .i64 (zs.getD 0 0), .int .i64 (zs.getD 1 0), .int .i64 (zs.getD 2 0), .int .i64 (zs.getD 3 0), .int .i64 (zs.getD 4 0), v]
theorem cells6_at (zs : List Int) (v : Value) (k : Nat) (hk : k < 5) : (cells6 zs v)[k]? = some (.int .i64 (zs.getD k 0)) := by
  match k, hk with
  | 0, _ => rfl
  | 1, _ => rfl
  | 2, _ => rfl
  | 3, _ => rfl
  | 4, _ => rfl
theorem cells6_set (zs : List Int) (v : Value) (k : Nat) (hk : k < 5) (hz : zs.length = k) (x : Int) : (cells6 zs v).setIfInBounds k (.int .i64 x) = cells6 (zs ++ [x]) v := by
  match k, hk, zs, hz with
  | 0, _, [], _ => rfl
  | 1, _, [a], _ => rfl
  | 2, _, [a, b], _ => rfl
  | 3, _, [a, b, c], _ => rfl
  | 4, _, [a, b, c, d], _ => rfl

theorem rdInts_five (s : List UInt8) {u0 : St} (h : St.byte 108 ⟨s, false⟩ = u0) : ∃ x0 x1 x2 x3 x4 u5, rdInts 5 u0 = ([x0, x1, x2, x3, x4], u5) ∧
    decB s = match loopR 9 u5 [] with | none => none | some (rs, u) => if (St.byte 101 u).done = 0 ∧ Pl.goodB ⟨x0, x1, x2, x3, x4, rs⟩ = true then some ⟨x0, x1, x2, x3, x4, rs⟩ else none :=
  ⟨_, _, _, _, _, _, rfl, dec_of h rfl rfl rfl rfl rfl⟩

set_option maxHeartbeats 2000000 in
set_option maxRecDepth 100000 in
theorem ddecode (s : ByteArray) (w : World) (lb : Lb w) (hs : s.size ≤ 281474976710656) :
    Calls Tryz.prog 176 #[.string s] w fun e w' => Below w.heap.size w w' ∧ DecOutN w.heap.size (decB s.data.toList) e w' := by
  obtain ⟨D, hD⟩ : ∃ D, decB s.data.toList = D := ⟨_, rfl⟩
  rw [hD]
  have HDEC := Lib.hid hD
  have hsl : s.data.toList.length ≤ 281474976710656 := by rw [← Lib.size_eq]; exact hs
  have hr0 := Blk.new w zeroB 34
  have hb0 := Blk.new (w.alloc (.cells zeroB 34)) zeroB 34
  have hal1 : Below w.heap.size w (w.alloc (.cells zeroB 34)) := (Below.refl _ _).alloc (Nat.le_refl _) _
  have hal2 : Below (w.alloc (.cells zeroB 34)).heap.size (w.alloc (.cells zeroB 34)) ((w.alloc (.cells zeroB 34)).alloc (.cells zeroB 34)) := (Below.refl _ _).alloc (Nat.le_refl _) _
  have es1 : (w.alloc (.cells zeroB 34)).heap.size = w.heap.size + 1 := by simp
  have es2 : ((w.alloc (.cells zeroB 34)).alloc (.cells zeroB 34)).heap.size = w.heap.size + 2 := by simp
  have hlow := hal1.trans (hal2.mono hal1.size)
  have hr1 := hr0.below hal2
  rw [es1] at hb0
  obtain ⟨W0, hW0⟩ : ∃ W0, (w.alloc (.cells zeroB 34)).alloc (.cells zeroB 34) = W0 := ⟨_, rfl⟩
  rw [hW0] at hb0 hr1 hlow es2
  unfold zeroB at hW0
  have HWE := Lib.hid hW0
  have HB0 := Lib.hid hb0
  have HR0 := Lib.hid hr1
  have HLW := Lib.hid hlow
  have HES := Lib.hid es2
  have HLB := Lib.hid lb
  clear hD hr0 hb0 hal1 hal2 es1 es2 hlow hr1 hW0 lb
  go_enter Tryz.func176, Tryz.ntmps176
  go_wp2_with fail
  refine wp_scope_fwd 0 rfl ?_
  go_wp2_with fail
  rw [HWE.out]
  refine (rd_new s _).mono ?_
  rintro e w1 ⟨rfl, r1, b1⟩
  have hcc := HES.out
  have H1 : DD w W0.heap.size (w.heap.size + 1) w.heap.size ⟨s.data.toList, false⟩ zeroB w1 := ⟨r1, HB0.out.below b1, HR0.out.below b1, HLW.out.trans (b1.mono HLW.out.size), by omega, by omega, by omega, by omega, by omega, by omega⟩
  obtain ⟨c, hce⟩ : ∃ c, W0.heap.size = c := ⟨_, rfl⟩
  rw [hce] at H1 hcc ⊢
  have HCE := Lib.hid hcc
  have H1 := Lib.hid H1
  have h8 : 8 ≤ c := by have := HLB.out.size; omega
  clear r1 b1 hce hcc HB0 HR0 HLW HES HWE
  go_wp2_with fail
  obtain ⟨u0, hu0⟩ : ∃ u, St.byte 108 ⟨s.data.toList, false⟩ = u := ⟨_, rfl⟩
  have hul : u0.s.length ≤ 281474976710656 := Nat.le_trans (hu0 ▸ byte_len 108 _) hsl
  have C := rd_open c _ _ H1.out.rd hsl
  rw [hu0] at C
  refine C.mono ?_
  clear C
  have HU0 := Lib.hid hu0
  clear hu0
  rintro e w2 ⟨rfl, r2, k2⟩
  have H2 := Lib.hid (H1.out.call r2 k2)
  clear r2 k2 H1
  go_wp2_with fail
  refine (dnumbers _ _).mono ?_
  rintro e w3 ⟨rfl, n3, b3⟩
  have H3 : Hid (DD w c (w.heap.size + 1) w.heap.size u0 (cells6 [] (.slice none 0 0)) w3) := H2.out.below b3
  have HN3 := Lib.hid n3
  have HNL : Hid (w.heap.size + 3 ≤ w2.heap.size) := by
    have h := H2.out.rd.lt
    have := HCE.out
    show _ ≤ _
    omega
  obtain ⟨N, hN⟩ : ∃ N, w2.heap.size = N := ⟨_, rfl⟩
  rw [hN] at HN3 HNL ⊢
  clear b3 n3 hN H2
  go_wp2_with fail
  obtain ⟨x0, x1, x2, x3, x4, u5, h5, hdec⟩ := rdInts_five s.data.toList HU0.out
  have HFV := Lib.hid h5
  have HDC := Lib.hid hdec
  clear h5 hdec
  go_loopw [16] (fun iv wr => ∃ k : Nat, k ≤ 5 ∧ iv = .int .i64 k ∧ DD w c (w.heap.size + 1) w.heap.size (rdInts k u0).2 (cells6 (rdInts k u0).1 (.slice none 0 0)) wr ∧ Blk wr N (five (w.heap.size + 1)) 151) (fun iv _ => 5 - (intOf iv).toNat)
  case atStart => exact ⟨0, Nat.zero_le _, rfl, H3.out, HN3.out⟩
  case round =>
    obtain ⟨k, hk, rfl, hdd, hn⟩ := hrel
    have HDD := Lib.hid hdd
    have HN := Lib.hid hn
    clear hdd hn H3 HN3
    by_cases hlt : k < 5
    · obtain ⟨q, hq⟩ : ∃ q, (rdInts k u0).2 = q := ⟨_, rfl⟩
      obtain ⟨zl, hzl⟩ : ∃ z, (rdInts k u0).1 = z := ⟨_, rfl⟩
      have hzk : zl.length = k := by rw [← hzl]; exact rdInts_length k u0
      have hql : q.s.length ≤ 281474976710656 := by rw [← hq]; exact Nat.le_trans (rdInts_len k u0) hul
      obtain ⟨x, q', hx⟩ : ∃ x q', St.int q = (x, q') := ⟨_, _, rfl⟩
      have HNX : Hid (rdInts (k + 1) u0 = (zl ++ [x], q')) := by
        show _ = _
        rw [rdInts, hq, hzl, hx]
      rw [hq, hzl] at HDD
      have p0 := HN.out.cell (five_at (w.heap.size + 1) k hlt)
      have hlb := HLB.out.below HLB.out.size HDD.out.low
      have C := rd_int c q _ hlb HDD.out.rd hql
      rw [hx] at C
      have HC := Lib.hid C
      have hki : (k : Int) < 5 := by omega
      clear hq hzl hx C hlb hql
      go_wp2_with fail
      refine HC.out.mono ?_
      rintro e w4 ⟨rfl, r4, k4⟩
      have HD4 := Lib.hid (HDD.out.call r4 k4)
      have HN4 := Lib.hid (HN.out.kb k4 (by have := HNL.out; have := HCE.out; omega))
      have p1 := HD4.out.bb.cell (cells6_at zl (.slice none 0 0) k hlt)
      have p2 := HD4.out.bb.free (i := k)
      have HD5 : Hid (DD w c (w.heap.size + 1) w.heap.size q' (cells6 (zl ++ [x]) (.slice none 0 0)) (w4.setCell ⟨w.heap.size + 1, k, none⟩ (.int .i64 x))) := by
        have h := HD4.out.store k (.int .i64 x)
        rw [cells6_set zl _ k hlt hzk x] at h
        exact h
      have HN5 := Lib.hid (HN4.out.setOther (i := k) (.int .i64 x) (show N ≠ w.heap.size + 1 by have := HNL.out; omega))
      clear r4 k4 HC HDD HN p0
      go_wp2_with fail
      go_roundw
      case rel => exact ⟨k + 1, by omega, by go_num, by rw [HNX.out]; exact HD5.out, HN5.out⟩
      case measure => simp [intOf]; omega
    · obtain rfl : k = 5 := by omega
      have h5 := HDD.out
      rw [HFV.out] at h5
      have hul5 : u5.s.length ≤ 281474976710656 := by have h := rdInts_len 5 u0; rw [HFV.out] at h; exact Nat.le_trans h hul
      have HD5 : Hid (DD w c (w.heap.size + 1) w.heap.size u5 #[.int .i64 x0, .int .i64 x1, .int .i64 x2, .int .i64 x3, .int .i64 x4, .slice none 0 0] _) := h5
      have HN5L := Lib.hid (show N + 1 ≤ _ from HN.out.lt)
      clear h5 HDD HN HFV hul
      obtain ⟨R, hR⟩ : ∃ R, loopR 9 u5 [] = R := ⟨_, rfl⟩
      have HR := Lib.hid hR
      clear hR
      obtain ⟨W5, hW5⟩ : ∃ x, wr = x := ⟨_, rfl⟩
      rw [hW5] at HD5 HN5L ⊢
      clear hW5
      go_wp2_with fail
      rw [show ((5 : Nat) : Int) = 5 from rfl]
      go_loopw [26] (fun _ wr => ∃ (u : St) (acc : List Pl.Rc) (sv : Value), acc.length ≤ 8 ∧ u.s.length ≤ 281474976710656 ∧ DD w c (w.heap.size + 1) w.heap.size u #[.int .i64 x0, .int .i64 x1, .int .i64 x2, .int .i64 x3, .int .i64 x4, sv] wr ∧ wr.ownsRow (N + 1) 75 4 sv acc.length (acc.flatMap cells4) ∧ loopR (9 - acc.length) u acc = R ∧ N + 1 ≤ wr.heap.size) (fun _ wr => 9 - sliceLen (wr.cell? ⟨w.heap.size + 1, 5, none⟩))
      case atStart => exact ⟨u5, [], .slice none 0 0, by simp, hul5, HD5.out, World.ownsRow_nil _ _ _ _, HR.out, HN5L.out⟩
      case round =>
        clear HD5 hul5
        obtain ⟨u, acc, sv, hacc, hul, hD, hown, hloop, hyn⟩ := hrel
        have HYN := Lib.hid hyn
        clear hyn
        obtain ⟨a, cap, rfl⟩ : ∃ a cap, sv = .slice a acc.length cap := by
          rcases hown.2 with ⟨rfl, h⟩ | ⟨g, cap, cur, rfl, -⟩
          · exact ⟨none, 0, by rw [h]⟩
          · exact ⟨_, cap, rfl⟩
        have HD := Lib.hid hD
        have HO := Lib.hid hown
        have HL := Lib.hid hloop
        clear hD hown hloop
        have HMS := Lib.hid (HD.out.bb.cell (i := 5) rfl)
        have RM := Lib.hid (rd_more c u _ HD.out.rd)
        cases hm : u.more with
        | false =>
          rw [hm] at RM
          have HOV := Lib.hid (loop_over HL.out (Or.inr hm))
          clear hm
          go_wp2_with fail
          refine RM.out.mono ?_
          clear RM
          rintro e y1 ⟨rfl, rfl⟩
          go_wp2_with fail
          refine (rd_close c u _ HD.out.rd hul).mono ?_
          rintro e y2 ⟨rfl, r2, k2⟩
          have HE2 := Lib.hid (HD.out.call r2 k2)
          have HO2 := Lib.hid (own_kb HO.out k2 (by have := HNL.out; have := HCE.out; omega))
          clear r2 k2
          go_wp2_with fail
          refine (rd_done c _ _ HE2.out.rd).mono ?_
          rintro e y3 ⟨rfl, rfl⟩
          obtain ⟨d, hd⟩ : ∃ d, (St.byte 101 u).done = d := ⟨_, rfl⟩
          rw [hd]
          have HDN := Lib.hid hd
          clear hd
          by_cases hd0 : d = 0
          · subst hd0
            have b0 : World.cell? _ ⟨w.heap.size + 1, 0, none⟩ = some (.int .i64 x0) := HE2.out.bb.cell (i := 0) rfl
            have b1 : World.cell? _ ⟨w.heap.size + 1, 1, none⟩ = some (.int .i64 x1) := HE2.out.bb.cell (i := 1) rfl
            have b2 : World.cell? _ ⟨w.heap.size + 1, 2, none⟩ = some (.int .i64 x2) := HE2.out.bb.cell (i := 2) rfl
            have b3 : World.cell? _ ⟨w.heap.size + 1, 3, none⟩ = some (.int .i64 x3) := HE2.out.bb.cell (i := 3) rfl
            have b4 : World.cell? _ ⟨w.heap.size + 1, 4, none⟩ = some (.int .i64 x4) := HE2.out.bb.cell (i := 4) rfl
            have b5 : World.cell? _ ⟨w.heap.size + 1, 5, none⟩ = some (.slice a acc.length cap) := HE2.out.bb.cell (i := 5) rfl
            have HGG := Lib.hid (dgood x0 x1 x2 x3 x4 acc _ _ (HLB.out.below HLB.out.size HE2.out.low) (own_recs HO2.out) (by omega))
            cases hgd : Pl.goodB ⟨x0, x1, x2, x3, x4, acc⟩ with
            | false =>
              rw [hgd] at HGG
              have HGD := Lib.hid hgd
              clear hgd
              go_wp2_with fail
              refine HGG.out.mono ?_
              rintro e y4 ⟨rfl, by4⟩
              have HE4 := Lib.hid (HE2.out.below by4)
              clear by4 b0 b1 b2 b3 b4 b5 HGG
              have r0 : World.cell? _ ⟨w.heap.size, 0, none⟩ = some (.int .i64 0) := HE4.out.br.cell (i := 0) rfl
              have f0 := HE4.out.br.free (i := 0)
              have r1 : World.cell? _ ⟨w.heap.size, 1, none⟩ = some (.int .i64 0) := HE4.out.br.cell (i := 1) rfl
              have f1 := HE4.out.br.free (i := 1)
              have r2 : World.cell? _ ⟨w.heap.size, 2, none⟩ = some (.int .i64 0) := HE4.out.br.cell (i := 2) rfl
              have f2 := HE4.out.br.free (i := 2)
              have r3 : World.cell? _ ⟨w.heap.size, 3, none⟩ = some (.int .i64 0) := HE4.out.br.cell (i := 3) rfl
              have f3 := HE4.out.br.free (i := 3)
              have r4 : World.cell? _ ⟨w.heap.size, 4, none⟩ = some (.int .i64 0) := HE4.out.br.cell (i := 4) rfl
              have f4 := HE4.out.br.free (i := 4)
              have r5 : World.cell? _ ⟨w.heap.size, 5, none⟩ = some (.slice none 0 0) := HE4.out.br.cell (i := 5) rfl
              have f5 := HE4.out.br.free (i := 5)
              go_wp2_with fail
              go_step3
              go_wp2_with fail
              rw [jump_ret]
              refine bodyPost_ret (two_ret rfl (Blk.six (a0 := .int .i64 0) (a1 := .int .i64 0) (a2 := .int .i64 0) (a3 := .int .i64 0) (a4 := .int .i64 0) (a5 := .slice none 0 0) HE4.out.br (.int .i64 0) (.int .i64 0) (.int .i64 0) (.int .i64 0) (.int .i64 0) (.slice none 0 0)) rfl rfl) rfl ⟨six_below HE4.out.low (Nat.le_refl _) _ _ _ _ _ _, ?_⟩
              rw [show D = none from ?_]
              · rfl
              · rw [← HDEC.out, HDC.out, HR.out]
                rw [HOV.out]
                exact if_neg (fun h => by rw [HGD.out] at h; exact absurd h.2 (by decide))
            | true =>
              rw [hgd] at HGG
              have HGD := Lib.hid hgd
              clear hgd
              go_wp2_with fail
              refine HGG.out.mono ?_
              rintro e y4 ⟨rfl, by4⟩
              have HE4 := Lib.hid (HE2.out.below by4)
              have HO4 := Lib.hid (own_below HO2.out by4)
              clear by4 b0 b1 b2 b3 b4 b5 HGG
              have b0 : World.cell? _ ⟨w.heap.size + 1, 0, none⟩ = some (.int .i64 x0) := HE4.out.bb.cell (i := 0) rfl
              have b1 : World.cell? _ ⟨w.heap.size + 1, 1, none⟩ = some (.int .i64 x1) := HE4.out.bb.cell (i := 1) rfl
              have b2 : World.cell? _ ⟨w.heap.size + 1, 2, none⟩ = some (.int .i64 x2) := HE4.out.bb.cell (i := 2) rfl
              have b3 : World.cell? _ ⟨w.heap.size + 1, 3, none⟩ = some (.int .i64 x3) := HE4.out.bb.cell (i := 3) rfl
              have b4 : World.cell? _ ⟨w.heap.size + 1, 4, none⟩ = some (.int .i64 x4) := HE4.out.bb.cell (i := 4) rfl
              have b5 : World.cell? _ ⟨w.heap.size + 1, 5, none⟩ = some (.slice a acc.length cap) := HE4.out.bb.cell (i := 5) rfl
              have r0 : World.cell? _ ⟨w.heap.size, 0, none⟩ = some (.int .i64 0) := HE4.out.br.cell (i := 0) rfl
              have f0 := HE4.out.br.free (i := 0)
              have r1 : World.cell? _ ⟨w.heap.size, 1, none⟩ = some (.int .i64 0) := HE4.out.br.cell (i := 1) rfl
              have f1 := HE4.out.br.free (i := 1)
              have r2 : World.cell? _ ⟨w.heap.size, 2, none⟩ = some (.int .i64 0) := HE4.out.br.cell (i := 2) rfl
              have f2 := HE4.out.br.free (i := 2)
              have r3 : World.cell? _ ⟨w.heap.size, 3, none⟩ = some (.int .i64 0) := HE4.out.br.cell (i := 3) rfl
              have f3 := HE4.out.br.free (i := 3)
              have r4 : World.cell? _ ⟨w.heap.size, 4, none⟩ = some (.int .i64 0) := HE4.out.br.cell (i := 4) rfl
              have f4 := HE4.out.br.free (i := 4)
              have r5 : World.cell? _ ⟨w.heap.size, 5, none⟩ = some (.slice none 0 0) := HE4.out.br.cell (i := 5) rfl
              have f5 := HE4.out.br.free (i := 5)
              go_wp2_with fail
              rw [jump_ret]
              refine bodyPost_ret (two_ret rfl (Blk.six (a0 := .int .i64 0) (a1 := .int .i64 0) (a2 := .int .i64 0) (a3 := .int .i64 0) (a4 := .int .i64 0) (a5 := .slice none 0 0) HE4.out.br (.int .i64 x0) (.int .i64 x1) (.int .i64 x2) (.int .i64 x3) (.int .i64 x4) (.slice a acc.length cap)) rfl rfl) rfl ⟨six_below HE4.out.low (Nat.le_refl _) _ _ _ _ _ _, ?_⟩
              rw [show D = some ⟨x0, x1, x2, x3, x4, acc⟩ from ?_]
              · exact ⟨.slice a acc.length cap, N + 1, own_kb HO4.out (Kb.six _ _ _ _ _ _ _ _) (by have := HNL.out; omega), by have := HNL.out; omega, rfl⟩
              · rw [← HDEC.out, HDC.out, HR.out, HOV.out]
                exact if_pos ⟨HDN.out, HGD.out⟩
          · have hdn : (d == 0) = false := beq_eq_false_iff_ne.2 hd0
            have HD0 := Lib.hid hd0
            clear hd0
            have r0 : World.cell? _ ⟨w.heap.size, 0, none⟩ = some (.int .i64 0) := HE2.out.br.cell (i := 0) rfl
            have f0 := HE2.out.br.free (i := 0)
            have r1 : World.cell? _ ⟨w.heap.size, 1, none⟩ = some (.int .i64 0) := HE2.out.br.cell (i := 1) rfl
            have f1 := HE2.out.br.free (i := 1)
            have r2 : World.cell? _ ⟨w.heap.size, 2, none⟩ = some (.int .i64 0) := HE2.out.br.cell (i := 2) rfl
            have f2 := HE2.out.br.free (i := 2)
            have r3 : World.cell? _ ⟨w.heap.size, 3, none⟩ = some (.int .i64 0) := HE2.out.br.cell (i := 3) rfl
            have f3 := HE2.out.br.free (i := 3)
            have r4 : World.cell? _ ⟨w.heap.size, 4, none⟩ = some (.int .i64 0) := HE2.out.br.cell (i := 4) rfl
            have f4 := HE2.out.br.free (i := 4)
            have r5 : World.cell? _ ⟨w.heap.size, 5, none⟩ = some (.slice none 0 0) := HE2.out.br.cell (i := 5) rfl
            have f5 := HE2.out.br.free (i := 5)
            go_wp2_with fail
            go_step3
            go_wp2_with fail
            rw [jump_ret]
            refine bodyPost_ret (two_ret rfl (Blk.six (a0 := .int .i64 0) (a1 := .int .i64 0) (a2 := .int .i64 0) (a3 := .int .i64 0) (a4 := .int .i64 0) (a5 := .slice none 0 0) HE2.out.br (.int .i64 0) (.int .i64 0) (.int .i64 0) (.int .i64 0) (.int .i64 0) (.slice none 0 0)) rfl rfl) rfl ⟨six_below HE2.out.low (Nat.le_refl _) _ _ _ _ _ _, ?_⟩
            rw [show D = none from ?_]
            · rfl
            · rw [← HDEC.out, HDC.out, HR.out]
              rw [HOV.out]
              exact if_neg (fun h => HD0.out (HDN.out.symm.trans h.1))
        | true =>
          rw [hm] at RM
          have HM := Lib.hid hm
          clear hm
          obtain ⟨x, g, q, hrd⟩ : ∃ x g q, rdR u = (x, g, q) := ⟨_, _, _, rfl⟩
          have hql : q.s.length ≤ 281474976710656 := by
            have h : (rdR u).2.2.s.length ≤ u.s.length := Nat.le_trans (byte_len 101 _) (Nat.le_trans (int_len _) (Nat.le_trans (text_len 64 _) (Nat.le_trans (text_len 16 _) (Nat.le_trans (int_len _) (byte_len 108 _)))))
            rw [hrd] at h
            exact Nat.le_trans h hul
          have C := dtaken c u _ (HLB.out.below HLB.out.size HD.out.low) HD.out.rd h8 hul
          rw [hrd] at C
          have HC := Lib.hid C
          have HST := Lib.hid (loop_step HL.out (by omega) HM.out hrd)
          clear C hrd
          go_wp2_with fail
          refine RM.out.mono ?_
          clear RM
          rintro e y1 ⟨rfl, rfl⟩
          cases hrb : rightB g with
          | false =>
            rw [hrb] at HC
            have hg : g < 0 ∨ 1 < g := by
              simp only [rightB, Bool.or_eq_false_iff, beq_eq_false_iff_ne] at hrb
              omega
            have hst := HST.out
            rw [if_pos hg] at hst
            have HRN := Lib.hid hst
            clear hg hst hrb
            go_wp2_with fail
            refine HC.out.mono ?_
            rintro e y2 ⟨rfl, r2, k2⟩
            have HE2 := Lib.hid (HD.out.call r2 k2)
            clear r2 k2
            have HE3 := Lib.hid (HE2.out.below ((Below.refl _ _).alloc (Nat.le_refl _) (.cells #[.int .i64 x.off, .string ⟨x.key.toArray⟩, .string ⟨x.val.toArray⟩, .bool x.gone] 75)))
            have r0 : World.cell? _ ⟨w.heap.size, 0, none⟩ = some (.int .i64 0) := HE3.out.br.cell (i := 0) rfl
            have f0 := HE3.out.br.free (i := 0)
            have r1 : World.cell? _ ⟨w.heap.size, 1, none⟩ = some (.int .i64 0) := HE3.out.br.cell (i := 1) rfl
            have f1 := HE3.out.br.free (i := 1)
            have r2 : World.cell? _ ⟨w.heap.size, 2, none⟩ = some (.int .i64 0) := HE3.out.br.cell (i := 2) rfl
            have f2 := HE3.out.br.free (i := 2)
            have r3 : World.cell? _ ⟨w.heap.size, 3, none⟩ = some (.int .i64 0) := HE3.out.br.cell (i := 3) rfl
            have f3 := HE3.out.br.free (i := 3)
            have r4 : World.cell? _ ⟨w.heap.size, 4, none⟩ = some (.int .i64 0) := HE3.out.br.cell (i := 4) rfl
            have f4 := HE3.out.br.free (i := 4)
            have r5 : World.cell? _ ⟨w.heap.size, 5, none⟩ = some (.slice none 0 0) := HE3.out.br.cell (i := 5) rfl
            have f5 := HE3.out.br.free (i := 5)
            go_wp2_with fail
            go_step3
            refine And.intro rfl ?_
            go_wp2_with fail
            rw [Exit.noGoto_ret]
            refine bodyPost_ret (two_ret rfl (Blk.six (a0 := .int .i64 0) (a1 := .int .i64 0) (a2 := .int .i64 0) (a3 := .int .i64 0) (a4 := .int .i64 0) (a5 := .slice none 0 0) HE3.out.br (.int .i64 0) (.int .i64 0) (.int .i64 0) (.int .i64 0) (.int .i64 0) (.slice none 0 0)) rfl rfl) rfl ⟨six_below HE3.out.low (Nat.le_refl _) _ _ _ _ _ _, ?_⟩
            rw [show D = none from ?_]
            · rfl
            · rw [← HDEC.out, HDC.out, HR.out]
              rw [← HRN.out]
          | true =>
            rw [hrb] at HC
            have hg : ¬ (g < 0 ∨ 1 < g) := by
              simp only [rightB, Bool.or_eq_true, beq_iff_eq] at hrb
              omega
            have hst := HST.out
            rw [if_neg hg] at hst
            have HRS := Lib.hid hst
            clear hg hst hrb
            by_cases h8r : acc.length = 8
            · go_wp2_with fail
              refine HC.out.mono ?_
              rintro e y2 ⟨rfl, r2, k2⟩
              have HE2 := Lib.hid (HD.out.call r2 k2)
              clear r2 k2
              have HE3 := Lib.hid (HE2.out.below ((Below.refl _ _).alloc (Nat.le_refl _) (.cells #[.int .i64 x.off, .string ⟨x.key.toArray⟩, .string ⟨x.val.toArray⟩, .bool x.gone] 75)))
              have b5 : World.cell? _ ⟨w.heap.size + 1, 5, none⟩ = some (.slice a acc.length cap) := HE3.out.bb.cell (i := 5) rfl
              have HRX : Hid (R = some (acc ++ [x], q)) := by
                show _ = _
                have h := HRS.out
                rw [h8r] at h
                exact h.symm
              have HL9 : Hid ((acc ++ [x]).length = 9) := by show _ = _; rw [List.length_append, h8r]; rfl
              have h8i : ((acc.length : Nat) : Int) = 8 := by omega
              have r0 : World.cell? _ ⟨w.heap.size, 0, none⟩ = some (.int .i64 0) := HE3.out.br.cell (i := 0) rfl
              have f0 := HE3.out.br.free (i := 0)
              have r1 : World.cell? _ ⟨w.heap.size, 1, none⟩ = some (.int .i64 0) := HE3.out.br.cell (i := 1) rfl
              have f1 := HE3.out.br.free (i := 1)
              have r2 : World.cell? _ ⟨w.heap.size, 2, none⟩ = some (.int .i64 0) := HE3.out.br.cell (i := 2) rfl
              have f2 := HE3.out.br.free (i := 2)
              have r3 : World.cell? _ ⟨w.heap.size, 3, none⟩ = some (.int .i64 0) := HE3.out.br.cell (i := 3) rfl
              have f3 := HE3.out.br.free (i := 3)
              have r4 : World.cell? _ ⟨w.heap.size, 4, none⟩ = some (.int .i64 0) := HE3.out.br.cell (i := 4) rfl
              have f4 := HE3.out.br.free (i := 4)
              have r5 : World.cell? _ ⟨w.heap.size, 5, none⟩ = some (.slice none 0 0) := HE3.out.br.cell (i := 5) rfl
              have f5 := HE3.out.br.free (i := 5)
              go_wp2_with fail
              go_step3
              refine And.intro rfl ?_
              go_wp2_with fail
              rw [Exit.noGoto_ret]
              refine bodyPost_ret (two_ret rfl (Blk.six (a0 := .int .i64 0) (a1 := .int .i64 0) (a2 := .int .i64 0) (a3 := .int .i64 0) (a4 := .int .i64 0) (a5 := .slice none 0 0) HE3.out.br (.int .i64 0) (.int .i64 0) (.int .i64 0) (.int .i64 0) (.int .i64 0) (.slice none 0 0)) rfl rfl) rfl ⟨six_below HE3.out.low (Nat.le_refl _) _ _ _ _ _ _, ?_⟩
              rw [show D = none from ?_]
              · rfl
              · rw [← HDEC.out, HDC.out, HR.out]
                rw [HRX.out]
                exact if_neg (fun h => by
                  have h1 := (Pl.goodB_iff.1 h.2).2.2.2.2.2.1
                  have h2 := (Pl.goodB_iff.1 h.2).2.1
                  have h3 := HL9.out
                  simp only at h1 h2
                  omega)
            · have h8i : (((acc.length : Nat) : Int) == 8) = false := beq_eq_false_iff_ne.2 (by omega)
              obtain ⟨i0, hi, hz0, hz1, hz2⟩ := infoRec
              go_wp2_with fail
              refine HC.out.mono ?_
              rintro e y2 ⟨rfl, r2, k2⟩
              have HE2 := Lib.hid (HD.out.call r2 k2)
              have HO2 := Lib.hid (own_kb HO.out k2 (by have := HNL.out; have := HCE.out; omega))
              have hal1 : Below y2.heap.size y2 (y2.alloc (.cells #[.int .i64 x.off, .string ⟨x.key.toArray⟩, .string ⟨x.val.toArray⟩, .bool x.gone] 75)) := (Below.refl _ _).alloc (Nat.le_refl _) _
              have es1 : (y2.alloc (.cells #[.int .i64 x.off, .string ⟨x.key.toArray⟩, .string ⟨x.val.toArray⟩, .bool x.gone] 75)).heap.size = y2.heap.size + 1 := by simp
              have hal2 : Below (y2.alloc (.cells #[.int .i64 x.off, .string ⟨x.key.toArray⟩, .string ⟨x.val.toArray⟩, .bool x.gone] 75)).heap.size (y2.alloc (.cells #[.int .i64 x.off, .string ⟨x.key.toArray⟩, .string ⟨x.val.toArray⟩, .bool x.gone] 75)) ((y2.alloc (.cells #[.int .i64 x.off, .string ⟨x.key.toArray⟩, .string ⟨x.val.toArray⟩, .bool x.gone] 75)).alloc (.cells #[.int .i64 x.off, .string ⟨x.key.toArray⟩, .string ⟨x.val.toArray⟩, .bool x.gone] 75)) := (Below.refl _ _).alloc (Nat.le_refl _) _
              have hbk := Blk.new (y2.alloc (.cells #[.int .i64 x.off, .string ⟨x.key.toArray⟩, .string ⟨x.val.toArray⟩, .bool x.gone] 75)) #[.int .i64 x.off, .string ⟨x.key.toArray⟩, .string ⟨x.val.toArray⟩, .bool x.gone] 75
              rw [es1] at hbk
              have HBK := Lib.hid hbk
              have HE4 := Lib.hid ((HE2.out.below hal1).below hal2)
              have HO4 := Lib.hid (own_below (own_below HO2.out hal1) hal2)
              have hnl : N + 1 ≤ y2.heap.size + 2 := by
                have h := (HE2.out.below hal1).low.size
                have := HYN.out
                have := k2.size
                omega
              have HS4 : Hid (N + 1 ≤ ((y2.alloc (.cells #[.int .i64 x.off, .string ⟨x.key.toArray⟩, .string ⟨x.val.toArray⟩, .bool x.gone] 75)).alloc (.cells #[.int .i64 x.off, .string ⟨x.key.toArray⟩, .string ⟨x.val.toArray⟩, .bool x.gone] 75)).heap.size) := by show _ ≤ _; simp; omega
              have t5 : World.cell? _ ⟨w.heap.size + 1, 5, none⟩ = some (.slice a acc.length cap) := (HE2.out.below hal1).bb.cell (i := 5) rfl
              clear r2 k2 hal1 es1 hal2 hbk HE2 HO2 HO HD hnl
              go_wp2_with (at_builtin; refine wpList_append_own _ rfl _ _ 32 rfl (N + 1) 75 i0 (.agg zeroR) 4 48 Tryz.underlying32 hi hz0 hz1 hz2 rfl (by decide) _ _ _ rfl HO4.out ⟨y2.heap.size + 1, 0, none⟩ 1 1 (cells4 x) rfl rfl ?c1 ?c2 ?c3 ?c4 ?c5 ?_)
              case c1 =>
                intro j u hj
                match j, hj with
                | 0, hj => obtain rfl := Option.some.inj hj; exact HBK.out.cell (i := 0) rfl
                | 1, hj => obtain rfl := Option.some.inj hj; exact HBK.out.cell (i := 1) rfl
                | 2, hj => obtain rfl := Option.some.inj hj; exact HBK.out.cell (i := 2) rfl
                | 3, hj => obtain rfl := Option.some.inj hj; exact HBK.out.cell (i := 3) rfl
                | j + 4, hj => simp [cells4] at hj
              case c2 =>
                intro u hu
                simp only [cells4, List.mem_cons, List.not_mem_nil, or_false] at hu
                rcases hu with rfl | rfl | rfl | rfl <;> rfl
              case c3 => unfold maxLen; omega
              case c4 => omega
              case c5 => exact HS4.out
              intro v' w9 hown9 hgrow9 _
              have HG9 := Lib.hid (HE4.out.grown hgrow9 (fun k hk => (HO4.out.lt k hk).1) (by have := HNL.out; omega) (by have := HNL.out; have := HCE.out; omega) (by have := HNL.out; omega) (by have := HNL.out; omega))
              have HO9 := Lib.hid hown9
              obtain ⟨a', cap', rfl⟩ : ∃ a' cap', v' = .slice a' (acc.length + 1) cap' := by
                rcases hown9.2 with ⟨rfl, h⟩ | ⟨g', cap', cur, rfl, -⟩
                · exact absurd h (by omega)
                · exact ⟨_, cap', rfl⟩
              have q5 := HG9.out.bb.cell (i := 5) rfl
              have q6 := HG9.out.bb.free (i := 5)
              have HGS : Hid (N + 1 ≤ w9.heap.size) := Nat.le_trans HS4.out hgrow9.size
              have HRS2 : Hid (loopR (9 - (acc ++ [x]).length) q (acc ++ [x]) = R) := by
                have h := HRS.out
                show _ = _
                rw [List.length_append]
                exact h
              have HD9 : Hid (DD w c (w.heap.size + 1) w.heap.size q #[.int .i64 x0, .int .i64 x1, .int .i64 x2, .int .i64 x3, .int .i64 x4, .slice a' (acc.length + 1) cap'] (w9.setCell ⟨w.heap.size + 1, 5, none⟩ (.slice a' (acc.length + 1) cap'))) := HG9.out.store 5 _
              clear hown9 hgrow9
              have hm0 := HMS.out
              go_wp2_with fail
              go_roundw
              case rel =>
                refine ⟨q, acc ++ [x], .slice a' (acc.length + 1) cap', by rw [List.length_append]; show acc.length + 1 ≤ 8; omega, hql, HD9.out, ?_, HRS2.out, ?_⟩
                · have e1 : (acc ++ [x]).length = acc.length + 1 := by simp
                  have e2 : (acc ++ [x]).flatMap cells4 = acc.flatMap cells4 ++ cells4 x := by simp
                  rw [e1, e2]
                  exact own_kb HO9.out (Kb.setCell _ _) (by have := HNL.out; omega)
                · have h := HGS.out
                  simp [World.setCell]
                  exact h
              case measure =>
                rw [HD9.out.bb.cell (i := 5) rfl, hm0]
                show 9 - (acc.length + 1) < 9 - acc.length
                omega
end Go.Proofs.YtdaoeplblkfapaaGreatDoor
