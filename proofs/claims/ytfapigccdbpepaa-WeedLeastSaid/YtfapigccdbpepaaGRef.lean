/- THE CONTRACTS OF the document's Ahead, Over (layer 4). -/
import Derived.Test.YtfapigccdbpepaaGTot
import Derived.Laws.ResultCell
import Derived.Laws.Rows
import Derived.Deep.AppendLies
import Derived.Handy
import Derived.BigQuiet
import Derived.IntWalk
import Derived.Deep.DeepCutAuto
namespace Go.Proofs.Ytfapigccdbpepaa
open Go.RowKit

theorem below_drew {B : Nat} (w : World) : Below B w w.drew := (Below.refl _ _).drew
theorem undS : (Try.prog.underlying 75).map (fun d => match d with | .struct _ | .array _ _ => true | _ => false) = some true := by kernel_rfl
theorem sizeS : (Try.prog.info? 75).map (·.size) = some 2 := by kernel_rfl
theorem load_size {W : World} {rb : Nat} {a0 a1 : Value} (hb : Blk W rb #[a0, a1] 75) : (loadVar 75 ⟨rb, 0, none⟩).run Try.prog W = .ok (.agg #[a0, a1]) W := by
  obtain ⟨d, hd, hs⟩ : ∃ d, Try.prog.underlying 75 = some d ∧ (match d with | .struct _ | .array _ _ => true | _ => false) = true := by
    have h := undS
    cases hd : Try.prog.underlying 75 with
    | none => rw [hd] at h; cases h
    | some d => rw [hd] at h; exact ⟨d, rfl, Option.some.inj h⟩
  exact run_loadVar_row (P := Try.prog) W rb 75 75 #[a0, a1] (0, 0) d hb hd (by cases d <;> exact hs) sizeS
def two (p : P2) : List Value := [.int .i64 p.1, .int .i64 p.2]
theorem two_len (L : List P2) : (L.flatMap two).length = L.length * 2 := by
  induction L with
  | nil => rfl
  | cons p L ih => rw [List.flatMap_cons, List.length_append, ih]; simp [two]; omega
theorem two_at {L : List P2} {j : Nat} {p : P2} (h : L[j]? = some p) : (L.flatMap two)[j * 2]? = some (.int .i64 p.1) ∧ (L.flatMap two)[j * 2 + 1]? = some (.int .i64 p.2) := by
  induction L generalizing j with
  | nil => simp at h
  | cons q L ih =>
    cases j with
    | zero => simp at h; subst h; exact ⟨rfl, rfl⟩
    | succ j =>
      have := ih (j := j) (by simpa using h)
      rw [List.flatMap_cons, show (j + 1) * 2 = j * 2 + 2 by omega]
      exact ⟨this.1, this.2⟩
/-- The document's row in block g, its sizes' block gb: the pairs L. -/
structure Ru (w : World) (g : Nat) (gb : Option Nat) (L : List P2) : Prop where
  ne : some g ≠ gb
  lies : ∃ v, Blk w g #[v] 73 ∧ Sl w v gb 75 2 L.length (L.flatMap two)
theorem Ru.lt {w : World} {g : Nat} {gb : Option Nat} {L : List P2} (h : Ru w g gb L) : g < w.heap.size := let ⟨_, hb, _⟩ := h.lies; hb.lt
theorem Ru.ltb {w : World} {g : Nat} {gb : Option Nat} {L : List P2} (h : Ru w g gb L) : ∀ k, gb = some k → k < w.heap.size := let ⟨_, _, hs⟩ := h.lies; hs.lt
theorem Ru.same {w w' : World} {g : Nat} {gb : Option Nat} {L : List P2} (h : Ru w g gb L) (hg : w'.heap[g]? = w.heap[g]?) (hb : ∀ k, gb = some k → w'.heap[k]? = w.heap[k]?) : Ru w' g gb L := by
  obtain ⟨v, h1, h2⟩ := h.lies
  exact ⟨h.ne, v, by unfold Blk at h1 ⊢; rw [hg]; exact h1, h2.same hb⟩
theorem Ru.below {w w' : World} {g : Nat} {gb : Option Nat} {L : List P2} (h : Ru w g gb L) (hb : Below w.heap.size w w') : Ru w' g gb L :=
  h.same (hb.block g h.lt) (fun k hk => hb.block k (h.ltb k hk))
theorem Ru.kb2 {a c : Option Nat} {w w' : World} {g : Nat} {gb : Option Nat} {L : List P2} (h : Ru w g gb L) (hk : Kb2 a c w w') (h1 : some g ≠ a) (h2 : some g ≠ c) (h3 : ∀ k, gb = some k → some k ≠ a ∧ some k ≠ c) : Ru w' g gb L :=
  h.same (hk.block g h.lt h1 h2) (fun k e => hk.block k (h.ltb k e) (h3 k e).1 (h3 k e).2)
theorem infoS' : (Try.prog.info? 75).map (fun i => (i.zero, i.size, i.bytes)) = some (some (.agg #[.int .i64 0, .int .i64 0]), 2, 16) := by kernel_rfl
theorem infoS : ∃ i, Try.prog.info? 75 = some i ∧ i.zero = some (.agg #[.int .i64 0, .int .i64 0]) ∧ i.size = 2 ∧ i.bytes = 16 := by
  have h := infoS'
  cases hi : Try.prog.info? 75 with
  | none => rw [hi] at h; cases h
  | some i =>
    rw [hi] at h
    simp only [Option.map_some, Option.some.injEq, Prod.mk.injEq] at h
    exact ⟨i, rfl, h.1, h.2.1, h.2.2⟩
theorem ahead_ret {W : World} {rb : Nat} {a0 a1 : Value} {tmps : Array Value} (hb : Blk W rb #[a0, a1] 75) (h2 : tmps.getD 4 undef = .pointer (some ⟨rb, 0, none⟩)) :
    (results Try.f50 tmps).run Try.prog W = .ok (.agg #[a0, a1]) W := by
  have hl := load_size hb
  simp only [results, Try.results50]
  rw [Array.getD_eq_getD_getElem?] at h2
  simp [asAddr, hl, h2]
/-- Where the document's Ahead stands. -/
structure Going2 (w wr : World) (B : Nat) (a b : Int) : Prop where
  low : Below w.heap.size w wr
  res : Blk wr w.heap.size #[.int .i64 0, .int .i64 0] 75
  sum : Blk wr B #[.int .i64 a, .int .i64 b] 75
  far : w.heap.size < B
theorem Going2.first {w wr : World} {B : Nat} {a b : Int} (h : Going2 w wr B a b) (z : Int) : Going2 w (wr.setCell ⟨B, 0, none⟩ (.int .i64 z)).drew B z b :=
  ⟨(h.low.setCell (p := ⟨B, 0, none⟩) (Nat.le_of_lt h.far) _).trans (below_drew _),
   (h.res.kb2 (a := some B) (c := none) (Kb2.setCell _ ⟨B, 0, none⟩ _ (.inl rfl)) (by have := h.far; intro e; cases e; omega) (by simp)).below (below_drew _),
   (h.sum.set (i := 0) _).below (below_drew _), h.far⟩
theorem Going2.second {w wr : World} {B : Nat} {a b : Int} (h : Going2 w wr B a b) (z : Int) : Going2 w (wr.setCell ⟨B, 1, none⟩ (.int .i64 z)).drew B a z :=
  ⟨(h.low.setCell (p := ⟨B, 1, none⟩) (Nat.le_of_lt h.far) _).trans (below_drew _),
   (h.res.kb2 (a := some B) (c := none) (Kb2.setCell _ ⟨B, 1, none⟩ _ (.inl rfl)) (by have := h.far; intro e; cases e; omega) (by simp)).below (below_drew _),
   (h.sum.set (i := 1) _).below (below_drew _), h.far⟩
set_option maxHeartbeats 1000000 in
set_option maxRecDepth 100000 in
theorem rahead_any (i : Int) (w : World) (g : Nat) (gb : Option Nat) (L : List P2) (h : Ru w g gb L) (hok : ∀ p ∈ L, Ok p) (hl : L.length ≤ 4096) :
    Calls Try.prog 50 #[.pointer (some ⟨g, 0, none⟩), .int .i64 i] w fun e w' => e = .returned (.agg #[.int .i64 (tot (L.take i.toNat)).1, .int .i64 (tot (L.take i.toNat)).2]) ∧ Below w.heap.size w w' := by
  obtain ⟨v, h1, h2⟩ := h.lies
  obtain ⟨ao, cap, rfl, hc, hsome⟩ := h2.make
  obtain ⟨N, hN⟩ : ∃ N, L.length = N := ⟨_, rfl⟩
  rw [hN] at h1 h2 hc hl hsome
  have hw0 : Below w.heap.size w (w.alloc (.cells #[.int .i64 0, .int .i64 0] 75)) := (Below.refl _ _).alloc (Nat.le_refl _) _
  have hr0 := Blk.new w #[.int .i64 0, .int .i64 0] 75
  have hs0 : (w.alloc (.cells #[.int .i64 0, .int .i64 0] 75)).heap.size = w.heap.size + 1 := by simp
  obtain ⟨W0, hW0⟩ : ∃ W, w.alloc (.cells #[.int .i64 0, .int .i64 0] 75) = W := ⟨_, rfl⟩
  rw [hW0] at hw0 hr0 hs0
  have hal : Below W0.heap.size W0 (W0.alloc (.cells #[.int .i64 0, .int .i64 0] 75)) := (Below.refl _ _).alloc (Nat.le_refl _) _
  have hg0 : Going2 w (W0.alloc (.cells #[.int .i64 0, .int .i64 0] 75)) W0.heap.size 0 0 := ⟨hw0.trans (hal.mono hw0.size), hr0.below hal, Blk.new _ _ _, by omega⟩
  obtain ⟨B, hB⟩ : ∃ B, W0.heap.size = B := ⟨_, rfl⟩
  rw [hB] at hg0
  have H0 := Lib.hid hg0
  have H1 := Lib.hid h1
  have H2 := Lib.hid h2
  have HN := Lib.hid hN
  have HM := Lib.hid hsome
  have HOK := Lib.hid hok
  clear h h1 h2 hN hsome hok hw0 hr0 hs0 hal hg0
  go_enter Try.func50, Try.ntmps50
  go_wp2_with fail
  go_loopw [6] (fun iv wr => ∃ k : Nat, k ≤ N ∧ k ≤ i.toNat ∧ iv = .int .i64 k ∧ Going2 w wr B (tot (L.take k)).1 (tot (L.take k)).2) (fun iv _ => N - (intOf iv).toNat)
  case atStart => exact ⟨0, Nat.zero_le _, Nat.zero_le _, rfl, H0.out⟩
  case round =>
    obtain ⟨k, hk, hki, rfl, hgo⟩ := hrel
    have hlim := tot_take_le L k HOK.out (by rw [HN.out]; exact hl)
    obtain ⟨a, ha⟩ : ∃ a, (tot (L.take k)).1 = a := ⟨_, rfl⟩
    obtain ⟨b, hb⟩ : ∃ a, (tot (L.take k)).2 = a := ⟨_, rfl⟩
    rw [ha, hb] at hgo hlim
    have HG := Lib.hid hgo
    have c0 := (H1.out.below hgo.low).cell (i := 0) rfl
    have s0 := hgo.sum.cell (i := 0) rfl
    have s1 := hgo.sum.cell (i := 1) rfl
    have f0 := hgo.sum.free (i := 0)
    have f1 := hgo.sum.free (i := 1)
    have HA := Lib.hid (And.intro ha hb)
    clear hgo ha hb
    by_cases hlt : (k : Int) < i
    · by_cases hlN : k < N
      · obtain ⟨p, hp⟩ : ∃ p, L[k]? = some p := ⟨_, List.getElem?_eq_getElem (by rw [HN.out]; exact hlN)⟩
        obtain ⟨t, q, rfl, rfl⟩ := HM.out (by omega)
        have htk := tot_take_succ hp
        have hsl := H2.out.same (fun x hx => HG.out.low.block x (H2.out.lt x hx))
        have e0 := hsl.cell rfl (k * 2) _ (two_at hp).1
        have e1 := hsl.cell rfl (k * 2 + 1) _ (two_at hp).2
        have hpo := HOK.out p (List.mem_of_getElem? hp)
        unfold Ok at hpo
        obtain ⟨p1, p2⟩ := p
        simp only at e0 e1 hpo
        rw [← Nat.add_assoc] at e1
        have hg1 := HG.out.first (a + p1)
        obtain ⟨V1, hV1⟩ : ∃ V, (wr.setCell ⟨B, 0, none⟩ (.int .i64 (a + p1))).drew = V := ⟨_, rfl⟩
        rw [hV1] at hg1
        have hg2 := hg1.second (b + p2)
        have c0' := (H1.out.below hg1.low).cell (i := 0) rfl
        have s1' := hg1.sum.cell (i := 1) rfl
        have f1' := hg1.sum.free (i := 1)
        have hsl1 := H2.out.same (fun x hx => hg1.low.block x (H2.out.lt x hx))
        have e1' := hsl1.cell rfl (k * 2 + 1) _ (two_at hp).2
        simp only at e1'
        rw [← Nat.add_assoc] at e1'
        have HG2 := Lib.hid hg2
        have HTK := Lib.hid htk
        clear hg1 hg2 htk hsl hsl1 hp
        go_wp2_with fail
        go_region
        go_wp2_with fail
        go_region
        go_wp2_with fail
        go_roundw
        case rel => exact ⟨k + 1, by omega, by omega, by go_num, by rw [HTK.out]; simp only [add2, HA.out.1, HA.out.2]; exact HG2.out⟩
        case measure => simp [intOf]; omega
      · obtain rfl : k = N := by omega
        have r0 := HG.out.res.cell (i := 0) rfl
        have r1 := HG.out.res.cell (i := 1) rfl
        have g0 := HG.out.res.free (i := 0)
        have g1 := HG.out.res.free (i := 1)
        go_wp2_with fail
        refine bodyPost_ret (ahead_ret ((HG.out.res.set (i := 0) (.int .i64 a)).set (i := 1) (.int .i64 b)) rfl) rfl ⟨?_, (HG.out.low.setCell (p := ⟨w.heap.size, 0, none⟩) (Nat.le_refl _) _).setCell (p := ⟨w.heap.size, 1, none⟩) (Nat.le_refl _) _⟩
        have e1 : L.take i.toNat = L.take k := by rw [List.take_of_length_le (by rw [HN.out]; omega), List.take_of_length_le (by rw [HN.out]; omega)]
        rw [e1, HA.out.1, HA.out.2]
    · obtain rfl : k = i.toNat := by omega
      have r0 := HG.out.res.cell (i := 0) rfl
      have r1 := HG.out.res.cell (i := 1) rfl
      have g0 := HG.out.res.free (i := 0)
      have g1 := HG.out.res.free (i := 1)
      go_wp2_with fail
      refine bodyPost_ret (ahead_ret ((HG.out.res.set (i := 0) (.int .i64 a)).set (i := 1) (.int .i64 b)) rfl) rfl ⟨?_, (HG.out.low.setCell (p := ⟨w.heap.size, 0, none⟩) (Nat.le_refl _) _).setCell (p := ⟨w.heap.size, 1, none⟩) (Nat.le_refl _) _⟩
      rw [HA.out.1, HA.out.2]
theorem second_of (a b : Int) (w : World) : (Instr.field 75 (.agg #[.int .i64 a, .int .i64 b]) 1).run Try.prog w = .ok (.int .i64 b) w := by kernel_rfl
set_option maxHeartbeats 1000000 in
set_option maxRecDepth 100000 in
theorem rover_any (most : Int) (w : World) (g : Nat) (gb : Option Nat) (L : List P2) (h : Ru w g gb L) (hok : ∀ p ∈ L, Ok p) (hl : L.length ≤ 4096) :
    Calls Try.prog 38 #[.pointer (some ⟨g, 0, none⟩), .int .i64 most] w fun e w' => (∃ n : Nat, e = .returned (.int .i64 n) ∧ OverSays L most n) ∧ Below w.heap.size w w' := by
  obtain ⟨v, h1, h2⟩ := h.lies
  obtain ⟨ao, cap, rfl, hc, -⟩ := h2.make
  obtain ⟨N, hN⟩ : ∃ N, L.length = N := ⟨_, rfl⟩
  have HC := Lib.hid (fun (i : Int) (wx : World) (hx : Below w.heap.size w wx) => rahead_any i wx g gb L (h.below hx) hok hl)
  have C1 := HC.out N w (Below.refl _ _)
  have C2 := fun (k : Nat) (wx : World) (hx : Below w.heap.size w wx) => HC.out k wx hx
  simp only [Int.toNat_natCast] at C1 C2
  rw [List.take_of_length_le (by omega)] at C1
  have hT := tot_drop_le L 0 hok hl
  rw [List.drop_zero] at hT
  have hbk := fun k => tot_take_le L k hok hl
  have hsp := fun k => tot_split L k
  rw [hN] at h1 h2 hc hl
  have c0 := h1.cell (i := 0) rfl
  obtain ⟨T, hTe⟩ : ∃ T, (tot L).2 = T := ⟨_, rfl⟩
  rw [hTe] at hT C1
  have H1 := Lib.hid h1
  have HN := Lib.hid hN
  have HBK := Lib.hid hbk
  have HSP := Lib.hid hsp
  have HT := Lib.hid hTe
  have HC1 := Lib.hid C1
  have HC2 := Lib.hid C2
  clear h h1 h2 hN hok hbk hsp hTe C1 C2 HC
  have hfd := second_of
  go_enter Try.func38, Try.ntmps38
  go_wp2_with fail
  refine HC1.out.mono ?_
  rintro e w1 ⟨rfl, b1⟩
  have HW1 := Lib.hid b1
  clear b1 c0 HC1
  go_wp2_with fail
  go_loopw [6] (fun iv wr => ∃ k : Nat, (k < N ∨ (N = 0 ∧ k = 0)) ∧ iv = .int .i64 k ∧ Below w.heap.size w wr ∧ ∀ j, j < k → most < (tot (L.drop j)).2) (fun iv _ => N - (intOf iv).toNat)
  case atStart => exact ⟨0, by omega, rfl, HW1.out, fun j hj => absurd hj (by omega)⟩
  case round =>
    obtain ⟨k, hk, rfl, hlow, hall⟩ := hrel
    have HA := Lib.hid hall
    have HL := Lib.hid hlow
    have c0 := (H1.out.below hlow).cell (i := 0) rfl
    clear hall hlow
    by_cases hlt : k < N
    · have C := HC2.out k _ HL.out
      have hb := HBK.out k
      have hs := HSP.out k
      obtain ⟨b, hbe⟩ : ∃ a, (tot (L.take k)).2 = a := ⟨_, rfl⟩
      rw [hbe] at C hb
      have hd : (tot (L.drop k)).2 = T - b := by
        have := congrArg Prod.snd hs
        rw [HT.out] at this
        simp only [add2] at this
        rw [hbe] at this
        omega
      have HD := Lib.hid hd
      have HCC := Lib.hid C
      clear C hs hbe hd
      go_wp2_with fail
      refine HCC.out.mono ?_
      rintro e w2 ⟨rfl, b2⟩
      have HL2 := Lib.hid (HL.out.trans (b2.mono HL.out.size))
      have c0' := (H1.out.below HL2.out).cell (i := 0) rfl
      clear b2 HCC c0
      by_cases hle : T - b ≤ most
      · go_wp2_with fail
        go_ret
        refine ⟨⟨k, rfl, fun hL => ?_, fun _ => ⟨by rw [HN.out]; exact hlt, .inl (by rw [HD.out]; exact hle)⟩, HA.out⟩, HL2.out⟩
        have := HN.out
        rw [hL] at this
        simp at this
        omega
      · by_cases hke : k + 1 = N
        · have hke' : ((k : Int) == (N : Int) - 1) = true := by simp; omega
          go_wp2_with fail
          go_ret
          refine ⟨⟨k, rfl, fun hL => ?_, fun _ => ⟨by rw [HN.out]; exact hlt, .inr (by rw [HN.out]; exact hke)⟩, HA.out⟩, HL2.out⟩
          have := HN.out
          rw [hL] at this
          simp at this
          omega
        · have hke' : ((k : Int) == (N : Int) - 1) = false := by simp; omega
          go_wp2_with fail
          go_roundw
          case rel =>
            refine ⟨k + 1, by omega, by go_num, HL2.out, fun j hj => ?_⟩
            rcases Nat.lt_or_ge j k with h | h
            · exact HA.out j h
            · obtain rfl : j = k := by omega
              rw [HD.out]; omega
          case measure => simp [intOf]; omega
    · obtain ⟨rfl, rfl⟩ : N = 0 ∧ k = 0 := by omega
      go_wp2_with fail
      go_ret
      exact ⟨⟨0, rfl, fun _ => rfl, fun hL => absurd (List.length_eq_zero_iff.1 HN.out) hL, fun j hj => absurd hj (by omega)⟩, HL.out⟩
end Go.Proofs.Ytfapigccdbpepaa
