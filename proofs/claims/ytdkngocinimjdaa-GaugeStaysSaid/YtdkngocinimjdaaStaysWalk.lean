/- The walk of the law GaugeStays. -/
import Derived.Test.YtdkngocinimjdaaPartsWalk
namespace Go.Proofs.Ytdkngocinimjdaa
open Go.RowKit Go.Shelf
attribute [local go_sem] run_store_complex Oper.semAt_some

/-- What was told last. -/
def lastOf (L : List P2) (pre : List Nat) : P2 := match pre.getLast? with | none => (0, 0) | some x => tot (L.take (x + 1))
theorem lastOf_snoc (L : List P2) (pre : List Nat) (x : Nat) : lastOf L (pre ++ [x]) = tot (L.take (x + 1)) := by
  unfold lastOf
  rw [List.getLast?_append]
  simp
theorem lastOf_range (L : List P2) (k : Nat) : lastOf L (List.range k) = tot (L.take k) := by
  cases k with
  | zero => simp [lastOf, tot]
  | succ k => rw [List.range_succ]; exact lastOf_snoc L _ k
theorem range_parts {pre : List Nat} {x : Nat} (h : pre ++ [x] = List.range (pre ++ [x]).length) : pre = List.range pre.length ∧ x = pre.length := by
  have hx := range_snoc h
  refine ⟨?_, hx⟩
  rw [List.length_append, List.length_singleton, List.range_succ] at h
  exact (List.append_inj h (by simp)).1

/-- How the cells stand when k rounds are over: the row holds other sizes, as many. -/
structure Si (w : World) (ba s g N : Nat) (k : Nat) (last : P2) (W : World) : Prop where
  row : ∃ gb L', Rw W g gb L' ∧ L'.length = N ∧ ∀ j, gb = some j → (ba + 1 ≤ j ∧ j < s) ∨ s + 4 ≤ j
  res : Blk W ba #[.bool false] 4
  rb : Blk W s #[.pointer (some ⟨g, 0, none⟩)] 24
  kb : Blk W (s + 1 + 1) #[.int .i64 k] 3
  lb : ∃ x y, Blk W (s + 1 + 1 + 1) #[.complex .f64 x y] 33 ∧ Fl.Is x last.1 ∧ Fl.Is y last.2
  low : Below w.heap.size w W
theorem Si.kept {w : World} {ba s g N k : Nat} {last : P2} {W W' : World} {B : Nat} {row : Option Nat} (h : Si w ba s g N k last W) (hB : w.heap.size ≤ B) (hg : W.grownBy W' row) (hr : ∀ r, row = some r → B ≤ r ∧ ∃ o : Obj, W.heap[r]? = some o ∧ o.isCells = false) : Si w ba s g N k last W' :=
  ⟨let ⟨gb, L, h1, h2⟩ := h.row; ⟨gb, L, h1.kept hg hr, h2⟩, h.res.kept hg hr, h.rb.kept hg hr, h.kb.kept hg hr, let ⟨x, y, h1, h2⟩ := h.lb; ⟨x, y, h1.kept hg hr, h2⟩, low_kept h.low hB hg hr⟩
theorem Si.setK {w : World} {ba s g N k : Nat} {last : P2} {W : World} (h : Si w ba s g N k last W) (h1 : w.heap.size = ba) (h2 : ba + 1 ≤ g) (h3 : g < s) (k' : Nat) (z : Int) (hz : z = k') : Si w ba s g N k' last (W.setCell ⟨s + 1 + 1, 0, none⟩ (.int .i64 z)) := by
  subst hz
  obtain ⟨gb, L, r1, r2, r3⟩ := h.row
  obtain ⟨x, y, l1, l2⟩ := h.lb
  exact ⟨⟨gb, L, r1.kb (a := some (s + 1 + 1)) (c := none) (Kb2.setCell _ ⟨s + 1 + 1, 0, none⟩ _ (.inl rfl)) (by intro e; cases e; omega) (by simp) (fun j hj => ⟨by have := r3 j hj; intro e; cases e; omega, by simp⟩), r2, r3⟩,
    h.res.put (by omega) _, h.rb.put (by omega) _, h.kb.set _, ⟨x, y, l1.put (by omega) _, l2⟩, h.low.setCell (p := ⟨s + 1 + 1, 0, none⟩) (by show _ ≤ s + 1 + 1; omega) _⟩
theorem Si.setL {w : World} {ba s g N k : Nat} {last last' : P2} {W : World} (h : Si w ba s g N k last W) (h1 : w.heap.size = ba) (h2 : ba + 1 ≤ g) (h3 : g < s) {x y : Nat} (hx : Fl.Is x last'.1) (hy : Fl.Is y last'.2) : Si w ba s g N k last' (W.setCell ⟨s + 1 + 1 + 1, 0, none⟩ (.complex .f64 x y)) := by
  obtain ⟨gb, L, r1, r2, r3⟩ := h.row
  obtain ⟨x0, y0, l1, l2⟩ := h.lb
  exact ⟨⟨gb, L, r1.kb (a := some (s + 1 + 1 + 1)) (c := none) (Kb2.setCell _ ⟨s + 1 + 1 + 1, 0, none⟩ _ (.inl rfl)) (by intro e; cases e; omega) (by simp) (fun j hj => ⟨by have := r3 j hj; intro e; cases e; omega, by simp⟩), r2, r3⟩,
    h.res.put (by omega) _, h.rb.put (by omega) _, h.kb.put (by omega) _, ⟨x, y, l1.set _, hx, hy⟩, h.low.setCell (p := ⟨s + 1 + 1 + 1, 0, none⟩) (by show _ ≤ s + 1 + 1 + 1; omega) _⟩
/-- A call on the row: the boxes stay. -/
theorem Si.turn {w : World} {ba s g N N' k : Nat} {last : P2} {W W' : World} {gb gb' : Option Nat} {L' : List P2} (h : Si w ba s g N k last W) (h1 : w.heap.size = ba) (h2 : ba + 1 ≤ g) (h3 : g < s) (hs : s + 4 ≤ W.heap.size) (hb : ∀ j, gb = some j → (ba + 1 ≤ j ∧ j < s) ∨ s + 4 ≤ j)
    (hk : Kb2 (some g) gb W W') (hr : Rw W' g gb' L') (hl : L'.length = N') (hg : gb' = gb ∨ ∃ j, gb' = some j ∧ W.heap.size ≤ j) : Si w ba s g N' k last W' := by
  obtain ⟨x, y, l1, l2⟩ := h.lb
  have ne : ∀ b, b ≠ g → (b < ba + 1 ∨ (s ≤ b ∧ b < s + 4)) → some b ≠ some g ∧ some b ≠ gb := fun b hbg hbb => ⟨by simp [hbg], fun e => by have := hb b e.symm; omega⟩
  refine ⟨⟨gb', L', hr, hl, fun j hj => ?_⟩, h.res.kb hk (ne _ (by omega) (by omega)).1 (ne _ (by omega) (by omega)).2, h.rb.kb hk (ne _ (by omega) (by omega)).1 (ne _ (by omega) (by omega)).2, h.kb.kb hk (ne _ (by omega) (by omega)).1 (ne _ (by omega) (by omega)).2, ⟨x, y, l1.kb hk (ne _ (by omega) (by omega)).1 (ne _ (by omega) (by omega)).2, l2⟩,
    h.low.trans (hk.below h.low.size (fun j e => by cases e; omega) (fun j e => by have := hb j e; omega))⟩
  rcases hg with rfl | ⟨i, rfl, hi⟩
  · exact hb j hj
  · cases hj; omega
theorem row_cells {W : World} {g : Nat} {gb : Option Nat} {L : List P2} (h : Rw W g gb L) : (∀ k, some g = some k → ∃ cs T, Blk W k cs T) ∧ ∀ k, gb = some k → ∃ cs T, Blk W k cs T := by
  obtain ⟨v, a, b, xs, h1, h2, -⟩ := h.lies
  refine ⟨fun k e => by cases e; exact ⟨_, _, h1⟩, fun k e => ?_⟩
  rcases h2.2 with ⟨_, h, _⟩ | ⟨k', p, cap, cur, hgb, _, hc, _⟩
  · rw [e] at h; cases h
  · rw [e] at hgb; cases hgb; exact ⟨cur, _, hc⟩

theorem w_5 : Fl.Is 4617315517961601024 5 := Fl.ofInt_is (z := 5) (by decide)

set_option maxRecDepth 100000 in
set_option maxHeartbeats 4000000 in
theorem stays_law (v : Value) (zs : List P2) (w : World) (h : Pairs w w.heap.size v zs) :
    Calls Try.prog 8 #[v] w fun e w' => e = .returned (.bool true) ∧ Below w.heap.size w w' := by
  have HP := Lib.hid h
  have hfn := fun (w : World) fn x y => run_eql_func_nil w 55 fn x y Try.underlying55
  clear h
  refine (callsIn_wide (n := 6)).1 ?_
  refine callsIn_of_wp_marks Try.func8 rfl trivial ?_ rfl
  simp only [Try.ntmps8, List.size_toArray, List.length_cons, List.length_nil, Nat.reduceAdd, Nat.reduceSub, Array.replicate_succ, Array.replicate_zero, List.push_toArray, List.append_toArray, List.nil_append, List.cons_append]
  gi_wp2_with fail
  obtain ⟨W0, hW0⟩ : ∃ W0, w.alloc (.cells #[.bool false] 4) = W0 := ⟨_, rfl⟩
  have hb0 : Below w.heap.size w W0 := by rw [← hW0]; exact (Below.refl _ _).alloc (Nat.le_refl _) _
  have hkr : Blk W0 w.heap.size #[.bool false] 4 := by rw [← hW0]; exact Blk.new _ _ _
  have hs0 : W0.heap.size = w.heap.size + 1 := by rw [← hW0, World.size_alloc]
  rw [hW0]
  have HB0 := Lib.hid hb0
  have HKR := Lib.hid hkr
  have HS0 := Lib.hid hs0
  have HP0 := Lib.hid (HP.out.later hb0)
  obtain ⟨ba, hba⟩ : ∃ ba, w.heap.size = ba := ⟨_, rfl⟩
  rw [hba] at HKR HS0 ⊢
  have HBA := Lib.hid hba
  clear hW0 hb0 hkr hs0 hba
  refine ⟨trivial, (callsIn_wide.2 (awake_any _)).mono ?_⟩
  rintro e w1 ⟨rfl, b1⟩
  have HB1 := Lib.hid b1
  clear b1
  gi_wp2_with fail
  refine ⟨trivial, (callsIn_wide.2 (filled_any v zs w1 (HP0.out.later HB1.out))).mono ?_⟩
  rintro e w2 ⟨g, gb, rfl, M⟩
  have M2 := Lib.hid (M.back HB1.out)
  clear M
  gi_wp2_with fail
  obtain ⟨s, hs⟩ : ∃ s, w2.heap.size = s := ⟨_, rfl⟩
  obtain ⟨W3, hW3⟩ : ∃ W3, w2.alloc (.cells #[.pointer (some ⟨g, 0, none⟩)] 24) = W3 := ⟨_, rfl⟩
  have hR3 : Rw W3 g gb (rowOf zs) := by rw [← hW3]; exact M2.out.row.below ((Below.refl _ _).alloc (Nat.le_refl _) _)
  have cb3 : W3.cell? ⟨s, 0, none⟩ = some (.pointer (some ⟨g, 0, none⟩)) := by rw [← hW3, ← hs]; exact (Blk.new _ _ _).cell (i := 0) rfl
  rw [hs, hW3]
  have HR3 := Lib.hid hR3
  have HW3 := Lib.hid hW3
  have HS := Lib.hid hs
  clear hR3 hW3 hs
  refine ⟨trivial, (callsIn_wide.2 (sum_any _ _ _ _ HR3.out)).mono ?_⟩
  rintro e w' ⟨⟨v1, rfl, hcv⟩, rfl⟩
  obtain ⟨wa, wb, rfl, hwa, hwb⟩ := hcv
  have HWW := Lib.hid (And.intro hwa hwb)
  clear hwa hwb
  gi_wp2_with fail
  refine ⟨trivial, (callsIn_wide.2 (all_made g _)).mono ?_⟩
  rintro e w' ⟨rfl, rfl⟩
  have hsz3 : W3.heap.size = s + 1 := by rw [← HW3.out, World.size_alloc, HS.out]
  obtain ⟨W4, hW4⟩ : ∃ W4, W3.alloc (.cells #[.pointer (some ⟨g, 0, none⟩)] 24) = W4 := ⟨_, rfl⟩
  have hR4 : Rw W4 g gb (rowOf zs) := by rw [← hW4]; exact HR3.out.below ((Below.refl _ _).alloc (Nat.le_refl _) _)
  have cb4 : W4.cell? ⟨s, 0, none⟩ = some (.pointer (some ⟨g, 0, none⟩)) := by
    rw [← hW4]
    exact (((Below.refl W3.heap.size W3).alloc (Nat.le_refl _) _).cell (p := ⟨s, 0, none⟩) (by show s < _; omega)).trans cb3
  rw [hW4, hsz3]
  have HR4 := Lib.hid hR4
  have HW4 := Lib.hid hW4
  have HSZ3 := Lib.hid hsz3
  clear hR4 hW4 hsz3 cb3
  obtain ⟨N, hN⟩ : ∃ N, (rowOf zs).length = N := ⟨_, rfl⟩
  have HN := Lib.hid hN
  have hN60 : N ≤ 60 := by rw [← hN]; exact rowOf_len zs
  have HL : Hid (Calls Try.prog 22 #[.pointer (some ⟨g, 0, none⟩)] W4 fun e w' => e = .returned (.int .i64 N) ∧ w' = W4) := by
    rw [← hN]; exact Lib.hid (len_exact W4 g gb _ HR4.out W4 rfl)
  clear hN
  gi_wp2_with fail
  refine ⟨trivial, (callsIn_wide.2 HL.out).mono ?_⟩
  rintro e w' ⟨rfl, hw'⟩
  have hw2 := hw'.symm
  subst hw2
  clear hw'
  clear cb4
  gi_wp2_with fail
  have hsz4 : W4.heap.size = s + 1 + 1 := by rw [← HW4.out, World.size_alloc, HSZ3.out]
  rw [hsz4]
  obtain ⟨WL, hWL⟩ : ∃ WL, (W4.alloc (.cells #[.int .i64 0] 3)).alloc (.cells #[.complex .f64 0 0] 33) = WL := ⟨_, rfl⟩
  rw [hWL]
  have hsz : WL.heap.size = s + 4 := by rw [← hWL, World.size_alloc, World.size_alloc, hsz4]
  have hb4 : Below w2.heap.size w2 W4 := by
    rw [← HW4.out, ← HW3.out]
    exact ((Below.refl _ _).alloc (Nat.le_refl _) _).alloc (by simp) _
  have hbL4 : Below W4.heap.size W4 WL := by rw [← hWL]; exact ((Below.refl _ _).alloc (Nat.le_refl _) _).alloc (by simp) _
  have hbL : Below w2.heap.size w2 WL := hb4.trans (hbL4.mono hb4.size)
  have ho1 : ba + 1 ≤ g := by have := M2.out.head; rw [HS0.out] at this; exact this
  have ho2 : g < s := by have := M2.out.row.lt; rw [HS.out] at this; exact this
  have ho3 : ∀ j, gb = some j → (ba + 1 ≤ j ∧ j < s) ∨ s + 4 ≤ j := fun j hj => .inl ⟨by have := M2.out.body j hj; rw [HS0.out] at this; exact this, by have := M2.out.row.ltb j hj; rw [HS.out] at this; exact this⟩
  have hSi : Si w ba s g N 0 (0, 0) WL := by
    have hl : Below w.heap.size w w2 := HB0.out.trans (M2.out.low.mono HB0.out.size)
    refine ⟨⟨gb, _, HR4.out.below hbL4, HN.out, ho3⟩, (HKR.out.below M2.out.low).below hbL, ?_, ?_, ⟨0, 0, ?_, is_zero, is_zero⟩, hl.trans (hbL.mono hl.size)⟩
    · have h3 : Blk W3 s #[.pointer (some ⟨g, 0, none⟩)] 24 := by rw [← HW3.out, ← HS.out]; exact Blk.new _ _ _
      have h4 : Blk W4 s #[.pointer (some ⟨g, 0, none⟩)] 24 := by rw [← HW4.out]; exact h3.alloc _
      exact h4.below hbL4
    · rw [← hWL, ← hsz4]; exact (Blk.new _ _ _).alloc _
    · rw [← hWL]
      have := Blk.new (W4.alloc (.cells #[.int .i64 0] 3)) #[.complex .f64 0 0] 33
      rw [World.size_alloc, hsz4] at this
      exact this
  have hbx : WL.cell? ⟨s + 1, 0, none⟩ = some (.pointer (some ⟨g, 0, none⟩)) := by
    have h4 : Blk W4 (s + 1) #[.pointer (some ⟨g, 0, none⟩)] 24 := by rw [← HW4.out, ← HSZ3.out]; exact Blk.new _ _ _
    exact (h4.below hbL4).cell (i := 0) rfl
  obtain ⟨cs, hwords, hseq⟩ := all_stops 5 (by omega) (s + 1) g gb (rowOf zs) (fun b => b = ba ∨ b = s + 1 + 1 ∨ b = s + 1 + 1 + 1) WL (by omega) (fun b hb => by omega) hbx (HR4.out.below hbL4)
  have hok : (∀ p ∈ rowOf zs, Ok p) ∧ (rowOf zs).length ≤ 4096 := ⟨HR4.out.ok, HR4.out.few⟩
  have HSI := Lib.hid hSi
  have HSZ := Lib.hid hsz
  have HWD := Lib.hid hwords
  have HSQ := Lib.hid hseq
  have HOK := Lib.hid hok
  have hbase : w.heap.size = ba := HBA.out
  have HBASE := Lib.hid hbase
  clear hWL hsz hb4 hbL4 hbL hSi hwords hseq hbx hsz4 ho3 hok hbase
  refine wpIn_rangeFunc_ownF rfl (by omega) (gf := 29) (lb := #[.pointer (some ⟨s + 1, 0, none⟩)]) rfl trivial (enters_of Try.func29 (by kernel_rfl) rfl)
    (HSQ.out WL (Below.refl _ _)) (fun h k => h.trans k) (fun W l o o' hl h1 h2 h3 => Kp.book (by rw [HSZ.out]; omega) W l o o' hl h1 h2 h3) (Below.refl _ _) (fun _ => rfl)
    (fun pre W => Si w ba s g N pre.length (lastOf (rowOf zs) pre) W ∧ s + 4 ≤ W.heap.size)
    (fun _ pre _ => pre ≠ List.range pre.length)
    (fun pre W W' row hI hg hr => ⟨hI.1.kept (by have h1 := HBASE.out; rw [HSZ.out]; omega) hg hr, Nat.le_trans hI.2 hg.size⟩)
    (fun _ _ _ _ _ hI _ _ => hI)
    ⟨HSI.out, by rw [HSZ.out]; exact Nat.le_refl _⟩
    (fun x => { tmps := #[v, undef, .pointer (some ⟨ba, 0, none⟩), .pointer (some ⟨s, 0, none⟩), .complex .f64 wa wb, .func (.func 29) #[] #[.pointer (some ⟨s + 1, 0, none⟩)], .int .i64 N, .pointer (some ⟨s + 1 + 1, 0, none⟩), .pointer (some ⟨s + 1 + 1 + 1, 0, none⟩), .complex .f64 (cs x).1 (cs x).2, .complex .f64 (sums cs (x + 1)).1 (sums cs (x + 1)).2, .bool true, .bool false, v, .pointer (some ⟨g, 0, none⟩), .pointer (some ⟨g, 0, none⟩), .complex .f64 wa wb, .pointer (some ⟨g, 0, none⟩), .func (.func 29) #[] #[.pointer (some ⟨s + 1, 0, none⟩)], .func (.func 29) #[] #[.pointer (some ⟨s + 1, 0, none⟩)], .bool false, .pointer (some ⟨g, 0, none⟩), .int .i64 N, .func (.func 29) #[] #[.pointer (some ⟨s + 1, 0, none⟩)], .complex .f64 (cs x).1 (cs x).2, .complex .f64 (sums cs (x + 1)).1 (sums cs (x + 1)).2, undef, undef, undef, undef, undef, undef, undef, undef, undef, undef, undef, undef, undef, undef, undef, undef, undef, undef, undef, undef, undef, undef], defers := [] }) ?assign ?body ?done ?stop
  case assign =>
    intro l x W K hK
    gi_wp2
    exact hK
  case body =>
    rintro l pre x W ⟨hI, hsW⟩ hlen
    have hNpos : 0 < N := by rw [HN.out] at hlen; omega
    obtain ⟨r, t, hsub, ir, it⟩ := up_less HWD.out HOK.out.1 HOK.out.2 x
    obtain ⟨y, z, hlb, hy, hz⟩ := hI.lb
    have cl := hlb.cell (i := 0) rfl
    have fl := hlb.free (i := 0)
    have cres := hI.res.cell (i := 0) rfl
    have fres := hI.res.free (i := 0)
    have HI := Lib.hid hI
    by_cases h1 : (tot ((rowOf zs).take x)).1 = (lastOf (rowOf zs) pre).1
    · by_cases h2 : (tot ((rowOf zs).take x)).2 = (lastOf (rowOf zs) pre).2
      · have o1 := ord_is (show Fl.Is r (lastOf (rowOf zs) pre).1 by rw [← h1]; exact ir) hy
        have o2 := ord_is (show Fl.Is t (lastOf (rowOf zs) pre).2 by rw [← h2]; exact it) hz
        have hs1 := sums_is HWD.out HOK.out.1 HOK.out.2 (x + 1)
        have hT := hI.setL HBASE.out ho1 ho2 (last' := lastOf (rowOf zs) (pre ++ [x])) (x := (sums cs (x + 1)).1) (y := (sums cs (x + 1)).2) (by rw [lastOf_snoc]; exact hs1.1) (by rw [lastOf_snoc]; exact hs1.2)
        have ck := hT.kb.cell (i := 0) rfl
        have fk := hI.kb.free (i := 0)
        obtain ⟨q, hq⟩ : ∃ q, pre.length = q := ⟨_, rfl⟩
        have hq60 : q < 60 := by rw [HN.out] at hlen; omega
        rw [hq] at ck hT
        have hU := hT.setK HBASE.out ho1 ho2 (pre ++ [x]).length ((q : Int) + 1) (by rw [List.length_append, hq]; simp)
        have cr := hU.rb.cell (i := 0) rfl
        have HU := Lib.hid hU
        have HSW := Lib.hid hsW
        clear hI hlb hy hz h1 h2 hs1 hT hU ir it hlen hsW cres fres
        gi_wp2_with fail
        obtain ⟨W1, hW1⟩ : ∃ W1, (W.setCell ⟨s + 1 + 1 + 1, 0, none⟩ (.complex .f64 (sums cs (x + 1)).1 (sums cs (x + 1)).2)).setCell ⟨s + 1 + 1, 0, none⟩ (.int .i64 ((q : Int) + 1)) = W1 := ⟨_, rfl⟩
        have ko1 : KeepsOthers W W1 := by rw [← hW1]; exact (KeepsOthers.setCell _ _ _).trans (KeepsOthers.setCell _ _ _)
        have kp1 : Kp g (fun b => b = ba ∨ b = s + 1 + 1 ∨ b = s + 1 + 1 + 1) W W1 := by
          rw [← hW1]
          exact (Kp.setCell _ ⟨s + 1 + 1 + 1, 0, none⟩ _ (.inr (.inr rfl)) (by show s + 1 + 1 + 1 ≠ g; omega)).trans (Kp.setCell _ ⟨s + 1 + 1, 0, none⟩ _ (.inr (.inl rfl)) (by show s + 1 + 1 ≠ g; omega))
        have hs1 : s + 4 ≤ W1.heap.size := Nat.le_trans HSW.out ko1.size
        rw [hW1] at HU cr ⊢
        obtain ⟨gb1, L1, r1, l1, d1⟩ := HU.out.row
        have hfew1 : L1.length < 4096 := by omega
        have KO1 := Lib.hid (And.intro ko1 kp1)
        have HS1 := Lib.hid hs1
        have R1 := Lib.hid r1
        have L1H := Lib.hid l1
        have D1 := Lib.hid d1
        clear hW1 ko1 kp1 hs1 r1 l1 d1
        refine ⟨trivial, (CallsIn.inRound l (callsIn_wide.2 (push_ok _ _ _ _ W1 g gb1 L1 R1.out (Fl.is_part w_5 (by decide) (by decide)) (Fl.is_part w_5 (by decide) (by decide)) hfew1))).mono ?_⟩
        rintro e W2 ⟨rfl, gb2, r2, k2, n2⟩
        have hU2 := HU.out.turn HBASE.out ho1 ho2 HS1.out D1.out k2 r2 rfl n2
        have d2 : ∀ j, gb2 = some j → (ba + 1 ≤ j ∧ j < s) ∨ s + 4 ≤ j := fun j hj => by
          rcases n2 with rfl | ⟨i, rfl, hi⟩
          · exact D1.out j hj
          · cases hj; have := HS1.out; omega
        have cr2 := hU2.rb.cell (i := 0) rfl
        have hs2 : s + 4 ≤ W2.heap.size := Nat.le_trans HS1.out k2.size
        have hlen2 : (L1 ++ [(((Int.toNat 5 : Nat) : Int), ((Int.toNat 5 : Nat) : Int))]).length = N + 1 := by rw [List.length_append, L1H.out]; rfl
        have KO2 := Lib.hid (And.intro (others_kb k2 (row_cells R1.out).1 (row_cells R1.out).2) (Kp.of_kb (Ex := fun b => b = ba ∨ b = s + 1 + 1 ∨ b = s + 1 + 1 + 1) k2 R1.out.bk_is (by rw [r2.bk_is]; exact n2)))
        have U2 := Lib.hid hU2
        have R2 := Lib.hid r2
        have D2 := Lib.hid d2
        have HS2 := Lib.hid hs2
        have LN2 := Lib.hid hlen2
        clear hU2 d2 hs2 r2 k2 n2 hlen2 cr
        gi_wp2_with fail
        have CS := set_ok 0 4607182418800017408 0 _ _ W2 g gb2 _ R2.out (by rw [LN2.out]; omega) (Fl.is_part w_1 (by decide) (by decide)) (Fl.is_part is_zero (by decide) (by decide))
        refine ⟨trivial, (CallsIn.inRound l (callsIn_wide.2 CS)).mono ?_⟩
        rintro e W3' ⟨rfl, r3, k3⟩
        have hU3 := U2.out.turn HBASE.out ho1 ho2 HS2.out D2.out k3 r3 rfl (.inl rfl)
        have cr3 := hU3.rb.cell (i := 0) rfl
        have hs3 : s + 4 ≤ W3'.heap.size := Nat.le_trans HS2.out k3.size
        have KO3 := Lib.hid (And.intro (others_kb k3 (row_cells R2.out).1 (row_cells R2.out).2) (Kp.of_kb (Ex := fun b => b = ba ∨ b = s + 1 + 1 ∨ b = s + 1 + 1 + 1) k3 R2.out.bk_is (by rw [r3.bk_is]; exact .inl rfl)))
        obtain ⟨L3, hL3⟩ : ∃ L3, (L1 ++ [(((Int.toNat 5 : Nat) : Int), ((Int.toNat 5 : Nat) : Int))]).set 0 (((Int.toNat 1 : Nat) : Int), ((Int.toNat 0 : Nat) : Int)) = L3 := ⟨_, rfl⟩
        have hlen3 : L3.length = N + 1 := by rw [← hL3, List.length_set]; exact LN2.out
        rw [hL3] at r3
        obtain ⟨p0, T, rfl⟩ : ∃ p T, L3 = p :: T := by
          cases L3 with
          | nil => simp at hlen3
          | cons p T => exact ⟨p, T, rfl⟩
        have hT : T.length = N := by simpa using hlen3
        have U3 := Lib.hid hU3
        have R3 := Lib.hid r3
        have HS3 := Lib.hid hs3
        have LT := Lib.hid hT
        clear hU3 hs3 r3 k3 hT hlen3 hL3 cr2 CS
        gi_wp2_with fail
        refine ⟨trivial, (CallsIn.inRound l (callsIn_wide.2 (shift_some W3' g gb2 p0 T R3.out))).mono ?_⟩
        rintro e W4' ⟨⟨v9, rfl, -⟩, r4, k4⟩
        have hU4 := U3.out.turn HBASE.out ho1 ho2 HS3.out D2.out k4 r4 LT.out (.inl rfl)
        have KO4 := Lib.hid (And.intro (others_kb k4 (row_cells R3.out).1 (row_cells R3.out).2) (Kp.of_kb (Ex := fun b => b = ba ∨ b = s + 1 + 1 ∨ b = s + 1 + 1 + 1) k4 R3.out.bk_is (by rw [r4.bk_is]; exact .inl rfl)))
        have hs4 : s + 4 ≤ W4'.heap.size := Nat.le_trans HS3.out k4.size
        have U4 := Lib.hid (And.intro hU4 hs4)
        clear hU4 hs4 r4 k4 cr3
        gi_wp2_with fail
        exact ⟨((KO1.out.1.trans KO2.out.1).trans KO3.out.1).trans KO4.out.1, ((KO1.out.2.trans KO2.out.2).trans KO3.out.2).trans KO4.out.2, U4.out⟩
      · have o2 : (FloatKind.f64.format.order t z == some .eq) = false := by rw [ord_eq it hz]; exact decide_eq_false h2
        clear hI hlb hy hz ir it h1 hlen
        gi_wp2_with fail
        refine ⟨KeepsOthers.setCell _ _ _, fun e => h2 ?_⟩
        obtain ⟨e1, e2⟩ := range_parts e
        rw [e1, lastOf_range, ← e2]
    · have o1 : (FloatKind.f64.format.order r y == some .eq) = false := by rw [ord_eq ir hy]; exact decide_eq_false h1
      clear hI hlb hy hz ir it hlen
      gi_wp2_with fail
      refine ⟨KeepsOthers.setCell _ _ _, fun e => h1 ?_⟩
      obtain ⟨e1, e2⟩ := range_parts e
      rw [e1, lastOf_range, ← e2]
  case done =>
    rintro D xs W hD rfl ⟨hI, hsW⟩ hK
    rw [List.length_range, lastOf_range, HN.out] at hI
    obtain ⟨y, z, hlb, hy, hz⟩ := hI.lb
    have e1 : (rowOf zs).take N = rowOf zs := List.take_of_length_le (by rw [HN.out]; exact Nat.le_refl _)
    rw [e1] at hy hz
    have o1 := ord_is hy HWW.out.1
    have o2 := ord_is hz HWW.out.2
    have ck := hI.kb.cell (i := 0) rfl
    have cl := hlb.cell (i := 0) rfl
    have cres := hI.res.cell (i := 0) rfl
    have fres := hI.res.free (i := 0)
    have HI := Lib.hid hI
    have HK := Lib.hid hK
    have HD := Lib.hid hD
    clear hI hK hD hlb hy hz e1
    gi_wp2_with fail
    have hk1 : (W.setCell ⟨ba, 0, none⟩ (.bool true)).heap[D]? = some (.deferred (some [])) := (KeepsOthers.setCell W ⟨ba, 0, none⟩ (.bool true)).same D _ HK.out rfl
    refine ⟨by simp, .inl ⟨_, _, rfl, run_takeDeferred hk1, ?_⟩⟩
    have hblk : Blk (W.setCell ⟨ba, 0, none⟩ (.bool true)) ba #[.bool true] 4 := HI.out.res.set _
    have hblk3 := hblk.grown (grownBy_putObj' _ D (.deferred none)) (by intro e; cases e; unfold Blk at hblk; rw [hk1] at hblk; cases hblk)
    have hc5 := hblk3.cell (i := 0) rfl
    have hD0 := HD.out
    have hb1 := HBASE.out
    have hb2 := HSZ.out
    have hlo := HI.out.low.setCell (p := ⟨ba, 0, none⟩) (by show _ ≤ ba; omega) (.bool true)
    have hlo3 := hlo.grown (grownBy_putObj' _ D (.deferred none)) hlo.size (fun k e => by cases e; omega)
    refine ⟨.bool true, ?_, rfl, hlo3⟩
    simp [results, Try.f8, go_sem, hc5]
  case stop =>
    rintro D c pre W hD ⟨k, hk, rfl⟩ hne _
    exact absurd (by rw [List.length_range]) hne
end Go.Proofs.Ytdkngocinimjdaa
