/- The walk of the law GaugeParts. -/
import Derived.Test.YtdkngocinimjdaaExact
import Derived.Deep.QuietTactic
import Derived.BigQuiet
namespace Go.Proofs.Ytdkngocinimjdaa
open Go.RowKit Go.Shelf
attribute [local go_sem] run_store_complex Oper.semAt_some

/-- How the cells stand when k rounds are over. -/
structure Pi (w : World) (ba s g : Nat) (gb : Option Nat) (L : List P2) (m : Int) (k : Nat) (rest : P2) (W : World) : Prop where
  row : Rw W g gb L
  at_ : Blk W ba #[.int .i64 m] 3
  res : Blk W (ba + 1) #[.bool false] 4
  rb : Blk W s #[.pointer (some ⟨g, 0, none⟩)] 24
  bx : Blk W (s + 1) #[.pointer (some ⟨g, 0, none⟩)] 24
  nb : Blk W (s + 1 + 1) #[.int .i64 k] 3
  tb : ∃ x y, Blk W (s + 1 + 1 + 1) #[.complex .f64 x y] 33 ∧ Fl.Is x rest.1 ∧ Fl.Is y rest.2
  low : Below w.heap.size w W
theorem Pi.below {w : World} {ba s g : Nat} {gb : Option Nat} {L : List P2} {m : Int} {k : Nat} {rest : P2} {W W' : World} (h : Pi w ba s g gb L m k rest W) (hb : Below W.heap.size W W') : Pi w ba s g gb L m k rest W' :=
  ⟨h.row.below hb, h.at_.below hb, h.res.below hb, h.rb.below hb, h.bx.below hb, h.nb.below hb, let ⟨x, y, h1, h2⟩ := h.tb; ⟨x, y, h1.below hb, h2⟩, h.low.trans (hb.mono h.low.size)⟩
theorem Pi.kept {w : World} {ba s g : Nat} {gb : Option Nat} {L : List P2} {m : Int} {k : Nat} {rest : P2} {W W' : World} {B : Nat} {row : Option Nat} (h : Pi w ba s g gb L m k rest W) (hB : w.heap.size ≤ B) (hg : W.grownBy W' row) (hr : ∀ r, row = some r → B ≤ r ∧ ∃ o : Obj, W.heap[r]? = some o ∧ o.isCells = false) : Pi w ba s g gb L m k rest W' :=
  ⟨h.row.kept hg hr, h.at_.kept hg hr, h.res.kept hg hr, h.rb.kept hg hr, h.bx.kept hg hr, h.nb.kept hg hr, let ⟨x, y, h1, h2⟩ := h.tb; ⟨x, y, h1.kept hg hr, h2⟩, low_kept h.low hB hg hr⟩
theorem Blk.put {W : World} {b c i : Nat} {cs : Array Value} {T : TypeId} (h : Blk W b cs T) (hn : b ≠ c) (v : Value) : Blk (W.setCell ⟨c, i, none⟩ v) b cs T :=
  h.kb (a := some c) (c := none) (Kb2.setCell _ ⟨c, i, none⟩ _ (.inl rfl)) (by intro e; cases e; exact hn rfl) (by simp)
/-- What is known of the blocks' numbers. -/
structure Order (w : World) (ba s g : Nat) (gb : Option Nat) : Prop where
  base : w.heap.size = ba
  head : ba + 2 ≤ g
  body : ∀ k, gb = some k → ba + 2 ≤ k
  hs : g < s
  bs : ∀ k, gb = some k → k < s
theorem Pi.setN {w : World} {ba s g : Nat} {gb : Option Nat} {L : List P2} {m : Int} {k : Nat} {rest : P2} {W : World} (h : Pi w ba s g gb L m k rest W) (o : Order w ba s g gb) (k' : Nat) (z : Int) (hz : z = k') : Pi w ba s g gb L m k' rest (W.setCell ⟨s + 1 + 1, 0, none⟩ (.int .i64 z)) := by
  subst hz
  have o1 := o.head
  have o2 := o.hs
  have o3 := o.base
  refine ⟨h.row.kb (a := some (s + 1 + 1)) (c := none) (Kb2.setCell _ ⟨s + 1 + 1, 0, none⟩ _ (.inl rfl)) (by intro e; cases e; omega) (by simp) (fun k hk => ⟨by have := o.bs k hk; intro e; cases e; omega, by simp⟩),
    h.at_.put (by omega) _, h.res.put (by omega) _, h.rb.put (by omega) _, h.bx.put (by omega) _, h.nb.set _, ?_, h.low.setCell (p := ⟨s + 1 + 1, 0, none⟩) (by show _ ≤ s + 1 + 1; omega) _⟩
  obtain ⟨x, y, h1, h2⟩ := h.tb
  exact ⟨x, y, h1.put (by omega) _, h2⟩
theorem Pi.setT {w : World} {ba s g : Nat} {gb : Option Nat} {L : List P2} {m : Int} {k : Nat} {rest rest' : P2} {W : World} (h : Pi w ba s g gb L m k rest W) (o : Order w ba s g gb) {x y : Nat} (hx : Fl.Is x rest'.1) (hy : Fl.Is y rest'.2) : Pi w ba s g gb L m k rest' (W.setCell ⟨s + 1 + 1 + 1, 0, none⟩ (.complex .f64 x y)) := by
  have o1 := o.head
  have o2 := o.hs
  have o3 := o.base
  obtain ⟨x0, y0, h1, h2⟩ := h.tb
  exact ⟨h.row.kb (a := some (s + 1 + 1 + 1)) (c := none) (Kb2.setCell _ ⟨s + 1 + 1 + 1, 0, none⟩ _ (.inl rfl)) (by intro e; cases e; omega) (by simp) (fun k hk => ⟨by have := o.bs k hk; intro e; cases e; omega, by simp⟩),
    h.at_.put (by omega) _, h.res.put (by omega) _, h.rb.put (by omega) _, h.bx.put (by omega) _, h.nb.put (by omega) _, ⟨x, y, h1.set _, hx, hy⟩, h.low.setCell (p := ⟨s + 1 + 1 + 1, 0, none⟩) (by show _ ≤ s + 1 + 1 + 1; omega) _⟩

/-- One size less than what is up to it: what is ahead of it. -/
theorem up_less {cs : Nat → Nat × Nat} {L : List P2} (h : Words cs L) (hok : ∀ p ∈ L, Ok p) (hl : L.length ≤ 4096) (x : Nat) :
    ∃ r s, (∀ w, (binOp .sub 33 (.complex .f64 (sums cs (x + 1)).1 (sums cs (x + 1)).2) (.complex .f64 (cs x).1 (cs x).2)).run Try.prog w = .ok (.complex .f64 r s) w) ∧ Fl.Is r (tot (L.take x)).1 ∧ Fl.Is s (tot (L.take x)).2 := by
  have h1 := sums_is h hok hl (x + 1)
  have b0 := tot_take_le L x hok hl
  have b1 := tot_take_le L (x + 1) hok hl
  have e := tot_take_any L x
  obtain ⟨r, s, hs, ir, is⟩ := complex_sub h1.1 h1.2 (h x).1 (h x).2 (by rw [e]; simp only [add2]; omega) (by rw [e]; simp only [add2]; omega)
  have e2 : sub2 (tot (L.take (x + 1))) (L[x]?.getD (0, 0)) = tot (L.take x) := by rw [e]; simp only [sub2, add2]; ext <;> simp <;> omega
  rw [e2] at ir is
  exact ⟨r, s, hs, ir, is⟩
/-- .. and it is not less than the size. -/
theorem up_ge {cs : Nat → Nat × Nat} {L : List P2} (h : Words cs L) (hok : ∀ p ∈ L, Ok p) (hl : L.length ≤ 4096) (x : Nat) :
    ((FloatKind.f64.format.order (sums cs (x + 1)).1 (cs x).1 == some .lt) = false) ∧ ((FloatKind.f64.format.order (sums cs (x + 1)).2 (cs x).2 == some .lt) = false) := by
  have h1 := sums_is h hok hl (x + 1)
  have b0 := tot_take_le L x hok hl
  have e := tot_take_any L x
  rw [e] at h1
  simp only [add2] at h1
  constructor
  · rw [show FloatKind.f64.format.order (sums cs (x + 1)).1 (cs x).1 = _ from Fl.order_is h1.1 (h x).1]
    rcases Int.lt_or_eq_of_le (show (L[x]?.getD (0, 0)).1 ≤ (tot (L.take x)).1 + (L[x]?.getD (0, 0)).1 by omega) with h | h
    · rw [cmp_gt h]; rfl
    · rw [cmp_eq h.symm]; rfl
  · rw [show FloatKind.f64.format.order (sums cs (x + 1)).2 (cs x).2 = _ from Fl.order_is h1.2 (h x).2]
    rcases Int.lt_or_eq_of_le (show (L[x]?.getD (0, 0)).2 ≤ (tot (L.take x)).2 + (L[x]?.getD (0, 0)).2 by omega) with h | h
    · rw [cmp_gt h]; rfl
    · rw [cmp_eq h.symm]; rfl

theorem el_zero (L : List P2) : tot (L.take (0 + 1)) = el L 0 := by
  rw [tot_take_any]
  simp [tot, add2, el]

/-- What the last line asks: the callees' answers in every world that has only been drawn from. -/
structure Last (w : World) (g : Nat) (L : List P2) (m : Int) (y z : Nat) (a1 a2 b1 b2 r1 r2 : Nat) : Prop where
  len : ∀ n, Calls Try.prog 22 #[.pointer (some ⟨g, 0, none⟩)] (w.drewN n) fun e w' => e = .returned (.int .i64 L.length) ∧ ∃ k, w' = w.drewN k
  ahead : ∀ n, Calls Try.prog 25 #[.pointer (some ⟨g, 0, none⟩), .int .i64 m] (w.drewN n) fun e w' => e = .returned (.complex .f64 a1 a2) ∧ ∃ k, w' = w.drewN k
  none_ : ∀ n, Calls Try.prog 25 #[.pointer (some ⟨g, 0, none⟩), .int .i64 (-1)] (w.drewN n) fun e w' => e = .returned (.complex .f64 0 0) ∧ ∃ k, w' = w.drewN k
  sum : ∀ n, Calls Try.prog 23 #[.pointer (some ⟨g, 0, none⟩)] (w.drewN n) fun e w' => e = .returned (.complex .f64 b1 b2) ∧ ∃ k, w' = w.drewN k
  add : ∀ w, (binOp .add 33 (.complex .f64 a1 a2) (.complex .f64 y z)).run Try.prog w = .ok (.complex .f64 r1 r2) w
  o1 : FloatKind.f64.format.order r1 b1 = some .eq
  o2 : FloatKind.f64.format.order r2 b2 = some .eq
theorem last_of {w : World} {g : Nat} {gb : Option Nat} {L : List P2} {m : Int} {y z : Nat} (h : Rw w g gb L) (hy : Fl.Is y (tot (L.drop m.toNat)).1) (hz : Fl.Is z (tot (L.drop m.toNat)).2) : ∃ a1 a2 b1 b2 r1 r2, Last w g L m y z a1 a2 b1 b2 r1 r2 := by
  obtain ⟨cs, hw, ha⟩ := ahead_exact w g gb L h
  obtain ⟨b1, b2, hb1, hb2, hs⟩ := sum_exact w g gb L h
  have h1 := sums_is hw h.ok h.few (min m.toNat L.length)
  have e1 : L.take (min m.toNat L.length) = L.take m.toNat := by
    rcases Nat.le_total m.toNat L.length with h | h
    · rw [Nat.min_eq_left h]
    · rw [Nat.min_eq_right h, List.take_of_length_le (Nat.le_refl _), List.take_of_length_le h]
  rw [e1] at h1
  have q1 := tot_take_le L m.toNat h.ok h.few
  have q2 := tot_drop_le L m.toNat h.ok h.few
  have q3 := tot_split L m.toNat
  have q4 := tot_take_le L L.length h.ok h.few
  rw [List.take_of_length_le (Nat.le_refl _), q3] at q4
  simp only [add2] at q4
  obtain ⟨r1, r2, hadd, hr1, hr2⟩ := complex_add h1.1 h1.2 hy hz (by omega) (by omega)
  rw [← q3] at hr1 hr2
  refine ⟨_, _, b1, b2, r1, r2, fun n => (len_exact w g gb L h (w.drewN n) rfl).mono fun _ _ ⟨he, hw⟩ => ⟨he, n, hw⟩, fun n => (ha m (w.drewN n) rfl).mono fun _ _ ⟨he, hw⟩ => ⟨he, n + 1, hw⟩,
    fun n => (ha (-1) (w.drewN n) rfl).mono fun _ _ ⟨he, hw⟩ => ⟨by rw [show min (Int.toNat (-1)) L.length = 0 by simp] at he; exact he, n + 1, hw⟩, fun n => (hs (w.drewN n) rfl).mono fun _ _ ⟨he, hw⟩ => ⟨he, n, hw⟩, hadd, ord_is hr1 hb1, ord_is hr2 hb2⟩

set_option maxRecDepth 100000 in
set_option maxHeartbeats 4000000 in
theorem parts_law (v : Value) (zs : List P2) (m : Int) (w : World) (h : Pairs w w.heap.size v zs) :
    Calls Try.prog 4 #[v, .int .i64 m] w fun e w' => e = .returned (.bool true) ∧ Below w.heap.size w w' := by
  have HP := Lib.hid h
  have hfn := fun (w : World) fn x y => run_eql_func_nil w 55 fn x y Try.underlying55
  clear h
  refine (callsIn_wide (n := 6)).1 ?_
  refine callsIn_of_wp_marks Try.func4 rfl trivial ?_ rfl
  simp only [Try.ntmps4, List.size_toArray, List.length_cons, List.length_nil, Nat.reduceAdd, Nat.reduceSub, Array.replicate_succ, Array.replicate_zero, List.push_toArray, List.append_toArray, List.nil_append, List.cons_append]
  gi_wp2_with fail
  obtain ⟨W0, hW0⟩ : ∃ W0, (w.alloc (.cells #[.int .i64 m] 3)).alloc (.cells #[.bool false] 4) = W0 := ⟨_, rfl⟩
  have hb0 : Below w.heap.size w W0 := by rw [← hW0]; exact ((Below.refl _ _).alloc (Nat.le_refl _) _).alloc (by simp) _
  have hka : Blk W0 w.heap.size #[.int .i64 m] 3 := by rw [← hW0]; exact (Blk.new _ _ _).alloc _
  have hkr : Blk W0 (w.heap.size + 1) #[.bool false] 4 := by
    rw [← hW0]; have := Blk.new (w.alloc (.cells #[.int .i64 m] 3)) #[.bool false] 4; rwa [World.size_alloc] at this
  have hs0 : W0.heap.size = w.heap.size + 2 := by rw [← hW0, World.size_alloc, World.size_alloc]
  rw [hW0]
  have HB0 := Lib.hid hb0
  have HKA := Lib.hid hka
  have HKR := Lib.hid hkr
  have HS0 := Lib.hid hs0
  have HP0 := Lib.hid (HP.out.later hb0)
  obtain ⟨ba, hba⟩ : ∃ ba, w.heap.size = ba := ⟨_, rfl⟩
  rw [hba] at HKA HKR HS0 ⊢
  have HBA := Lib.hid hba
  clear hW0 hb0 hka hkr hs0 hba
  refine ⟨trivial, (callsIn_wide.2 (awake_any _)).mono ?_⟩
  rintro e w1 ⟨rfl, b1⟩
  have HB1 := Lib.hid b1
  clear b1
  gi_wp2_with fail
  refine ⟨trivial, (callsIn_wide.2 (filled_any v zs w1 (HP0.out.later HB1.out))).mono ?_⟩
  rintro e w2 ⟨g, gb, rfl, M⟩
  have M2 := Lib.hid (M.back HB1.out)
  clear M
  gi_wp2_with fail
  refine ⟨trivial, (callsIn_wide.2 (all_made g _)).mono ?_⟩
  rintro e w3 ⟨rfl, rfl⟩
  gi_wp2_with fail
  obtain ⟨s, hs⟩ : ∃ s, w2.heap.size = s := ⟨_, rfl⟩
  rw [hs]
  obtain ⟨WL, hWL⟩ : ∃ WL, (((w2.alloc (.cells #[.pointer (some ⟨g, 0, none⟩)] 24)).alloc (.cells #[.pointer (some ⟨g, 0, none⟩)] 24)).alloc (.cells #[.int .i64 0] 3)).alloc (.cells #[.complex .f64 0 0] 33) = WL := ⟨_, rfl⟩
  rw [hWL]
  have HO : Hid (Order w ba s g gb) := by
    have h1 := M2.out.head
    have h2 := M2.out.body
    have h3 := M2.out.row.lt
    have h4 := M2.out.row.ltb
    rw [HS0.out] at h1 h2
    rw [hs] at h3 h4
    exact Lib.hid ⟨HBA.out, h1, h2, h3, h4⟩
  have hsz : WL.heap.size = s + 4 := by rw [← hWL, World.size_alloc, World.size_alloc, World.size_alloc, World.size_alloc, hs]
  have hbL : Below w2.heap.size w2 WL := by
    rw [← hWL]
    exact ((((Below.refl _ _).alloc (Nat.le_refl _) _).alloc (by simp) _).alloc (by simp; omega) _).alloc (by simp; omega) _
  have hPi : Pi w ba s g gb (rowOf zs) m 0 (0, 0) WL := by
    have hl : Below w.heap.size w w2 := HB0.out.trans (M2.out.low.mono HB0.out.size)
    have hlt := M2.out.low.size
    refine ⟨M2.out.row.below hbL, (HKA.out.below M2.out.low).below hbL, (HKR.out.below M2.out.low).below hbL, ?_, ?_, ?_, ⟨0, 0, ?_, is_zero, is_zero⟩, hl.trans (hbL.mono hl.size)⟩
    · rw [← hWL, ← hs]; exact (((Blk.new _ _ _).alloc _).alloc _).alloc _
    · rw [← hWL]
      have := Blk.new (w2.alloc (.cells #[.pointer (some ⟨g, 0, none⟩)] 24)) #[.pointer (some ⟨g, 0, none⟩)] 24
      rw [World.size_alloc, hs] at this
      exact (this.alloc _).alloc _
    · rw [← hWL]
      have := Blk.new ((w2.alloc (.cells #[.pointer (some ⟨g, 0, none⟩)] 24)).alloc (.cells #[.pointer (some ⟨g, 0, none⟩)] 24)) #[.int .i64 0] 3
      rw [World.size_alloc, World.size_alloc, hs] at this
      exact this.alloc _
    · rw [← hWL]
      have := Blk.new (((w2.alloc (.cells #[.pointer (some ⟨g, 0, none⟩)] 24)).alloc (.cells #[.pointer (some ⟨g, 0, none⟩)] 24)).alloc (.cells #[.int .i64 0] 3)) #[.complex .f64 0 0] 33
      rw [World.size_alloc, World.size_alloc, World.size_alloc, hs] at this
      exact this
  obtain ⟨cs, hwords, hseq⟩ := all_stops 5 (by omega) (s + 1) g gb (rowOf zs) (fun b => b = ba + 1 ∨ b = s + 1 + 1 ∨ b = s + 1 + 1 + 1) WL (by omega) (fun b hb => by have h1 := HO.out.head; have h2 := HO.out.hs; omega) (hPi.bx.cell (i := 0) rfl) hPi.row
  have HPI := Lib.hid hPi
  have HSZ := Lib.hid hsz
  have HWD := Lib.hid hwords
  have HSQ := Lib.hid hseq
  obtain ⟨N, hN⟩ : ∃ N, (rowOf zs).length = N := ⟨_, rfl⟩
  have HN := Lib.hid hN
  have hN60 : N ≤ 60 := by rw [← hN]; exact rowOf_len zs
  clear hs hWL hsz hbL hPi hwords hseq hN
  refine wpIn_rangeFunc_ownF rfl (by omega) (gf := 29) (lb := #[.pointer (some ⟨s + 1, 0, none⟩)]) rfl trivial (enters_of Try.func29 (by kernel_rfl) rfl)
    (HSQ.out WL (Below.refl _ _)) (fun h k => h.trans k) (fun W l o o' hl h1 h2 h3 => Kp.book (by have h1 := HO.out.hs; rw [HSZ.out]; omega) W l o o' hl h1 h2 h3) (Below.refl _ _) (fun _ => rfl)
    (fun pre W => Pi w ba s g gb (rowOf zs) m pre.length (restOf (rowOf zs) m.toNat pre) W)
    (fun _ pre _ => pre ≠ List.range pre.length)
    (fun pre W W' row hI hg hr => hI.kept (by have h1 := HO.out.base; have h2 := HO.out.head; have h3 := HO.out.hs; rw [HSZ.out]; omega) hg hr)
    (fun _ _ _ _ _ hI _ _ => hI)
    (by rw [show restOf (rowOf zs) m.toNat [] = (0, 0) by unfold restOf; simp [tot]]; exact HPI.out)
    (fun x => { tmps := #[v, .int .i64 m, undef, .pointer (some ⟨ba, 0, none⟩), .pointer (some ⟨ba + 1, 0, none⟩), .pointer (some ⟨s, 0, none⟩), .func (.func 29) #[] #[.pointer (some ⟨s + 1, 0, none⟩)], .pointer (some ⟨s + 1 + 1, 0, none⟩), .pointer (some ⟨s + 1 + 1 + 1, 0, none⟩), .complex .f64 (cs x).1 (cs x).2, .complex .f64 (sums cs (x + 1)).1 (sums cs (x + 1)).2, undef, undef, .bool true, .bool false, v, .pointer (some ⟨g, 0, none⟩), .pointer (some ⟨g, 0, none⟩), .func (.func 29) #[] #[.pointer (some ⟨s + 1, 0, none⟩)], .func (.func 29) #[] #[.pointer (some ⟨s + 1, 0, none⟩)], .bool false, .func (.func 29) #[] #[.pointer (some ⟨s + 1, 0, none⟩)], .complex .f64 (cs x).1 (cs x).2, .complex .f64 (sums cs (x + 1)).1 (sums cs (x + 1)).2, undef, undef, undef, undef, undef, undef, undef, undef, undef, undef, undef, undef, undef, undef, undef, undef, undef, undef, undef, undef, undef, undef, undef, undef, undef, undef, undef, undef, undef, undef, undef, undef, undef, undef, undef, undef, undef, undef, undef, undef, undef, undef, undef, undef, undef, undef, undef, undef, undef, undef, undef, undef, undef, undef, undef, undef, undef, undef, undef, undef], defers := [] }) ?assign ?body ?done ?stop
  case assign =>
    intro l x W K hK
    gi_wp2
    exact hK
  case body =>
    rintro l pre x W hI hlen
    have HI := Lib.hid hI
    have cr := hI.rb.cell (i := 0) rfl
    have cn := hI.nb.cell (i := 0) rfl
    clear hI
    gi_wp2_with fail
    refine ⟨trivial, (CallsIn.inRound l (callsIn_wide.2 (ahead_any _ _ _ _ _ HI.out.row))).mono ?_⟩
    rintro e W3 ⟨⟨v1, rfl, hcv⟩, b3⟩
    obtain ⟨a, b, rfl, ha, hb⟩ := hcv
    obtain ⟨r, t, hsub, ir, it⟩ := up_less HWD.out HI.out.row.ok HI.out.row.few x
    have hI3 := HI.out.below b3
    have cr3 := hI3.res.cell (i := 0) rfl
    have fr3 := hI3.res.free (i := 0)
    have H3 := Lib.hid hI3
    have HB3 := Lib.hid b3
    have HLN := Lib.hid hlen
    have hres : Hid (KeepsOthers W (W3.setCell ⟨ba + 1, 0, none⟩ (.bool false))) := Lib.hid ((others_below b3).trans (KeepsOthers.setCell _ _ _))
    rw [show ((pre.length : Nat) : Int).toNat = pre.length from rfl] at ha hb
    by_cases h1 : (tot ((rowOf zs).take pre.length)).1 = (tot ((rowOf zs).take x)).1
    · by_cases h2 : (tot ((rowOf zs).take pre.length)).2 = (tot ((rowOf zs).take x)).2
      · rw [h1] at ha
        rw [h2] at hb
        have o1 := ord_is ha ir
        have o2 := ord_is hb it
        obtain ⟨u1, u2⟩ := up_ge HWD.out HI.out.row.ok HI.out.row.few x
        have cat := hI3.at_.cell (i := 0) rfl
        have cn3 := hI3.nb.cell (i := 0) rfl
        have fn3 := hI3.nb.free (i := 0)
        have hl60 : pre.length < 60 := by have := rowOf_len zs; omega
        clear ha hb ir it h1 h2 hI3 b3 hres cn cr
        obtain ⟨q, hq⟩ : ∃ q, pre.length = q := ⟨_, rfl⟩
        rw [hq] at cn3 hl60 ⊢
        have HQ := Lib.hid hq
        clear hq hlen
        by_cases hge : m ≤ (q : Int)
        · obtain ⟨y, z, hblk, hy, hz⟩ := H3.out.tb
          have ct := hblk.cell (i := 0) rfl
          have ft := hblk.free (i := 0)
          have e1 := restOf_small zs m.toNat pre (by have := HQ.out; omega)
          have e2 := el_small zs x
          obtain ⟨y2, z2, hadd, hy2, hz2⟩ := complex_add hy hz (HWD.out x).1 (HWD.out x).2 (by unfold el at e2; omega) (by unfold el at e2; omega)
          have hin := restOf_in (L := rowOf zs) (a := m.toNat) (pre := pre) (x := x) (by have := HQ.out; omega)
          have hT := (H3.out).setT HO.out (rest' := restOf (rowOf zs) m.toNat (pre ++ [x])) (x := y2) (y := z2) (by rw [hin]; exact hy2) (by rw [hin]; exact hz2)
          rw [HQ.out] at hT
          have cn4 := hT.nb.cell (i := 0) rfl
          have HT := Lib.hid hT
          clear hblk hy hz e1 e2 hin hT hy2 hz2
          gi_wp2_with fail
          have hg1 := HO.out.hs
          exact ⟨((others_below HB3.out).trans (KeepsOthers.setCell _ _ _)).trans (KeepsOthers.setCell _ _ _),
            ((Kp.of_below HB3.out HI.out.row.lt).trans (Kp.setCell _ ⟨s + 1 + 1 + 1, 0, none⟩ _ (.inr (.inr rfl)) (by show s + 1 + 1 + 1 ≠ g; omega))).trans (Kp.setCell _ ⟨s + 1 + 1, 0, none⟩ _ (.inr (.inl rfl)) (by show s + 1 + 1 ≠ g; omega)),
            HT.out.setN HO.out _ _ (by rw [List.length_append, HQ.out]; simp)⟩
        · have hout := restOf_out (L := rowOf zs) (a := m.toNat) (pre := pre) (x := x) (by have := HQ.out; omega)
          have HOUT := Lib.hid hout
          clear hout
          gi_wp2_with fail
          have hg1 := HO.out.hs
          refine ⟨(others_below HB3.out).trans (KeepsOthers.setCell _ _ _),
            (Kp.of_below HB3.out HI.out.row.lt).trans (Kp.setCell _ ⟨s + 1 + 1, 0, none⟩ _ (.inr (.inl rfl)) (by show s + 1 + 1 ≠ g; omega)), ?_⟩
          show Pi w ba s g gb (rowOf zs) m (pre ++ [x]).length (restOf (rowOf zs) m.toNat (pre ++ [x])) _
          rw [HOUT.out]
          exact H3.out.setN HO.out _ _ (by rw [List.length_append, HQ.out]; simp)
      · have o2 : (FloatKind.f64.format.order b t == some .eq) = false := by rw [ord_eq hb it]; exact decide_eq_false h2
        clear ha hb ir it hI3 b3
        gi_wp2_with fail
        refine ⟨hres.out, fun e => h2 ?_⟩
        rw [← range_snoc e]
    · have o1 : (FloatKind.f64.format.order a r == some .eq) = false := by rw [ord_eq ha ir]; exact decide_eq_false h1
      clear ha hb ir it hI3 b3
      gi_wp2_with fail
      refine ⟨hres.out, fun e => h1 ?_⟩
      rw [← range_snoc e]
  case done =>
    rintro D xs W hD rfl hI hK
    rw [List.length_range, restOf_range, HN.out] at hI
    have HI := Lib.hid hI
    have HK := Lib.hid hK
    have HD := Lib.hid hD
    clear hI hK hD
    gi_wp2_with fail
    have hDlt : D < W.heap.size := lt_of_block HK.out
    have hWs : s + 4 ≤ W.heap.size := by have h := (HI.out.tb).choose_spec.choose_spec.1.lt; omega
    obtain ⟨cs2, hw2, hsq2⟩ := all_stops 5 (by omega) (s + 1) g gb (rowOf zs) (fun _ => False) W (by omega) (fun b hb => hb.elim) (HI.out.bx.cell (i := 0) rfl) HI.out.row
    have HW2 := Lib.hid hw2
    have HSQ2 := Lib.hid hsq2
    clear hw2 hsq2
    refine wpIn_rangeFunc_ownF rfl (by omega) (gf := 29) (lb := #[.pointer (some ⟨s + 1, 0, none⟩)]) rfl trivial (enters_of Try.func29 (by kernel_rfl) rfl)
      (HSQ2.out W (Below.refl _ _)) (fun h k => h.trans k) (fun W' l o o' hl h1 h2 h3 => Kp.book (by have h1 := HO.out.hs; omega) W' l o o' hl h1 h2 h3) (Below.refl _ _) (fun _ => rfl)
      (fun pre W' => pre = [] ∧ Pi w ba s g gb (rowOf zs) m N (tot ((rowOf zs).drop m.toNat)) W' ∧ W'.heap[D]? = some (.deferred (some [])))
      (fun c pre W' => pre ≠ List.range pre.length ∨ (c = .exit 2 ∧ Pi w ba s g gb (rowOf zs) m N (tot ((rowOf zs).drop m.toNat)) W' ∧ W'.heap[D]? = some (.deferred (some []))))
      (fun pre W' W'' row hI hg hr => ⟨hI.1, hI.2.1.kept (by have h1 := HO.out.base; have h2 := HO.out.head; have h3 := HO.out.hs; omega) hg hr, by rw [hg.block D (lt_of_block hI.2.2) (fun e => by have := (hr D e.symm).1; omega)]; exact hI.2.2⟩)
      (fun c pre W' W'' row hI hg hr => hI.imp id (fun hI => ⟨hI.1, hI.2.1.kept (by have h1 := HO.out.base; have h2 := HO.out.head; have h3 := HO.out.hs; omega) hg hr, by rw [hg.block D (lt_of_block hI.2.2) (fun e => by have := (hr D e.symm).1; omega)]; exact hI.2.2⟩))
      ⟨rfl, HI.out, HK.out⟩
      (fun x => { tmps := #[v, .int .i64 m, undef, .pointer (some ⟨ba, 0, none⟩), .pointer (some ⟨ba + 1, 0, none⟩), .pointer (some ⟨s, 0, none⟩), .func (.func 29) #[] #[.pointer (some ⟨s + 1, 0, none⟩)], .pointer (some ⟨s + 1 + 1, 0, none⟩), .pointer (some ⟨s + 1 + 1 + 1, 0, none⟩), undef, undef, .complex .f64 (cs2 x).1 (cs2 x).2, .complex .f64 (sums cs2 (x + 1)).1 (sums cs2 (x + 1)).2, .bool true, .bool false, v, .pointer (some ⟨g, 0, none⟩), .pointer (some ⟨g, 0, none⟩), .func (.func 29) #[] #[.pointer (some ⟨s + 1, 0, none⟩)], .func (.func 29) #[] #[.pointer (some ⟨s + 1, 0, none⟩)], .bool false, .func (.func 29) #[] #[.pointer (some ⟨s + 1, 0, none⟩)], undef, undef, undef, undef, undef, undef, undef, undef, undef, undef, undef, undef, undef, undef, undef, undef, undef, undef, undef, undef, undef, undef, undef, undef, undef, undef, undef, undef, undef, undef, undef, .func (.func 29) #[] #[.pointer (some ⟨s + 1, 0, none⟩)], .complex .f64 (cs2 x).1 (cs2 x).2, .complex .f64 (sums cs2 (x + 1)).1 (sums cs2 (x + 1)).2, undef, undef, undef, undef, undef, undef, undef, undef, undef, undef, undef, undef, undef, undef, undef, undef, undef, undef, undef, undef, undef, undef, undef, undef, undef, undef, undef, undef], defers := [] }) ?assign2 ?body2 ?done2 ?stop2
    case assign2 =>
      intro l x W K hK
      gi_wp2
      exact hK
    case body2 =>
      rintro l pre x W' ⟨rfl, hI', hK'⟩ hlen
      have H1 := Lib.hid hI'
      have cr := hI'.rb.cell (i := 0) rfl
      have cn := hI'.nb.cell (i := 0) rfl
      have cre := hI'.res.cell (i := 0) rfl
      have fre := hI'.res.free (i := 0)
      have HK' := Lib.hid hK'
      have hmx : Try.prog.follows .mixedOrders = true := by kernel_rfl
      have htr : Fence.wide.fn 22 = True := eq_true trivial
      have HL : Hid (∀ n, Calls Try.prog 22 #[.pointer (some ⟨g, 0, none⟩)] (W'.drewN n) fun e w' => e = .returned (.int .i64 N) ∧ w' = W'.drewN n) := by
        rw [← HN.out]; exact Lib.hid (fun n => len_exact W' g gb _ hI'.row (W'.drewN n) rfl)
      clear hI' hK'
      have hs1 := sums_is HW2.out H1.out.row.ok H1.out.row.few (x + 1)
      have hw1 := HW2.out x
      by_cases h1 : (el (rowOf zs) x).1 = (tot ((rowOf zs).take (x + 1))).1
      · by_cases h2 : (el (rowOf zs) x).2 = (tot ((rowOf zs).take (x + 1))).2
        · have o1 := ord_is (show Fl.Is (cs2 x).1 (tot ((rowOf zs).take (x + 1))).1 by rw [← h1]; exact hw1.1) hs1.1
          have o2 := ord_is (show Fl.Is (cs2 x).2 (tot ((rowOf zs).take (x + 1))).2 by rw [← h2]; exact hw1.2) hs1.2
          clear hs1 hw1 h1 h2
          gi_wp2_with fail
          gi_region_with_o (gi_at_call 22; refine (CallsIn.inRound l (callsIn_wide.2 (HL.out 1))).mono ?_; rintro e w' ⟨rfl, rfl⟩)
          all_goals gi_wp2_with fail
          all_goals exact ⟨KeepsOthers.drew _, .inr ⟨rfl, H1.out.below ((Below.refl _ _).drew), HK'.out⟩⟩
        · have o2 : (FloatKind.f64.format.order (cs2 x).2 (sums cs2 (x + 1)).2 == some .eq) = false := by rw [ord_eq hw1.2 hs1.2]; exact decide_eq_false h2
          clear hs1 hw1 h1
          gi_wp2_with fail
          gi_region_with_o (fail)
          all_goals gi_wp2_with fail
          all_goals
            refine ⟨by first | exact (KeepsOthers.drew _).trans (KeepsOthers.setCell _ _ _) | exact (KeepsOthers.setCell _ _ _).trans (KeepsOthers.drew _), .inl (fun e => h2 ?_)⟩
            obtain rfl : x = 0 := range_snoc (pre := []) e
            rw [el_zero]
      · have o1 : (FloatKind.f64.format.order (cs2 x).1 (sums cs2 (x + 1)).1 == some .eq) = false := by rw [ord_eq hw1.1 hs1.1]; exact decide_eq_false h1
        clear hs1 hw1
        gi_wp2_with fail
        gi_region_with_o (fail)
        all_goals gi_wp2_with fail
        all_goals
          refine ⟨by first | exact (KeepsOthers.drew _).trans (KeepsOthers.setCell _ _ _) | exact (KeepsOthers.setCell _ _ _).trans (KeepsOthers.drew _), .inl (fun e => h1 ?_)⟩
          obtain rfl : x = 0 := range_snoc (pre := []) e
          rw [el_zero]
    case done2 =>
      rintro D2 xs W' hD2 rfl ⟨hnil, hI', hK'⟩ hK2
      gi_wp2_with fail
      obtain ⟨y, z, hblk, hy, hz⟩ := hI'.tb
      obtain ⟨a1, a2, b1, b2, r1, r2, hlast⟩ := last_of hI'.row hy hz
      have cat := hI'.at_.cell (i := 0) rfl
      have cr := hI'.rb.cell (i := 0) rfl
      have cn := hI'.nb.cell (i := 0) rfl
      have ct := hblk.cell (i := 0) rfl
      have cre := hI'.res.cell (i := 0) rfl
      have fre := hI'.res.free (i := 0)
      have hadd := hlast.add
      have o1 := hlast.o1
      have o2 := hlast.o2
      have o3 : FloatKind.f64.format.order 0 0 = some .eq := by decide
      have HLE := Lib.hid hlast.len
      rw [HN.out] at HLE
      have HAH := Lib.hid hlast.ahead
      have HNO := Lib.hid hlast.none_
      have HSU := Lib.hid hlast.sum
      have H1 := Lib.hid hI'
      have HKD := Lib.hid hK'
      have HKD2 := Lib.hid hK2
      clear hI' hK' hK2 hblk hy hz hlast
      refine wpIn_wide.2 ?_
      refine wp_region_quiet_tail (C := fun w' => ∃ n, w' = W'.drewN n) 19 (by kernel_rfl) (by kernel_rfl) ⟨1, rfl⟩ ?_
      simp only [List.take_succ_cons, List.take_zero, List.drop_succ_cons, List.drop_zero]
      repeat (go_big_quiet_step (first | (go_at_call 22; with_reducible exact HLE.out _) | (go_at_call 25; with_reducible exact HAH.out _) | (go_at_call 25; with_reducible exact HNO.out _) | (go_at_call 23; with_reducible exact HSU.out _)))
      refine wpQuiet_nil ?_
      intro w9 hw9
      obtain ⟨nq, hw9'⟩ := hw9
      subst hw9'
      go_wp2_with fail
      gi_wp2_with fail
      have hDD : D ≠ D2 := by omega
      have hk2 : ((W'.drewN nq).setCell ⟨ba + 1, 0, none⟩ (.bool true)).heap[D2]? = some (.deferred (some [])) := (KeepsOthers.setCell (W'.drewN nq) ⟨ba + 1, 0, none⟩ (.bool true)).same D2 _ HKD2.out rfl
      have hk1 : (((W'.drewN nq).setCell ⟨ba + 1, 0, none⟩ (.bool true)).putObj D2 (.deferred none)).heap[D]? = some (.deferred (some [])) := (World.putObj_heap_other (by omega)).trans ((KeepsOthers.setCell (W'.drewN nq) ⟨ba + 1, 0, none⟩ (.bool true)).same D _ HKD.out rfl)
      refine ⟨by simp, .inl ⟨_, _, rfl, run_takeDeferred hk2, ?_⟩⟩
      refine ⟨by simp, .inl ⟨_, _, rfl, run_takeDeferred hk1, ?_⟩⟩
      have hblk : Blk ((W'.drewN nq).setCell ⟨ba + 1, 0, none⟩ (.bool true)) (ba + 1) #[.bool true] 4 := (show Blk (W'.drewN nq) (ba + 1) #[.bool false] 4 from H1.out.res).set _
      have hblk2 := hblk.grown (grownBy_putObj' _ D2 (.deferred none)) (by intro e; cases e; unfold Blk at hblk; rw [hk2] at hblk; cases hblk)
      have hblk3 := hblk2.grown (grownBy_putObj' _ D (.deferred none)) (by intro e; cases e; unfold Blk at hblk2; rw [hk1] at hblk2; cases hblk2)
      have hc5 := hblk3.cell (i := 0) rfl
      have hD0 := HD.out
      have hlo : Below w.heap.size w ((W'.drewN nq).setCell ⟨ba + 1, 0, none⟩ (.bool true)) := (show Below w.heap.size w (W'.drewN nq) from ⟨H1.out.low.os, H1.out.low.tape, H1.out.low.output, H1.out.low.size, H1.out.low.block⟩).setCell (p := ⟨ba + 1, 0, none⟩) (by rw [HBA.out]; exact Nat.le_succ _) _
      have hb1 := HO.out.base
      have hb2 := HO.out.head
      have hb3 := HO.out.hs
      have hlo2 := hlo.grown (grownBy_putObj' _ D2 (.deferred none)) hlo.size (fun k e => by cases e; omega)
      have hlo3 := hlo2.grown (grownBy_putObj' _ D (.deferred none)) hlo2.size (fun k e => by cases e; have := HSZ.out; omega)
      refine ⟨.bool true, ?_, rfl, hlo3⟩
      simp [results, Try.f4, go_sem, hc5]
    case stop2 =>
      rintro D2 c pre W' hD2 ⟨k, hk, rfl⟩ (hne | ⟨rfl, hI', hK'⟩) hK2
      · exact absurd (by rw [List.length_range]) hne
      gi_wp2_with fail
      obtain ⟨y, z, hblk, hy, hz⟩ := hI'.tb
      obtain ⟨a1, a2, b1, b2, r1, r2, hlast⟩ := last_of hI'.row hy hz
      have cat := hI'.at_.cell (i := 0) rfl
      have cr := hI'.rb.cell (i := 0) rfl
      have cn := hI'.nb.cell (i := 0) rfl
      have ct := hblk.cell (i := 0) rfl
      have cre := hI'.res.cell (i := 0) rfl
      have fre := hI'.res.free (i := 0)
      have hadd := hlast.add
      have o1 := hlast.o1
      have o2 := hlast.o2
      have o3 : FloatKind.f64.format.order 0 0 = some .eq := by decide
      have HLE := Lib.hid hlast.len
      rw [HN.out] at HLE
      have HAH := Lib.hid hlast.ahead
      have HNO := Lib.hid hlast.none_
      have HSU := Lib.hid hlast.sum
      have H1 := Lib.hid hI'
      have HKD := Lib.hid hK'
      have HKD2 := Lib.hid hK2
      clear hI' hK' hK2 hblk hy hz hlast
      refine wpIn_wide.2 ?_
      refine wp_region_quiet_tail (C := fun w' => ∃ n, w' = W'.drewN n) 19 (by kernel_rfl) (by kernel_rfl) ⟨1, rfl⟩ ?_
      simp only [List.take_succ_cons, List.take_zero, List.drop_succ_cons, List.drop_zero]
      repeat (go_big_quiet_step (first | (go_at_call 22; with_reducible exact HLE.out _) | (go_at_call 25; with_reducible exact HAH.out _) | (go_at_call 25; with_reducible exact HNO.out _) | (go_at_call 23; with_reducible exact HSU.out _)))
      refine wpQuiet_nil ?_
      intro w9 hw9
      obtain ⟨nq, hw9'⟩ := hw9
      subst hw9'
      go_wp2_with fail
      gi_wp2_with fail
      have hDD : D ≠ D2 := by omega
      have hk2 : ((W'.drewN nq).setCell ⟨ba + 1, 0, none⟩ (.bool true)).heap[D2]? = some (.deferred (some [])) := (KeepsOthers.setCell (W'.drewN nq) ⟨ba + 1, 0, none⟩ (.bool true)).same D2 _ HKD2.out rfl
      have hk1 : (((W'.drewN nq).setCell ⟨ba + 1, 0, none⟩ (.bool true)).putObj D2 (.deferred none)).heap[D]? = some (.deferred (some [])) := (World.putObj_heap_other (by omega)).trans ((KeepsOthers.setCell (W'.drewN nq) ⟨ba + 1, 0, none⟩ (.bool true)).same D _ HKD.out rfl)
      refine ⟨by simp, .inl ⟨_, _, rfl, run_takeDeferred hk2, ?_⟩⟩
      refine ⟨by simp, .inl ⟨_, _, rfl, run_takeDeferred hk1, ?_⟩⟩
      have hblk : Blk ((W'.drewN nq).setCell ⟨ba + 1, 0, none⟩ (.bool true)) (ba + 1) #[.bool true] 4 := (show Blk (W'.drewN nq) (ba + 1) #[.bool false] 4 from H1.out.res).set _
      have hblk2 := hblk.grown (grownBy_putObj' _ D2 (.deferred none)) (by intro e; cases e; unfold Blk at hblk; rw [hk2] at hblk; cases hblk)
      have hblk3 := hblk2.grown (grownBy_putObj' _ D (.deferred none)) (by intro e; cases e; unfold Blk at hblk2; rw [hk1] at hblk2; cases hblk2)
      have hc5 := hblk3.cell (i := 0) rfl
      have hD0 := HD.out
      have hlo : Below w.heap.size w ((W'.drewN nq).setCell ⟨ba + 1, 0, none⟩ (.bool true)) := (show Below w.heap.size w (W'.drewN nq) from ⟨H1.out.low.os, H1.out.low.tape, H1.out.low.output, H1.out.low.size, H1.out.low.block⟩).setCell (p := ⟨ba + 1, 0, none⟩) (by rw [HBA.out]; exact Nat.le_succ _) _
      have hb1 := HO.out.base
      have hb2 := HO.out.head
      have hb3 := HO.out.hs
      have hlo2 := hlo.grown (grownBy_putObj' _ D2 (.deferred none)) hlo.size (fun k e => by cases e; omega)
      have hlo3 := hlo2.grown (grownBy_putObj' _ D (.deferred none)) hlo2.size (fun k e => by cases e; have := HSZ.out; omega)
      refine ⟨.bool true, ?_, rfl, hlo3⟩
      simp [results, Try.f4, go_sem, hc5]
  case stop =>
    rintro D c pre W hD ⟨k, hk, rfl⟩ hne _
    exact absurd (by rw [List.length_range]) hne
end Go.Proofs.Ytdkngocinimjdaa
