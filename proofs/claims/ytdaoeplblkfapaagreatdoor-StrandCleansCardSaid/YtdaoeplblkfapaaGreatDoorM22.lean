import Derived.Test.YtdaoeplblkfapaaGreatDoorM21

/- THE CONTRACT of the law's 'batch'. -/
namespace Go.Proofs.YtdaoeplblkfapaaGreatDoor
open Go.RowKit

def btR (base : Int) (i : Nat) : Pl.Rc := ⟨base + i, [107], [118], false⟩
def btB (base : Int) (n : Nat) : Pl.Bt := ⟨base, n, 0, 0, 0, (List.range n).map (btR base)⟩
theorem btR_snoc (base : Int) (i : Nat) : (List.range (i + 1)).map (btR base) = (List.range i).map (btR base) ++ [btR base i] := by
  rw [List.range_succ, List.map_append]
  rfl
set_option maxRecDepth 100000 in
set_option maxHeartbeats 2000000 in
theorem batch_any (base : Int) (n : Nat) (w : World) (hb : 0 ≤ base ∧ base ≤ 1099511627776) (hn : n ≤ 8) :
    Calls Tryz.prog 45 #[.int .i64 base, .int .i64 n] w fun e w' => ∃ rv, e = .returned (bv (btB base n, rv)) ∧ RcIn (fun k => w.heap.size ≤ k) w' rv (btB base n).recs ∧ Below w.heap.size w w' := by
  obtain ⟨i0, hi0, hz0, hz1, hz2⟩ := infoRec
  obtain ⟨z, hz⟩ : ∃ z, w.heap.size = z := ⟨_, rfl⟩
  obtain ⟨W1, hW1⟩ : ∃ V, w.alloc (.cells zeroB 34) = V := ⟨_, rfl⟩
  obtain ⟨W2, hW2⟩ : ∃ V, W1.alloc (.cells #[.int .i64 base, .int .i64 n, .int .i64 0, .int .i64 0, .int .i64 0, .slice none 0 0] 34) = V := ⟨_, rfl⟩
  have s1 : W1.heap.size = z + 1 := by rw [← hW1, World.size_alloc, hz]
  have s2 : W2.heap.size = z + 2 := by rw [← hW2, World.size_alloc, s1]
  have b1 : Below z w W1 := by rw [← hW1, ← hz]; exact (Below.refl _ _).alloc (Nat.le_refl _) _
  have b2 : Below z w W2 := by rw [← hW2]; exact b1.alloc (by omega) _
  have k1 : Blk W1 z zeroB 34 := by have := Blk.new w zeroB 34; rwa [hW1, hz] at this
  have k2 : Blk W2 (z + 1) #[.int .i64 base, .int .i64 n, .int .i64 0, .int .i64 0, .int .i64 0, .slice none 0 0] 34 := by have := Blk.new W1 #[.int .i64 base, .int .i64 n, .int .i64 0, .int .i64 0, .int .i64 0, .slice none 0 0] 34; rwa [hW2, s1] at this
  have q1 : Blk W2 z zeroB 34 := by rw [← hW2]; exact k1.alloc _
  have HL := Lib.hid (And.intro q1 (And.intro k2 b2))
  have HE := Lib.hid (And.intro hz (And.intro hW1 hW2))
  have HNW : Hid (∀ (W : World) (cs : Array Value) j u, cs.toList[j]? = some u → World.cell? (W.alloc (.cells cs 75)) (Addr.add ⟨W.heap.size, 0, none⟩ j) = some u) := Lib.hid fun W cs => World.news_of_block (cs := cs) (t := 75) (fr := (0, 0)) (heap_alloc_new W _)
  unfold zeroB at HE
  clear hz hW1 hW2 s1 s2 b1 b2 k1 k2 q1
  go_enter Tryz.func45, Tryz.ntmps45
  go_wp2_with fail
  rw [HE.out.1, HE.out.2.1, HE.out.2.2]
  go_loopw [6] (fun iv wr => ∃ (i : Nat) (v : Value) (gb : Option Nat), i ≤ n ∧ iv = .int .i64 i ∧ Blk wr (z + 1) #[.int .i64 base, .int .i64 n, .int .i64 0, .int .i64 0, .int .i64 0, v] 34 ∧ Blk wr z zeroB 34 ∧ Sl wr v gb 75 4 i (((List.range i).map (btR base)).flatMap cells4) ∧ (∀ k, gb = some k → z + 2 ≤ k) ∧ Below z w wr) (fun iv _ => n - (intOf iv).toNat)
  case atStart => exact ⟨0, _, none, Nat.zero_le _, rfl, HL.out.2.1, HL.out.1, Sl.nil _ _ _, fun k hk => (by cases hk), HL.out.2.2⟩
  case round =>
    obtain ⟨i, v, gb, hi, rfl, q2, q1, hs, hgb, hb9⟩ := hrel
    obtain ⟨va, vc, rfl⟩ := hs.form
    have hz1' : z + 1 < wr.heap.size := q2.lt
    have hz0' : z < wr.heap.size := q1.lt
    have c0 : wr.cell? ⟨z + 1, 0, none⟩ = some (.int .i64 base) := q2.cell rfl
    have c1 : wr.cell? ⟨z + 1, 1, none⟩ = some (.int .i64 n) := q2.cell rfl
    have c2 : wr.cell? ⟨z + 1, 2, none⟩ = some (.int .i64 0) := q2.cell rfl
    have c3 : wr.cell? ⟨z + 1, 3, none⟩ = some (.int .i64 0) := q2.cell rfl
    have c4 : wr.cell? ⟨z + 1, 4, none⟩ = some (.int .i64 0) := q2.cell rfl
    have c5 : wr.cell? ⟨z + 1, 5, none⟩ = some (.slice va i vc) := q2.cell rfl
    have f5 : wr.frozen? ⟨z + 1, 5, none⟩ = false := q2.free
    have HQ := Lib.hid (And.intro q1 (And.intro q2 (And.intro hs (And.intro hgb hb9))))
    by_cases hlt : i < n
    · have hwr : wrap64 (base + (i : Int)) = base + i := by unfold wrap64; omega
      have HSL : ∀ o, Hid (Sl (wr.alloc o) (.slice va i vc) gb 75 4 i (((List.range i).map (btR base)).flatMap cells4)) := fun o => Lib.hid (hs.same fun k hk => Below.heap_alloc _ _ _ (hs.lt k hk))
      have HBY : Hid ((i + 1) * 48 ≤ 140737488355328) := Lib.hid (by omega)
      have H63 : Hid (i + 1 ≤ 9223372036854775807) := Lib.hid (by omega)
      clear q1 q2 hs hgb hb9
      go_wp2_with (at_builtin; go_must (refine wpList_append_sl _ (by rfl) _ _ _ (by rfl) 75 i0 (.agg zeroR) 4 48 Tryz.underlying32 hi0 hz0 hz1 hz2 rfl (.slice va i vc) gb i (((List.range i).map (btR base)).flatMap cells4) (by rfl) (HSL _).out ⟨wr.heap.size, 0, none⟩ 1 1 [.int .i64 (base + i), .string ⟨#[107]⟩, .string ⟨#[118]⟩, .bool false] (by rfl) (by rfl) (HNW.out wr #[.int .i64 (base + i), .string ⟨#[107]⟩, .string ⟨#[118]⟩, .bool false]) (by simp [Value.oneCell']) (by decide) HBY.out H63.out ?_))
      intro g9 p9 cap9 w9 gb9 hs9 hg9 hgb9 hn9
      obtain ⟨m1, m2, m3, m4, m5⟩ := HQ.out
      have hne : ∀ j, j ≤ z + 1 → some j ≠ gb := fun j hj e => by have := m4 j e.symm; omega
      have n1 : Blk w9 z zeroB 34 := (m1.alloc _).grown hg9 (hne _ (by omega))
      have n2 := (m2.alloc (.cells #[.int .i64 (base + i), .string ⟨#[107]⟩, .string ⟨#[118]⟩, .bool false] 75)).grown hg9 (hne _ (by omega))
      have hg5 : ∀ k, gb9 = some k → z + 2 ≤ k := fun k hk => by
        rcases hn9 with e | e
        · exact m4 k (e ▸ hk)
        · rw [hgb9] at hk; cases hk; omega
      have e5 : w9.cell? ⟨z + 1, 5, none⟩ = some (.slice va i vc) := n2.cell rfl
      have g5 : w9.frozen? ⟨z + 1, 5, none⟩ = false := n2.free
      have n3 := n2.set (i := 5) (.slice (some ⟨g9, p9, none⟩) (i + 1) cap9)
      have hF : Hid (Blk (w9.setCell ⟨z + 1, 5, none⟩ (.slice (some ⟨g9, p9, none⟩) (i + 1) cap9)) (z + 1) #[.int .i64 base, .int .i64 n, .int .i64 0, .int .i64 0, .int .i64 0, .slice (some ⟨g9, p9, none⟩) (i + 1) cap9] 34 ∧ Blk (w9.setCell ⟨z + 1, 5, none⟩ (.slice (some ⟨g9, p9, none⟩) (i + 1) cap9)) z zeroB 34 ∧ Sl (w9.setCell ⟨z + 1, 5, none⟩ (.slice (some ⟨g9, p9, none⟩) (i + 1) cap9)) (.slice (some ⟨g9, p9, none⟩) (i + 1) cap9) gb9 75 4 (i + 1) (((List.range (i + 1)).map (btR base)).flatMap cells4) ∧ (∀ k, gb9 = some k → z + 2 ≤ k) ∧ Below z w (w9.setCell ⟨z + 1, 5, none⟩ (.slice (some ⟨g9, p9, none⟩) (i + 1) cap9))) := Lib.hid ⟨n3, n1.setAway _ _ (by show z ≠ z + 1; omega), by
          rw [btR_snoc, List.flatMap_append]
          exact hs9.same fun k hk => Below.heap_setCell _ _ _ _ (by have := hg5 k hk; show k ≠ z + 1; omega), hg5, ((m5.alloc (by have := m1.lt; omega) _).grown hg9 (by have := m1.lt; simp; omega) fun k e => by have := m4 k e; omega).setCell (p := ⟨z + 1, 5, none⟩) (by show z ≤ z + 1; omega) _⟩
      clear hs9 hg9 hgb9 hn9 n1 n2 n3 hg5
      go_wp2_with fail
      go_roundw
      case rel => exact ⟨i + 1, _, _, by omega, by go_num, hF.out⟩
      case measure => simp [intOf]; omega
    · obtain rfl : i = n := by omega
      have o0 : wr.cell? ⟨z, 0, none⟩ = some (.int .i64 0) := q1.cell rfl
      have o1 : wr.cell? ⟨z, 1, none⟩ = some (.int .i64 0) := q1.cell rfl
      have o2 : wr.cell? ⟨z, 2, none⟩ = some (.int .i64 0) := q1.cell rfl
      have o3 : wr.cell? ⟨z, 3, none⟩ = some (.int .i64 0) := q1.cell rfl
      have o4 : wr.cell? ⟨z, 4, none⟩ = some (.int .i64 0) := q1.cell rfl
      have o5 : wr.cell? ⟨z, 5, none⟩ = some (.slice none 0 0) := q1.cell rfl
      have fo0 : wr.frozen? ⟨z, 0, none⟩ = false := q1.free
      have fo1 : wr.frozen? ⟨z, 1, none⟩ = false := q1.free
      have fo2 : wr.frozen? ⟨z, 2, none⟩ = false := q1.free
      have fo3 : wr.frozen? ⟨z, 3, none⟩ = false := q1.free
      have fo4 : wr.frozen? ⟨z, 4, none⟩ = false := q1.free
      have fo5 : wr.frozen? ⟨z, 5, none⟩ = false := q1.free
      have HZ := Lib.hid HE.out.1
      clear q1 q2 hs hgb hb9 HL HE
      go_wp2_with fail
      obtain ⟨m1, m2, m3, m4, m5⟩ := HQ.out
      unfold zeroB at m1
      have key : ∀ (V : World) (b j : Nat) (u : Value), b < z + 2 → Sl V (.slice va i vc) gb 75 4 i (((List.range i).map (btR base)).flatMap cells4) → Sl (V.setCell ⟨b, j, none⟩ u) (.slice va i vc) gb 75 4 i (((List.range i).map (btR base)).flatMap cells4) :=
        fun V b j u hb h => h.same fun k hk => Below.heap_setCell _ _ _ _ (by have := m4 k hk; show k ≠ b; omega)
      have keyb : ∀ (V : World) (b j : Nat) (u : Value), z ≤ b → Below z w V → Below z w (V.setCell ⟨b, j, none⟩ u) := fun V b j u hb h => h.setCell (p := ⟨b, j, none⟩) hb u
      refine bodyPost_ret (batch_ret rfl (Blk.six m1 (.int .i64 base) (.int .i64 i) (.int .i64 0) (.int .i64 0) (.int .i64 0) (.slice va i vc)) rfl) rfl ⟨.slice va i vc, rfl, ?_, ?_⟩
      · have hfin := key _ z 5 (.slice va i vc) (by omega) (key _ z 4 (.int .i64 0) (by omega) (key _ z 3 (.int .i64 0) (by omega) (key _ z 2 (.int .i64 0) (by omega) (key _ z 1 (.int .i64 i) (by omega) (key _ z 0 (.int .i64 base) (by omega) m3)))))
        have hrd := Rds.of_sl (A := fun k => w.heap.size ≤ k) hfin fun b hb => by have := m4 b hb; rw [HZ.out]; omega
        unfold RcIn
        rw [show (btB base i).recs = (List.range i).map (btR base) from rfl, List.length_map, List.length_range]
        exact hrd
      · rw [HZ.out]
        exact keyb _ _ _ _ (by omega) (keyb _ _ _ _ (by omega) (keyb _ _ _ _ (by omega) (keyb _ _ _ _ (by omega) (keyb _ _ _ _ (by omega) (keyb _ _ _ _ (by omega) m5)))))
end Go.Proofs.YtdaoeplblkfapaaGreatDoor

/- THE CONTRACT of the law's 'all': the walk. -/
namespace Go.Proofs.YtdaoeplblkfapaaGreatDoor
open Go.RowKit Go.Shelf
attribute [local go_sem] Oper.semAt_some

/-- What 'all' answers. -/
def AllOut (w : World) (l : List Pl.Bt) (e : Ending) (w' : World) : Prop :=
  ∃ v gb L, e = .returned v ∧ Sl w' v gb 34 6 L.length (L.flatMap bc6) ∧ (∀ b, gb = some b → w.heap.size ≤ b) ∧ All (fun k => w.heap.size ≤ k ∧ gb ≠ some k) w' L ∧ L.map (·.1) = l ∧ Below w.heap.size w w'
set_option maxRecDepth 100000 in
set_option maxHeartbeats 4000000 in
theorem all_any {w : World} {s : Nat} {h : Hs} {X : List Sx} {v : Value} {gb : Option Nat} {A : Nat → Prop} (k : Lies w s h X v gb A) (hch : Chs (X.map Sx.sg)) (hpos : ∀ b ∈ fla (X.map Sx.sg), (-1 : Int) < bend b) (hsm : X.length ≤ 1048576 ∧ ∀ x ∈ X, x.L.length ≤ 1048576) (hfl : (fla (X.map Sx.sg)).length ≤ 1048576) :
    Calls Tryz.prog 34 #[.pointer (some ⟨s, 0, none⟩)] w (AllOut w (fla (X.map Sx.sg))) := by
  have HK := Lib.hid k
  have hfn := fun (w : World) fn x y => run_eql_func_nil w 116 fn x y Tryz.underlying116
  refine (callsIn_wide (n := 6)).1 ?_
  refine callsIn_of_wp_marks Tryz.func34 rfl trivial ?_ rfl
  simp only [Tryz.ntmps34, List.size_toArray, List.length_cons, List.length_nil, Nat.reduceAdd, Nat.reduceSub, Array.replicate_succ, Array.replicate_zero, List.push_toArray, List.append_toArray, List.nil_append, List.cons_append]
  gi_wp2_with fail
  refine ⟨trivial, (callsIn_wide.2 (batches_fn _ _ _)).mono ?_⟩
  rintro e w3 ⟨rfl, rfl⟩
  gi_wp2_with fail
  obtain ⟨g, hg⟩ : ∃ g, w.heap.size + 1 = g := ⟨_, rfl⟩
  obtain ⟨WL, hWL⟩ : ∃ WL, (((w.alloc (.cells #[] 34)).alloc (.cells #[.slice (some ⟨w.heap.size, 0, none⟩) 0 0] 29)).alloc (.cells #[.pointer (some ⟨s, 0, none⟩)] 42)).alloc (.cells #[.int .i64 (-1)] 3) = WL := ⟨_, rfl⟩
  have hbL : Below w.heap.size w WL := by
    rw [← hWL]
    exact ((((Below.refl _ _).alloc (Nat.le_refl _) _).alloc (by simp) _).alloc (by simp; omega) _).alloc (by simp; omega) _
  have hsz : WL.heap.size = w.heap.size + 4 := by rw [← hWL]; simp
  have hbox : Blk WL g #[.slice (some ⟨w.heap.size, 0, none⟩) 0 0] 29 := by
    have := Blk.new (w.alloc (.cells #[] 34)) #[.slice (some ⟨w.heap.size, 0, none⟩) 0 0] 29
    rw [World.size_alloc, hg] at this
    rw [← hWL]
    exact (this.alloc _).alloc _
  have hcs : WL.cell? ⟨g + 1, 0, none⟩ = some (.pointer (some ⟨s, 0, none⟩)) := by
    have := Blk.new ((w.alloc (.cells #[] 34)).alloc (.cells #[.slice (some ⟨w.heap.size, 0, none⟩) 0 0] 29)) #[.pointer (some ⟨s, 0, none⟩)] 42
    rw [World.size_alloc, World.size_alloc, hg] at this
    rw [← hWL]
    exact (this.alloc (.cells #[.int .i64 (-1)] 3)).cell (i := 0) rfl
  have hco : WL.cell? ⟨g + 1 + 1, 0, none⟩ = some (.int .i64 (-1)) := by
    have := Blk.new (((w.alloc (.cells #[] 34)).alloc (.cells #[.slice (some ⟨w.heap.size, 0, none⟩) 0 0] 29)).alloc (.cells #[.pointer (some ⟨s, 0, none⟩)] 42)) #[.int .i64 (-1)] 3
    rw [World.size_alloc, World.size_alloc, World.size_alloc, hg] at this
    rw [← hWL]
    exact this.cell (i := 0) rfl
  have hrow : Sl WL (.slice (some ⟨w.heap.size, 0, none⟩) 0 0) (some w.heap.size) 34 6 0 [] := by
    refine (Sl.made w 34 6).same fun k hk => ?_
    cases hk
    rw [← hWL]
    exact (Below.heap_alloc _ _ _ (by simp; omega)).trans ((Below.heap_alloc _ _ _ (by simp; omega)).trans (Below.heap_alloc _ _ _ (by simp)))
  have hal : Al w g [] (.slice (some ⟨w.heap.size, 0, none⟩) 0 0) (some w.heap.size) WL := ⟨hbL, hbox, hrow, fun k hk => by cases hk; omega, by omega, fun p hp => by cases hp⟩
  have hbk : bk WL g = some w.heap.size := bk_box hbox hrow
  have hnw : ∀ b, b < w.heap.size → Nown g (fun _ => False) WL b := fun b hb => ⟨id, by omega, by rw [hbk]; intro e; have := Option.some.inj e; omega⟩
  have hgo : Goes WL s (g + 1) (g + 1 + 1) (-1) h X v gb g (fun _ => False) (fun b => A b ∧ b < w.heap.size) :=
    ⟨(HK.out.keep (Nat.le_refl _) (fun _ _ => rfl) fun b hb hl => ⟨rfl, hb, hl⟩).below hbL, hcs, hco, ⟨id, by omega, by rw [hbk]; intro e; have := Option.some.inj e; omega⟩, fun b hb => hnw b (HK.out.lt b hb), fun b _ hb => hnw b hb.2, ⟨_, hbox.cell rfl⟩, fun k hk => by rw [hbk] at hk; cases hk; omega, fun b hb => hb.elim, hch, hsm⟩
  have hgv := gives_any (lo := w.heap.size) 5 (by omega) hgo (by omega)
  rw [seqF_low hpos] at hgv
  obtain ⟨i0, hi0, hz0, hz1, hz2⟩ := infoBt
  have hNW : ∀ (W : World) (cs : Array Value) j u, cs.toList[j]? = some u → World.cell? (W.alloc (.cells cs 34)) (Addr.add ⟨W.heap.size, 0, none⟩ j) = some u := fun W cs => World.news_of_block (cs := cs) (t := 34) (fr := (0, 0)) (heap_alloc_new W _)
  have HNW := Lib.hid hNW
  have HGV := Lib.hid hgv
  have HAL := Lib.hid hal
  have HG := Lib.hid hg
  have HSZ := Lib.hid hsz
  have HFL := Lib.hid hfl
  obtain ⟨z, hz⟩ : ∃ z, w.heap.size = z := ⟨_, rfl⟩
  have HZ := Lib.hid hz
  rw [hg, hWL, hz]
  clear hNW hgv hal hsz hfl hbL hbox hcs hco hrow hbk hnw hgo hpos hch hsm HK k hWL
  refine wpIn_gives rfl (by omega) (gf := 115) (lb := #[.pointer (some ⟨g + 1, 0, none⟩), .pointer (some ⟨g + 1 + 1, 0, none⟩)]) rfl trivial (enters_of Tryz.func115 (by kernel_rfl) rfl)
    HGV.out (Below.refl _ _) (fun _ => rfl) (fun h k => h.trans k) (fun W l o o' hl h1 h2 => Kp.book (n := WL.heap.size) (by rw [HSZ.out]; omega) o' hl h1 h2)
    (fun pre W => ∃ v gb, Al w g pre v gb W) (fun _ _ _ => False)
    (fun x a' W => ∃ b, a' = { tmps := #[.pointer (some ⟨s, 0, none⟩), undef, .slice none 0 0, .pointer (some ⟨g, 0, none⟩), .func (.func 115) #[] #[.pointer (some ⟨g + 1, 0, none⟩), .pointer (some ⟨g + 1 + 1, 0, none⟩)], .pointer (some ⟨b, 0, none⟩), .slice (some ⟨z, 0, none⟩) 0 0, .pointer (some ⟨s, 0, none⟩), .func (.func 115) #[] #[.pointer (some ⟨g + 1, 0, none⟩), .pointer (some ⟨g + 1 + 1, 0, none⟩)], .func (.func 115) #[] #[.pointer (some ⟨g + 1, 0, none⟩), .pointer (some ⟨g + 1 + 1, 0, none⟩)], .bool false, undef, .func (.func 115) #[] #[.pointer (some ⟨g + 1, 0, none⟩), .pointer (some ⟨g + 1 + 1, 0, none⟩)], bv x, undef, undef, undef, undef, undef], defers := [] } ∧ Blk W b #[.int .i64 x.1.base, .int .i64 x.1.count, .int .i64 x.1.prod, .int .i64 x.1.seq, .int .i64 x.1.time, x.2] 34)
    ?hI ?hIx (fun pre => comes_own _ pre) ?hAx ⟨_, _, HAL.out⟩ ?assign ?body ?done ?stop
  case hI =>
    rintro pre W W' row ⟨v, gb, hA⟩ hg hr
    exact ⟨v, gb, hA.turn hg (by rw [HSZ.out]; omega) hr⟩
  case hIx => intro c pre W W' row h _ _; exact h
  case hAx =>
    rintro a' x W W' row ⟨b, e, hb⟩ hg hr
    exact ⟨b, e, hb.same (turn_block hb rfl hg fun r e => (hr r e).2)⟩
  case assign =>
    rintro l pre x W K ⟨v, gb, hA⟩ hc hK
    obtain ⟨b, rv⟩ := x
    obtain ⟨ra, rc, hrv⟩ := hc.2.1.slice
    simp only at hrv
    subst hrv
    have hb : Below W.heap.size W (W.alloc (.cells #[.int .i64 b.base, .int .i64 b.count, .int .i64 b.prod, .int .i64 b.seq, .int .i64 b.time, .slice ra b.recs.length rc] 34)) := (Below.refl _ _).alloc (Nat.le_refl _) _
    have HF := Lib.hid (hK { tmps := #[.pointer (some ⟨s, 0, none⟩), undef, .slice none 0 0, .pointer (some ⟨g, 0, none⟩), .func (.func 115) #[] #[.pointer (some ⟨g + 1, 0, none⟩), .pointer (some ⟨g + 1 + 1, 0, none⟩)], .pointer (some ⟨W.heap.size, 0, none⟩), .slice (some ⟨z, 0, none⟩) 0 0, .pointer (some ⟨s, 0, none⟩), .func (.func 115) #[] #[.pointer (some ⟨g + 1, 0, none⟩), .pointer (some ⟨g + 1 + 1, 0, none⟩)], .func (.func 115) #[] #[.pointer (some ⟨g + 1, 0, none⟩), .pointer (some ⟨g + 1 + 1, 0, none⟩)], .bool false, undef, .func (.func 115) #[] #[.pointer (some ⟨g + 1, 0, none⟩), .pointer (some ⟨g + 1 + 1, 0, none⟩)], bv (b, .slice ra b.recs.length rc), undef, undef, undef, undef, undef], defers := [] } _ ((KeepsOthers.alloc W _).from _) (Kp.below hA.box.lt hb) ⟨v, gb, hA.below hb⟩ (hc.below hb) ⟨W.heap.size, rfl, Blk.new _ _ _⟩)
    clear hA hc hK hb
    gi_wp2_with fail
    exact HF.out
  case body =>
    rintro l pre x a' W hl ⟨v, gb, hA⟩ hc ⟨b, rfl, hb⟩
    have hlen := hc.len
    have hA2 := hA.row
    obtain ⟨va, vc, rfl⟩ := hA2.form
    obtain ⟨m, hm⟩ : ∃ m, pre.length = m := ⟨_, rfl⟩
    rw [hm] at hA hA2 hlen
    have hfl2 := HFL.out
    have HBY : Hid ((m + 1) * 64 ≤ 140737488355328) := Lib.hid (by omega)
    have H63 : Hid (m + 1 ≤ 9223372036854775807) := Lib.hid (by omega)
    have c0 : W.cell? ⟨g, 0, none⟩ = some (.slice va m vc) := hA.box.cell rfl
    have e0 : W.cell? ⟨b, 0, none⟩ = some (.int .i64 x.1.base) := hb.cell rfl
    have e1 : W.cell? ⟨b, 1, none⟩ = some (.int .i64 x.1.count) := hb.cell rfl
    have e2 : W.cell? ⟨b, 2, none⟩ = some (.int .i64 x.1.prod) := hb.cell rfl
    have e3 : W.cell? ⟨b, 3, none⟩ = some (.int .i64 x.1.seq) := hb.cell rfl
    have e4 : W.cell? ⟨b, 4, none⟩ = some (.int .i64 x.1.time) := hb.cell rfl
    have e5 : W.cell? ⟨b, 5, none⟩ = some x.2 := hb.cell rfl
    have HSL : ∀ o, Hid (Sl (W.alloc o) (.slice va m vc) gb 34 6 m (pre.flatMap bc6)) := fun o => Lib.hid (hA2.same fun k hk => Below.heap_alloc _ _ _ (hA2.lt k hk))
    have HA := Lib.hid hA
    have HC := Lib.hid hc
    obtain ⟨⟨base, count, prod, seq, time, recs⟩, rv⟩ := x
    obtain ⟨ra, rc, hrv⟩ := hc.2.1.slice
    simp only at hrv
    subst hrv
    simp only at e0 e1 e2 e3 e4 e5
    obtain ⟨rl, hrl⟩ : ∃ rl, recs.length = rl := ⟨_, rfl⟩
    rw [hrl] at e5
    have HRL := Lib.hid hrl
    have HM := Lib.hid hm
    clear hA hA2 hc hb hlen hfl2
    gi_wp2_with (gi_at_builtin; refine wpListIn_append_sl (by rfl) _ _ _ (by rfl) 34 i0 (.agg zeroB) 6 64 Tryz.underlying29 hi0 hz0 hz1 hz2 rfl (.slice va m vc) gb m (pre.flatMap bc6) (by rfl) (HSL _).out ⟨W.heap.size, 0, none⟩ 1 1 [.int .i64 base, .int .i64 count, .int .i64 prod, .int .i64 seq, .int .i64 time, .slice ra rl rc] (by rfl) (by rfl) (HNW.out W #[.int .i64 base, .int .i64 count, .int .i64 prod, .int .i64 seq, .int .i64 time, .slice ra rl rc]) (by simp [Value.oneCell']) (by decide) HBY.out H63.out ?_)
    intro g9 q9 cap9 w9 gb9 hs9 hg9 hgb9 hn9
    rw [show ([.int .i64 base, .int .i64 count, .int .i64 prod, .int .i64 seq, .int .i64 time, .slice ra rl rc] : List Value) = bc6 (⟨base, count, prod, seq, time, recs⟩, .slice ra recs.length rc) by rw [HRL.out]; rfl] at hs9
    obtain ⟨hA9, hk9, k0, z0⟩ := HA.out.more HC.out (Nat.le_refl _) (by rw [HM.out]; exact hs9) _ hg9 hgb9 (by rw [World.size_alloc]; exact hn9)
    have hko : KeepsOthers W (w9.setCell ⟨g, 0, none⟩ (.slice (some ⟨g9, q9, none⟩) (m + 1) cap9)) := ((KeepsOthers.alloc W _).trans (KeepsOthers.of_grownBy hg9 fun j o hj ho => by
      obtain ⟨o', ho', hc'⟩ := (HSL _).out.cells hj
      rw [ho] at ho'
      cases ho'
      exact hc')).trans (KeepsOthers.setCell _ _ _)
    have HF := Lib.hid (And.intro (hko.from WL.heap.size) (And.intro hk9 hA9))
    clear hs9 hg9 hgb9 hn9 hA9 hk9 hko
    gi_wp2_with fail
    exact ⟨HF.out.1, HF.out.2.1, _, _, HF.out.2.2⟩
  case done =>
    rintro D xs W hD hS ⟨v, gb, hA⟩ hK
    have hA2 := hA.row
    obtain ⟨va, vc, rfl⟩ := hA2.form
    have c0 : W.cell? ⟨g, 0, none⟩ = some (.slice va xs.length vc) := hA.box.cell rfl
    have HA := Lib.hid hA
    have HK := Lib.hid hK
    have HD := Lib.hid hD
    have HS := Lib.hid hS
    obtain ⟨m, hm⟩ : ∃ m, xs.length = m := ⟨_, rfl⟩
    have HM := Lib.hid hm
    rw [hm] at c0
    clear hA hA2 hK hD hS hm
    gi_wp2_with fail
    refine ⟨by simp, .inl ⟨_, _, rfl, run_takeDeferred HK.out, ?_⟩⟩
    have hA3 := HA.out.turn (grownBy_putObj' W D (.deferred none)) (B := WL.heap.size) (by rw [HSZ.out]; omega) (fun r e => by cases e; exact ⟨HD.out, _, HK.out, rfl⟩)
    refine ⟨_, ?_, _, _, xs, rfl, hA3.row, fun b hb => (hA3.gbl b hb).1, fun p hp => (hA3.recs p hp).mono fun k hk => ⟨hk.1, hk.2.2⟩, HS.out, hA3.low⟩
    rw [HM.out]
    simp [results, Tryz.f34, go_sem]
  case stop =>
    rintro D c pre W _ _ hF _
    exact hF.elim
end Go.Proofs.YtdaoeplblkfapaaGreatDoor

/- strand's Read: what lies while it goes on. -/
namespace Go.Proofs.YtdaoeplblkfapaaGreatDoor
open Go.RowKit Go.Shelf

/-- While Read goes on: its four boxes, from block z on: the offset, how many, the answer, the list. -/
structure Rl (w : World) (z : Nat) (off most : Int) (ls : List Pl.Rc) (v : Value) (gb : Option Nat) (W : World) : Prop where
  low : Below z w W
  bo : Blk W z #[.int .i64 off] 3
  bm : Blk W (z + 1) #[.int .i64 most] 3
  res : ∃ u, Blk W (z + 2) #[u] 32
  box : Blk W (z + 3) #[v] 32
  row : Sl W v gb 75 4 ls.length (ls.flatMap cells4)
  gbl : ∀ k, gb = some k → z + 4 ≤ k
section
variable {w W W' : World} {z : Nat} {off most : Int} {ls : List Pl.Rc} {v : Value} {gb : Option Nat}
theorem Rl.turn {B : Nat} {row : Option Nat} (h : Rl w z off most ls v gb W) (hz : z ≤ w.heap.size) (hg : W.grownBy W' row) (hB : z ≤ B) (hr : ∀ r, row = some r → B ≤ r ∧ ∃ o : Obj, W.heap[r]? = some o ∧ o.isCells = false) : Rl w z off most ls v gb W' := by
  have hr2 := fun r e => (hr r e).2
  obtain ⟨u, hu⟩ := h.res
  refine ⟨h.low.grown hg (Nat.le_trans hz h.low.size) fun k e => Nat.le_trans hB (hr k e).1, h.bo.same (turn_block h.bo rfl hg hr2), h.bm.same (turn_block h.bm rfl hg hr2), ⟨u, hu.same (turn_block hu rfl hg hr2)⟩, h.box.same (turn_block h.box rfl hg hr2), h.row.same fun b hb => ?_, h.gbl⟩
  obtain ⟨o, ho, hc⟩ := h.row.cells hb
  exact turn_block ho hc hg hr2
theorem Rl.below (h : Rl w z off most ls v gb W) (hz : z ≤ w.heap.size) (b : Below W.heap.size W W') : Rl w z off most ls v gb W' :=
  let ⟨u, hu⟩ := h.res
  ⟨h.low.trans (b.mono (Nat.le_trans hz h.low.size)), h.bo.below b, h.bm.below b, ⟨u, hu.below b⟩, h.box.below b, h.row.same fun k hk => b.block k (h.row.lt k hk), h.gbl⟩
/-- A record more in the list. -/
theorem Rl.more {w2 : World} {x : Pl.Rc} {v' : Value} {gb' : Option Nat} {k' : Nat} (h : Rl w z off most ls v gb W) (hz : z ≤ w.heap.size)
    (hr : Sl w2 v' gb' 75 4 (ls.length + 1) (ls.flatMap cells4 ++ cells4 x)) (o : Obj) (hg : (W.alloc o).grownBy w2 gb) (hgb : gb' = some k') (hn : gb' = gb ∨ (W.alloc o).heap.size ≤ k') :
    Rl w z off most (ls ++ [x]) v' gb' (w2.setCell ⟨z + 3, 0, none⟩ v') ∧ Kp (z + 3) (fun b => b = z + 2) W (w2.setCell ⟨z + 3, 0, none⟩ v') ∧ w2.cell? ⟨z + 3, 0, none⟩ = some v ∧ w2.frozen? ⟨z + 3, 0, none⟩ = false := by
  have hb1 : Below W.heap.size W (W.alloc o) := (Below.refl _ _).alloc (Nat.le_refl _) _
  have h1 := h.below hz hb1
  have hs1 : (W.alloc o).heap.size = W.heap.size + 1 := by simp
  have hne : ∀ j, j ≤ z + 3 → some j ≠ gb := fun j hj e => by have := h.gbl j e.symm; omega
  have hbox2 : Blk w2 (z + 3) #[v] 32 := h1.box.grown hg (hne _ (by omega))
  have hsz2 : (w2.setCell ⟨z + 3, 0, none⟩ v').heap.size = w2.heap.size := by simp [World.setCell]
  have hW4 : z + 3 < W.heap.size := h.box.lt
  have hnew : ∀ k, gb' = some k → gb = some k ∨ W.heap.size < k := fun k hk => by
    rcases hn with e | e
    · exact .inl (e ▸ hk)
    · rw [hgb] at hk; cases hk; exact .inr (by omega)
  have hgb' : ∀ k, gb' = some k → z + 4 ≤ k := fun k hk => by
    rcases hnew k hk with e | e
    · exact h.gbl k e
    · omega
  have hoth : ∀ k, k < W.heap.size → k ≠ z + 3 → gb ≠ some k → (w2.setCell ⟨z + 3, 0, none⟩ v').heap[k]? = W.heap[k]? := fun k hl h2 h3 =>
    (Below.heap_setCell _ _ _ _ h2).trans ((hg.block k (by omega) fun e => h3 e.symm).trans (hb1.block k hl))
  have hbk : bk W (z + 3) = gb := bk_box h.box h.row
  have hrow2 : Sl (w2.setCell ⟨z + 3, 0, none⟩ v') v' gb' 75 4 (ls.length + 1) (ls.flatMap cells4 ++ cells4 x) := hr.same fun k hk => Below.heap_setCell _ _ _ _ (by have := hgb' k hk; show k ≠ z + 3; omega)
  have hbk2 : bk (w2.setCell ⟨z + 3, 0, none⟩ v') (z + 3) = gb' := bk_box (hbox2.set (i := 0) v') hrow2
  obtain ⟨u, hu⟩ := h.res
  have keep : ∀ j, j ≤ z + 2 → (w2.setCell ⟨z + 3, 0, none⟩ v').heap[j]? = W.heap[j]? := fun j hj => hoth j (by omega) (by omega) fun e => hne j (by omega) e.symm
  refine ⟨⟨?_, h.bo.same (keep _ (by omega)), h.bm.same (keep _ (by omega)), ⟨u, hu.same (keep _ (by omega))⟩, hbox2.set (i := 0) v', ?_, hgb'⟩, ⟨by have := hg.size; omega, ?_, fun _ => ⟨v', (hbox2.set (i := 0) v').cell rfl⟩, fun b u hb hu _ h2 h3 => ?_⟩, hbox2.cell rfl, hbox2.free⟩
  · exact (h1.low.grown hg (Nat.le_trans hz h1.low.size) fun k hk => by have := h.gbl k hk; omega).setCell (p := ⟨z + 3, 0, none⟩) (by show z ≤ z + 3; omega) _
  · rw [List.length_append, List.flatMap_append, show [x].flatMap cells4 = cells4 x by simp]
    exact hrow2
  · rw [hbk, hbk2]
    rcases hn with e | e
    · exact .inl e
    · exact .inr ⟨k', hgb, by omega, by rw [hsz2]; exact hr.lt k' hgb⟩
  · rw [hbk] at h3
    exact (hoth b (lt_of_block hb) h2 fun e => h3 e.symm).trans hb
/-- The answer is stored. -/
theorem Rl.answer (h : Rl w z off most ls v gb W) :
    Below z w (W.setCell ⟨z + 2, 0, none⟩ v) ∧ Blk (W.setCell ⟨z + 2, 0, none⟩ v) (z + 2) #[v] 32 ∧ Sl (W.setCell ⟨z + 2, 0, none⟩ v) v gb 75 4 ls.length (ls.flatMap cells4) ∧ (∃ u, W.cell? ⟨z + 2, 0, none⟩ = some u) ∧ W.frozen? ⟨z + 2, 0, none⟩ = false := by
  obtain ⟨u, hu⟩ := h.res
  exact ⟨h.low.setCell (p := ⟨z + 2, 0, none⟩) (by show z ≤ z + 2; omega) _, hu.set (i := 0) v, h.row.same fun k hk => Below.heap_setCell _ _ _ _ (by have := h.gbl k hk; show k ≠ z + 2; omega), ⟨u, hu.cell rfl⟩, hu.free⟩
end
/-- What holds between two rounds; what holds when the answer stands. -/
def RlI (w : World) (z : Nat) (off : Int) (mo : Nat) (l : List Pl.Rc) (W : World) : Prop := ∃ v gb, Rl w z off mo (fromF off l) v gb W ∧ (fromF off l).length ≤ mo
def RlX (w : World) (z : Nat) (off : Int) (mo : Nat) (l : List Pl.Rc) (W : World) : Prop :=
  ∃ v gb, Below z w W ∧ Blk W (z + 2) #[v] 32 ∧ Sl W v gb 75 4 ((fromF off l).take mo).length (((fromF off l).take mo).flatMap cells4) ∧ (∀ b, gb = some b → z ≤ b) ∧ mo ≤ (fromF off l).length
/-- .. in the middle of a batch. -/
def RlJ (w : World) (z : Nat) (off : Int) (mo : Nat) (l : List Pl.Rc) (W0 W : World) : Prop := RlI w z off mo l W ∧ Kp (z + 3) (fun b => b = z + 2) W0 W ∧ KeepsOthers W0 W
end Go.Proofs.YtdaoeplblkfapaaGreatDoor
