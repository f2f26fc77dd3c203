import Derived.Test.YtdaoeplblkfapaaGreatDoorM24
import Derived.Test.YtdaoeplblkfapaaGreatDoorM17
import Derived.Test.YtdaoeplblkfapaaGreatDoorM09
import Derived.Test.YtdaoeplblkfapaaGreatDoorM01
import Derived.Test.YtdaoeplblkfapaaGreatDoorM02
import Derived.Deep.RegionHeld3
import Derived.Deep.RegionWith
import Derived.Lib.QuietBelow
import Derived.BigQuiet
import Derived.IntWalk
import Derived.Deep.QuietTactic
import Derived.Lib.SmallJoins

/- Drop and Seg as the laws meet them. -/
namespace Go.Proofs.YtdaoeplblkfapaaGreatDoor
open Go.RowKit

theorem drop_end {G : List Sg} {k : Nat} (h : k < G.length) : gsEnd (G.drop k) = gsEnd G := by
  rcases snoc_or G with rfl | ⟨A, g, rfl⟩
  · simp at h
  · rw [List.length_append] at h
    simp only [List.length_cons, List.length_nil] at h
    rw [List.drop_append_of_le_length (by omega), gsEnd_snoc, gsEnd_snoc]
theorem drop_start {G : List Sg} {k : Nat} {g : Sg} (h : G[k]? = some g) : gsStart (G.drop k) = g.first := by
  obtain ⟨hk, e⟩ := List.getElem?_eq_some_iff.1 h
  rw [List.drop_eq_getElem_cons hk, e]
  rfl
theorem push_ne {G : List Sg} {sv : Int} {b : Pl.Bt} (h : ∀ g ∈ G, g.l ≠ []) : ∀ g ∈ push G sv b, g.l ≠ [] := by
  intro g hg
  rcases snoc_or G with rfl | ⟨A, x, rfl⟩
  · have : g = ⟨b.base, [b]⟩ := List.mem_singleton.1 (show g ∈ [(⟨b.base, [b]⟩ : Sg)] from hg)
    subst this
    simp
  · by_cases hc : ((frs x.l).length : Int) < sv
    · rw [push_some hc] at hg
      rcases List.mem_append.1 hg with hg | hg
      · exact h g (List.mem_append.2 (.inl hg))
      · rw [List.mem_singleton.1 hg]; simp
    · rw [push_more hc] at hg
      rcases List.mem_append.1 hg with hg | hg
      · exact h g hg
      · rw [List.mem_singleton.1 hg]; simp
section
variable {w0 W : World} {t s m l : Nat} {E : En} {G : List Sg} {Q : Nat → Prop} {y : Bool}
theorem Opd.drop_bad (L : Opd w0 t s E m l G Q y W) (nn : Nat) (hnn : G.length - 1 < nn) :
    Calls Tryz.prog 41 #[.pointer (some ⟨s, 0, none⟩), .int .i64 nn] W fun e W' => e = .returned (.int .i64 1) ∧ Below W.heap.size W W' := by
  obtain ⟨B, f, tot, n, c, K, sf, h1, rfl, h3, h4, h5⟩ := L
  have hlm := h1.life
  have hmx := h1.max_
  have hok3 := h1.ok.2.2.1
  have e : K.G.length = K.X.length := List.length_map _
  exact dropS_bad h1.sd h1.run.life (by show l ≤ _; omega) h1.small.1 nn (by omega)
theorem Opd.drop (L : Opd w0 t s E m l G Q y W) (hm : m < E.M) (nn : Nat) (hnn : nn ≤ G.length - 1) :
    Calls Tryz.prog 41 #[.pointer (some ⟨s, 0, none⟩), .int .i64 nn] W fun e W' => e = .returned (.int .i64 0) ∧ Opd w0 t s E (m + 1) l (G.drop nn) (fun k => Q k ∧ k < W.heap.size) false W' ∧ Kq (fun k => Q k ∧ k < W.heap.size) W W' := by
  obtain ⟨B, f, tot, n, c, K, sf, h1, rfl, h3, h4, h5⟩ := L
  have hlm := h1.life
  have hmx := h1.max_
  have hok3 := h1.ok.2.2.1
  have hX := h1.X
  have hsz := h1.sizes
  have e : K.G.length = K.X.length := List.length_map _
  refine (dropS_any h1.sd h1.lbW h1.b8 (by have := h1.ok.2.1; show E.P.length ≤ 1048576; omega) h1.log h1.fit h1.run.life h1.run (by omega) (by show l ≤ _; omega) h1.fl nn (by omega)).mono ?_
  rintro e W' ⟨B', f', tot', n', c', K', er, rfl, hmv, hsd, ht, hn, hr, hor⟩
  rcases hor with ⟨rfl, hG, hfl, hrun, ha⟩ | ⟨-, -, -, -, hna⟩
  · refine ⟨rfl, ⟨B', f', tot', n', c', K', sf, ⟨hsd, h1.lb, moved_low h1.new h1.low hmv, moved_new h1.new h1.low.size hmv, ?_, by rw [hG]; exact hfl, hrun.more (by omega), by rw [hr, h1.room], ?_, by omega, by omega, h1.ok⟩, hG, ha h3, hmv.keepQ h4, fun h => by cases h⟩, Kq.moved hmv fun k hk => h4 k hk.1⟩
    · rw [hG]; exact Log.right (G := K.G.take nn) (by rw [List.take_append_drop]; exact h1.log)
    · rw [hG]
      have e2 : (fla K.G).length = (fla (K.G.take nn)).length + (fla (K.G.drop nn)).length := by rw [← List.length_append, ← fla_append, List.take_append_drop]
      have := h1.len
      omega
  · exact absurd h3 hna
theorem Opd.seg (L : Opd w0 t s E m l G Q y W) {j : Nat} {g : Sg} (hg : G[j]? = some g) :
    Calls Tryz.prog 38 #[.pointer (some ⟨s, 0, none⟩), .int .i64 j] W (Clones W g.l) := by
  obtain ⟨B, f, tot, n, c, K, sf, h1, rfl, h3, h4, h5⟩ := L
  obtain ⟨x, hx, rfl⟩ : ∃ x, K.X[j]? = some x ∧ x.sg = g := by
    rw [show K.G[j]? = K.X[j]?.map Sx.sg from List.getElem?_map ..] at hg
    cases hx : K.X[j]? with
    | none => rw [hx] at hg; cases hg
    | some x => rw [hx] at hg; exact ⟨x, rfl, Option.some.inj hg⟩
  have hm := List.mem_of_getElem? hx
  refine seg_in h1.sd.lies hx h1.small.1 (h1.small.2 x hm) fun p hp => ?_
  have hgd : Pl.goodB p.1 = true := h1.log.good _ (List.mem_flatMap.2 ⟨x.sg, List.mem_map.2 ⟨x, hm, rfl⟩, List.mem_map.2 ⟨p, hp, rfl⟩⟩)
  have := (Pl.enc_short hgd).2.2
  omega
end
end Go.Proofs.YtdaoeplblkfapaaGreatDoor

/- THE CONTRACTS OF the document's num, rec, Fits. -/
namespace Go.Proofs.YtdaoeplblkfapaaGreatDoor
open Go.RowKit

set_option maxHeartbeats 400000 in
theorem rnum (n : Int) (w : World) :
    Calls Tryz.prog 138 #[.int .i64 n] w fun e w' => e = .returned (.bool (Pl.numB n)) ∧ w = w' := by
  by_cases h0 : 0 ≤ n
  · by_cases h1 : n ≤ 1099511627776
    · rw [show Pl.numB n = true from Pl.numB_iff.2 ⟨h0, h1⟩]
      go_enter Tryz.func138, Tryz.ntmps138
      go_wp2
      go_ret
      exact ⟨rfl, rfl⟩
    · rw [show Pl.numB n = false from Bool.eq_false_iff.2 fun h => h1 (Pl.numB_iff.1 h).2]
      have h2 : decide (n ≤ 1099511627776) = false := decide_eq_false h1
      go_enter Tryz.func138, Tryz.ntmps138
      go_wp2
      go_ret
      exact ⟨rfl, rfl⟩
  · rw [show Pl.numB n = false from Bool.eq_false_iff.2 fun h => h0 (Pl.numB_iff.1 h).1]
    have h2 : decide (0 ≤ n) = false := decide_eq_false h0
    go_enter Tryz.func138, Tryz.ntmps138
    go_wp2
    go_ret
    exact ⟨rfl, rfl⟩

set_option maxHeartbeats 400000 in
theorem rrec (x : Pl.Rc) (w : World) :
    Calls Tryz.prog 139 #[.agg #[.int .i64 x.off, .string ⟨x.key.toArray⟩, .string ⟨x.val.toArray⟩, .bool x.gone]] w fun e w' => e = .returned (.bool (Pl.recB x)) ∧ Below w.heap.size w w' := by
  obtain ⟨o, k, v, g⟩ := x
  obtain ⟨K, hK⟩ : ∃ K : ByteArray, (⟨k.toArray⟩ : ByteArray) = K := ⟨_, rfl⟩
  obtain ⟨V, hV⟩ : ∃ V : ByteArray, (⟨v.toArray⟩ : ByteArray) = V := ⟨_, rfl⟩
  show Calls _ _ #[.agg #[.int .i64 o, .string ⟨k.toArray⟩, .string ⟨v.toArray⟩, .bool g]] w _
  rw [hK, hV]
  have hks : k.length = K.size := by rw [← hK]; show _ = k.toArray.size; simp
  have hvs : v.length = V.size := by rw [← hV]; show _ = v.toArray.size; simp
  have hve : v.isEmpty = V.toList.isEmpty := by rw [ByteArray.toList_eq, ← hV]
  obtain ⟨r, hr⟩ : ∃ r, Pl.recB ⟨o, k, v, g⟩ = r := ⟨_, rfl⟩
  rw [hr]
  have hr2 : r = (decide (K.size ≤ 16 ∧ V.size ≤ 64) && (!g || V.toList.isEmpty)) := by rw [← hr, ← hks, ← hvs, ← hve]; rfl
  rw [hr2]
  clear hr hr2 hks hvs hve hK hV
  by_cases h1 : K.size ≤ 16
  · by_cases h2 : V.size ≤ 64
    · cases g with
      | false =>
        go_enter Tryz.func139, Tryz.ntmps139
        go_wp2
        go_ret
        exact ⟨congrArg (fun b => Ending.returned (.bool b)) (by simp [h1, h2]), (Below.refl _ _).alloc (Nat.le_refl _) _⟩
      | true =>
        go_enter Tryz.func139, Tryz.ntmps139
        go_wp2
        go_ret
        exact ⟨congrArg (fun b => Ending.returned (.bool b)) (by simp [h1, h2]), (Below.refl _ _).alloc (Nat.le_refl _) _⟩
    · have h3 : decide (V.size ≤ 64) = false := decide_eq_false h2
      go_enter Tryz.func139, Tryz.ntmps139
      go_wp2
      go_ret
      exact ⟨congrArg (fun b => Ending.returned (.bool b)) (by simp), (Below.refl _ _).alloc (Nat.le_refl _) _⟩
  · have h3 : decide (K.size ≤ 16) = false := decide_eq_false h1
    go_enter Tryz.func139, Tryz.ntmps139
    go_wp2
    go_ret
    exact ⟨congrArg (fun b => Ending.returned (.bool b)) (by simp), (Below.refl _ _).alloc (Nat.le_refl _) _⟩

end Go.Proofs.YtdaoeplblkfapaaGreatDoor

/- THE CONTRACT OF the document's Good. -/
namespace Go.Proofs.YtdaoeplblkfapaaGreatDoor
open Go.RowKit

theorem cells_six (w : World) (x0 x1 x2 x3 x4 x5 : Value) (T : TypeId) : (w.alloc (.cells #[x0, x1, x2, x3, x4, x5] T)).cell? ⟨w.heap.size, 0, none⟩ = some x0 ∧ (w.alloc (.cells #[x0, x1, x2, x3, x4, x5] T)).cell? ⟨w.heap.size, 1, none⟩ = some x1 ∧ (w.alloc (.cells #[x0, x1, x2, x3, x4, x5] T)).cell? ⟨w.heap.size, 5, none⟩ = some x5 := by
  have h := heap_alloc_new w (.cells #[x0, x1, x2, x3, x4, x5] T)
  refine ⟨?_, ?_, ?_⟩ <;> (unfold World.cell?; rw [h]; rfl)

set_option maxHeartbeats 2000000 in
set_option maxRecDepth 100000 in
theorem rgood (base count prod seq time : Int) (ls : List Pl.Rc) (v : Value) (w : World) (h : Recs v ls w) (hl : ls.length ≤ 1099511627776) (hc : Pl.I64 count) (hb : Pl.I64 base) :
    Calls Tryz.prog 99 #[.agg #[.int .i64 base, .int .i64 count, .int .i64 prod, .int .i64 seq, .int .i64 time, v]] w fun e w' => e = .returned (.bool (Pl.goodB ⟨base, count, prod, seq, time, ls⟩)) ∧ Below w.heap.size w w' := by
  obtain ⟨m, hm⟩ : ∃ m, ls.length = m := ⟨_, rfl⟩
  obtain ⟨r, hr⟩ : ∃ r, Pl.goodB ⟨base, count, prod, seq, time, ls⟩ = r := ⟨_, rfl⟩
  have HG : Hid ((Pl.numB base && decide (1 ≤ count ∧ count ≤ 8 ∧ base ≤ 1099511627776 - count) && Pl.numB prod && Pl.numB seq && Pl.numB time && decide ((m : Int) ≤ count) && Pl.riseB ls (base - 1) (base + count)) = r) := by rw [← hr, ← hm]; rfl
  rw [hr]
  obtain ⟨a, cap, rfl, hcell⟩ := h
  rw [hm] at hl ⊢
  have HM := Lib.hid hm
  have HC := Lib.hid hcell
  have hw0 : Below w.heap.size w (w.alloc (.cells #[.int .i64 base, .int .i64 count, .int .i64 prod, .int .i64 seq, .int .i64 time, .slice a m cap] 34)) := (Below.refl _ _).alloc (Nat.le_refl _) _
  have HW0 := Lib.hid hw0
  have HCB := Lib.hid hc
  have HBB := Lib.hid hb
  clear hm hr hcell hc hb hw0
  cases n1 : Pl.numB base with
  | false =>
    go_enter Tryz.func99, Tryz.ntmps99
    go_wp2_with (go_at_call 138; refine (rnum _ _).mono ?_; rintro e w' ⟨rfl, rfl⟩)
    go_ret
    exact ⟨congrArg (fun b => Ending.returned (.bool b)) (by rw [← HG.out, n1]; simp), HW0.out⟩
  | true =>
    have hbase := Pl.numB_iff.1 n1
    by_cases n2 : count < 1
    · skip
      go_enter Tryz.func99, Tryz.ntmps99
      go_wp2_with (go_at_call 138; refine (rnum _ _).mono ?_; rintro e w' ⟨rfl, rfl⟩)
      go_ret
      exact ⟨congrArg (fun b => Ending.returned (.bool b)) (by rw [← HG.out, decide_eq_false (show ¬ (1 ≤ count ∧ count ≤ 8 ∧ base ≤ 1099511627776 - count) by omega)]; simp), HW0.out⟩
    · by_cases n2b : 8 < count
      · skip
        go_enter Tryz.func99, Tryz.ntmps99
        go_wp2_with (go_at_call 138; refine (rnum _ _).mono ?_; rintro e w' ⟨rfl, rfl⟩)
        go_ret
        exact ⟨congrArg (fun b => Ending.returned (.bool b)) (by rw [← HG.out, decide_eq_false (show ¬ (1 ≤ count ∧ count ≤ 8 ∧ base ≤ 1099511627776 - count) by omega)]; simp), HW0.out⟩
      · by_cases n3 : 1099511627776 - count < base
        · skip
          go_enter Tryz.func99, Tryz.ntmps99
          go_wp2_with (go_at_call 138; refine (rnum _ _).mono ?_; rintro e w' ⟨rfl, rfl⟩)
          go_ret
          exact ⟨congrArg (fun b => Ending.returned (.bool b)) (by rw [← HG.out, decide_eq_false (show ¬ (1 ≤ count ∧ count ≤ 8 ∧ base ≤ 1099511627776 - count) by omega)]; simp), HW0.out⟩
        · cases n4 : Pl.numB prod with
          | false =>
            go_enter Tryz.func99, Tryz.ntmps99
            go_wp2_with (go_at_call 138; refine (rnum _ _).mono ?_; rintro e w' ⟨rfl, rfl⟩)
            go_ret
            exact ⟨congrArg (fun b => Ending.returned (.bool b)) (by rw [← HG.out, n4]; simp), HW0.out⟩
          | true =>
            cases n5 : Pl.numB seq with
            | false =>
              go_enter Tryz.func99, Tryz.ntmps99
              go_wp2_with (go_at_call 138; refine (rnum _ _).mono ?_; rintro e w' ⟨rfl, rfl⟩)
              go_ret
              exact ⟨congrArg (fun b => Ending.returned (.bool b)) (by rw [← HG.out, n5]; simp), HW0.out⟩
            | true =>
              cases n6 : Pl.numB time with
              | false =>
                go_enter Tryz.func99, Tryz.ntmps99
                go_wp2_with (go_at_call 138; refine (rnum _ _).mono ?_; rintro e w' ⟨rfl, rfl⟩)
                go_ret
                exact ⟨congrArg (fun b => Ending.returned (.bool b)) (by rw [← HG.out, n6]; simp), HW0.out⟩
              | true =>
                by_cases n7 : (m : Int) ≤ count
                · skip
                  go_enter Tryz.func99, Tryz.ntmps99
                  go_wp2_with (go_at_call 138; refine (rnum _ _).mono ?_; rintro e w' ⟨rfl, rfl⟩)
                  obtain ⟨d0, d1, d5⟩ := cells_six w (.int .i64 base) (.int .i64 count) (.int .i64 prod) (.int .i64 seq) (.int .i64 time) (.slice a m cap) 34
                  have HG2 : Hid (Pl.riseB ls (base - 1) (base + count) = r) := by
                    show Pl.riseB ls (base - 1) (base + count) = r
                    have h := HG.out
                    rw [n1, decide_eq_true (show 1 ≤ count ∧ count ≤ 8 ∧ base ≤ 1099511627776 - count by omega), n4, n5, n6, decide_eq_true n7] at h
                    simpa using h
                  have HS0 : (w.alloc (.cells #[.int .i64 base, .int .i64 count, .int .i64 prod, .int .i64 seq, .int .i64 time, .slice a m cap] 34)).heap.size = w.heap.size + 1 := by simp
                  generalize w.alloc (.cells #[.int .i64 base, .int .i64 count, .int .i64 prod, .int .i64 seq, .int .i64 time, .slice a m cap] 34) = W0 at *
                  have HD0 := Lib.hid d0
                  have HD1 := Lib.hid d1
                  have HD5 := Lib.hid d5
                  have HSZ := Lib.hid HS0
                  clear d0 d1 d5 HS0 HG n1 n4 n5 n6
                  go_loopw [3, 4] (fun lv iv wr => ∃ (k : Nat) (last : Int), k ≤ m ∧ iv = .int .i64 k ∧ lv = .int .i64 last ∧ Pl.riseB (ls.drop k) last (base + count) = r ∧ Below W0.heap.size W0 wr) (fun _ iv _ => m - (intOf iv).toNat)
                  case atStart => exact ⟨0, base - 1, Nat.zero_le _, rfl, rfl, HG2.out, Below.refl _ _⟩
                  case round =>
                    obtain ⟨k, last, hk, rfl, rfl, hrise, hb⟩ := hrel
                    have HB := Lib.hid hb
                    have HRI := Lib.hid hrise
                    have e : ∀ o, wr.cell? ⟨w.heap.size, o, none⟩ = W0.cell? ⟨w.heap.size, o, none⟩ := fun o => HB.out.cell (p := ⟨w.heap.size, o, none⟩) (by have := HSZ.out; show w.heap.size < _; omega)
                    have d0 := (e _).trans HD0.out
                    have d1 := (e _).trans HD1.out
                    have d5 := (e _).trans HD5.out
                    clear hb hrise e
                    by_cases hlt : k < m
                    · obtain ⟨x, hg⟩ : ∃ x, ls[k]? = some x := ⟨_, List.getElem?_eq_getElem (by rw [HM.out]; exact hlt)⟩
                      obtain ⟨b, off, rfl, hbl, c0, c1, c2, c3⟩ := HC.out k x hg
                      have e : ∀ o, wr.cell? ⟨b, o, none⟩ = w.cell? ⟨b, o, none⟩ := fun o => ((HW0.out.trans (HB.out.mono HW0.out.size)).cell (p := ⟨b, o, none⟩) hbl)
                      rw [← e] at c0 c1 c2 c3
                      have hdr : ls.drop k = x :: ls.drop (k + 1) := by
                        have h1 := List.drop_eq_getElem_cons (l := ls) (i := k) (by rw [HM.out]; exact hlt)
                        rw [h1, Option.some.inj ((List.getElem?_eq_getElem (by rw [HM.out]; exact hlt)).symm.trans hg)]
                      have HR2 : Hid ((Pl.recB x && decide (last < x.off ∧ x.off < base + count) && Pl.riseB (ls.drop (k + 1)) x.off (base + count)) = r) := by rw [← HRI.out, hdr]; rfl
                      have k0 := cell_regrown d0
                      have k1 := cell_regrown d1
                      have k5 := cell_regrown d5
                      have q0 := cell_regrown c0
                      have q1 := cell_regrown c1
                      have q2 := cell_regrown c2
                      have q3 := cell_regrown c3
                      have cR : ∀ d os, Calls Tryz.prog 139 #[.agg #[.int .i64 x.off, .string ⟨x.key.toArray⟩, .string ⟨x.val.toArray⟩, .bool x.gone]] (Sort.grow (redrawn wr d) os) fun e w'' => e = .returned (.bool (Pl.recB x)) ∧ ∃ p : Regrown, w'' = Sort.grow (redrawn wr p.d) p.os := fun d os => Calls.regrown_of (rrec x _)
                      clear hdr e hg hbl
                      cases hx : Pl.recB x with
                      | true =>
                        rw [hx] at cR
                        have HX := Lib.hid hx
                        have HCR := Lib.hid cR
                        clear hx cR
                        have hsum : IntKind.i64.wrap (base + count) = base + count := IntWalk.i64_in _ (by omega)
                        by_cases ho : x.off ≤ last
                        · have ho2 : decide (x.off ≤ last) = true := decide_eq_true ho
                          have HO := Lib.hid ho
                          clear ho
                          go_wp2_with fail
                          refine wp_region_quiet_below (by kernel_rfl) (by kernel_rfl) ?_
                          repeat (go_big_quiet_step (exact HCR.out _ _))
                          refine wpQuiet_nil ?_
                          intro _ hw'
                          obtain ⟨⟨dq, osq⟩, hw''⟩ := hw'
                          subst hw''
                          go_wp2_with fail
                          go_ret
                          exact ⟨congrArg (fun b => Ending.returned (.bool b)) (by rw [← HR2.out, HX.out, decide_eq_false (show ¬ (last < x.off ∧ x.off < base + count) from fun h => absurd HO.out (by omega))]; rfl), HW0.out.trans ((HB.out.trans ((below_regrown wr dq osq).mono HB.out.size)).mono HW0.out.size)⟩
                        · have ho2 : decide (x.off ≤ last) = false := decide_eq_false ho
                          have HO := Lib.hid ho
                          clear ho
                          by_cases hu : base + count ≤ x.off
                          · have hu2 : decide (base + count ≤ x.off) = true := decide_eq_true hu
                            have HU := Lib.hid hu
                            clear hu
                            go_wp2_with fail
                            refine wp_region_quiet_below (by kernel_rfl) (by kernel_rfl) ?_
                            repeat (go_big_quiet_step (exact HCR.out _ _))
                            refine wpQuiet_nil ?_
                            intro _ hw'
                            obtain ⟨⟨dq, osq⟩, hw''⟩ := hw'
                            subst hw''
                            go_wp2_with fail
                            go_ret
                            exact ⟨congrArg (fun b => Ending.returned (.bool b)) (by rw [← HR2.out, HX.out, decide_eq_false (show ¬ (last < x.off ∧ x.off < base + count) from fun h => absurd HU.out (by omega))]; rfl), HW0.out.trans ((HB.out.trans ((below_regrown wr dq osq).mono HB.out.size)).mono HW0.out.size)⟩
                          · have hu2 : decide (base + count ≤ x.off) = false := decide_eq_false hu
                            have HU := Lib.hid hu
                            clear hu
                            go_wp2_with fail
                            refine wp_region_quiet_below (by kernel_rfl) (by kernel_rfl) ?_
                            repeat (go_big_quiet_step (exact HCR.out _ _))
                            refine wpQuiet_nil ?_
                            intro _ hw'
                            obtain ⟨⟨dq, osq⟩, hw''⟩ := hw'
                            subst hw''
                            have HBB2 := Lib.hid (HB.out.trans ((below_regrown wr dq osq).mono HB.out.size))
                            go_wp2_with fail
                            go_roundw
                            case rel => exact ⟨k + 1, x.off, by omega, by go_num, rfl, by rw [← HR2.out, HX.out, decide_eq_true (show last < x.off ∧ x.off < base + count from ⟨by have := HO.out; omega, by have := HU.out; omega⟩)]; rfl, HBB2.out⟩
                            case measure => simp [intOf]; omega
                      | false =>
                        rw [hx] at cR
                        have HX := Lib.hid hx
                        have HCR := Lib.hid cR
                        clear hx cR
                        go_wp2_with fail
                        refine wp_region_quiet_below (by kernel_rfl) (by kernel_rfl) ?_
                        repeat (go_big_quiet_step (exact HCR.out _ _))
                        refine wpQuiet_nil ?_
                        intro _ hw'
                        obtain ⟨⟨dq, osq⟩, hw''⟩ := hw'
                        subst hw''
                        go_wp2_with fail
                        go_ret
                        exact ⟨congrArg (fun b => Ending.returned (.bool b)) (by rw [← HR2.out, HX.out]; rfl), HW0.out.trans ((HB.out.trans ((below_regrown wr dq osq).mono HB.out.size)).mono HW0.out.size)⟩
                    · go_wp2_with fail
                      go_ret
                      have h := HRI.out
                      rw [List.drop_of_length_le (by rw [HM.out]; omega)] at h
                      exact ⟨congrArg (fun b => Ending.returned (.bool b)) (by rw [← h]; rfl), HW0.out.trans (HB.out.mono HW0.out.size)⟩
                · skip
                  go_enter Tryz.func99, Tryz.ntmps99
                  go_wp2_with (go_at_call 138; refine (rnum _ _).mono ?_; rintro e w' ⟨rfl, rfl⟩)
                  go_ret
                  exact ⟨congrArg (fun b => Ending.returned (.bool b)) (by rw [← HG.out, decide_eq_false (show ¬ (m : Int) ≤ count by omega)]; simp), HW0.out⟩
end Go.Proofs.YtdaoeplblkfapaaGreatDoor

/- The document's own digits (heliographref01.digits, Int, Text): the decimal numeral. -/
namespace Go.Proofs.YtdaoeplblkfapaaGreatDoor
open Go.RowKit

/-- The ten digits. -/
def tenDigits : ByteArray := ⟨#[48, 49, 50, 51, 52, 53, 54, 55, 56, 57]⟩
theorem ten_fin : ∀ i : Fin 10, (tenDigits.data.toList.drop i.val).take 1 = [UInt8.ofNat (48 + i.val)] := by decide +kernel
theorem ten_at (i : Nat) (h : i < 10) : tenDigits.extract i (i + 1) = ⟨[UInt8.ofNat (48 + i)].toArray⟩ := by
  apply ofList_eq
  rw [Lib.extract_data, show i + 1 - i = 1 by omega]
  exact (ten_fin ⟨i, h⟩).symm

set_option maxHeartbeats 1000000 in
theorem digits_any (u : Nat) : u < 18446744073709551616 → ∀ (w : World), Calls Tryz.prog 140 #[.int .u64 u] w fun e w' => e = .returned (.string ⟨(Lib.decDigits u).toArray⟩) ∧ ∃ n, w' = w.drewN n := by
  induction u using Nat.strongRecOn with
  | _ u ih =>
    intro hu w
    by_cases h : u < 10
    · have hten := ten_at u h
      have hd := Lib.decDigits_one h
      have HD := Lib.hid hd
      have HT := Lib.hid hten
      clear hten hd ih
      go_enter Tryz.func140, Tryz.ntmps140
      go_wp2
      go_ret
      exact ⟨congrArg (fun x => Ending.returned (.string x)) (by rw [HD.out]; exact HT.out), 0, rfl⟩
    · have ihq := ih (u / 10) (by omega) (by omega)
      obtain ⟨q, hq0⟩ : ∃ q, u / 10 = q := ⟨_, rfl⟩
      obtain ⟨r, hr0⟩ : ∃ r, u % 10 = r := ⟨_, rfl⟩
      have hr10 : r < 10 := by omega
      have hq : (u : Int) / 10 = (q : Int) := by omega
      have hr : (u : Int) % 10 = (r : Int) := by omega
      have hten : (⟨#[48, 49, 50, 51, 52, 53, 54, 55, 56, 57]⟩ : ByteArray).extract r (r + 1) = ⟨#[UInt8.ofNat (48 + r)]⟩ := ten_at r hr10
      have hd : Lib.decDigits u = Lib.decDigits q ++ [UInt8.ofNat (48 + r)] := by rw [Lib.decDigits, dif_neg h, hq0, hr0]
      have hlen := Lib.nDigits_le20 q (by omega)
      rw [← Lib.decDigits_length] at hlen
      rw [hq0] at ihq
      obtain ⟨l, hl⟩ : ∃ l, l = Lib.decDigits q := ⟨_, rfl⟩
      obtain ⟨c, hc⟩ : ∃ c, c = UInt8.ofNat (48 + r) := ⟨_, rfl⟩
      rw [← hl] at hlen ihq hd
      rw [← hc] at hd hten
      have HD := Lib.hid hd
      have IH := Lib.hid ihq
      clear ih ihq hd hl hc hq0 hr0
      go_enter Tryz.func140, Tryz.ntmps140
      go_wp2_with fail
      go_quiet ((go_at_call 140; exact Calls.quiet_of (IH.out _)))
      go_wp2_with fail
      go_ret
      exact ⟨congrArg (fun x => Ending.returned (.string x)) (by rw [HD.out]; exact app_mk l [c]), nq, rfl⟩

theorem below_of_drewN {w w' : World} (h : ∃ n, w' = w.drewN n) : Below w.heap.size w w' := by
  obtain ⟨n, rfl⟩ := h
  exact below_drewN w n

set_option maxHeartbeats 1000000 in
/-- heliographref01.Int. -/
theorem ref_int (n : Int) (hn : Pl.I64 n) (w : World) :
    Calls Tryz.prog 100 #[.int .i64 n] w fun e w' => e = .returned (.string ⟨(Pl.wInt n).toArray⟩) ∧ Below w.heap.size w w' := by
  obtain ⟨h0, h1⟩ := hn
  by_cases hneg : n < 0
  · have hw : Pl.wInt n = 105 :: 45 :: (Lib.decDigits n.natAbs ++ [101]) := by
      unfold Pl.wInt Lib.itoa
      rw [if_pos hneg]
      rfl
    have C := digits_any n.natAbs (by omega)
    have hlen := Lib.nDigits_le20 n.natAbs (by omega)
    rw [← Lib.decDigits_length] at hlen
    obtain ⟨l, hl⟩ : ∃ l, l = Lib.decDigits n.natAbs := ⟨_, rfl⟩
    rw [← hl] at C hw hlen
    have e1 : ((n.natAbs : Nat) : Int) = -(n + 1) + 1 := by omega
    rw [e1] at C
    have HC := Lib.hid C
    have HW := Lib.hid hw
    clear hl C hw e1
    go_enter Tryz.func100, Tryz.ntmps100
    go_wp2_with fail
    refine (HC.out _).mono ?_
    rintro e w1 ⟨rfl, h2⟩
    have hb := below_of_drewN h2
    clear h2
    go_wp2_with fail
    all_goals first | (exfalso; omega) | skip
    go_ret
    exact ⟨congrArg (fun x => Ending.returned (.string x)) (by rw [HW.out]; exact (congrArg (· ++ _) (app_mk [105, 45] _)).trans (app_mk _ [101])), hb⟩
  · have hw : Pl.wInt n = 105 :: (Lib.decDigits n.toNat ++ [101]) := by
      unfold Pl.wInt Lib.itoa
      rw [if_neg hneg]
    have C := digits_any n.toNat (by omega)
    have hlen := Lib.nDigits_le20 n.toNat (by omega)
    rw [← Lib.decDigits_length] at hlen
    obtain ⟨l, hl⟩ : ∃ l, l = Lib.decDigits n.toNat := ⟨_, rfl⟩
    rw [← hl] at C hw hlen
    have e1 : ((n.toNat : Nat) : Int) = n := by omega
    rw [e1] at C
    have HC := Lib.hid C
    have HW := Lib.hid hw
    clear hl C hw e1
    go_enter Tryz.func100, Tryz.ntmps100
    go_wp2_with fail
    refine (HC.out _).mono ?_
    rintro e w1 ⟨rfl, h2⟩
    have hb := below_of_drewN h2
    clear h2
    go_wp2_with fail
    all_goals first | (exfalso; omega) | skip
    go_ret
    exact ⟨congrArg (fun x => Ending.returned (.string x)) (by rw [HW.out]; exact (congrArg (· ++ _) (app_mk [105] _)).trans (app_mk _ [101])), hb⟩

set_option maxHeartbeats 1000000 in
/-- heliographref01.Text. -/
theorem ref_text (s : ByteArray) (hs : s.size ≤ 281474976710656) (w : World) :
    Calls Tryz.prog 101 #[.string s] w fun e w' => e = .returned (.string ⟨(Pl.wText s.data.toList).toArray⟩) ∧ Below w.heap.size w w' := by
  have hlen := Lib.nDigits_le20 s.size (by omega)
  rw [← Lib.decDigits_length] at hlen
  have hw := wText_eq s
  have hi : Lib.itoa s.size = Lib.decDigits s.size := by
    unfold Lib.itoa
    rw [if_neg (by omega)]
    rfl
  rw [hi] at hw
  have C := digits_any s.size (by omega)
  obtain ⟨l, hl⟩ : ∃ l, l = Lib.decDigits s.size := ⟨_, rfl⟩
  rw [← hl] at C hw hlen
  have HC := Lib.hid C
  have HW := Lib.hid hw
  clear hl C hw hi
  go_enter Tryz.func101, Tryz.ntmps101
  go_wp2_with fail
  refine (HC.out _).mono ?_
  rintro e w1 ⟨rfl, h2⟩
  have hb := below_of_drewN h2
  clear h2
  go_wp2_with fail
  all_goals first | (exfalso; omega) | skip
  go_ret
  exact ⟨congrArg (fun x => Ending.returned (.string x)) HW.out, hb⟩
end Go.Proofs.YtdaoeplblkfapaaGreatDoor

/- THE CONTRACT OF the document's Encode. -/
namespace Go.Proofs.YtdaoeplblkfapaaGreatDoor
open Go.RowKit

def zs (b : Pl.Bt) : List Int := [b.base, b.count, b.prod, b.seq, b.time]
def pre (b : Pl.Bt) (k : Nat) : List UInt8 := 108 :: ((zs b).take k).flatMap Pl.wInt
theorem pre_more (b : Pl.Bt) (k : Nat) (z : Int) (h : (zs b)[k]? = some z) : pre b (k + 1) = pre b k ++ Pl.wInt z := by
  unfold pre
  rw [List.take_add_one, h, List.flatMap_append]
  simp
theorem zs_good {b : Pl.Bt} (h : Pl.goodB b = true) : ∀ z ∈ zs b, 0 ≤ z ∧ z ≤ 1099511627776 := by
  obtain ⟨h1, h2, h3, h4, h5, -, -⟩ := Pl.goodB_iff.1 h
  intro z hz
  simp only [zs, List.mem_cons, List.not_mem_nil, or_false] at hz
  rcases hz with rfl | rfl | rfl | rfl | rfl <;> first | assumption | omega
theorem pre_len {b : Pl.Bt} (h : Pl.goodB b = true) (k : Nat) : (pre b k).length ≤ 1 + 15 * k := by
  unfold pre
  have hz := zs_good h
  have : ∀ (l : List Int), (∀ z ∈ l, 0 ≤ z ∧ z ≤ 1099511627776) → (l.flatMap Pl.wInt).length ≤ 15 * l.length := by
    intro l
    induction l with
    | nil => intro _; simp
    | cons z l ih =>
      intro hl
      have h1 := hl z List.mem_cons_self
      have h2 := (Pl.wInt_short h1.1 12 (by omega)).1
      have h3 := ih fun y hy => hl y (List.mem_cons_of_mem _ hy)
      simp only [List.flatMap_cons, List.length_append, List.length_cons]
      omega
  have h2 := this ((zs b).take k) fun z hz' => hz z (List.mem_of_mem_take hz')
  have h3 : ((zs b).take k).length ≤ k := List.length_take_le _ _
  simp only [List.length_cons]
  omega
theorem enc_pre (b : Pl.Bt) : Pl.enc b = pre b 5 ++ Pl.encRs b.recs ++ [101] := by
  simp [Pl.enc, pre, zs]
set_option maxHeartbeats 2000000 in
set_option maxRecDepth 100000 in
theorem rencode (b : Pl.Bt) (v : Value) (w : World) (h : Recs v b.recs w) (hl : b.recs.length ≤ 1099511627776) (hc : Pl.I64 b.count) (hb : Pl.I64 b.base) :
    Calls Tryz.prog 48 #[.agg #[.int .i64 b.base, .int .i64 b.count, .int .i64 b.prod, .int .i64 b.seq, .int .i64 b.time, v]] w fun e w' =>
      e = (if Pl.goodB b = true then .returned (.tuple #[.string ⟨(Pl.enc b).toArray⟩, .int .i64 0]) else .returned (.tuple #[.string ⟨#[]⟩, .int .i64 1])) ∧ Below w.heap.size w w' := by
  obtain ⟨base, count, prod, seq, time, ls⟩ := b
  simp only at h hl hc hb ⊢
  have hG : ∀ wx, Recs v ls wx → Calls Tryz.prog 99 #[.agg #[.int .i64 base, .int .i64 count, .int .i64 prod, .int .i64 seq, .int .i64 time, v]] wx fun e w' => e = .returned (.bool (Pl.goodB ⟨base, count, prod, seq, time, ls⟩)) ∧ Below wx.heap.size wx w' := fun wx hx => rgood base count prod seq time ls v wx hx hl hc hb
  have hw0 : Below w.heap.size w (w.alloc (.cells #[.int .i64 base, .int .i64 count, .int .i64 prod, .int .i64 seq, .int .i64 time, v] 34)) := (Below.refl _ _).alloc (Nat.le_refl _) _
  have hsix := cells_six' w (.int .i64 base) (.int .i64 count) (.int .i64 prod) (.int .i64 seq) (.int .i64 time) v 34
  have HGR := Lib.hid (hG _ (h.below hw0))
  have HR0 := Lib.hid (h.below hw0)
  have hs0 : (w.alloc (.cells #[.int .i64 base, .int .i64 count, .int .i64 prod, .int .i64 seq, .int .i64 time, v] 34)).heap.size = w.heap.size + 1 := by simp
  obtain ⟨W0, hW0⟩ : ∃ W0, w.alloc (.cells #[.int .i64 base, .int .i64 count, .int .i64 prod, .int .i64 seq, .int .i64 time, v] 34) = W0 := ⟨_, rfl⟩
  rw [hW0] at HGR hw0 hsix HR0 hs0
  have HW0 := Lib.hid hw0
  have HSIX := Lib.hid hsix
  have HS0 := Lib.hid hs0
  have d0 := hsix 0 _ rfl
  have d1 := hsix 1 _ rfl
  have d2 := hsix 2 _ rfl
  have d3 := hsix 3 _ rfl
  have d4 := hsix 4 _ rfl
  have d5 := hsix 5 _ rfl
  clear hG hw0 hsix h hl hc hb hs0
  cases hg : Pl.goodB ⟨base, count, prod, seq, time, ls⟩ with
  | false =>
    rw [hg] at HGR
    rw [if_neg (by decide)]
    clear hg
    go_enter Tryz.func48, Tryz.ntmps48
    go_wp2_with fail
    refine HGR.out.mono ?_
    rintro e w1 ⟨rfl, b1⟩
    go_wp2_with fail
    go_ret2
    exact ⟨rfl, HW0.out.trans (b1.mono HW0.out.size)⟩
  | true =>
    rw [hg] at HGR
    rw [if_pos rfl]
    have HG := Lib.hid hg
    clear hg
    go_enter Tryz.func48, Tryz.ntmps48
    go_wp2_with fail
    refine HGR.out.mono ?_
    rintro e w1 ⟨rfl, b1⟩
    have e1 : ∀ o, w1.cell? ⟨w.heap.size, o, none⟩ = W0.cell? ⟨w.heap.size, o, none⟩ := fun o => b1.cell (p := ⟨w.heap.size, o, none⟩) (by have := HS0.out; show w.heap.size < _; omega)
    have g0 := (e1 _).trans d0
    have g1 := (e1 _).trans d1
    have g2 := (e1 _).trans d2
    have g3 := (e1 _).trans d3
    have g4 := (e1 _).trans d4
    have g5 := (e1 _).trans d5
    have HB1 := Lib.hid b1
    clear d0 d1 d2 d3 d4 d5 e1 b1
    obtain ⟨f0, f1, f2, f3, f4⟩ := cells_five w1 (.int .i64 base) (.int .i64 count) (.int .i64 prod) (.int .i64 seq) (.int .i64 time) 3
    have hw2 : Below w1.heap.size w1 (w1.alloc (.cells #[.int .i64 base, .int .i64 count, .int .i64 prod, .int .i64 seq, .int .i64 time] 3)) := (Below.refl _ _).alloc (Nat.le_refl _) _
    have hs2 : (w1.alloc (.cells #[.int .i64 base, .int .i64 count, .int .i64 prod, .int .i64 seq, .int .i64 time] 3)).heap.size = w1.heap.size + 1 := by simp
    obtain ⟨W2, hW2⟩ : ∃ W2, w1.alloc (.cells #[.int .i64 base, .int .i64 count, .int .i64 prod, .int .i64 seq, .int .i64 time] 3) = W2 := ⟨_, rfl⟩
    rw [hW2] at f0 f1 f2 f3 f4 hw2 hs2
    have HF : Hid (∀ j z, (zs ⟨base, count, prod, seq, time, ls⟩)[j]? = some z → W2.cell? ⟨w1.heap.size, j, none⟩ = some (.int .i64 z)) := fun j z hj => by
      match j, hj with
      | 0, hj => obtain rfl := Option.some.inj hj; exact f0
      | 1, hj => obtain rfl := Option.some.inj hj; exact f1
      | 2, hj => obtain rfl := Option.some.inj hj; exact f2
      | 3, hj => obtain rfl := Option.some.inj hj; exact f3
      | 4, hj => obtain rfl := Option.some.inj hj; exact f4
      | j + 5, hj => simp [zs] at hj
    have HW2 := Lib.hid hw2
    have HS2 := Lib.hid hs2
    have HD5 := Lib.hid g5
    have HZ := Lib.hid (zs_good HG.out)
    have HPL := Lib.hid (pre_len HG.out)
    clear f0 f1 f2 f3 f4 hw2 hs2
    go_wp2_with fail
    clear g0 g1 g2 g3 g4 g5 hW2 hW0
    go_loopw [5, 6] (fun sv iv wr => ∃ k : Nat, k ≤ 5 ∧ iv = .int .i64 k ∧ sv = .string ⟨(pre ⟨base, count, prod, seq, time, ls⟩ k).toArray⟩ ∧ Below W2.heap.size W2 wr) (fun _ iv _ => 5 - (intOf iv).toNat)
    case atStart => exact ⟨0, Nat.zero_le _, rfl, rfl, Below.refl _ _⟩
    case round =>
      obtain ⟨k, hk, rfl, rfl, hb⟩ := hrel
      have HB := Lib.hid hb
      clear hb
      by_cases hlt : k < 5
      · obtain ⟨z, hz⟩ : ∃ z, (zs ⟨base, count, prod, seq, time, ls⟩)[k]? = some z := ⟨_, List.getElem?_eq_getElem hlt⟩
        have hz2 := HZ.out z (List.mem_of_getElem? hz)
        have hc1 := (HB.out.cell (p := ⟨w1.heap.size, k, none⟩) (by have := HS2.out; show w1.heap.size < _; omega)).trans (HF.out k z hz)
        have hpm := pre_more _ k z hz
        have hpl := HPL.out k
        have hzl := (Pl.wInt_short hz2.1 12 (by omega)).1
        have R := fun wx => ref_int z (num_64 hz2.1 hz2.2) wx
        obtain ⟨I, hI⟩ : ∃ I : ByteArray, (⟨(Pl.wInt z).toArray⟩ : ByteArray) = I := ⟨_, rfl⟩
        obtain ⟨S, hS⟩ : ∃ S : ByteArray, (⟨(pre ⟨base, count, prod, seq, time, ls⟩ k).toArray⟩ : ByteArray) = S := ⟨_, rfl⟩
        have hIs : I.size ≤ 15 := by rw [← hI, size_list]; omega
        have hSs : S.size ≤ 100 := by rw [← hS, size_list]; omega
        have HSI : Hid (S ++ I = ⟨(pre ⟨base, count, prod, seq, time, ls⟩ (k + 1)).toArray⟩) := by
          show S ++ I = _
          rw [← hS, ← hI, app_mk, hpm]
        rw [hI] at R
        rw [hS]
        have HRI := Lib.hid R
        clear hz hz2 hpm hpl hzl R hI hS
        go_wp2_with fail
        refine (HRI.out _).mono ?_
        rintro e w3 ⟨rfl, b3⟩
        have HB3 := Lib.hid (HB.out.trans (b3.mono HB.out.size))
        clear b3
        go_wp2_with fail
        go_roundw
        case rel => exact ⟨k + 1, by omega, by go_num, by rw [HSI.out], HB3.out⟩
        case measure => simp [intOf]; omega
      · obtain rfl : k = 5 := by omega
        have HPL5 := Lib.hid (HPL.out 5)
        have hd5 := ((HB.out.cell (p := ⟨w.heap.size, 5, none⟩) (by have := HS0.out; have := HB1.out.size; have := HS2.out; show w.heap.size < _; omega)).trans (HW2.out.cell (p := ⟨w.heap.size, 5, none⟩) (by have := HS0.out; have := HB1.out.size; show w.heap.size < _; omega))).trans HD5.out
        have HR4 := Lib.hid (((HR0.out.below HB1.out).below HW2.out).below HB.out)
        have HB4 := Lib.hid (HW0.out.trans ((HB1.out.trans ((HW2.out.trans (HB.out.mono HW2.out.size)).mono HB1.out.size)).mono HW0.out.size))
        have HD5' := Lib.hid hd5
        have hw5 : w.heap.size < wr.heap.size := by have := HS0.out; have := HB1.out.size; have := HW2.out.size; have := HB.out.size; omega
        have HW5 := Lib.hid hw5
        clear HB HF HD5 HPL hw5 hlt HR0 HW2 HSIX HGR hd5
        go_wp2_with fail
        rename World => W4
        obtain ⟨a, cap, rfl, hcell⟩ := HR4.out
        have HC := Lib.hid hcell
        obtain ⟨m, hm⟩ : ∃ m, ls.length = m := ⟨_, rfl⟩
        rw [hm] at HD5' ⊢
        have HM := Lib.hid hm
        have h8 := (Pl.enc_short HG.out).2.2
        have hm8 : m ≤ 8 := by rw [← hm]; exact h8
        have HRC := Lib.hid (Pl.good_recs HG.out)
        clear hm hcell h8
        rw [show ((5 : Nat) : Int) = 5 from rfl]
        go_loopw [5, 7] (fun sv iv wr => ∃ k : Nat, k ≤ m ∧ iv = .int .i64 k ∧ sv = .string ⟨(pre ⟨base, count, prod, seq, time, ls⟩ 5 ++ Pl.encRs (ls.take k)).toArray⟩ ∧ Below W4.heap.size W4 wr) (fun _ iv _ => m - (intOf iv).toNat)
        case atStart => exact ⟨0, Nat.zero_le _, rfl, by simp [Pl.encRs], Below.refl _ _⟩
        case round =>
          obtain ⟨k, hk, rfl, rfl, hb⟩ := hrel
          have HB := Lib.hid hb
          have hd5 := (hb.cell (p := ⟨w.heap.size, 5, none⟩) HW5.out).trans HD5'.out
          clear hb
          by_cases hlt : k < m
          · obtain ⟨x, hg⟩ : ∃ x, ls[k]? = some x := ⟨_, List.getElem?_eq_getElem (by rw [HM.out]; exact hlt)⟩
            obtain ⟨b, off, rfl, hbl, c0, c1, c2, c3⟩ := HC.out k x hg
            have e : ∀ o, wr.cell? ⟨b, o, none⟩ = W4.cell? ⟨b, o, none⟩ := fun o => HB.out.cell (p := ⟨b, o, none⟩) hbl
            rw [← e] at c0 c1 c2 c3
            obtain ⟨hx1, hx2, hx3⟩ := HRC.out x (List.mem_of_getElem? hg)
            obtain ⟨hx4, hx5, -⟩ := Pl.recB_iff.1 hx1
            clear e hbl
            obtain ⟨o, kb, vb, gn⟩ := x
            simp only at c0 c1 c2 c3 hx1 hx2 hx3 hx4 hx5
            have ho := num_64 hx2 hx3
            obtain ⟨K, hK⟩ : ∃ K : ByteArray, (⟨kb.toArray⟩ : ByteArray) = K := ⟨_, rfl⟩
            obtain ⟨V, hV⟩ : ∃ V : ByteArray, (⟨vb.toArray⟩ : ByteArray) = V := ⟨_, rfl⟩
            rw [hK] at c1
            rw [hV] at c2
            have hKs : K.size ≤ 16 := by rw [← hK, size_list]; exact hx4
            have hVs : V.size ≤ 64 := by rw [← hV, size_list]; exact hx5
            have RO := fun wx => ref_int o ho wx
            have RK := fun wx => ref_text K (by omega) wx
            have RV := fun wx => ref_text V (by omega) wx
            rw [show K.data.toList = kb by rw [← hK]] at RK
            rw [show V.data.toList = vb by rw [← hV]] at RV
            obtain ⟨I1, hI1⟩ : ∃ I : ByteArray, (⟨(Pl.wInt o).toArray⟩ : ByteArray) = I := ⟨_, rfl⟩
            obtain ⟨TK, hTK⟩ : ∃ I : ByteArray, (⟨(Pl.wText kb).toArray⟩ : ByteArray) = I := ⟨_, rfl⟩
            obtain ⟨TV, hTV⟩ : ∃ I : ByteArray, (⟨(Pl.wText vb).toArray⟩ : ByteArray) = I := ⟨_, rfl⟩
            obtain ⟨S, hS⟩ : ∃ S : ByteArray, (⟨(pre ⟨base, count, prod, seq, time, ls⟩ 5 ++ Pl.encRs (ls.take k)).toArray⟩ : ByteArray) = S := ⟨_, rfl⟩
            rw [hI1] at RO
            rw [hTK] at RK
            rw [hTV] at RV
            rw [hS]
            have hI1s : I1.size ≤ 15 := by rw [← hI1, size_list]; exact (Pl.wInt_short hx2 12 (by omega)).1
            have hTKs : TK.size ≤ 19 := by rw [← hTK, size_list]; have := Pl.wText_short (t := kb) 1 (by omega); omega
            have hTVs : TV.size ≤ 67 := by rw [← hTV, size_list]; have := Pl.wText_short (t := vb) 1 (by omega); omega
            have hSs : S.size ≤ 1122 := by
              have h1 := HPL5.out
              have h2 := Pl.encRs_short (l := ls.take k) (fun y hy => HRC.out y (List.mem_of_mem_take hy))
              have h3 : (ls.take k).length ≤ k := List.length_take_le _ _
              rw [← hS, size_list, List.length_append]
              omega
            clear hK hV hx1 hx2 hx3 hx4 hx5 ho
            cases hgn : gn with
            | true =>
              subst hgn
              have hgn : True := trivial
              clear hgn
              obtain ⟨y0, y1, y2, y3⟩ := cells_four wr (.int .i64 o) (.string K) (.string V) (.bool true) 75
              have hw5' : Below wr.heap.size wr (wr.alloc (.cells #[.int .i64 o, .string K, .string V, .bool true] 75)) := (Below.refl _ _).alloc (Nat.le_refl _) _
              obtain ⟨W5, hW5⟩ : ∃ W5, wr.alloc (.cells #[.int .i64 o, .string K, .string V, .bool true] 75) = W5 := ⟨_, rfl⟩
              rw [hW5] at y0 y1 y2 y3 hw5'
              have RG := fun wx => ref_int 1 (by unfold Pl.I64; omega) wx
              obtain ⟨IG, hIG⟩ : ∃ I : ByteArray, (⟨(Pl.wInt 1).toArray⟩ : ByteArray) = I := ⟨_, rfl⟩
              rw [hIG] at RG
              have hIGs : IG.size ≤ 3 := by rw [← hIG, size_list]; exact (Pl.wInt_short (by omega) 0 (by omega)).1
              have HSE : Hid (S ++ ⟨#[108]⟩ ++ I1 ++ TK ++ TV ++ IG ++ ⟨#[101]⟩ = ⟨(pre ⟨base, count, prod, seq, time, ls⟩ 5 ++ Pl.encRs (ls.take (k + 1))).toArray⟩) := by
                show _ = _
                have e1 : Pl.encRs (ls.take (k + 1)) = Pl.encRs (ls.take k) ++ Pl.encR ⟨o, kb, vb, true⟩ := by
                  rw [List.take_add_one, hg, Pl.encRs_append]
                  simp [Pl.encRs]
                have e2 : pre ⟨base, count, prod, seq, time, ls⟩ 5 ++ Pl.encRs (ls.take (k + 1)) = pre ⟨base, count, prod, seq, time, ls⟩ 5 ++ Pl.encRs (ls.take k) ++ [108] ++ Pl.wInt o ++ Pl.wText kb ++ Pl.wText vb ++ Pl.wInt 1 ++ [101] := by
                  rw [e1]
                  simp [Pl.encR, Pl.goneN]
                rw [e2, ← hS, ← hI1, ← hTK, ← hTV, ← hIG]
                apply ofList_eq
                simp only [Joins.data_append]
              have k0 := cell_regrown y0
              have k1 := cell_regrown y1
              have k2 := cell_regrown y2
              have C1 : ∀ d os, Calls Tryz.prog 100 #[.int .i64 o] (Sort.grow (redrawn W5 d) os) fun e w'' => e = .returned (.string I1) ∧ ∃ p : Regrown, w'' = Sort.grow (redrawn W5 p.d) p.os := fun d os => Calls.regrown_of (RO _)
              have C2 : ∀ d os, Calls Tryz.prog 101 #[.string K] (Sort.grow (redrawn W5 d) os) fun e w'' => e = .returned (.string TK) ∧ ∃ p : Regrown, w'' = Sort.grow (redrawn W5 p.d) p.os := fun d os => Calls.regrown_of (RK _)
              have C3 : ∀ d os, Calls Tryz.prog 101 #[.string V] (Sort.grow (redrawn W5 d) os) fun e w'' => e = .returned (.string TV) ∧ ∃ p : Regrown, w'' = Sort.grow (redrawn W5 p.d) p.os := fun d os => Calls.regrown_of (RV _)
              have C4 : ∀ d os, Calls Tryz.prog 100 #[.int .i64 1] (Sort.grow (redrawn W5 d) os) fun e w'' => e = .returned (.string IG) ∧ ∃ p : Regrown, w'' = Sort.grow (redrawn W5 p.d) p.os := fun d os => Calls.regrown_of (RG _)
              have HC1 := Lib.hid C1
              have HC2 := Lib.hid C2
              have HC3 := Lib.hid C3
              have HC4 := Lib.hid C4
              have HB5 := Lib.hid (HB.out.trans (hw5'.mono HB.out.size))
              have HWE := Lib.hid hW5
              clear C1 C2 C3 C4 RG RO RK RV hIG hS hI1 hTK hTV hg hw5' hW5
              go_wp2_with fail
              rw [HWE.out]
              refine wp_region_quiet_below (by kernel_rfl) (by kernel_rfl) ?_
              repeat (go_big_quiet_step (first | (go_at_call 100; with_reducible exact HC1.out _ _) | (go_at_call 100; with_reducible exact HC4.out _ _) | (go_at_call 101; with_reducible exact HC2.out _ _) | (go_at_call 101; with_reducible exact HC3.out _ _)))
              refine wpQuiet_nil ?_
              intro _ hw'
              obtain ⟨⟨dq, osq⟩, hw''⟩ := hw'
              subst hw''
              have HB6 := Lib.hid (HB5.out.trans ((below_regrown W5 dq osq).mono HB5.out.size))
              go_wp2_with fail
              go_roundw
              case rel => exact ⟨k + 1, by omega, by go_num, by rw [← HSE.out], HB6.out⟩
              case measure => simp [intOf]; omega
            | false =>
              subst hgn
              have hgn : True := trivial
              clear hgn
              obtain ⟨y0, y1, y2, y3⟩ := cells_four wr (.int .i64 o) (.string K) (.string V) (.bool false) 75
              have hw5' : Below wr.heap.size wr (wr.alloc (.cells #[.int .i64 o, .string K, .string V, .bool false] 75)) := (Below.refl _ _).alloc (Nat.le_refl _) _
              obtain ⟨W5, hW5⟩ : ∃ W5, wr.alloc (.cells #[.int .i64 o, .string K, .string V, .bool false] 75) = W5 := ⟨_, rfl⟩
              rw [hW5] at y0 y1 y2 y3 hw5'
              have RG := fun wx => ref_int 0 (by unfold Pl.I64; omega) wx
              obtain ⟨IG, hIG⟩ : ∃ I : ByteArray, (⟨(Pl.wInt 0).toArray⟩ : ByteArray) = I := ⟨_, rfl⟩
              rw [hIG] at RG
              have hIGs : IG.size ≤ 3 := by rw [← hIG, size_list]; exact (Pl.wInt_short (by omega) 0 (by omega)).1
              have HSE : Hid (S ++ ⟨#[108]⟩ ++ I1 ++ TK ++ TV ++ IG ++ ⟨#[101]⟩ = ⟨(pre ⟨base, count, prod, seq, time, ls⟩ 5 ++ Pl.encRs (ls.take (k + 1))).toArray⟩) := by
                show _ = _
                have e1 : Pl.encRs (ls.take (k + 1)) = Pl.encRs (ls.take k) ++ Pl.encR ⟨o, kb, vb, false⟩ := by
                  rw [List.take_add_one, hg, Pl.encRs_append]
                  simp [Pl.encRs]
                have e2 : pre ⟨base, count, prod, seq, time, ls⟩ 5 ++ Pl.encRs (ls.take (k + 1)) = pre ⟨base, count, prod, seq, time, ls⟩ 5 ++ Pl.encRs (ls.take k) ++ [108] ++ Pl.wInt o ++ Pl.wText kb ++ Pl.wText vb ++ Pl.wInt 0 ++ [101] := by
                  rw [e1]
                  simp [Pl.encR, Pl.goneN]
                rw [e2, ← hS, ← hI1, ← hTK, ← hTV, ← hIG]
                apply ofList_eq
                simp only [Joins.data_append]
              have k0 := cell_regrown y0
              have k1 := cell_regrown y1
              have k2 := cell_regrown y2
              have C1 : ∀ d os, Calls Tryz.prog 100 #[.int .i64 o] (Sort.grow (redrawn W5 d) os) fun e w'' => e = .returned (.string I1) ∧ ∃ p : Regrown, w'' = Sort.grow (redrawn W5 p.d) p.os := fun d os => Calls.regrown_of (RO _)
              have C2 : ∀ d os, Calls Tryz.prog 101 #[.string K] (Sort.grow (redrawn W5 d) os) fun e w'' => e = .returned (.string TK) ∧ ∃ p : Regrown, w'' = Sort.grow (redrawn W5 p.d) p.os := fun d os => Calls.regrown_of (RK _)
              have C3 : ∀ d os, Calls Tryz.prog 101 #[.string V] (Sort.grow (redrawn W5 d) os) fun e w'' => e = .returned (.string TV) ∧ ∃ p : Regrown, w'' = Sort.grow (redrawn W5 p.d) p.os := fun d os => Calls.regrown_of (RV _)
              have C4 : ∀ d os, Calls Tryz.prog 100 #[.int .i64 0] (Sort.grow (redrawn W5 d) os) fun e w'' => e = .returned (.string IG) ∧ ∃ p : Regrown, w'' = Sort.grow (redrawn W5 p.d) p.os := fun d os => Calls.regrown_of (RG _)
              have HC1 := Lib.hid C1
              have HC2 := Lib.hid C2
              have HC3 := Lib.hid C3
              have HC4 := Lib.hid C4
              have HB5 := Lib.hid (HB.out.trans (hw5'.mono HB.out.size))
              have HWE := Lib.hid hW5
              clear C1 C2 C3 C4 RG RO RK RV hIG hS hI1 hTK hTV hg hw5' hW5
              go_wp2_with fail
              rw [HWE.out]
              refine wp_region_quiet_below (by kernel_rfl) (by kernel_rfl) ?_
              repeat (go_big_quiet_step (first | (go_at_call 100; with_reducible exact HC1.out _ _) | (go_at_call 100; with_reducible exact HC4.out _ _) | (go_at_call 101; with_reducible exact HC2.out _ _) | (go_at_call 101; with_reducible exact HC3.out _ _)))
              refine wpQuiet_nil ?_
              intro _ hw'
              obtain ⟨⟨dq, osq⟩, hw''⟩ := hw'
              subst hw''
              have HB6 := Lib.hid (HB5.out.trans ((below_regrown W5 dq osq).mono HB5.out.size))
              go_wp2_with fail
              go_roundw
              case rel => exact ⟨k + 1, by omega, by go_num, by rw [← HSE.out], HB6.out⟩
              case measure => simp [intOf]; omega
          · obtain rfl : k = m := by omega
            have hfin : Hid (pre ⟨base, count, prod, seq, time, ls⟩ 5 ++ Pl.encRs (ls.take k) ++ [101] = Pl.enc ⟨base, count, prod, seq, time, ls⟩) := by
              show _ = _
              rw [enc_pre, List.take_of_length_le (by rw [HM.out]; exact Nat.le_refl _)]
            have hlen := (Pl.enc_short HG.out).1
            rw [← hfin.out, List.length_append] at hlen
            obtain ⟨S, hS⟩ : ∃ S : ByteArray, (⟨(pre ⟨base, count, prod, seq, time, ls⟩ 5 ++ Pl.encRs (ls.take k)).toArray⟩ : ByteArray) = S := ⟨_, rfl⟩
            have hSs : S.size ≤ 1122 := by rw [← hS, size_list]; have : (ls.length) = k := HM.out; simp only at hlen; omega
            have HSF : Hid (S ++ ⟨#[101]⟩ = ⟨(Pl.enc ⟨base, count, prod, seq, time, ls⟩).toArray⟩) := by
              show S ++ _ = _
              rw [← hS, ← hfin.out]
              exact app_mk _ [101]
            rw [hS]
            clear hS hfin hlen
            go_wp2_with fail
            go_ret2
            exact ⟨congrArg (fun x => Ending.returned (.tuple #[.string x, .int .i64 0])) HSF.out, HB4.out.trans (HB.out.mono HB4.out.size)⟩
end Go.Proofs.YtdaoeplblkfapaaGreatDoor
