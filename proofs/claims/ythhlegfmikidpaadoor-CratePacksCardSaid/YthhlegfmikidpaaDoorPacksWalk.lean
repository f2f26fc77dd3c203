/- The walk of the law CratePacks. -/
import Derived.Test.YthhlegfmikidpaaDoorPa
import Derived.Test.YthhlegfmikidpaaDoorCPack
import Derived.Test.YthhlegfmikidpaaDoorCSame
namespace Go.Proofs.YthhlegfmikidpaaDoor
open Go.RowKit

theorem packB_len {ls : List Pl.Rc} {base prod seq time : Int} {b : Pl.Bt} (h : Pl.packB ls base prod seq time = some b) : b.recs.length ≤ 8 := by
  unfold Pl.packB at h
  split at h
  · rename_i hh
    rw [← Option.some.inj h]
    exact (Pl.enc_short hh.2).2.2
  · cases h

set_option maxHeartbeats 4000000 in
set_option maxRecDepth 100000 in
theorem packs_any (ls : List Pl.Rc) (pb pp ps pt : Int) (v : Value) (w : World) (lb : Lb w) (hrc : Recs v ls w) (hlen : ls.length ≤ maxLen) (hky : ∀ x ∈ ls, x.key.length ≤ maxLen ∧ x.val.length ≤ maxLen) (hpb : Pl.I64 pb) :
    Calls Tryd.prog 5 #[v, .agg #[.int .i64 pb, .int .i64 pp, .int .i64 ps, .int .i64 pt]] w fun e w' => e = .returned (.bool true) ∧ Below w.heap.size w w' := by
  have h0 := Blk.new w #[.int .i64 pb, .int .i64 pp, .int .i64 ps, .int .i64 pt] 36
  have hw0 : Below w.heap.size w (w.alloc (.cells #[.int .i64 pb, .int .i64 pp, .int .i64 ps, .int .i64 pt] 36)) := (Below.refl _ _).alloc (Nat.le_refl _) _
  obtain ⟨W0, hW0⟩ : ∃ W0, w.alloc (.cells #[.int .i64 pb, .int .i64 pp, .int .i64 ps, .int .i64 pt] 36) = W0 := ⟨_, rfl⟩
  rw [hW0] at h0 hw0
  have HK0 := Lib.hid h0
  have HW0 := Lib.hid hw0
  have HE := Lib.hid hW0
  have HRW := Lib.hid hrc
  have HKY := Lib.hid hky
  have HLB := Lib.hid lb
  clear h0 hw0 hW0 hrc hky lb
  obtain ⟨a, cap, rfl⟩ : ∃ a cap, v = .slice a ls.length cap := by obtain ⟨a, cap, rfl, -⟩ := HRW.out; exact ⟨a, cap, rfl⟩
  go_enter Tryd.func5, Tryd.ntmps5
  go_wp2_with fail
  rw [HE.out]
  refine (awake_any W0 (HLB.out.below HLB.out.size HW0.out)).mono ?_
  rintro e w1 ⟨rfl, b1⟩
  have HK1 := Lib.hid (HK0.out.below b1)
  have HW1 := Lib.hid (HW0.out.trans (b1.mono HW0.out.size))
  clear b1 HK0 HW0 HE
  go_wp2_with fail
  have C := great_any _ ls w1 (HRW.out.below HW1.out) hlen HKY.out
  cases hg : greatB ls with
  | true =>
    rw [hg] at C
    refine C.mono ?_
    rintro e w2 ⟨rfl, b2⟩
    go_wp2_with fail
    go_ret
    exact ⟨rfl, HW1.out.trans (b2.mono HW1.out.size)⟩
  | false =>
    rw [hg] at C
    have h40 := great_few hg
    refine C.mono ?_
    clear C hg
    rintro e w2 ⟨rfl, b2⟩
    have HK2 := Lib.hid (HK1.out.below b2)
    have HW2 := Lib.hid (HW1.out.trans (b2.mono HW1.out.size))
    clear b2 HK1 HW1
    have c0 := HK2.out.cell (i := 0) rfl
    have c1 := HK2.out.cell (i := 1) rfl
    have c2 := HK2.out.cell (i := 2) rfl
    have c3 := HK2.out.cell (i := 3) rfl
    have C := dpack (.slice a ls.length cap) ls pb pp ps pt w2 (HLB.out.below HLB.out.size HW2.out) (HRW.out.below HW2.out) (by omega)
    have CR := fun wx (hx : Below w.heap.size w wx) => rpack (.slice a ls.length cap) ls pb pp ps pt wx (HRW.out.below hx) (by omega) hpb
    have H2 : Hid (PA w [] w2) := ⟨HW2.out, fun k b cs hk => by simp at hk⟩
    cases hp : Pl.packB ls pb pp ps pt with
    | none =>
      rw [hp] at C CR
      have HC1 : Hid (Calls Tryd.prog 23 #[.slice a ls.length cap, .int .i64 pb, .int .i64 pp, .int .i64 ps, .int .i64 pt] w2 fun e w' => Below w2.heap.size w2 w' ∧ e = .returned (.tuple #[.agg #[.int .i64 0, .int .i64 0, .int .i64 0, .int .i64 0, .int .i64 0, .slice none 0 0], .int .i64 1])) := C
      have HC2 : Hid (∀ wx, Below w.heap.size w wx → Calls Tryd.prog 24 #[.slice a ls.length cap, .int .i64 pb, .int .i64 pp, .int .i64 ps, .int .i64 pt] wx fun e w' => Below wx.heap.size wx w' ∧ e = .returned (.tuple #[.agg #[.int .i64 0, .int .i64 0, .int .i64 0, .int .i64 0, .int .i64 0, .slice none 0 0], .int .i64 1])) := CR
      clear C CR hp
      go_wp2_with fail
      refine HC1.out.mono ?_
      rintro e w3 ⟨b3, rfl⟩
      have HK3 := Lib.hid ((HK2.out.below b3).below ((Below.refl w3.heap.size w3).alloc (Nat.le_refl _) (.cells #[.int .i64 0, .int .i64 0, .int .i64 0, .int .i64 0, .int .i64 0, .slice none 0 0] 24)))
      have H3 := Lib.hid ((H2.out.below b3).more #[.int .i64 0, .int .i64 0, .int .i64 0, .int .i64 0, .int .i64 0, .slice none 0 0])
      clear b3 HC1 H2 c0 c1 c2 c3
      have c0 := HK3.out.cell (i := 0) rfl
      have c1 := HK3.out.cell (i := 1) rfl
      have c2 := HK3.out.cell (i := 2) rfl
      have c3 := HK3.out.cell (i := 3) rfl
      go_wp2_with fail
      refine (HC2.out _ H3.out.low).mono ?_
      rintro e w4 ⟨b4, rfl⟩
      have H4 := Lib.hid ((H3.out.below b4).more #[.int .i64 0, .int .i64 0, .int .i64 0, .int .i64 0, .int .i64 0, .slice none 0 0])
      clear b4 H3 HC2 c0 c1 c2 c3
      have a0 := H4.out.cell (k := 0) (i := 0) rfl rfl
      have a1 := H4.out.cell (k := 0) (i := 1) rfl rfl
      have a2 := H4.out.cell (k := 0) (i := 2) rfl rfl
      have a3 := H4.out.cell (k := 0) (i := 3) rfl rfl
      have a4 := H4.out.cell (k := 0) (i := 4) rfl rfl
      have a5 := H4.out.cell (k := 0) (i := 5) rfl rfl
      have HSD := Lib.hid (rsame 0 0 0 0 0 0 0 0 0 0 [] [] (.slice none 0 0) (.slice none 0 0) (w4.alloc (.cells #[.int .i64 0, .int .i64 0, .int .i64 0, .int .i64 0, .int .i64 0, .slice none 0 0] 24)) ⟨none, 0, rfl, fun j x hj => by simp at hj⟩ ⟨none, 0, rfl, fun j x hj => by simp at hj⟩ (by decide) (by decide))
      rw [show Pl.sameB ⟨0, 0, 0, 0, 0, []⟩ ⟨0, 0, 0, 0, 0, []⟩ = true from Pl.sameB_iff.2 rfl] at HSD
      go_wp2_with fail
      refine HSD.out.mono ?_
      rintro e w5 ⟨rfl, b5⟩
      go_wp2_with fail
      go_ret
      exact ⟨rfl, (H4.out.below b5).low⟩
    | some d =>
      have hd8 := packB_len hp
      rw [hp] at C CR
      have HC1 : Hid (Calls Tryd.prog 23 #[.slice a ls.length cap, .int .i64 pb, .int .i64 pp, .int .i64 ps, .int .i64 pt] w2 fun e w' => Below w2.heap.size w2 w' ∧ ∃ x1 p1, Recs (.slice x1 d.recs.length p1) d.recs w' ∧ e = .returned (.tuple #[.agg #[.int .i64 d.base, .int .i64 d.count, .int .i64 d.prod, .int .i64 d.seq, .int .i64 d.time, .slice x1 d.recs.length p1], .int .i64 0])) := C.mono fun e w' h => ⟨h.1, by
        obtain ⟨-, v, hv, he⟩ := h
        have hv' := hv
        obtain ⟨x1, p1, rfl, -⟩ := hv'
        exact ⟨x1, p1, hv, he⟩⟩
      have HC2 : Hid (∀ wx, Below w.heap.size w wx → Calls Tryd.prog 24 #[.slice a ls.length cap, .int .i64 pb, .int .i64 pp, .int .i64 ps, .int .i64 pt] wx fun e w' => Below wx.heap.size wx w' ∧ ∃ x1 p1, Recs (.slice x1 d.recs.length p1) d.recs w' ∧ e = .returned (.tuple #[.agg #[.int .i64 d.base, .int .i64 d.count, .int .i64 d.prod, .int .i64 d.seq, .int .i64 d.time, .slice x1 d.recs.length p1], .int .i64 0])) := fun wx hx => (CR wx hx).mono fun e w' h => ⟨h.1, by
        obtain ⟨-, v, hv, he⟩ := h
        have hv' := hv
        obtain ⟨x1, p1, rfl, -⟩ := hv'
        exact ⟨x1, p1, hv, he⟩⟩
      clear C CR hp
      go_wp2_with fail
      refine HC1.out.mono ?_
      rintro e w3 ⟨b3, x1, p1, hr1, rfl⟩
      have hal := (Below.refl w3.heap.size w3).alloc (Nat.le_refl _) (.cells #[.int .i64 d.base, .int .i64 d.count, .int .i64 d.prod, .int .i64 d.seq, .int .i64 d.time, .slice x1 d.recs.length p1] 24)
      have HK3 := Lib.hid ((HK2.out.below b3).below hal)
      have H3 := Lib.hid ((H2.out.below b3).more #[.int .i64 d.base, .int .i64 d.count, .int .i64 d.prod, .int .i64 d.seq, .int .i64 d.time, .slice x1 d.recs.length p1])
      have HR3 := Lib.hid (hr1.below hal)
      clear b3 HC1 H2 c0 c1 c2 c3 hal hr1
      have c0 := HK3.out.cell (i := 0) rfl
      have c1 := HK3.out.cell (i := 1) rfl
      have c2 := HK3.out.cell (i := 2) rfl
      have c3 := HK3.out.cell (i := 3) rfl
      go_wp2_with fail
      refine (HC2.out _ H3.out.low).mono ?_
      rintro e w4 ⟨b4, x2, p2, hr2, rfl⟩
      have hal := (Below.refl w4.heap.size w4).alloc (Nat.le_refl _) (.cells #[.int .i64 d.base, .int .i64 d.count, .int .i64 d.prod, .int .i64 d.seq, .int .i64 d.time, .slice x2 d.recs.length p2] 24)
      have H4 := Lib.hid ((H3.out.below b4).more #[.int .i64 d.base, .int .i64 d.count, .int .i64 d.prod, .int .i64 d.seq, .int .i64 d.time, .slice x2 d.recs.length p2])
      have HR4 := Lib.hid ((HR3.out.below b4).below hal)
      have HR5 := Lib.hid (hr2.below hal)
      clear b4 H3 HC2 c0 c1 c2 c3 hal hr2 HR3
      have a0 := H4.out.cell (k := 0) (i := 0) rfl rfl
      have a1 := H4.out.cell (k := 0) (i := 1) rfl rfl
      have a2 := H4.out.cell (k := 0) (i := 2) rfl rfl
      have a3 := H4.out.cell (k := 0) (i := 3) rfl rfl
      have a4 := H4.out.cell (k := 0) (i := 4) rfl rfl
      have a5 := H4.out.cell (k := 0) (i := 5) rfl rfl
      have HSD := Lib.hid (rsame d.base d.count d.prod d.seq d.time d.base d.count d.prod d.seq d.time d.recs d.recs (.slice x1 d.recs.length p1) (.slice x2 d.recs.length p2) _ HR4.out HR5.out (by omega) (by omega))
      rw [show Pl.sameB ⟨d.base, d.count, d.prod, d.seq, d.time, d.recs⟩ ⟨d.base, d.count, d.prod, d.seq, d.time, d.recs⟩ = true from Pl.sameB_iff.2 rfl] at HSD
      go_wp2_with fail
      refine HSD.out.mono ?_
      rintro e w5 ⟨rfl, b5⟩
      go_wp2_with fail
      go_ret
      exact ⟨rfl, (H4.out.below b5).low⟩
end Go.Proofs.YthhlegfmikidpaaDoor
