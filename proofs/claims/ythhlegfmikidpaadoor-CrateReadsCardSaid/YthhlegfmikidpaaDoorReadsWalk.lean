/- The walk of the law CrateReads. -/
import Derived.Test.YthhlegfmikidpaaDoorSameWalk
import Derived.Test.YthhlegfmikidpaaDoorCDecode
namespace Go.Proofs.YthhlegfmikidpaaDoor
open Go.RowKit

set_option maxHeartbeats 4000000 in
set_option maxRecDepth 100000 in
theorem reads_any (s : ByteArray) (w : World) (lb : Lb w) (hss : s.size ≤ 140737488355328) :
    Calls Tryd.prog 4 #[.string s] w fun e w' => e = .returned (.bool true) ∧ Below w.heap.size w w' := by
  have HLB := Lib.hid lb
  clear lb
  go_enter Tryd.func4, Tryd.ntmps4
  go_wp2_with fail
  refine (awake_any w HLB.out).mono ?_
  rintro e w1 ⟨rfl, b1⟩
  have H1 : Hid (PA w [] w1) := (PA.nil w).below b1
  clear b1
  have C1 := ddecode s w1 (H1.out.lb HLB.out) (by omega)
  have C2 := fun wx => rdecode s wx (by omega)
  cases hds : decB s.data.toList with
  | none =>
    rw [hds] at C1 C2
    have HC1 : Hid (Calls Tryd.prog 21 #[.string s] w1 fun e w' => Below w1.heap.size w1 w' ∧ e = .returned (.tuple #[.agg #[.int .i64 0, .int .i64 0, .int .i64 0, .int .i64 0, .int .i64 0, .slice none 0 0], .int .i64 3])) := C1
    have HC2 : Hid (∀ wx, Calls Tryd.prog 22 #[.string s] wx fun e w' => Below wx.heap.size wx w' ∧ e = .returned (.tuple #[.agg #[.int .i64 0, .int .i64 0, .int .i64 0, .int .i64 0, .int .i64 0, .slice none 0 0], .int .i64 3])) := C2
    clear C1 C2 hds
    go_wp2_with fail
    refine HC1.out.mono ?_
    rintro e w2 ⟨b2, rfl⟩
    have H2 := Lib.hid ((H1.out.below b2).more #[.int .i64 0, .int .i64 0, .int .i64 0, .int .i64 0, .int .i64 0, .slice none 0 0])
    clear b2 H1 HC1
    go_wp2_with fail
    refine (HC2.out _).mono ?_
    rintro e w3 ⟨b3, rfl⟩
    have H3 := Lib.hid ((H2.out.below b3).more #[.int .i64 0, .int .i64 0, .int .i64 0, .int .i64 0, .int .i64 0, .slice none 0 0])
    have a0 := H3.out.cell (k := 0) (i := 0) rfl rfl
    have a1 := H3.out.cell (k := 0) (i := 1) rfl rfl
    have a2 := H3.out.cell (k := 0) (i := 2) rfl rfl
    have a3 := H3.out.cell (k := 0) (i := 3) rfl rfl
    have a4 := H3.out.cell (k := 0) (i := 4) rfl rfl
    have a5 := H3.out.cell (k := 0) (i := 5) rfl rfl
    clear b3 H2 HC2
    have HSD := Lib.hid (rsame 0 0 0 0 0 0 0 0 0 0 [] [] (.slice none 0 0) (.slice none 0 0) (w3.alloc (.cells #[.int .i64 0, .int .i64 0, .int .i64 0, .int .i64 0, .int .i64 0, .slice none 0 0] 24)) ⟨none, 0, rfl, fun j x hj => by simp at hj⟩ ⟨none, 0, rfl, fun j x hj => by simp at hj⟩ (by decide) (by decide))
    rw [show Pl.sameB ⟨0, 0, 0, 0, 0, []⟩ ⟨0, 0, 0, 0, 0, []⟩ = true from Pl.sameB_iff.2 rfl] at HSD
    go_wp2_with fail
    refine HSD.out.mono ?_
    rintro e w4 ⟨rfl, b4⟩
    go_wp2_with fail
    go_ret
    exact ⟨rfl, (H3.out.below b4).low⟩
  | some d =>
    rw [hds] at C1 C2
    obtain ⟨hgd, -⟩ := enc_dec hds
    have hd8 := (Pl.enc_short hgd).2.2
    have HC1 : Hid (Calls Tryd.prog 21 #[.string s] w1 fun e w' => Below w1.heap.size w1 w' ∧ ∃ x1 p1, Recs (.slice x1 d.recs.length p1) d.recs w' ∧ e = .returned (.tuple #[.agg #[.int .i64 d.base, .int .i64 d.count, .int .i64 d.prod, .int .i64 d.seq, .int .i64 d.time, .slice x1 d.recs.length p1], .int .i64 0])) := C1.mono fun e w' h => ⟨h.1, by
      obtain ⟨-, v, hv, he⟩ := h
      have hv' := hv
      obtain ⟨x1, p1, rfl, -⟩ := hv'
      exact ⟨x1, p1, hv, he⟩⟩
    have HC2 : Hid (∀ wx, Calls Tryd.prog 22 #[.string s] wx fun e w' => Below wx.heap.size wx w' ∧ ∃ x1 p1, Recs (.slice x1 d.recs.length p1) d.recs w' ∧ e = .returned (.tuple #[.agg #[.int .i64 d.base, .int .i64 d.count, .int .i64 d.prod, .int .i64 d.seq, .int .i64 d.time, .slice x1 d.recs.length p1], .int .i64 0])) := fun wx => (C2 wx).mono fun e w' h => ⟨h.1, by
      obtain ⟨-, v, hv, he⟩ := h
      have hv' := hv
      obtain ⟨x1, p1, rfl, -⟩ := hv'
      exact ⟨x1, p1, hv, he⟩⟩
    clear C1 C2 hds hgd
    go_wp2_with fail
    refine HC1.out.mono ?_
    rintro e w2 ⟨b2, x1, p1, hr1, rfl⟩
    have h2 := (H1.out.below b2).more #[.int .i64 d.base, .int .i64 d.count, .int .i64 d.prod, .int .i64 d.seq, .int .i64 d.time, .slice x1 d.recs.length p1]
    have hr1' := hr1.below ((Below.refl w2.heap.size w2).alloc (Nat.le_refl _) (.cells #[.int .i64 d.base, .int .i64 d.count, .int .i64 d.prod, .int .i64 d.seq, .int .i64 d.time, .slice x1 d.recs.length p1] 24))
    have H2 := Lib.hid h2
    have HR2 := Lib.hid hr1'
    clear b2 H1 HC1 hr1 hr1' h2
    go_wp2_with fail
    refine (HC2.out _).mono ?_
    rintro e w3 ⟨b3, x2, p2, hr2, rfl⟩
    have hal := (Below.refl w3.heap.size w3).alloc (Nat.le_refl _) (.cells #[.int .i64 d.base, .int .i64 d.count, .int .i64 d.prod, .int .i64 d.seq, .int .i64 d.time, .slice x2 d.recs.length p2] 24)
    have H3 := Lib.hid ((H2.out.below b3).more #[.int .i64 d.base, .int .i64 d.count, .int .i64 d.prod, .int .i64 d.seq, .int .i64 d.time, .slice x2 d.recs.length p2])
    have a0 := H3.out.cell (k := 0) (i := 0) rfl rfl
    have a1 := H3.out.cell (k := 0) (i := 1) rfl rfl
    have a2 := H3.out.cell (k := 0) (i := 2) rfl rfl
    have a3 := H3.out.cell (k := 0) (i := 3) rfl rfl
    have a4 := H3.out.cell (k := 0) (i := 4) rfl rfl
    have a5 := H3.out.cell (k := 0) (i := 5) rfl rfl
    have HSD := Lib.hid (rsame d.base d.count d.prod d.seq d.time d.base d.count d.prod d.seq d.time d.recs d.recs (.slice x1 d.recs.length p1) (.slice x2 d.recs.length p2) _ ((HR2.out.below b3).below hal) (hr2.below hal) (by omega) (by omega))
    rw [show Pl.sameB ⟨d.base, d.count, d.prod, d.seq, d.time, d.recs⟩ ⟨d.base, d.count, d.prod, d.seq, d.time, d.recs⟩ = true from Pl.sameB_iff.2 rfl] at HSD
    clear b3 H2 HC2 hal hr2 HR2
    go_wp2_with fail
    refine HSD.out.mono ?_
    rintro e w4 ⟨rfl, b4⟩
    go_wp2_with fail
    go_ret
    exact ⟨rfl, (H3.out.below b4).low⟩
end Go.Proofs.YthhlegfmikidpaaDoor
