/- THE CONTRACTS OF crate.numbers, spoilt, slices.IndexFunc and ContainsFunc at it, placed. -/
import Derived.Test.YtloallndnmofnaaGreatDoorCEq
import Derived.Test.YtloallndnmofnaaGreatDoorDPlain
import Derived.StillTailTactics
import Derived.Deep.QuietTactic
import Derived.BigQuiet
import Derived.IntWalk
namespace Go.Proofs.YtloallndnmofnaaGreatDoor
open Go.RowKit

def five (b : Nat) : Array Value := #[.pointer (some ⟨b, 0, none⟩), .pointer (some ⟨b, 1, none⟩), .pointer (some ⟨b, 2, none⟩), .pointer (some ⟨b, 3, none⟩), .pointer (some ⟨b, 4, none⟩)]
set_option maxHeartbeats 400000 in
set_option maxRecDepth 100000 in
theorem dnumbers (b : Nat) (w : World) :
    Calls Tryz.prog 47 #[.pointer (some ⟨b, 0, none⟩)] w fun e w' => e = .returned (.slice (some ⟨w.heap.size, 0, none⟩) 5 5) ∧ Blk w' w.heap.size (five b) 82 ∧ Below w.heap.size w w' := by
  go_enter Tryz.func47, Tryz.ntmps47
  go_wp2
  go_still_tail 15, (by kernel_rfl)
  change wpList _ _ _ _ _ w.drew
  obtain ⟨w2, hw2⟩ : ∃ w2, w.drew = w2 := ⟨_, rfl⟩
  have hs : w2.heap.size = w.heap.size := by rw [← hw2]; rfl
  have hb : Below w.heap.size w w2 := by rw [← hw2]; exact (Below.refl _ _).drew
  rw [hw2]
  clear hw2
  go_wp2
  go_ret
  rw [← hs]
  exact ⟨rfl, Blk.new _ _ _, (hs ▸ hb).alloc (Nat.le_refl _) _⟩

set_option maxHeartbeats 400000 in
theorem dspoilt (x : Pl.Rc) (w : World) :
    Calls Tryz.prog 50 #[.agg #[.int .i64 x.off, .string ⟨x.key.toArray⟩, .string ⟨x.val.toArray⟩, .bool x.gone]] w fun e w' => e = .returned (.bool (!Pl.recB x)) ∧ Below w.heap.size w w' := by
  obtain ⟨o, k, v, g⟩ := x
  obtain ⟨K, hK⟩ : ∃ K : ByteArray, (⟨k.toArray⟩ : ByteArray) = K := ⟨_, rfl⟩
  obtain ⟨V, hV⟩ : ∃ V : ByteArray, (⟨v.toArray⟩ : ByteArray) = V := ⟨_, rfl⟩
  show Calls _ _ #[.agg #[.int .i64 o, .string ⟨k.toArray⟩, .string ⟨v.toArray⟩, .bool g]] w _
  rw [hK, hV]
  have hks : k.length = K.size := by rw [← hK]; show _ = k.toArray.size; simp
  have hvs : v.length = V.size := by rw [← hV]; show _ = v.toArray.size; simp
  have hve : v.isEmpty = V.toList.isEmpty := by rw [ByteArray.toList_eq, ← hV]
  obtain ⟨r, hr⟩ : ∃ r, Pl.recB ⟨o, k, v, g⟩ = r := ⟨_, rfl⟩
  rw [hr]
  have hr2 : r = (decide (K.size ≤ 16 ∧ V.size ≤ 64) && (!g || V.toList.isEmpty)) := by rw [← hr, ← hks, ← hvs, ← hve]; rfl
  rw [hr2]
  clear hr hr2 hks hvs hve hK hV
  by_cases h1 : K.size ≤ 16
  · by_cases h2 : V.size ≤ 64
    · cases g with
      | false =>
        go_enter Tryz.func50, Tryz.ntmps50
        go_wp2
        go_ret
        exact ⟨congrArg (fun b => Ending.returned (.bool b)) (by simp [h1, h2]; exact ⟨by assumption, by assumption⟩), (Below.refl _ _).alloc (Nat.le_refl _) _⟩
      | true =>
        go_enter Tryz.func50, Tryz.ntmps50
        go_wp2
        go_ret
        exact ⟨congrArg (fun b => Ending.returned (.bool b)) (by simp [h1, h2]; omega), (Below.refl _ _).alloc (Nat.le_refl _) _⟩
    · have h3 : decide (V.size ≤ 64) = false := decide_eq_false h2
      go_enter Tryz.func50, Tryz.ntmps50
      go_wp2
      go_ret
      exact ⟨congrArg (fun b => Ending.returned (.bool b)) (by simp), (Below.refl _ _).alloc (Nat.le_refl _) _⟩
  · have h3 : decide (K.size ≤ 16) = false := decide_eq_false h1
    go_enter Tryz.func50, Tryz.ntmps50
    go_wp2
    go_ret
    exact ⟨congrArg (fun b => Ending.returned (.bool b)) (by simp), (Below.refl _ _).alloc (Nat.le_refl _) _⟩

theorem anyBad_take (ls : List Pl.Rc) (k : Nat) (x : Pl.Rc) (h : ls[k]? = some x) : Pl.anyBad (ls.take (k + 1)) = (Pl.anyBad (ls.take k) || !Pl.recB x) := by
  unfold Pl.anyBad
  rw [List.take_add_one, h, List.any_append]
  simp
theorem anyBad_mem (ls : List Pl.Rc) (k : Nat) (x : Pl.Rc) (h : ls[k]? = some x) (hx : Pl.recB x = false) : Pl.anyBad ls = true :=
  List.any_eq_true.2 ⟨x, List.mem_of_getElem? h, by rw [hx]; rfl⟩

set_option maxHeartbeats 400000 in
theorem dindex (v : Value) (ls : List Pl.Rc) (w : World) (h : Recs v ls w) (hl : ls.length ≤ 1099511627776) :
    Calls Tryz.prog 62 #[v, .func (.func 50) #[] #[]] w fun e w' => (∃ i : Int, e = .returned (.int .i64 i) ∧ (decide (0 ≤ i) = Pl.anyBad ls)) ∧ Below w.heap.size w w' := by
  obtain ⟨a, cap, rfl, hc⟩ := h
  obtain ⟨m, hm⟩ : ∃ m, ls.length = m := ⟨_, rfl⟩
  rw [hm] at hl ⊢
  have HM := Lib.hid hm
  have HC := Lib.hid hc
  clear hm hc
  go_enter Tryz.func62, Tryz.ntmps62
  go_wp2_with fail
  go_loopw [8] (fun iv wr => ∃ k : Nat, k ≤ m ∧ iv = .int .i64 k ∧ Pl.anyBad (ls.take k) = false ∧ Below w.heap.size w wr) (fun iv _ => m - (intOf iv).toNat)
  case atStart => exact ⟨0, Nat.zero_le _, rfl, rfl, Below.refl _ _⟩
  case round =>
    obtain ⟨k, hk, rfl, hall, hb⟩ := hrel
    have HA := Lib.hid hall
    have HB := Lib.hid hb
    clear hall hb
    by_cases hlt : k < m
    · obtain ⟨x, hg⟩ : ∃ x, ls[k]? = some x := ⟨_, List.getElem?_eq_getElem (by rw [HM.out]; exact hlt)⟩
      obtain ⟨b, off, rfl, hbl, c0, c1, c2, c3⟩ := HC.out k x hg
      have e : ∀ o, wr.cell? ⟨b, o, none⟩ = w.cell? ⟨b, o, none⟩ := fun o => HB.out.cell (p := ⟨b, o, none⟩) hbl
      rw [← e] at c0 c1 c2 c3
      have HG := Lib.hid hg
      have HRR := Lib.hid (dspoilt x wr)
      clear e hg hbl
      have hbw := HB.out.size
      cases hx : Pl.recB x with
      | true =>
        rw [hx] at HRR
        have HX := Lib.hid hx
        clear hx
        go_wp2_with fail
        refine HRR.out.mono ?_
        rintro e w1 ⟨rfl, b1⟩
        have HB1 := Lib.hid (HB.out.trans (b1.mono hbw))
        clear b1
        go_wp2_with fail
        go_roundw
        case rel => exact ⟨k + 1, by omega, by go_num, by rw [anyBad_take _ _ _ HG.out, HA.out, HX.out]; rfl, HB1.out⟩
        case measure => simp [intOf]; omega
      | false =>
        rw [hx] at HRR
        have HX := Lib.hid hx
        clear hx
        go_wp2_with fail
        refine HRR.out.mono ?_
        rintro e w1 ⟨rfl, b1⟩
        have HB1 := Lib.hid (HB.out.trans (b1.mono hbw))
        clear b1
        go_wp2_with fail
        go_ret
        exact ⟨⟨_, rfl, by rw [anyBad_mem _ _ _ HG.out HX.out]; exact decide_eq_true (by omega)⟩, HB1.out⟩
    · go_wp2_with fail
      go_ret
      have h := HA.out
      rw [List.take_of_length_le (by rw [HM.out]; omega)] at h
      exact ⟨⟨_, rfl, by rw [h]; rfl⟩, HB.out⟩

set_option maxHeartbeats 400000 in
theorem dcontains (v : Value) (ls : List Pl.Rc) (w : World) (h : Recs v ls w) (hl : ls.length ≤ 1099511627776) :
    Calls Tryz.prog 49 #[v, .func (.func 50) #[] #[]] w fun e w' => e = .returned (.bool (Pl.anyBad ls)) ∧ Below w.heap.size w w' := by
  have HC := Lib.hid (dindex v ls w h hl)
  obtain ⟨a, cap, rfl, hc⟩ := h
  clear hc
  go_enter Tryz.func49, Tryz.ntmps49
  go_wp2_with fail
  refine HC.out.mono ?_
  rintro e w1 ⟨⟨i, rfl, hi⟩, b1⟩
  clear HC
  have HI := Lib.hid hi
  clear hi
  go_wp2_with fail
  go_ret
  exact ⟨congrArg (fun b => Ending.returned (.bool b)) HI.out, b1⟩

set_option maxHeartbeats 1000000 in
set_option maxRecDepth 100000 in
theorem dplaced (base count prod seq time : Int) (ls : List Pl.Rc) (v : Value) (w : World) (h : Recs v ls w) (hl : ls.length ≤ 1099511627776) (hb : 0 ≤ base ∧ base ≤ 1099511627776) (hc : 0 ≤ count ∧ count ≤ 8) :
    Calls Tryz.prog 48 #[.agg #[.int .i64 base, .int .i64 count, .int .i64 prod, .int .i64 seq, .int .i64 time, v]] w fun e w' => e = .returned (.bool (Pl.placedB ls base (base + count))) ∧ Below w.heap.size w w' := by
  obtain ⟨a, cap, rfl, hcell⟩ := h
  obtain ⟨m, hm⟩ : ∃ m, ls.length = m := ⟨_, rfl⟩
  obtain ⟨r, hr⟩ : ∃ r, Pl.placedB ls base (base + count) = r := ⟨_, rfl⟩
  rw [hm] at hl ⊢
  rw [hr]
  have HM := Lib.hid hm
  have HC := Lib.hid hcell
  have HR := Lib.hid hr
  obtain ⟨hb0, hb1⟩ := hb
  obtain ⟨hc0, hc1⟩ := hc
  have hw0 : Below w.heap.size w (w.alloc (.cells #[.int .i64 base, .int .i64 count, .int .i64 prod, .int .i64 seq, .int .i64 time, .slice a m cap] 37)) := (Below.refl _ _).alloc (Nat.le_refl _) _
  have HBK := Lib.hid (Blk.new w #[.int .i64 base, .int .i64 count, .int .i64 prod, .int .i64 seq, .int .i64 time, .slice a m cap] 37)
  have HW0 := Lib.hid hw0
  clear hm hcell hr hw0
  go_enter Tryz.func48, Tryz.ntmps48
  go_wp2_with fail
  generalize w.alloc (.cells #[.int .i64 base, .int .i64 count, .int .i64 prod, .int .i64 seq, .int .i64 time, .slice a m cap] 37) = W0 at *
  go_loopw [3, 11] (fun nv iv wr => ∃ (k : Nat) (next : Int), k ≤ m ∧ iv = .int .i64 k ∧ nv = .int .i64 next ∧ 0 ≤ next ∧ Pl.placedB (ls.drop k) next (base + count) = r ∧ Below W0.heap.size W0 wr) (fun _ iv _ => m - (intOf iv).toNat)
  case atStart => exact ⟨0, base, Nat.zero_le _, rfl, rfl, hb0, HR.out, Below.refl _ _⟩
  case round =>
    obtain ⟨k, next, hk, rfl, rfl, hn0, hpl, hb⟩ := hrel
    have HB := Lib.hid hb
    have HP := Lib.hid hpl
    have HBR := Lib.hid (HBK.out.below hb)
    clear hb hpl
    by_cases hlt : k < m
    · obtain ⟨x, hg⟩ : ∃ x, ls[k]? = some x := ⟨_, List.getElem?_eq_getElem (by rw [HM.out]; exact hlt)⟩
      obtain ⟨b, off, rfl, hbl, c0, c1, c2, c3⟩ := HC.out k x hg
      have e : ∀ o, wr.cell? ⟨b, o, none⟩ = w.cell? ⟨b, o, none⟩ := fun o => ((HW0.out.trans (HB.out.mono HW0.out.size)).cell (p := ⟨b, o, none⟩) hbl)
      rw [← e] at c0 c1 c2 c3
      have hdr : ls.drop k = x :: ls.drop (k + 1) := by
        have h1 := List.drop_eq_getElem_cons (l := ls) (i := k) (by rw [HM.out]; exact hlt)
        rw [h1, Option.some.inj ((List.getElem?_eq_getElem (by rw [HM.out]; exact hlt)).symm.trans hg)]
      have HR2 : Hid ((decide (next ≤ x.off ∧ x.off < base + count) && Pl.placedB (ls.drop (k + 1)) (x.off + 1) (base + count)) = r) := by rw [← HP.out, hdr]; rfl
      obtain ⟨y0, -, -, -⟩ := cells_four wr (.int .i64 x.off) (.string ⟨x.key.toArray⟩) (.string ⟨x.val.toArray⟩) (.bool x.gone) 65
      have hw5 : Below wr.heap.size wr (wr.alloc (.cells #[.int .i64 x.off, .string ⟨x.key.toArray⟩, .string ⟨x.val.toArray⟩, .bool x.gone] 65)) := (Below.refl _ _).alloc (Nat.le_refl _) _
      have bk := HBR.out.below hw5
      have d0 := bk.cell (i := 0) rfl
      have d1 := bk.cell (i := 1) rfl
      have HB5 := Lib.hid (HB.out.trans (hw5.mono HB.out.size))
      clear bk hw5 e hg hbl hdr
      have hsum : IntKind.i64.wrap (base + count) = base + count := IntWalk.i64_in _ (by omega)
      by_cases ho : x.off < next
      · have ho2 : decide (x.off < next) = true := decide_eq_true ho
        have HO := Lib.hid ho
        clear ho
        go_wp2_with fail
        go_ret
        exact ⟨congrArg (fun b => Ending.returned (.bool b)) (by rw [← HR2.out, decide_eq_false (show ¬ (next ≤ x.off ∧ x.off < base + count) from fun h => absurd HO.out (by omega))]; rfl), HW0.out.trans (HB5.out.mono HW0.out.size)⟩
      · have ho2 : decide (x.off < next) = false := decide_eq_false ho
        have HO := Lib.hid ho
        clear ho
        by_cases hu : base + count ≤ x.off
        · have hu2 : decide (base + count ≤ x.off) = true := decide_eq_true hu
          have HU := Lib.hid hu
          clear hu
          go_wp2_with fail
          go_ret
          exact ⟨congrArg (fun b => Ending.returned (.bool b)) (by rw [← HR2.out, decide_eq_false (show ¬ (next ≤ x.off ∧ x.off < base + count) from fun h => absurd HU.out (by omega))]; rfl), HW0.out.trans (HB5.out.mono HW0.out.size)⟩
        · have hu2 : decide (base + count ≤ x.off) = false := decide_eq_false hu
          have hlow : x.off < base + count := by omega
          have HU := Lib.hid hu
          clear hu
          have HO' := HO.out
          go_wp2_with fail
          go_roundw
          case rel => exact ⟨k + 1, x.off + 1, by omega, by go_num, by go_num, by omega, by rw [← HR2.out, decide_eq_true (show next ≤ x.off ∧ x.off < base + count from ⟨by omega, hlow⟩)]; rfl, HB5.out⟩
          case measure => simp [intOf]; omega
    · go_wp2_with fail
      go_ret
      have h := HP.out
      rw [List.drop_of_length_le (by rw [HM.out]; omega)] at h
      exact ⟨congrArg (fun b => Ending.returned (.bool b)) (by rw [← h]; rfl), HW0.out.trans (HB.out.mono HW0.out.size)⟩
end Go.Proofs.YtloallndnmofnaaGreatDoor
