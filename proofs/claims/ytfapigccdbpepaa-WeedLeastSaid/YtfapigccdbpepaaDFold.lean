/- THE CONTRACTS OF slices.SortedFunc and of the program's Fold; what the program's three functions answer. -/
import Derived.Test.YtfapigccdbpepaaDSort
import Derived.Test.YtfapigccdbpepaaDThin2
import Derived.Test.YtfapigccdbpepaaDOld
import Derived.Test.YtfapigccdbpepaaDevs
namespace Go.Proofs.Ytfapigccdbpepaa
open Go.RowKit

set_option maxHeartbeats 1000000 in
theorem sortedF_any (Bm b : Nat) (S : List Pl.Rc) (hS : Wd.Srt S) (hl : S.length ≤ 1048576) (w : World) (hBm : Bm < w.heap.size) (hm : w.cell? ⟨Bm, 0, none⟩ = some (.map (some b))) (hv : VMap w b S) :
    Calls Try.prog 33 #[.func (.func 45) #[] #[.pointer (some ⟨Bm, 0, none⟩)], .func (.func 31) #[] #[]] w fun e w' => ∃ v, e = .returned v ∧ RcIn (fun b => w.heap.size ≤ b) w' v S ∧ Below w.heap.size w w' := by
  have HC := Lib.hid (collect_any Bm b S hS hl w hBm hm hv)
  have HSRT := Lib.hid hS
  have HL := Lib.hid hl
  clear hS hl hBm hm hv
  go_enter Try.func33, Try.ntmps33
  go_wp2_with fail
  refine HC.out.mono ?_
  rintro e w1 ⟨v, gb, xs, rfl, hp, hr, hb⟩
  have HSO := Lib.hid (sortF_any v gb xs S w1 hr (by rw [hp.length_eq]; exact HL.out) HSRT.out hp hb.size)
  have HB := Lib.hid hb
  clear hp hr hb
  go_wp2_with fail
  refine HSO.out.mono ?_
  rintro e w2 ⟨rfl, hrc, hb2⟩
  have HR := Lib.hid hrc
  have HB2 := Lib.hid (HB.out.trans hb2)
  clear hrc hb2
  go_wp2_with fail
  go_ret
  exact ⟨_, rfl, HR.out, HB2.out⟩

set_option maxHeartbeats 1000000 in
theorem dfold {A : Nat → Prop} (v : Value) (L : List (Pl.Bt × Value)) (upto : Int) (w : World) (hv : BtIn A w v L) (hf : Few (L.map (·.1))) :
    Calls Try.prog 16 #[v, .int .i64 upto] w (FoldOut w (L.map (·.1)) upto) := by
  have HLA := Lib.hid (latest_any v L upto w hv hf)
  obtain ⟨S, hS⟩ : ∃ S, Wd.lasts ((Wd.rcs (L.map (·.1))).filter (Wd.under upto)) = S := ⟨_, rfl⟩
  have HFO : Hid (Wd.fold (L.map (·.1)) upto = S.filter fun x => !x.gone) := Lib.hid (by rw [← hS]; rfl)
  have HSR : Hid (Wd.Srt S) := Lib.hid (by rw [← hS]; exact (Wd.lasts_spec _).1)
  have HLN : Hid (S.length ≤ 4096) := Lib.hid (by
    rw [← hS]
    exact Nat.le_trans (Wd.lasts_len _) (Nat.le_trans (List.length_filter_le _ _) hf.rcs))
  rw [hS] at HLA
  obtain ⟨a1, c1, rfl⟩ := hv.1.form
  clear hv hf hS
  go_enter Try.func16, Try.ntmps16
  go_wp2_with fail
  refine HLA.out.mono ?_
  rintro e w1 ⟨b, rfl, hbz, hvm, hb1⟩
  have HDM := Lib.hid (delM_any b S w1 hvm)
  have HB1 := Lib.hid hb1
  have HBZ := Lib.hid hbz
  clear hbz hvm hb1 HLA
  go_wp2_with fail
  refine HDM.out.mono ?_
  rintro e w2 ⟨rfl, hv2, hg2⟩
  have HV2 := Lib.hid hv2
  have HB2 := Lib.hid (HB1.out.grown hg2 HB1.out.size (fun k e => by cases e; exact HBZ.out))
  have HVA := Lib.hid (values_any b w2)
  have hal : Below w2.heap.size w2 (w2.alloc (.cells #[.map (some b)] 52)) := (Below.refl _ _).alloc (Nat.le_refl _) _
  have HSO := Lib.hid (sortedF_any w2.heap.size b (S.filter fun x => !x.gone) (HSR.out.filter _) (Nat.le_trans (List.length_filter_le _ _) (Nat.le_trans HLN.out (by decide))) (w2.alloc (.cells #[.map (some b)] 52)) (by simp) ((Blk.new w2 #[.map (some b)] 52).cell rfl) (hv2.below hal))
  have HAL := Lib.hid hal
  clear hv2 hg2 hal HDM
  go_wp2_with fail
  refine HVA.out.mono ?_
  rintro e w3 ⟨rfl, rfl⟩
  go_wp2_with fail
  refine HSO.out.mono ?_
  rintro e w4 ⟨v4, rfl, hr4, hb4⟩
  have hz : w.heap.size ≤ (w2.alloc (.cells #[.map (some b)] 52)).heap.size := Nat.le_trans HB2.out.size HAL.out.size
  have HF : Hid (FoldOut w (L.map (·.1)) upto (.returned v4) w4) := Lib.hid ⟨(HB2.out.trans (HAL.out.mono HB2.out.size)).trans (hb4.mono hz), v4, rfl, by rw [HFO.out]; exact hr4.mono fun c hc => Nat.le_trans hz hc⟩
  clear hr4 hb4 hz
  go_wp2_with fail
  go_ret
  exact HF.out

/-- The program's three functions answer as the document says. -/
theorem devs : Devs where
  thin v L high now hor w hv hf := dthin v L high now hor w hv hf
  fold v L upto w hv hf := dfold v L upto w hv hf
  old ev bv ends bytes high keep w he hb h1 h2 := dold ev bv ends bytes high keep w he hb h1 h2
end Go.Proofs.Ytfapigccdbpepaa
