/- LedgerWrites: FOR EVERY TABLE, RAW ONES TOO, AND EVERY STRING the law answers true. No condition but the listed variables, which the card ties to the program's text. -/
import Derived.Test.YtloallndnmofnaaGreatDoorRDec
import Derived.Test.YtloallndnmofnaaGreatDoorGreat
import Derived.Test.YtloallndnmofnaaGreatDoorAwake
import Derived.Test.YtloallndnmofnaaGreatDoorOpenT
import Derived.Test.YtloallndnmofnaaGreatDoorLiftB
namespace Go.Proofs.YtloallndnmofnaaGreatDoor
open Go.RowKit

theorem tab_nil (w : World) : TabAt (fun _ => True) (.slice none 0 0) [] w := ⟨none, 0, rfl, fun j x hj => by simp at hj⟩
/-- Both sides write the same. -/
theorem enc_both (P : Nat → Prop) (v : Value) (T : Ld.Tb) (w : World) (lb : Lb w) (h : TabAt P v T w) (hg : Ld.greatB T = false) : ∃ (ES : ByteArray) (ec : Int),
    (∀ w', RowKit.Below w.heap.size w w' → Calls Tryz.prog 6 #[v] w' fun e w'' => e = .returned (.tuple #[.string ES, .int .i64 ec]) ∧ RowKit.Below w'.heap.size w' w'') ∧
    (∀ w', RowKit.Below w.heap.size w w' → Calls Tryz.prog 7 #[v] w' fun e w'' => e = .returned (.tuple #[.string ES, .int .i64 ec]) ∧ RowKit.Below w'.heap.size w' w'') := by
  obtain ⟨hl, hL⟩ := Ld.great_no hg
  cases hG : Ld.goodB T with
  | false => exact ⟨⟨#[]⟩, 1, fun w' hb => dtenc_no P v T w' (h.below hb) hl hL hG, fun w' hb => rtenc_no P v T w' (h.below hb) hG⟩
  | true => exact ⟨_, 0, fun w' hb => dtenc P v T w' (lb.below lb.size hb) (h.below hb) hG, fun w' hb => rtenc P v T w' (h.below hb) hG⟩

set_option maxHeartbeats 4000000 in
set_option maxRecDepth 100000 in
theorem writes_any (P : Nat → Prop) (v : Value) (T : Ld.Tb) (s : ByteArray) (w : World) (lb : Lb w) (h : TabAt P v T w) (hs : s.size ≤ 281474976710656) :
    Calls Tryz.prog 3 #[v, .string s] w fun e w' => e = .returned (.bool true) ∧ RowKit.Below w.heap.size w w' := by
  have HA := Lib.hid (awake_any w lb.lg)
  have HLB := Lib.hid lb
  have HT := Lib.hid h
  have HSS := Lib.hid hs
  obtain ⟨a, cap, rfl, -⟩ := h
  obtain ⟨m, hm⟩ : ∃ m, T.length = m := ⟨_, rfl⟩
  rw [hm] at HT ⊢
  clear lb hs hm
  go_enter Tryz.func3, Tryz.ntmps3
  go_wp2_with fail
  refine HA.out.mono ?_
  rintro e w1 ⟨rfl, b1⟩
  have HB1 := Lib.hid b1
  have HT1 := Lib.hid (HT.out.below b1)
  have HLB1 := Lib.hid (HLB.out.below HLB.out.size b1)
  have HGR := Lib.hid (great_any _ _ T w1 HT1.out)
  obtain ⟨g, hg⟩ : ∃ g, Ld.greatB T = g := ⟨_, rfl⟩
  rw [hg] at HGR
  have HG := Lib.hid hg
  clear b1 HA HT HLB hg
  go_wp2_with fail
  refine HGR.out.mono ?_
  rintro e w' ⟨rfl, rfl⟩
  clear HGR
  cases g with
  | true =>
    go_wp2_with fail
    go_ret
    exact ⟨rfl, HB1.out⟩
  | false =>
    obtain ⟨ES, ec, E1, E2⟩ := enc_both _ _ T w1 HLB1.out HT1.out HG.out
    have HE1 := Lib.hid E1
    have HE2 := Lib.hid E2
    clear E1 E2
    go_wp2_with fail
    refine (HE1.out w1 (Below.refl _ _)).mono ?_
    rintro e w2 ⟨rfl, b2⟩
    have HB2 := Lib.hid b2
    clear b2 HE1
    go_wp2_with fail
    refine (HE2.out w2 HB2.out).mono ?_
    rintro e w3 ⟨rfl, b3⟩
    have HB3 := Lib.hid (HB2.out.trans (b3.mono HB2.out.size))
    clear b3 HE2
    have HD := Lib.hid (fun w' (h : RowKit.Below w1.heap.size w1 w') => ddect s w' (HLB1.out.below HLB1.out.size h) HSS.out)
    have HRD := Lib.hid (fun w' => rdect s w' HSS.out)
    rw [Ld.decT_same (f := 6) (g := 65) (f' := 5) (g' := 64) (by omega) (by omega) (by omega) (by omega)] at HRD
    obtain ⟨r, hr⟩ : ∃ r, Ld.decT 5 64 s.data.toList = r := ⟨_, rfl⟩
    rw [hr] at HD HRD
    have HR := Lib.hid hr
    clear hr
    cases r with
    | none =>
      go_wp2_with fail
      refine (HD.out w3 HB3.out).mono ?_
      rintro e w4 ⟨rfl, b4⟩
      have HB4 := Lib.hid (HB3.out.trans (b4.mono HB3.out.size))
      clear b4
      go_wp2_with fail
      refine (HRD.out w4).mono ?_
      rintro e w5 ⟨rfl, b5⟩
      have HB5 := Lib.hid (HB4.out.trans (b5.mono HB4.out.size))
      have HSM := Lib.hid (rsame _ _ _ _ [] w5 (tab_nil w5) (tab_nil w5) (by simp) (by simp))
      clear b5
      go_wp2_with fail
      refine HSM.out.mono ?_
      rintro e w6 ⟨rfl, b6⟩
      have HB6 := Lib.hid (HB1.out.trans ((HB5.out.trans (b6.mono HB5.out.size)).mono HB1.out.size))
      clear b6
      go_wp2_with fail
      go_ret
      exact ⟨rfl, HB6.out⟩
    | some V =>
      go_wp2_with fail
      refine (HD.out w3 HB3.out).mono ?_
      rintro e w4 ⟨⟨xv, rfl, hx⟩, b4⟩
      have HB4 := Lib.hid (HB3.out.trans (b4.mono HB3.out.size))
      have HX := Lib.hid hx
      clear b4 hx
      go_wp2_with fail
      refine (HRD.out w4).mono ?_
      rintro e w5 ⟨⟨yv, rfl, hy⟩, b5⟩
      have HB5 := Lib.hid (HB4.out.trans (b5.mono HB4.out.size))
      have hV := good_short ((Ld.decT_iff (by omega) (by omega)).1 HR.out).1
      have HSM := Lib.hid (rsame _ _ xv yv V w5 (HX.out.below b5) hy hV.1 hV.2)
      clear b5 hy hV
      go_wp2_with fail
      refine HSM.out.mono ?_
      rintro e w6 ⟨rfl, b6⟩
      have HB6 := Lib.hid (HB1.out.trans ((HB5.out.trans (b6.mono HB5.out.size)).mono HB1.out.size))
      clear b6
      go_wp2_with fail
      go_ret
      exact ⟨rfl, HB6.out⟩
end Go.Proofs.YtloallndnmofnaaGreatDoor
namespace Go.Proofs.YtloallndnmofnaaGreatDoor.ledgerWrites
open Go.ChangeShapes Go.WideShapes Go.ChangeAt Go.RowKit
open Go.ChangeMaps (open_string shut_string)

set_option maxRecDepth 100000 in
theorem contract (H : Type) (enc : TypeId × Value → H) (W : World) (base : Nat) (args : Array Value) (ds gs : List (DataW H)) (before : List MemPlace)
    (hval : ∀ (j : Nat) t v, Tryz.f3.params[j]? = some t → args[j]? = some v → Value.okWide Tryz.prog W .any base t v)
    (hW : DataW.Whole enc Tryz.prog Tryz.f3.params.toList Rows.ledgerWritesSpec.vars false W args.toList ds gs before)
    (hsz : (DataW.weightsEach Tryz.prog (Tryz.f3.params.toList ++ Rows.ledgerWritesSpec.plain.varTypes Tryz.prog) (ds ++ gs)).all (· ≤ reachBytes) = true) (hL : laidMetH Tryz.prog Rows.ledgerWritesRow.laid W) :
    Calls Tryz.prog 3 args W fun e W' => ∃ v, e = .returned v ∧ Rows.ledgerWritesSpec.post enc Tryz.prog Tryz.f3 false true false false W args v W' := by
  have hl : Lb W := lb_of_laid hL
  have hW' := hW
  obtain ⟨p, q, hAA, hV, rfl, hfz, hnd⟩ := hW
  have hA : DataW.TrodAll enc Tryz.prog W 0 (fun _ => true) true Tryz.f3.params.toList args.toList ds p := hAA
  rw [Tryz.params3] at hA hval hsz
  obtain ⟨v0, v1, d0, d1, p0, p1, rfl, rfl, rfl, h0, h1⟩ := trodAll_two hA
  obtain ⟨rfl, rfl⟩ := trodVars_none hV
  clear hAA
  have h0k := h0
  have hlt0 : ∀ x ∈ p0, x.block < W.heap.size := fun x hx => by have := hW'.lt x (by simp [hx]); simpa using this
  obtain ⟨a0, len0, cap0, rfl⟩ := okWide_slice Tryz.underlying22 (hval 0 22 v0 rfl rfl)
  obtain ⟨fuel0, hf0⟩ := h0
  obtain ⟨T, hA0⟩ := open_tab hf0
  obtain ⟨s, rfl, rfl, rfl, ws⟩ := open_string Tryz.underlying9 (hval 1 9 v1 rfl rfl) h1
  simp only [List.append_nil] at hW'
  have hss : s.size ≤ 140737488355328 := by
    have h1 := sized_string hsz (j := 1) (t := 9) rfl rfl
    have h2 := reachBytes_lt
    have e1 : s.size = s.data.size := rfl
    have e2 : s.data.toList.length = s.data.size := Array.length_toList
    have e3 : (2 : Nat) ^ 47 = 140737488355328 := by decide
    omega
  refine (writes_any _ _ T s W hl hA0 (by omega)).mono fun e W' ⟨he, hg⟩ => ?_
  subst he
  exact ⟨_, rfl, _, _, _, [], _, [], hW', trodAll_mk1 (shut_bool Tryz.underlying4 _), trodAll_mk2 (Below.trod laidOut (by kernel_rfl) (of_decide_eq_true (by kernel_rfl)) h0k hg hlt0) (shut_string Tryz.underlying9 ws), rfl, hg.frame _, fun h => by cases h⟩

theorem reads (os : Os) {H : Type} (enc : TypeId × Value → H) : ∃ places, DataW.whole enc Tryz.prog ((laidWorld7 os).forCall (fun _ _ => 0) ⟨#[], #[.slice none 0 0, .string ⟨#[]⟩], []⟩).memory Tryz.f3.params.toList Rows.ledgerWritesSpec.vars false (#[.slice none 0 0, .string ⟨#[]⟩] : Array Value).toList 8 = some ([.nil, .lit (.string [])], [], places) :=
  ⟨[], by kernel_rfl⟩

set_option maxRecDepth 100000 in
theorem lifted (os : Os) (started : os.Started) (H : Type) (enc : TypeId × Value → H) (F : Stop.Interp) :
    ReturnsInHanded {} Tryz.checked os 3 .any ((OpenSpec.ofChange Rows.ledgerWritesSpec).preRow enc Tryz.prog Tryz.f3 Rows.ledgerWritesRow.domain false Rows.ledgerWritesRow.laid) (((OpenSpec.ofChange Rows.ledgerWritesSpec).at F).post enc Tryz.prog Tryz.f3 false true false false) := by
  obtain ⟨places, hx⟩ := reads os enc
  refine returnsInHanded_of_row (C := Tryz.checked) (s := OpenSpec.ofChange Rows.ledgerWritesSpec) own started (by kernel_rfl) Tryz.func3
    (witness_row_at (enc := enc) (C := Tryz.checked) false (laidWorld7 os) #[.slice none 0 0, .string ⟨#[]⟩] rfl (by kernel_rfl) (by kernel_rfl) (by kernel_rfl)
      (OpenSpec.preRow_of_cond 8 hx (by kernel_rfl) (fun k hk => by cases hk) (by kernel_rfl) (laid_met7 os _))) ?_
  intro W base args ds gs before hval hW _ _ hsz hL _ _
  exact contract H enc W base args ds gs before hval hW hsz hL

theorem said : Rows.LedgerWritesSaid :=
  OpenClaim.holds_of_cond 3 Tryz.f3 rfl rfl rfl rfl rfl rfl rfl ⟨rfl, rfl, rfl, rfl, rfl⟩ rfl rfl rfl rfl rfl (by kernel_rfl) Tryz.func3 (by kernel_rfl)
    (of_decide_eq_true (by kernel_rfl)) (by unfold Func.isWrapper; first | (rw [if_pos (by decide +kernel)]; kernel_rfl) | (rw [if_neg (by decide +kernel)]; exact ⟨rfl, rfl⟩))
    (fun os started H enc _ F => by rw [OpenClaim.pre_eq_preRow]; exact lifted os started H enc F)

theorem plain (f : FuncId) (fn : Func) (hf : Tryz.pinned.checked.prog.funcNamed "heliograph/heliographlaw06.LedgerWrites" = some f) (hfn : Tryz.pinned.checked.prog.funcs[f]? = some fn) :
    true = Tryz.pinned.checked.prog.looks [] ∧ ∀ (j : Nat) t, fn.params[j]? = some t → Tryz.pinned.checked.prog.wantsStandIn t = false := by
  obtain rfl : f = 3 := Option.some.inj ((show Tryz.prog.funcNamed "heliograph/heliographlaw06.LedgerWrites" = some 3 by kernel_rfl).symm.trans hf) |>.symm
  obtain rfl : fn = Tryz.f3 := (Option.some.inj (Tryz.func3.symm.trans hfn)).symm
  refine ⟨by kernel_rfl, fun j t ht => ?_⟩
  have hall : (Tryz.f3.params.toList.all fun t => !(Tryz.prog.wantsStandIn t)) = true := by kernel_rfl
  have h := List.all_eq_true.1 hall t (by simpa using Array.mem_of_getElem? ht)
  show Tryz.prog.wantsStandIn t = false
  simpa using h

theorem card : Rows.LedgerWritesCardSaid :=
  Claim7.holds_tied_plain_at .later [] _ _ _ _ said (fun _ h => by cases h) (by kernel_rfl) (fun _ h => by cases h) ledgerWrites_row_tie rfl ⟨rfl, rfl⟩ (by kernel_rfl) rfl plain (by kernel_rfl)
end Go.Proofs.YtloallndnmofnaaGreatDoor.ledgerWrites
