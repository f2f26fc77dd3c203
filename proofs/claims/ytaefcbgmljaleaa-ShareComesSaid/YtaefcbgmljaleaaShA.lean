/- THE CONTRACT OF share's Assign. -/
import Derived.Test.YtaefcbgmljaleaaShG
import Derived.Deep.CutBlock
import Derived.Deep.CutRange
import Derived.Deep.DeepCutAuto
namespace Go.Proofs.Ytaefcbgmljaleaa
open Go.RowKit

theorem infoOwner : Info Try.prog 36 2 24 (.agg #[.int .i64 0, .string ByteArray.empty]) := Info.of (by kernel_rfl) rfl
/-- What an assignment answers. -/
def AsgOut (w : World) (ms : List ByteArray) (e : Ending) (w' : World) : Prop := Below w.heap.size w w' ∧ ∃ v gb, e = .returned v ∧ Wz w.heap.size w' v gb 36 2 ms.length (Sh.ocel 0 ms)
def Eqv (w w' : World) : Prop := w' = w
theorem msTo_next {P : Nat} {L : List ByteArray} {i : Nat} {x : ByteArray} (h : L.getD i default = x) : Sh.msTo P L (i + 1) = Sh.msTo P L i ++ List.replicate (Sh.sharN P L.length i) x := by rw [Sh.msTo, h]
set_option maxHeartbeats 2000000 in
theorem assign_any {A : Nat → Prop} (parts : Int) (v : Value) (L : List ByteArray) (w : World) (h : Nms A w v L) :
    Calls Try.prog 11 #[.int .i64 parts, v] w fun e w' => AsgOut w (Sh.msOf parts L) e w' := by
  obtain ⟨a, cap, rfl⟩ := h.form
  have C := fun w1 (hb : Below w.heap.size w w1) => good_any _ L w1 (h.below hb)
  obtain ⟨m, hm⟩ : ∃ m, L.length = m := ⟨_, rfl⟩
  rw [hm] at C
  have HC := Lib.hid C
  have HV := Lib.hid h
  have HM := Lib.hid hm
  rw [hm]
  clear h C hm
  have HR := Lib.hid (Below.refl w.heap.size w)
  by_cases hg : Sh.goodB L = true
  · by_cases h0 : 0 ≤ parts
    · by_cases h4 : parts ≤ 4
      · obtain ⟨P, hP⟩ : ∃ P, (parts - 1).toNat = P := ⟨_, rfl⟩
        have HP4 : P < 4 := by omega
        have HM4 : m < 5 := by have := Sh.good_len hg; rw [HM.out] at this; omega
        have HMS : Hid (Sh.msOf parts L = Sh.msTo P L m) := Lib.hid (by unfold Sh.msOf; rw [if_pos ⟨hg, h0, h4⟩, hP, HM.out])
        have HPE := Lib.hid hP
        have hP1 : parts - 1 ≤ (P : Int) := by omega
        have hP2 : (0 : Int) ≤ parts - 1 → parts - 1 = (P : Int) := by omega
        have HP2 := Lib.hid hP2
        have HP3 : Hid (¬ (0 : Int) ≤ parts - 1 → (P : Int) = 0) := Lib.hid (by omega)
        clear hP hP2
        go_enter Try.func11, Try.ntmps11
        go_upto_region 3 with (go_at_call 8; refine (HC.out _ HR.out).mono ?_; rintro e w1 ⟨rfl, hb1⟩; have HB1 := Lib.hid hb1; clear hb1)
        go_cut [5] (fun p5 wx => p5 = .int .i64 P ∧ Eqv w1 wx)
        case first =>
          by_cases hpp : (0 : Int) ≤ parts - 1
          · go_wp2_with fail
            go_meet
            case rel => exact ⟨by rw [HP2.out hpp], rfl⟩
          · go_wp2_with fail
            go_meet
            case rel => exact ⟨by rw [HP3.out hpp], rfl⟩
        case rest =>
          obtain ⟨rfl, he⟩ := hcut
          have hwe : w1 = wc := he.symm
          subst hwe
          clear he
          have HNL : Hid (Wz w.heap.size w1 (.slice none 0 0) none 36 2 0 (Sh.ocel 0 [])) := Lib.hid (Wz.nil _ _ _ _)
          go_wp2_with fail
          go_loopw [6, 7, 8, 9, 26] (fun ov _ _ _ iv wr => ∃ (i : Nat) (gb : Option Nat), i ≤ m ∧ iv = .int .i64 i ∧ Below w.heap.size w wr ∧ Wz w.heap.size wr ov gb 36 2 (Sh.msTo P L i).length (Sh.ocel 0 (Sh.msTo P L i))) (fun _ _ _ _ iv _ => m - (intOf iv).toNat)
          case atStart => exact ⟨0, none, Nat.zero_le _, rfl, HB1.out, HNL.out⟩
          case round =>
            obtain ⟨i, gb, hi, rfl, hb, hz⟩ := hrel
            have HB := Lib.hid hb
            have HZ := Lib.hid hz
            by_cases hlt : i < m
            · obtain ⟨x, hx⟩ : ∃ x, L[i]? = some x := ⟨_, List.getElem?_eq_getElem (by rw [HM.out]; exact hlt)⟩
              obtain ⟨b, p, cap', e, -, hbl, c0⟩ := (HV.out.below HB.out).at hx
              obtain rfl : a = some ⟨b, p, none⟩ := by injection e
              have HX := Lib.hid (getD_of hx)
              obtain ⟨q, hq⟩ : ∃ q, P / m = q := ⟨_, rfl⟩
              obtain ⟨r, hr⟩ : ∃ r, P % m = r := ⟨_, rfl⟩
              have hqi : (P : Int) / (m : Int) = (q : Int) := by rw [← hq]; exact (Int.natCast_ediv P m).symm
              have hri : (P : Int) % (m : Int) = (r : Int) := by rw [← hr]; exact (Int.natCast_emod P m).symm
              obtain ⟨sh, hsh⟩ : ∃ sh, Sh.sharN P m i = sh := ⟨_, rfl⟩
              have hs4 : sh ≤ 4 := by rw [← hsh]; exact Sh.shar_small P HP4 m HM4 i (by omega)
              have HSH : Hid (sh = q + if i < r then 1 else 0) := Lib.hid (by rw [← hsh, ← hq, ← hr]; rfl)
              have HNX : Hid (Sh.msTo P L (i + 1) = Sh.msTo P L i ++ List.replicate sh x) := Lib.hid (by rw [msTo_next HX.out, HM.out, hsh])
              have HLN : Hid ((Sh.msTo P L i).length ≤ 16) := Lib.hid (by rw [Sh.msTo_len, HM.out]; exact Sh.cnt_small P HP4 m HM4 i (by omega))
              have HMM : Hid ((List.replicate 0 x : List ByteArray) = []) := Lib.hid rfl
              have hq4 : q ≤ 3 := by rw [← hq]; exact Nat.le_trans (Nat.div_le_self P m) (by omega)
              clear e hx hq hr hsh hb hz
              have hm1 : (1 : Int) ≤ (m : Int) := by omega
              have hp0 : (0 : Int) ≤ (P : Int) := by omega
              go_upto_if 40 with fail
              go_cut [9] (fun p9 wx => p9 = .int .i64 sh ∧ Eqv wr wx)
              case first =>
                by_cases hir : i < r
                · have hd : decide ((i : Int) < (r : Int)) = true := by simp; omega
                  have hd2 : decide (i < r) = true := by simp; omega
                  go_wp2_with fail
                  go_meet
                  case rel => exact ⟨by rw [HSH.out, if_pos hir]; go_num, rfl⟩
                · have hd : decide ((i : Int) < (r : Int)) = false := by simp; omega
                  have hd2 : decide (i < r) = false := by simp; omega
                  go_wp2_with fail
                  go_meet
                  case rel => exact ⟨by rw [HSH.out, if_neg hir]; go_num, rfl⟩
              case rest =>
                obtain ⟨rfl, he⟩ := hcut
                have hwe : wr = wc := he.symm
                subst hwe
                clear he hqi hri
                have HMS0 : Hid (Sh.msTo P L i = Sh.msTo P L i ++ List.replicate 0 x) := Lib.hid (by rw [HMM.out, List.append_nil])
                have HZ0 : Hid (Wz w.heap.size wr u6 gb 36 2 (Sh.msTo P L i ++ List.replicate 0 x).length (Sh.ocel 0 (Sh.msTo P L i ++ List.replicate 0 x))) := Lib.hid (by rw [← HMS0.out]; exact HZ.out)
                go_wp2_with fail
                go_loopw [6, 44] (fun ov kv wr' => ∃ (k : Nat) (gb : Option Nat), k ≤ sh ∧ kv = .int .i64 k ∧ Below w.heap.size w wr' ∧ Wz w.heap.size wr' ov gb 36 2 (Sh.msTo P L i ++ List.replicate k x).length (Sh.ocel 0 (Sh.msTo P L i ++ List.replicate k x))) (fun _ kv _ => sh - (intOf kv).toNat)
                case atStart => exact ⟨0, gb, Nat.zero_le _, rfl, HB.out, HZ0.out⟩
                case round =>
                  obtain ⟨k, gk, hk, rfl, hb, hz⟩ := hrel
                  have HBK := Lib.hid hb
                  by_cases hlk : k < sh
                  · obtain ⟨N, hN⟩ : ∃ N, (Sh.msTo P L i ++ List.replicate k x).length = N := ⟨_, rfl⟩
                    have hN2 : N ≤ 1048576 := by have := HLN.out; rw [List.length_append, List.length_replicate] at hN; omega
                    rw [hN] at hz
                    obtain ⟨ao, co, rfl⟩ := hz.form
                    obtain ⟨W2, hW2⟩ : ∃ W2, wr.alloc (.cells #[.int .i64 ((N : Int) + 1), .string x] 36) = W2 := ⟨_, rfl⟩
                    have HZK : Hid (Wz w.heap.size W2 (.slice ao N co) gk 36 2 N (Sh.ocel 0 (Sh.msTo P L i ++ List.replicate k x))) := Lib.hid (by rw [← hW2]; exact hz.below ((Below.refl _ _).alloc (Nat.le_refl _) _))
                    have HNEW : Hid (∀ j u, ([.int .i64 ((N : Int) + 1), .string x] : List Value)[j]? = some u → W2.cell? ((⟨wr.heap.size, 0, none⟩ : Addr).add j) = some u) := Lib.hid (by rw [← hW2]; exact built_cells wr _ _)
                    have HBW : Hid (Below w.heap.size w W2) := Lib.hid (by rw [← hW2]; exact hb.alloc hb.size _)
                    have HAP : Hid (Sh.ocel 0 (Sh.msTo P L i ++ List.replicate k x) ++ [.int .i64 ((N : Int) + 1), .string x] = Sh.ocel 0 (Sh.msTo P L i ++ List.replicate (k + 1) x)) := Lib.hid (by
                      rw [List.replicate_succ', ← List.append_assoc, Sh.ocel_snoc, hN]
                      simp)
                    have HLE : Hid (N + 1 = (Sh.msTo P L i ++ List.replicate (k + 1) x).length) := Lib.hid (by rw [← hN]; simp; omega)
                    have HN2 := Lib.hid hN2
                    clear hN hz hb
                    go_wp2_with (at_builtin; refine wp_add infoOwner Try.underlying32 (by rfl) _ _ (by rfl) (by rfl) HZK.out ⟨wr.heap.size, 0, none⟩ 1 [.int .i64 ((N : Int) + 1), .string x] (by rfl) rfl HNEW.out (by simp [Value.oneCell']) HN2.out (by decide) HBW.out.size ?_)
                    intro v' g' w' hz' hg' _
                    have HZ' := Lib.hid hz'
                    have HB' := Lib.hid (Below.appended HBW.out hg' HZK.out.2 HBW.out.size)
                    clear hz' hg'
                    go_wp2_with fail
                    go_roundw
                    case rel => exact ⟨k + 1, g', by omega, by go_num, HB'.out, by rw [← HLE.out, ← HAP.out]; exact HZ'.out⟩
                    case measure => simp [intOf]; omega
                  · have HKE : Hid (k = sh) := Lib.hid (by omega)
                    have HZ' := Lib.hid hz
                    clear hz hb
                    go_wp2_with fail
                    go_roundw
                    case rel => exact ⟨i + 1, gk, by omega, by go_num, HBK.out, by rw [HNX.out, ← HKE.out]; exact HZ'.out⟩
                    case measure => simp [intOf]; omega
            · have HF : Hid (Sh.msTo P L i = Sh.msOf parts L) := Lib.hid (by rw [HMS.out, show i = m by omega])
              have HZF : Hid (∃ gb, Wz w.heap.size wr u6 gb 36 2 (Sh.msOf parts L).length (Sh.ocel 0 (Sh.msOf parts L))) := Lib.hid ⟨gb, by rw [← HF.out]; exact HZ.out⟩
              clear hz hb
              go_wp2_with fail
              go_ret
              obtain ⟨gb, h⟩ := HZF.out
              exact ⟨HB.out, _, gb, rfl, h⟩
      · have HD : Hid (Sh.msOf parts L = []) := Lib.hid (by unfold Sh.msOf; rw [if_neg (by omega)])
        go_enter Try.func11, Try.ntmps11
        go_wp2_with (go_at_call 8; refine (HC.out _ HR.out).mono ?_; rintro e w1 ⟨rfl, hb1⟩; have HB1 := Lib.hid hb1; clear hb1)
        go_ret
        exact ⟨HB1.out, _, none, rfl, by rw [HD.out]; exact Wz.nil _ _ _ _⟩
    · have HD : Hid (Sh.msOf parts L = []) := Lib.hid (by unfold Sh.msOf; rw [if_neg (by omega)])
      go_enter Try.func11, Try.ntmps11
      go_wp2_with (go_at_call 8; refine (HC.out _ HR.out).mono ?_; rintro e w1 ⟨rfl, hb1⟩; have HB1 := Lib.hid hb1; clear hb1)
      go_ret
      exact ⟨HB1.out, _, none, rfl, by rw [HD.out]; exact Wz.nil _ _ _ _⟩
  · have hg : Sh.goodB L = false := by simpa using hg
    have HD : Hid (Sh.msOf parts L = []) := Lib.hid (by unfold Sh.msOf; rw [hg]; simp)
    go_enter Try.func11, Try.ntmps11
    go_wp2_with (go_at_call 8; refine (HC.out _ HR.out).mono ?_; rintro e w1 ⟨rfl, hb1⟩; have HB1 := Lib.hid hb1; clear hb1)
    go_ret
    exact ⟨HB1.out, _, none, rfl, by rw [HD.out]; exact Wz.nil _ _ _ _⟩
end Go.Proofs.Ytaefcbgmljaleaa
