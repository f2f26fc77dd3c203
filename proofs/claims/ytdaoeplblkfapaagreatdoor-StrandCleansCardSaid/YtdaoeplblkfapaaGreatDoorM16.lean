import Derived.Test.YtdaoeplblkfapaaGreatDoorM15

/- THE CONTRACT OF strand's find. -/
namespace Go.Proofs.YtdaoeplblkfapaaGreatDoor
open Go.RowKit

/-- What find leaves of a tape that isn't armed. -/
def FindOut (w : World) (s : Nat) (h : Hs) (B : Nat → Prop) (f : Ta.View) (tot n : Nat) (c : Ta.Sc) (a : Nat) (e : Ending) (w' : World) : Prop :=
  ∃ (zs : List Int) (B' : Nat → Prop) (tot' n' : Nat) (c' : Ta.Sc) (K' : Kx), e = .returned (.int .i64 0) ∧ zs.Pairwise (fun x y => x < y) ∧ (∀ z, z ∈ zs ↔ (0 ≤ z ∧ z ≤ 1099511627776) ∧ f (nm h.P z) ≠ none) ∧ Moved B B' w w' ∧
    Sd w' s h B' (walkF h.P (Ta.upd f (nmNew h.P) none) zs []).1 tot' n' c' K' ∧ K'.G = (walkF h.P (Ta.upd f (nmNew h.P) none) zs []).2 ∧ tot' ≤ tot ∧ n' ≤ n ∧ c'.room = c.room ∧ Run c' (a + 2 + n) h.life ∧ c'.armed = 0
/-- When the file that a Put left is gone. -/
structure Fd0 (w : World) (s : Nat) (h : Hs) (B : Nat → Prop) (f : Ta.View) (tot n : Nat) (c : Ta.Sc) (K : Kx) (a : Nat) (v : Value) (ss : List (List UInt8)) (wx : World) (B1 : Nat → Prop) (tot1 n1 : Nat) (c1 : Ta.Sc) : Prop where
  sd : Sd wx s h B1 (Ta.upd f (nmNew h.P) none) tot1 n1 c1 K
  mv : Moved B B1 w wx
  rd : Rds (fun b => ¬ B1 b) wx v 1 ss.length (ss.map scell)
  tot : tot1 ≤ tot
  few : n1 ≤ n
  room : c1.room = c.room
  run : Run c1 (a + 1) h.life
  arm : c1.armed = 0
theorem upd_none {f : Ta.View} {k : List UInt8} (h : f k = none) : Ta.upd f k none = f := by
  funext j
  unfold Ta.upd
  split
  · rename_i e; rw [e, h]
  · rfl
/-- While files are gone through: k are taken. -/
structure Fd (w : World) (s : Nat) (h : Hs) (B : Nat → Prop) (f1 : Ta.View) (tot1 n1 : Nat) (c1 : Ta.Sc) (zs : List Int) (v : Value) (k : Nat) (wr : World) (Bk : Nat → Prop) (Kk : Kx) : Prop where
  sd : Sd wr s h Bk f1 tot1 n1 c1 Kk
  mv : Moved B Bk w wr
  rd : Rds (fun b => ¬ Bk b) wr v 1 zs.length (zs.map icell)
  len : Kk.X.length = k
  eq : walkF h.P f1 zs [] = walkF h.P f1 (zs.drop k) Kk.G
  chs : Chs Kk.G
  lists : ∀ g ∈ Kk.G, g.l.length ≤ 1048576

/-- The names that are left are dropped. -/
theorem drop_rest {w : World} {s : Nat} {h : Hs} {B : Nat → Prop} {f : Ta.View} {tot n : Nat} {c : Ta.Sc} {K : Kx} (k : Sd w s h B f tot n c K) (lb : Lb w) (hB : ∀ b, B b → 8 ≤ b) (hP : h.P.length ≤ 1048576) {a l : Nat} (q : Run c a l) (harm : c.armed = 0) {b p Z fc : Nat} {zs : List Int} (hZ : zs.length = Z)
    (hr : Rds (fun b => ¬ B b) w (.slice (some ⟨b, p, none⟩) Z fc) 1 Z (zs.map icell)) (hz : ∀ z ∈ zs, 0 ≤ z ∧ z ≤ 1099511627776) (hsort : zs.Pairwise fun x y => x < y) {j : Nat} (hj : j ≤ Z) (hf : ∀ z ∈ zs.drop j, ∃ L sf, f (nm h.P z) = some (L, sf)) (ha : a + Z ≤ 1099511627776) (hl : l ≤ 1099511627776) (hn : Z ≤ 1048576) (cap : Nat) (ad : Addr) (hd : j < Z → ad = ⟨b, p + j, none⟩) :
    Calls Tryz.prog 93 #[.pointer (some ⟨s, 0, none⟩), .slice (some ad) (Z - j) cap] w fun e w' => e = .returned (.int .i64 0) ∧
      ∃ B' tot' n' c', Sd w' s h B' (fdrop h.P f (zs.drop j)) tot' n' c' K ∧ Moved B B' w w' ∧ tot' ≤ tot ∧ n' ≤ n ∧ c'.room = c.room ∧ Run c' (a + Z) l ∧ c'.armed = 0 := by
  have hdl : (zs.drop j).length = Z - j := by rw [List.length_drop, hZ]
  have hr2 : Rds (fun b => ¬ B b) w (.slice (some ad) (Z - j) cap) 1 (zs.drop j).length ((zs.drop j).map icell) := by
    have := hr.suffix hj ad cap (by rw [Nat.mul_one]; exact hd)
    rw [Nat.mul_one] at this
    rw [hdl, List.map_drop]
    exact this
  have hm : ∀ z ∈ zs.drop j, z ∈ zs := fun z hz => List.mem_of_mem_drop hz
  refine (drop_any k lb hB hP q (.slice (some ad) (Z - j) cap) (zs.drop j) hr2 (fun z hz' => hz z (hm z hz')) ((hsort.sublist (List.drop_sublist _ _)).imp fun h => Int.ne_of_lt h) hf (by rw [hdl]; omega) hl (by rw [hdl]; omega)).mono ?_
  rintro e w' ⟨i, B', tot', n', c', er, hi, rfl, hSd, hmv, htot, hn', hroom, hor⟩
  rcases hor with ⟨rfl, hie, hrun, harm'⟩ | ⟨-, -, hna⟩
  · rw [hie, List.take_length] at hSd
    exact ⟨rfl, B', tot', n', c', hSd, hmv, htot, hn', hroom, hrun.more (by rw [hdl] at hi; omega), harm' harm⟩
  · exact absurd harm hna
set_option maxHeartbeats 4000000 in
set_option maxRecDepth 100000 in
theorem find_any {w : World} {s : Nat} {h : Hs} {B : Nat → Prop} {f : Ta.View} {tot n : Nat} {c : Ta.Sc} {K : Kx} (kk : Sd w s h B f tot n c K) (hK : K.X = []) (lb : Lb w) (hB : ∀ b, B b → 8 ≤ b) (hP : h.P.length ≤ 1048576)
    {a : Nat} (q : Run c a h.life) (harm : c.armed = 0) (ha : a + 2 + n ≤ 1099511627776) (hl : h.life ≤ 1099511627776) (hroom : c.room ≤ 1048576) (hn : n ≤ 1048576) (hkn : ∀ k, f k ≠ none → k.length ≤ 1048576) :
    Calls Tryz.prog 60 #[.pointer (some ⟨s, 0, none⟩)] w (FindOut w s h B f tot n c a) := by
  have c0 : w.cell? ⟨s, 0, none⟩ = some (.pointer (some ⟨h.t, 0, none⟩)) := kk.lies.head.cell rfl
  have hks := kk.lies.head.lt
  obtain ⟨Tt, hst, -⟩ := kk.tape
  have HNS := Lib.hid (Ta.s_names hst)
  have HKK := Lib.hid kk
  have HK := Lib.hid hK
  have HLB := Lib.hid lb
  have HQ := Lib.hid q
  have HKN := Lib.hid hkn
  have HBL := Lib.hid (show ∀ b, B b → b < w.heap.size from kk.lt)
  clear kk hst lb q hkn hK
  go_enter Tryz.func60, Tryz.ntmps60
  go_wp2_with fail
  refine HNS.out.mono ?_
  rintro e w1 ⟨v, ss, rfl, hrow, hlen, hsort, hnd, hmem, hb1⟩
  have hrd : Rds (fun b => w.heap.size ≤ b) w1 v 1 ss.length (ss.map scell) := by
    rw [hlen]
    exact Rds.of_sl (Sl.of_own hrow) fun b hb => (hrow.lt b hb).1
  have hsd1 := HKK.out.below hb1
  have HBE := Lib.hid (beside_any w1 s h _ hsd1.lies.head hP)
  have HCO := Lib.hid (contains_any v ss (nmNew h.P) w1 hrd (by omega))
  obtain ⟨va, vc, hv⟩ := hrd.form
  obtain ⟨N, hN⟩ : ∃ N, ss.length = N := ⟨_, rfl⟩
  obtain ⟨M, hM⟩ : ∃ M : ByteArray, (⟨(nmNew h.P).toArray⟩ : ByteArray) = M := ⟨_, rfl⟩
  rw [hv, hN] at hrd
  rw [hv, hN, hM] at HCO
  rw [hM] at HBE
  rw [hv, hN]
  have HM := Lib.hid hM
  have HSD1 := Lib.hid hsd1
  have HRD := Lib.hid hrd
  have HB1 := Lib.hid hb1
  obtain ⟨cn, hcn⟩ : ∃ cn, ss.contains (nmNew h.P) = cn := ⟨_, rfl⟩
  rw [hcn] at HCO
  have HNL := Lib.hid hN
  have HNN := Lib.hid (show N ≤ 1048576 by omega)
  have hzr := nums_rise (P := h.P) hsort hnd
  have hzm : ∀ z, z ∈ numsOf h.P ss ↔ (0 ≤ z ∧ z ≤ 1099511627776) ∧ f (nm h.P z) ≠ none := fun z => by rw [mem_nums, hmem]
  have hzl : (numsOf h.P ss).length ≤ n := by rw [← hlen]; exact List.length_filterMap_le _ _
  have hnewm : nmNew h.P ∈ ss ↔ f (nmNew h.P) ≠ none := hmem _
  have HZR := Lib.hid hzr
  have HZM := Lib.hid hzm
  have HZL := Lib.hid hzl
  have HSZ := Lib.hid (show ∀ x ∈ ss, x.length ≤ 1048576 from fun x hx => HKN.out x ((hmem x).1 hx))
  have HCN := Lib.hid hcn
  have HNEW := Lib.hid hnewm
  clear hrow hlen hsort hnd hmem hb1 hrd hsd1 hv hN hM hcn hzr hzm hzl hnewm HNS
  go_wp2_with fail
  refine HBE.out.mono ?_
  rintro e _ ⟨rfl, rfl⟩
  go_wp2_with fail
  refine HCO.out.mono ?_
  rintro e _ ⟨rfl, rfl⟩
  clear HBE HCO
  go_upto_if 18 with fail
  go_cut [4] (fun _ wx => ∃ B1 tot1 n1 c1, Fd0 w s h B f tot n c K a (.slice va N vc) ss wx B1 tot1 n1 c1)
  case first =>
    rcases hcc : cn with _ | _
    · have hno : f (nmNew h.P) = none := by
        rcases hx : f (nmNew h.P) with _ | x
        · rfl
        · have h1 := HNEW.out.2 (by rw [hx]; simp)
          have h2 := HCN.out
          rw [hcc] at h2
          simp at h2
          exact absurd h1 h2
      go_wp2_with fail
      go_meet
      case rel => exact ⟨B, tot, n, c, by rw [upd_none hno]; exact HSD1.out, .of_below HB1.out, by rw [HNL.out]; exact HRD.out.mono fun b hb hB' => by have := HBL.out b hB'; omega, Nat.le_refl _, Nat.le_refl _, rfl, HQ.out.more (by omega), harm⟩
    · have hyes : f (nmNew h.P) ≠ none := by
        have h2 := HCN.out
        rw [hcc] at h2
        exact HNEW.out.1 (by simpa using h2)
      obtain ⟨⟨L, sf⟩, hx⟩ := Option.ne_none_iff_exists'.1 hyes
      obtain ⟨T1, hst, hup⟩ := HSD1.out.tape
      have hNB := fun (wx : World) (hbx : Below w1.heap.size w1 wx) => show Calls Tryz.prog 91 #[.pointer (some ⟨s, 0, none⟩)] wx fun e w' => e = .returned (.string ⟨(nmNew h.P).toArray⟩) ∧ Below wx.heap.size wx w' from (beside_any wx s h _ (HSD1.out.lies.head.below hbx) hP).mono fun e w' ⟨he, hw⟩ => ⟨he, hw ▸ Below.refl _ _⟩
      rw [HM.out] at hNB
      have HNB := Lib.hid fun d os => Calls.regrown_of (hNB _ (below_regrown w1 d os))
      have d0 : w1.cell? ⟨s, 0, none⟩ = some (.pointer (some ⟨h.t, 0, none⟩)) := HSD1.out.lies.head.cell rfl
      have k0 : ∀ d os, _ := cell_regrown d0
      have HX := Lib.hid hx
      clear hNB hst hup hyes hx
      go_wp2_with fail
      refine wp_region_below_tail 6 (by kernel_rfl) (by kernel_rfl) ?_
      simp only [List.take_succ_cons, List.take_zero, List.drop_succ_cons, List.drop_zero]
      repeat (go_big_quiet_step ((go_at_call 91; with_reducible exact HNB.out _ _)))
      refine wpQuiet_nil ?_
      intro w2 hw2
      obtain ⟨⟨dq, osq⟩, hw2'⟩ := hw2
      have H2 : Hid (Below w1.heap.size w1 w2) := by rw [hw2']; exact below_regrown w1 dq osq
      clear hw2' HNB k0 d0
      have k2 := HSD1.out.below H2.out
      obtain ⟨T2, hst, hup⟩ := k2.tape
      have hdr := Ta.s_drop hst (HQ.out.small (by omega) hl) _ _ _ HX.out
      rw [HM.out] at hdr
      have HDR := Lib.hid hdr
      have HUP := Lib.hid hup
      clear k2 hst hdr hup
      go_wp2_with fail
      refine HDR.out.mono ?_
      rintro e w3 ⟨rfl, T3, hS3, hm3⟩
      obtain ⟨B3, hSd3, hmv3⟩ := HUP.out _ _ _ _ _ _ hS3 hm3
      have hroom3 := Ta.actS_room c
      rcases HQ.out.split with ⟨ha0, hrun, harm3⟩ | ⟨ha0, hgone, harm3⟩
      · rw [ha0]
        have hmw : Moved B B w1 w2 := .of_below H2.out
        have hrd3 := (HRD.out.mono (A' := fun b => ¬ B b) fun b hb hB' => by have := HBL.out b hB'; omega).moved (hmw.trans hmv3)
        have hres : Fd0 w s h B f tot n c K a (.slice va N vc) ss w3 B3 (tot - L.length) (n - 1) (Ta.actS c) := ⟨hSd3, (Moved.of_below HB1.out).trans (hmw.trans hmv3), by rw [HNL.out]; exact hrd3, by omega, by omega, hroom3, hrun, harm3 harm⟩
        have HRES := Lib.hid hres
        clear ha0 hrun harm3 hroom3 hSd3 hmv3 hS3 hm3 hres hmw hrd3 HDR HUP
        go_wp2_with fail
        go_meet
        case rel => exact ⟨_, _, _, _, HRES.out⟩
      · omega
  case rest =>
    obtain ⟨B1, tot1, n1, c1, hF0⟩ := hcut
    have ⟨wo, hwo⟩ : ∃ wo, wo = wc := ⟨_, rfl⟩
    subst hwo
    obtain ⟨lbc, h8⟩ := HLB.out.moved hB hF0.mv
    have HF0 := Lib.hid hF0
    have HLBC := Lib.hid lbc
    have H8 := Lib.hid h8
    have hrd := hF0.rd
    rw [HNL.out] at hrd
    have HFI := Lib.hid (firsts_any wo lbc s h _ hF0.sd.lies.head hP (.slice va N vc) ss (by rw [HNL.out]; exact hrd) (by rw [HNL.out]; exact HNN.out) HSZ.out)
    obtain ⟨zs, hzs⟩ : ∃ zs, numsOf h.P ss = zs := ⟨_, rfl⟩
    have HZS := Lib.hid hzs
    unfold Firsts at HFI
    rw [hzs] at HFI HZR HZM HZL
    clear hF0 lbc h8 hrd hzs HSD1 HRD HB1 HBL HCN HNEW HKK HSZ
    go_wp2_with fail
    refine HFI.out.mono ?_
    rintro e w4 ⟨v4, gb4, rfl, hs4, hn4, hb4⟩
    obtain ⟨Z, hZ⟩ : ∃ Z, zs.length = Z := ⟨_, rfl⟩
    have HZ := Lib.hid hZ
    have hzle := HZL.out
    rw [hZ] at hzle
    have hcap : ∃ fa fc, v4 = .slice fa Z fc ∧ Z ≤ fc := by
      rw [← hZ]
      rcases hs4.2 with ⟨h1, -, h3⟩ | ⟨g, p, cap, cur, -, h1, -, h3, -⟩
      · exact ⟨none, 0, by rw [h3]; exact h1, by omega⟩
      · exact ⟨_, _, h1, h3⟩
    obtain ⟨fa, fc, rfl, hfc⟩ := hcap
    have hfd : Fd wo s h B1 (Ta.upd f (nmNew h.P) none) tot1 n1 c1 zs (.slice fa Z fc) 0 w4 B1 K := by
      refine ⟨HF0.out.sd.below hb4, .of_below hb4, Rds.of_sl hs4 fun b hb hB' => by have := hn4 b hb; have := HF0.out.sd.lt b hB'; omega, by rw [HK.out]; rfl, ?_, ?_, ?_⟩
      · show _ = walkF _ _ (zs.drop 0) (K.X.map Sx.sg)
        rw [HK.out]; rfl
      · show Chs (K.X.map Sx.sg)
        rw [HK.out]; intro g hg; cases hg
      · show ∀ g ∈ K.X.map Sx.sg, _
        rw [HK.out]; intro g hg; cases hg
    have HFD := Lib.hid hfd
    have HF1 : Hid (∀ z ∈ zs, ∃ L sf, Ta.upd f (nmNew h.P) none (nm h.P z) = some (L, sf)) := Lib.hid fun z hz => by
      obtain ⟨hr, hne⟩ := (HZM.out z).1 hz
      rw [Ta.upd_other _ _ (nm_not_new hr.1 hr.2)]
      obtain ⟨⟨L, sf⟩, hx⟩ := Option.ne_none_iff_exists'.1 hne
      exact ⟨L, sf, hx⟩
    clear hs4 hn4 hb4 hfd HFI hZ HK
    go_wp2_with fail
    go_loopw [34] (fun iv wr => ∃ (j : Nat) (Bk : Nat → Prop) (Kk : Kx), j ≤ Z ∧ iv = .int .i64 j ∧ Fd wo s h B1 (Ta.upd f (nmNew h.P) none) tot1 n1 c1 zs (.slice fa Z fc) j wr Bk Kk) (fun iv _ => Z - (intOf iv).toNat)
    case atStart => exact ⟨0, B1, K, Nat.zero_le _, rfl, HFD.out⟩
    case round =>
      obtain ⟨j, Bk, Kk, hj, rfl, hD⟩ := hrel
      have HD := Lib.hid hD
      by_cases hlt : j < Z
      · obtain ⟨z, hz⟩ : ∃ z, zs[j]? = some z := ⟨_, List.getElem?_eq_getElem (by rw [HZ.out]; exact hlt)⟩
        have hzm := List.mem_of_getElem? hz
        obtain ⟨hz0, hzn⟩ := (HZM.out z).1 hzm
        obtain ⟨b, p, cap', e, -, hb, hc⟩ := Rds.at hD.rd (by rw [HZ.out]; omega)
        injection e with e1 e2 e3
        subst e1 e3
        have q0 : wr.cell? ⟨b, p + j, none⟩ = some (.int .i64 z) := hc j _ (by rw [List.getElem?_map, hz]; rfl)
        have HZJ := Lib.hid hz
        have HZ0 := Lib.hid hz0
        have HZN := Lib.hid hzn
        clear hz hzm hz0 hzn hc e2
        have hGl : Kk.G.length = j := by rw [← hD.len]; exact List.length_map _
        obtain ⟨gp, hgp⟩ : ∃ gp : Bool, gp = decide (Kk.G ≠ [] ∧ z ≠ gsEnd Kk.G) := ⟨_, rfl⟩
        have HGP := Lib.hid hgp
        have hXl : Kk.X.length ≤ 1048576 := by rw [hD.len]; omega
        have hLm : ∀ x ∈ Kk.X, x.L.length ≤ 1048576 := fun x hx => by
          have := hD.lists x.sg (List.mem_map.2 ⟨x, hx, rfl⟩)
          simpa [Sx.sg, Sx.bts] using this
        have HEN := Lib.hid (endS_any hD.sd.lies hXl hD.chs hLm)
        have HXL := Lib.hid hXl
        have HGL := Lib.hid hGl
        obtain ⟨en, hen⟩ : ∃ en, gsEnd Kk.G = en := ⟨_, rfl⟩
        have HENN := Lib.hid hen
        unfold Kx.G at hen
        rw [hen] at HEN
        rw [HENN.out] at HGP
        clear hD hgp hXl hLm hGl hen
        go_upto_region 10 with fail
        go_cut [46] (fun s46 wx => s46 = .bool gp ∧ Below wr.heap.size wr wx)
        case first =>
          by_cases hj0 : j = 0
          · subst hj0
            have hg0 : gp = false := by rw [HGP.out]; simp [List.eq_nil_of_length_eq_zero HGL.out]
            go_wp2_with fail
            go_meet
            case rel => exact ⟨by rw [hg0], Below.refl _ _⟩
          · have hg1 : gp = (z != en) := by
              have : Kk.G ≠ [] := by intro e; have := HGL.out; rw [e] at this; exact hj0 this.symm
              rw [HGP.out]
              by_cases hze : z = en <;> simp [this, hze]
            have hjp : decide (0 < j) = true := by simp; omega
            clear hj0
            go_wp2_with fail
            refine HEN.out.mono ?_
            rintro e w5 ⟨rfl, b5⟩
            have HB5 := Lib.hid b5
            clear b5
            go_wp2_with fail
            go_meet
            case rel => exact ⟨by rw [hg1], HB5.out⟩
        case rest =>
          obtain ⟨rfl, hb5⟩ := hcut
          have HB5 := Lib.hid hb5
          have hi0 : (0 : Int) ≤ (j : Int) := by omega
          have hi1 : (j : Int) ≤ (Z : Int) := by omega
          rcases hgg : gp with _ | _
          · have hor : Kk.G = [] ∨ z = gsEnd Kk.G := by
              have h1 := HGP.out
              rw [hgg, ← HENN.out] at h1
              have h2 := of_decide_eq_false h1.symm
              by_cases h3 : Kk.G = []
              · exact .inl h3
              · exact .inr (Classical.byContradiction fun h4 => h2 ⟨h3, h4⟩)
            have HOR := Lib.hid hor
            clear hgg hor hb5
            obtain ⟨L, sf, hf1⟩ := HF1.out z (List.mem_of_getElem? HZJ.out)
            have hsdc := HD.out.sd.below HB5.out
            obtain ⟨lbr, h8r⟩ := HLBC.out.moved H8.out HD.out.mv
            have HTA := Lib.hid (take_any hsdc (lbr.below lbr.size HB5.out) h8r hP HXL.out HF0.out.run HF0.out.arm (by omega) hl (by rw [HF0.out.room]; exact hroom) z HZ0.out L sf hf1)
            have HFZ := Lib.hid hf1
            have hLl : L.length ≤ 1048576 := by
              obtain ⟨T', hst', -⟩ := hsdc.tape
              have h1 := hst'.sized hf1
              have h2 := hst'.fit
              have h3 := HF0.out.room
              omega
            have HLL := Lib.hid hLl
            have HLR := Lib.hid (lbr.below lbr.size HB5.out)
            have H8R := Lib.hid h8r
            have HSDC := Lib.hid hsdc
            clear hf1 hsdc lbr h8r hLl
            go_wp2_with fail
            refine HTA.out.mono ?_
            rintro e w6 ⟨B6, K6, hG6, hmv6, hle6, hor6⟩
            have hmvw := HD.out.mv.trans ((Moved.of_below HB5.out).trans hmv6)
            have hrd6 := (HD.out.rd.below HB5.out).moved hmv6
            have hdj : zs.drop j = z :: zs.drop (j + 1) := by
              rw [List.drop_eq_getElem_cons (by rw [HZ.out]; exact hlt)]
              have := HZJ.out
              rw [List.getElem?_eq_getElem (by rw [HZ.out]; exact hlt)] at this
              rw [Option.some.inj this]
            rcases hor6 with ⟨hwh, rfl, hSd6⟩ | ⟨hpt, rfl, c6, hSd6, hrun6, harm6, hroom6⟩
            · have hnext : Fd wo s h B1 (Ta.upd f (nmNew h.P) none) tot1 n1 c1 zs (.slice (some ⟨b, p, none⟩) Z fc) (j + 1) w6 B6 K6 := by
                refine ⟨hSd6, hmvw, hrd6, ?_, ?_, ?_, ?_⟩
                · have := congrArg List.length hG6
                  rw [List.length_append, HGL.out] at this
                  simpa [Kx.G] using this
                · have he := HD.out.eq
                  rw [hdj, walkF_whole HOR.out HFZ.out hwh, ← hG6] at he
                  exact he
                · rw [hG6]
                  intro g hg
                  rcases List.mem_append.1 hg with hg | hg
                  · exact HD.out.chs g hg
                  · rw [List.mem_singleton.1 hg]
                    exact (found_chain _ L z (Nat.lt_succ_self _)).1
                · rw [hG6]
                  intro g hg
                  rcases List.mem_append.1 hg with hg | hg
                  · exact HD.out.lists g hg
                  · rw [List.mem_singleton.1 hg]
                    have h1 := frs_length (found_chain _ L z (Nat.lt_succ_self _)).1
                    rw [← (found_chain _ L z (Nat.lt_succ_self _)).2.1] at h1
                    have := HLL.out
                    simp only
                    omega
              have HNX := Lib.hid hnext
              clear hSd6 hmvw hrd6 hdj hnext hmv6 HTA hG6
              go_wp2_with fail
              go_roundw
              case rel => exact ⟨j + 1, B6, K6, hlt, by go_num, HNX.out⟩
              case measure => simp [intOf]; omega
            · have HSD6 := Lib.hid hSd6
              have HMVW := Lib.hid hmvw
              have HRD6 := Lib.hid hrd6
              have HDJ := Lib.hid hdj
              have HPT := Lib.hid hpt
              have HRUN6 := Lib.hid hrun6
              have HROOM6 := Lib.hid hroom6
              have HMV6 := Lib.hid hmv6
              have HG6 := Lib.hid hG6
              have hi2 : IntKind.i64.wrap ((j : Int) + 1) = ((j + 1 : Nat) : Int) := by rw [show (j : Int) + 1 = ((j + 1 : Nat) : Int) by omega]; exact IntWalk.i64_in _ (by omega)
              have hi3 : ((j + 1 : Nat) : Int) ≤ (Z : Int) := by omega
              obtain ⟨lb6, h86⟩ := HLR.out.moved H8R.out hmv6
              rw [HZ.out] at hrd6
              have hf6 : ∀ y ∈ zs.drop (j + 1), ∃ L' sf', Ta.upd (Ta.upd f (nmNew h.P) none) (nm h.P z) (some (L.take (found L z).2, min sf (found L z).2)) (nm h.P y) = some (L', sf') := fun y hy => by
                have hym := List.mem_of_mem_drop hy
                have hyr := ((HZM.out y).1 hym).1
                have hlt' : z < y := by
                  have h1 := HZR.out.sublist (List.drop_sublist j zs)
                  rw [HDJ.out] at h1
                  exact (List.pairwise_cons.1 h1).1 y hy
                rw [Ta.upd_other _ _ fun e => by have := nm_inj hyr HZ0.out e; omega]
                exact HF1.out y hym
              have HDR := Lib.hid fun (cap : Nat) (ad : Addr) (hd : j + 1 < Z → ad = ⟨b, p + (j + 1), none⟩) => drop_rest hSd6 lb6 h86 hP hrun6 harm6 HZ.out hrd6 (fun z hz => ((HZM.out z).1 hz).1) HZR.out (j := j + 1) (by omega) hf6 (by omega) hl (by omega) cap ad hd
              have HFIN : Hid (∀ w7, (∃ B' tot' n' c', Sd w7 s h B' (fdrop h.P (Ta.upd (Ta.upd f (nmNew h.P) none) (nm h.P z) (some (L.take (found L z).2, min sf (found L z).2))) (zs.drop (j + 1))) tot' n' c' K6 ∧ Moved B6 B' w6 w7 ∧ tot' ≤ tot1 - L.length + (found L z).2 ∧ n' ≤ n1 ∧ c'.room = c6.room ∧ Run c' (a + 1 + 1 + Z) h.life ∧ c'.armed = 0) → FindOut w s h B f tot n c a (.returned (.int .i64 0)) w7) := Lib.hid fun w7 ⟨B7, tot7, n7, c7, hSd7, hmv7, htot7, hn7, hroom7, hrun7, harm7⟩ => by
                have he := HD.out.eq
                rw [HDJ.out, walkF_part HOR.out HFZ.out HPT.out, ← HG6.out] at he
                have hst6 : L.length ≤ tot1 := by
                  obtain ⟨T', hst', -⟩ := HSDC.out.tape
                  exact hst'.sized HFZ.out
                refine ⟨zs, B7, tot7, n7, c7, K6, rfl, HZR.out, HZM.out, HF0.out.mv.trans (HMVW.out.trans hmv7), by rw [he]; exact hSd7, by rw [he], by have := HF0.out.tot; omega, by have := HF0.out.few; omega, hroom7.trans (HROOM6.out.trans HF0.out.room), hrun7.more (by omega), harm7⟩
              clear hSd6 hmvw hrd6 hdj hpt hrun6 hroom6 hmv6 hG6 HTA lb6 h86 hf6 harm6
              go_wp2_with fail
              all_goals (refine (HDR.out _ _ (fun h => by first | rfl | (exfalso; omega))).mono ?_)
              all_goals (rintro e w7 ⟨rfl, hpost⟩)
              all_goals (have HRES := Lib.hid (HFIN.out w7 hpost))
              all_goals clear hpost HDR HFIN
              all_goals (go_wp2_with fail)
              all_goals go_ret
              all_goals exact HRES.out
          · have hand : Kk.G ≠ [] ∧ z ≠ gsEnd Kk.G := by
              have h1 := HGP.out
              rw [hgg, ← HENN.out] at h1
              exact of_decide_eq_true h1.symm
            have HAND := Lib.hid hand
            clear hgg hand hb5
            obtain ⟨lbr, h8r⟩ := HLBC.out.moved H8.out HD.out.mv
            have hrdc := HD.out.rd.below HB5.out
            rw [HZ.out] at hrdc
            have HDR := Lib.hid (drop_rest (HD.out.sd.below HB5.out) (lbr.below lbr.size HB5.out) h8r hP HF0.out.run HF0.out.arm HZ.out hrdc (fun z hz => ((HZM.out z).1 hz).1) HZR.out (j := j) (by omega) (fun z hz => HF1.out z (List.mem_of_mem_drop hz)) (by omega) hl (by omega) (fc - j) ⟨b, p + j, none⟩ (fun _ => rfl))
            clear lbr h8r hrdc
            go_wp2_with fail
            refine HDR.out.mono ?_
            rintro e w6 ⟨rfl, B6, tot6, n6, c6, hSd6, hmv6, htot6, hn6, hroom6, hrun6, harm6⟩
            have hdj : zs.drop j = z :: zs.drop (j + 1) := by
              rw [List.drop_eq_getElem_cons (by rw [HZ.out]; exact hlt)]
              have := HZJ.out
              rw [List.getElem?_eq_getElem (by rw [HZ.out]; exact hlt)] at this
              rw [Option.some.inj this]
            have hres : FindOut w s h B f tot n c a (.returned (.int .i64 0)) w6 := by
              have he := HD.out.eq
              rw [hdj, walkF_gap HAND.out.1 HAND.out.2, ← hdj] at he
              refine ⟨zs, B6, tot6, n6, c6, Kk, rfl, HZR.out, HZM.out, HF0.out.mv.trans (HD.out.mv.trans ((Moved.of_below HB5.out).trans hmv6)), by rw [he]; exact hSd6, by rw [he], by have := HF0.out.tot; omega, by have := HF0.out.few; omega, hroom6.trans HF0.out.room, hrun6.more (by omega), harm6⟩
            have HRES := Lib.hid hres
            clear hSd6 hmv6 htot6 hn6 hroom6 hrun6 harm6 hdj hres HDR
            go_wp2_with fail
            go_ret
            exact HRES.out
      · obtain rfl : j = Z := by omega
        have hres : FindOut w s h B f tot n c a (.returned (.int .i64 0)) wr := by
          have he := hD.eq
          rw [List.drop_of_length_le (by rw [HZ.out]; exact Nat.le_refl _)] at he
          have he2 : walkF h.P (Ta.upd f (nmNew h.P) none) zs [] = (Ta.upd f (nmNew h.P) none, Kk.G) := he
          refine ⟨zs, Bk, tot1, n1, c1, Kk, rfl, HZR.out, HZM.out, HF0.out.mv.trans hD.mv, by rw [he2]; exact hD.sd, by rw [he2], HF0.out.tot, HF0.out.few, HF0.out.room, HF0.out.run.more (by omega), HF0.out.arm⟩
        have HRES := Lib.hid hres
        clear hD HD hres
        go_wp2_with fail
        go_ret
        exact HRES.out
end Go.Proofs.YtdaoeplblkfapaaGreatDoor

/- THE CONTRACT OF strand's Open. -/
namespace Go.Proofs.YtdaoeplblkfapaaGreatDoor
open Go.RowKit

/-- What Open leaves of a tape that isn't armed. -/
def OpenOut (w : World) (t : Nat) (B : Nat → Prop) (f : Ta.View) (tot n : Nat) (c : Ta.Sc) (P : List UInt8) (seg : Int) (a : Nat) (e : Ending) (w' : World) : Prop :=
  ∃ (s : Nat) (zs : List Int) (B' : Nat → Prop) (tot' n' : Nat) (c' : Ta.Sc) (K' : Kx), e = .returned (.tuple #[.pointer (some ⟨s, 0, none⟩), .int .i64 0]) ∧ zs.Pairwise (fun x y => x < y) ∧ (∀ z, z ∈ zs ↔ (0 ≤ z ∧ z ≤ 1099511627776) ∧ f (nm P z) ≠ none) ∧ Moved B B' w w' ∧
    Sd w' s ⟨t, c.life, P, seg⟩ B' (walkF P (Ta.upd f (nmNew P) none) zs []).1 tot' n' c' K' ∧ K'.G = (walkF P (Ta.upd f (nmNew P) none) zs []).2 ∧ tot' ≤ tot ∧ n' ≤ n ∧ c'.room = c.room ∧ Run c' (a + 2 + n) c.life ∧ c'.armed = 0
set_option maxHeartbeats 4000000 in
set_option maxRecDepth 100000 in
theorem open_any {w : World} {t : Nat} {B : Nat → Prop} {f : Ta.View} {tot n : Nat} {c : Ta.Sc} (hst : Ta.St w t B f tot n c) (lb : Lb w) (hB : ∀ b, B b → 8 ≤ b) (P : List UInt8) (hP : 1 ≤ P.length ∧ P.length ≤ 16) (seg : Int) (hseg : 1 ≤ seg ∧ seg ≤ 1048576)
    {a : Nat} (q : Run c a c.life) (harm : c.armed = 0) (ha : a + 2 + n ≤ 1099511627776) (hl : c.life ≤ 1099511627776) (hroom : c.room ≤ 1048576) (hn : n ≤ 1048576) (hkn : ∀ k, f k ≠ none → k.length ≤ 1048576) :
    Calls Tryz.prog 18 #[.pointer (some ⟨t, 0, none⟩), .string ⟨P.toArray⟩, .int .i64 seg] w (OpenOut w t B f tot n c P seg a) := by
  have HDN := Lib.hid (Ta.s_down hst)
  rw [q.on] at HDN
  obtain ⟨lf, hlf⟩ : ∃ lf, c.life = lf := ⟨_, rfl⟩
  have HLF := Lib.hid (Ta.s_life hst)
  rw [hlf] at HLF
  obtain ⟨T, hT⟩ : ∃ T : ByteArray, (⟨P.toArray⟩ : ByteArray) = T := ⟨_, rfl⟩
  have hTs : T.size = P.length := by rw [← hT]; exact size_list _
  have hts0 : ((T.size : Int) < 1) = False := by simp; omega
  have b1 : decide ((T.size : Int) < 1) = false := by simp; omega
  have b2 : decide ((16 : Int) < (T.size : Int)) = false := by simp; omega
  have b3 : decide (seg < 1) = false := by simp; omega
  have b4 : decide ((1048576 : Int) < seg) = false := by simp; omega
  have hb0 := Blk.new w (hcells ⟨t, lf, P, seg⟩ (.slice none 0 0)) 99
  have hw0 : Below w.heap.size w (w.alloc (.cells (hcells ⟨t, lf, P, seg⟩ (.slice none 0 0)) 99)) := (Below.refl _ _).alloc (Nat.le_refl _) _
  have hsd : Sd (w.alloc (.cells (hcells ⟨t, lf, P, seg⟩ (.slice none 0 0)) 99)) w.heap.size ⟨t, lf, P, seg⟩ (fun b => B b ∨ b = w.heap.size) f tot n c ⟨[], .slice none 0 0, none, fun _ => True⟩ := by
    refine ⟨B, hst.below hw0, ⟨hb0, Sl.nil _ _ _, fun x hx => (by cases hx), fun x hx => (by cases hx), by simp, fun x hx => (by cases hx), List.Pairwise.nil⟩, fun b => ?_, fun b hb ho => ?_⟩
    · constructor
      · rintro (h1 | h1)
        · exact .inl h1
        · exact .inr (.inl h1)
      · rintro (h1 | h1 | h1 | ⟨x, hx, -⟩)
        · exact .inl h1
        · exact .inr h1
        · cases h1
        · cases hx
    · rcases ho with h1 | h1 | ⟨x, hx, -⟩
      · have := hst.lt b hb; omega
      · cases h1
      · cases hx
  have hlw := lb.size
  have hFN := find_any hsd rfl (lb.below lb.size hw0) (fun b hb => by
    rcases hb with h1 | h1
    · exact hB b h1
    · omega) (by show P.length ≤ _; omega) (a := a) (hlf ▸ q) harm ha (hlf ▸ hl) hroom hn hkn
  have HFN := Lib.hid hFN
  have hmv0 : Moved B (fun b => B b ∨ b = w.heap.size) w (w.alloc (.cells (hcells ⟨t, lf, P, seg⟩ (.slice none 0 0)) 99)) := (Moved.of_below hw0).mono (fun _ h => h) fun b hb => by
    rcases hb with h1 | h1
    · exact .inl h1
    · exact .inr (by omega)
  have HMV := Lib.hid hmv0
  have HLE := Lib.hid hlf
  unfold hcells at HFN HMV
  simp only at HFN HMV
  rw [hT] at HFN HMV ⊢
  clear hst q hTs hlf hT hb0 hw0 hsd hFN hmv0
  go_enter Tryz.func18, Tryz.ntmps18
  go_wp2_with fail
  refine HDN.out.mono ?_
  rintro e _ ⟨rfl, rfl⟩
  go_wp2_with fail
  refine HLF.out.mono ?_
  rintro e _ ⟨rfl, rfl⟩
  go_wp2_with fail
  refine HFN.out.mono ?_
  rintro e w1 ⟨zs, B', tot', n', c', K', rfl, h1, h2, h3, h4, h5, h6, h7, h8, h9, h10⟩
  have hres : OpenOut w t B f tot n c P seg a (.returned (.tuple #[.pointer (some ⟨w.heap.size, 0, none⟩), .int .i64 0])) w1 := ⟨w.heap.size, zs, B', tot', n', c', K', rfl, h1, h2, HMV.out.trans h3, by rw [HLE.out]; exact h4, h5, h6, h7, h8, by rw [HLE.out]; exact h9, h10⟩
  have HRES := Lib.hid hres
  clear h1 h2 h3 h4 h5 h6 h7 h8 h9 h10 hres HFN HMV
  go_wp2_with fail
  go_ret2
  exact HRES.out
end Go.Proofs.YtdaoeplblkfapaaGreatDoor

/- THE CONTRACT OF strand's Reset. -/
namespace Go.Proofs.YtdaoeplblkfapaaGreatDoor
open Go.RowKit

/-- The segments' first offsets, as the program asks for them. -/
def firstsOf (K : Kx) : List Int := K.G.map Sg.first
theorem bases_of {w : World} {s : Nat} {h : Hs} {B : Nat → Prop} {f : Ta.View} {tot n : Nat} {c : Ta.Sc} {K : Kx} (k : Sd w s h B f tot n c K) (hX : K.X.length ≤ 1048576) :
    Calls Tryz.prog 37 #[.pointer (some ⟨s, 0, none⟩)] w fun e w' => ∃ v gb, e = .returned v ∧ Sl w' v gb 3 1 (firstsOf K).length ((firstsOf K).map icell) ∧ (∀ b, gb = some b → w.heap.size ≤ b) ∧ Below w.heap.size w w' := by
  refine (bases_any k.lies hX).mono ?_
  rintro e w' ⟨v, gb, rfl, hs, hn, hb⟩
  refine ⟨v, gb, rfl, ?_, hn, hb⟩
  have e1 : (firstsOf K).length = K.X.length := by simp [firstsOf, Kx.G]
  have e2 : (firstsOf K).map icell = fcells K.X := by simp [firstsOf, Kx.G, fcells, icell, Sx.sg, Function.comp_def]
  rw [e1, e2]
  exact hs
/-- What a log's names hold: which are dropped. -/
theorem Fl.all_gone {P : List UInt8} {f : Ta.View} {G : List Sg} {sf : Nat} (h : Fl P f G sf) (k : List UInt8) : fdrop P f (G.map Sg.first) k = none := by
  by_cases hk : ∃ g ∈ G, nm P g.first = k
  · obtain ⟨g, hg, rfl⟩ := hk
    exact fdrop_gone (List.mem_map.2 ⟨g, hg, rfl⟩)
  · rw [fdrop_other fun z hz e => ?_]
    · exact h.rest k fun g hg e => hk ⟨g, hg, e⟩
    · obtain ⟨g, hg, rfl⟩ := List.mem_map.1 hz
      exact hk ⟨g, hg, e⟩
theorem Log.sorted {G : List Sg} (h : Log G) : (G.map Sg.first).Pairwise fun x y => x < y := by
  rw [List.pairwise_map, List.pairwise_iff_getElem]
  intro i j hi hj hij
  exact h.strict i j _ _ hij (List.getElem?_eq_getElem hi) (List.getElem?_eq_getElem hj)
theorem Log.nodup {G : List Sg} (h : Log G) : (G.map Sg.first).Nodup := h.sorted.imp fun h => Int.ne_of_lt h
/-- What Reset leaves of a tape that isn't armed. -/
def ResetOut (w : World) (s : Nat) (h : Hs) (B : Nat → Prop) (tot n : Nat) (c : Ta.Sc) (off : Int) (a : Nat) (e : Ending) (w' : World) : Prop :=
  ∃ (B' : Nat → Prop) (f' : Ta.View) (tot' n' : Nat) (c' : Ta.Sc) (K' : Kx), e = .returned (.int .i64 0) ∧ Moved B B' w w' ∧ Sd w' s h B' f' tot' n' c' K' ∧ K'.G = [⟨off, []⟩] ∧ Fl h.P f' [⟨off, []⟩] 0 ∧ tot' ≤ tot ∧ n' ≤ n + 1 ∧ c'.room = c.room ∧ Run c' a h.life ∧ c'.armed = 0
set_option maxHeartbeats 4000000 in
set_option maxRecDepth 100000 in
theorem resetS_any {w : World} {s : Nat} {h : Hs} {B : Nat → Prop} {f : Ta.View} {tot n : Nat} {c : Ta.Sc} {K : Kx} (kk : Sd w s h B f tot n c K) (lb : Lb w) (hB : ∀ b, B b → 8 ≤ b) (hP : 1 ≤ h.P.length ∧ h.P.length ≤ 16) (hlog : Log K.G) (hfit : Fit K.G)
    {a : Nat} (hlf : c.life = h.life) (q : Run c a h.life) (harm : c.armed = 0) (ha : a + K.X.length + 2 ≤ 1099511627776) (hl : h.life ≤ 1099511627776) {sf : Nat} (hfl : Fl h.P f K.G sf) (hn : n < 256) (off : Int) (ho : 0 ≤ off ∧ off ≤ 1099511627776) :
    Calls Tryz.prog 47 #[.pointer (some ⟨s, 0, none⟩), .int .i64 off] w (ResetOut w s h B tot n c off (a + K.X.length + 2)) := by
  have hX : K.X.length ≤ 1048576 := by have h1 := hfit.segs; simpa [Kx.G] using h1
  have HR := Lib.hid (readyS_ok kk hlf hl)
  have HBS := Lib.hid fun (wx : World) (hbx : Below w.heap.size w wx) => bases_of (kk.below hbx) hX
  have hzl : (firstsOf K).length = K.X.length := by simp [firstsOf, Kx.G]
  have HZL := Lib.hid hzl
  have HKK := Lib.hid kk
  have HLB := Lib.hid lb
  have HLOG := Lib.hid hlog
  have HFL := Lib.hid hfl
  have HQ := Lib.hid q
  have HBL := Lib.hid (show ∀ b, B b → b < w.heap.size from kk.lt)
  have hb1 : decide (off < 0) = false := by simp; omega
  have hb2 : decide ((1099511627776 : Int) < off) = false := by simp; omega
  clear kk lb hlog hfl q hfit hzl
  go_enter Tryz.func47, Tryz.ntmps47
  go_wp2_with fail
  refine HR.out.mono ?_
  rintro e w1 ⟨rfl, b1⟩
  have HB1 := Lib.hid b1
  clear b1
  go_wp2_with fail
  refine (HBS.out _ HB1.out).mono ?_
  rintro e w2 ⟨v, gb, rfl, hs2, hn2, hb2'⟩
  have hb2w := HB1.out.trans (hb2'.mono HB1.out.size)
  have hrd : Rds (fun b => ¬ B b) w2 v 1 (firstsOf K).length ((firstsOf K).map icell) := Rds.of_sl hs2 fun b hb hB' => by have := hn2 b hb; have := HBL.out b hB'; have := HB1.out.size; omega
  have hlbw := HLB.out.below HLB.out.size hb2w
  have HDR := Lib.hid (drop_any (HKK.out.below hb2w) hlbw hB (by omega) HQ.out v (firstsOf K) hrd (fun z hz => by
    obtain ⟨g, hg, rfl⟩ := List.mem_map.1 hz
    exact HLOG.out.firsts g hg) HLOG.out.nodup (fun z hz => by
    obtain ⟨g, hg, rfl⟩ := List.mem_map.1 hz
    obtain ⟨j, hj⟩ := List.getElem?_of_mem hg
    exact ⟨_, _, HFL.out.hold j g hj⟩) (by rw [HZL.out]; omega) hl (by rw [HZL.out]; exact hX))
  have HB2 := Lib.hid hb2w
  have HLBW := Lib.hid hlbw
  clear hs2 hn2 hb2' hb2w hrd hlbw HBS HR
  go_wp2_with fail
  refine HDR.out.mono ?_
  rintro e w3 ⟨j, B3, tot3, n3, c3, er, hj, rfl, hSd3, hmv3, htot3, hn3, hroom3, hor⟩
  rcases hor with ⟨rfl, hje, hrun3, harm3⟩ | ⟨-, -, hna⟩
  · rw [hje, List.take_length] at hSd3
    rw [hje, HZL.out] at hrun3
    obtain ⟨lb3, h83⟩ := HLBW.out.moved hB hmv3
    have HNM := Lib.hid (name_any w3 lb3 s h _ hSd3.lies.head (by omega) off ho.1 ho.2)
    have hgone : ∀ k, fdrop h.P f (firstsOf K) k = none := fun k => HFL.out.all_gone k
    have HGN := Lib.hid hgone
    have HSD3 := Lib.hid hSd3
    have HMV3 := Lib.hid hmv3
    have HLB3 := Lib.hid lb3
    have H83 := Lib.hid h83
    have HRUN3 := Lib.hid hrun3
    have HARM3 := Lib.hid (harm3 harm)
    have HROOM3 := Lib.hid hroom3
    obtain ⟨M, hM⟩ : ∃ M : ByteArray, (⟨(nm h.P off).toArray⟩ : ByteArray) = M := ⟨_, rfl⟩
    rw [hM] at HNM
    have HM := Lib.hid hM
    clear hj hSd3 hmv3 lb3 h83 hrun3 hroom3 harm3 hje hgone hM HDR
    go_wp2_with fail
    refine HNM.out.mono ?_
    rintro e w4 ⟨rfl, b4⟩
    have hll := nm_length (P := h.P) (x := off) ho.1 ho.2
    have hwr := writeS_any (HSD3.out.below b4) HRUN3.out (by omega) hl (nm h.P off) [] (by
      simp only [Ta.okName, hll]
      simp
      omega) (HGN.out _) (by omega) (by
      obtain ⟨T', hst', -⟩ := HSD3.out.tape
      have := hst'.fit
      simp only [List.length_nil]
      omega)
    rw [HM.out] at hwr
    have HWR := Lib.hid hwr
    have HB4 := Lib.hid b4
    clear b4 hwr hll HNM
    go_wp2_with fail
    refine HWR.out.mono ?_
    rintro e w5 ⟨B5, c5, er, rfl, hmv5, hroom5, hor5⟩
    rcases hor5 with ⟨rfl, hSd5, hrun5, harm5⟩ | ⟨-, -, -, hna⟩
    · have hsd5 := hSd5.known (fun _ => True) fun _ _ _ => trivial
      have d4 : w5.cell? ⟨s, 4, none⟩ = some K.v := hSd5.lies.head.cell rfl
      have z4 : w5.frozen? ⟨s, 4, none⟩ = false := hSd5.lies.head.free
      have hslt : s < w5.heap.size := hSd5.lies.head.lt
      have hput : ∀ (o : World) (g : Nat), o = w5.alloc (.cells #[.int .i64 off, .int .i64 0, .slice none 0 0] 119) → g = w5.heap.size → ResetOut w s h B tot n c off (a + K.X.length + 2) (.returned (.int .i64 0)) (o.setCell ⟨s, 4, none⟩ (.slice (some ⟨g, 0, none⟩) 1 1)) := by
        rintro o g rfl rfl
        have hsl : Sl (w5.alloc (.cells #[.int .i64 off, .int .i64 0, .slice none 0 0] 119)) (.slice (some ⟨w5.heap.size, 0, none⟩) 1 1) (some w5.heap.size) 119 3 1 [.int .i64 off, .int .i64 0, .slice none 0 0] :=
          ⟨rfl, .inr ⟨_, 0, 1, _, rfl, rfl, heap_alloc_new w5 _, Nat.le_refl _, by simp, rfl⟩⟩
        obtain ⟨B6, k1, k2⟩ := hsd5.put (own := fun _ => False) (fun b hb => hb.elim) (Nat.zero_le _) (ch := none) (fun g hg => by cases hg) (Chg.refl _ _ _) ⟨off, .slice none 0 0, none, []⟩ (Sl.nil _ _ _) (fun g hg => by cases hg) (fun p hp => by cases hp) ((Chg.refl _ _ _).alloc _) (.slice (some ⟨w5.heap.size, 0, none⟩) 1 1) (some w5.heap.size) hsl (fun g hg => by cases hg; exact .inr (Nat.le_refl _))
        refine ⟨B6, _, _, _, c5, _, rfl, (Moved.of_below HB2.out).trans (HMV3.out.trans ((Moved.of_below HB4.out).trans (hmv5.trans (k2.mono (fun b hb => hb.elim False.elim id) fun b hb => ?_)))), k1, rfl, ?_, ?_, ?_, hroom5.trans HROOM3.out, hrun5, harm5 HARM3.out⟩
        · rcases k2.new b hb with h3 | h3
          · exact h3.elim False.elim .inl
          · exact .inr h3
        · refine ⟨fun i g hi => ?_, fun k hk => ?_⟩
          · rcases i with _ | i
            · simp only [List.getElem?_cons_zero, Option.some.injEq] at hi
              subst hi
              rw [Ta.upd_same]
              rfl
            · simp at hi
          · rw [Ta.upd_other _ _ fun e => hk ⟨off, []⟩ (by simp) e.symm]
            exact HGN.out k
        · simp only [List.length_nil]
          omega
        · omega
      have HPUT := Lib.hid hput
      clear hsd5 hSd5 hrun5 harm5 hmv5 hroom5 HWR hput
      go_wp2_with fail
      go_ret
      have hfin := HPUT.out _ _ rfl rfl
      rw [World.setCell_alloc_past _ _ _ _ hslt] at hfin
      exact hfin
    · exact absurd HARM3.out hna
  · exact absurd harm hna
end Go.Proofs.YtdaoeplblkfapaaGreatDoor
