import Derived.Test.YtdaoeplblkfapaaGreatDoorM40
import Derived.Test.YtdaoeplblkfapaaGreatDoorM24
import Derived.Test.YtdaoeplblkfapaaGreatDoorM28

/- THE CONTRACT OF strand's Put, of a segment that isn't the last: done, or the power goes. -/
namespace Go.Proofs.YtdaoeplblkfapaaGreatDoor
open Go.RowKit

theorem scell3 {w : World} {s g i a b c : Nat} {x y z v : Value} (hne : s ≠ g) (h : w.cell? ⟨s, i, none⟩ = some v) : (((w.setCell ⟨g, a, none⟩ x).setCell ⟨g, b, none⟩ y).setCell ⟨g, c, none⟩ z).cell? ⟨s, i, none⟩ = some v := by
  rw [← h]
  refine World.cell?_of_block ?_
  exact (Below.heap_setCell _ _ _ _ hne).trans ((Below.heap_setCell _ _ _ _ hne).trans (Below.heap_setCell _ _ _ _ hne))
/-- What Put leaves. -/
def PutSOut (w : World) (s : Nat) (h : Hs) (B : Nat → Prop) (f : Ta.View) (n : Nat) (c : Ta.Sc) (K : Kx) (l : List Pl.Bt) (G' : List Sg) (sf a : Nat) (e : Ending) (w' : World) : Prop :=
  ∃ (B' : Nat → Prop) (f' : Ta.View) (tot' n' : Nat) (c' : Ta.Sc) (K' : Kx) (er : Int), e = .returned (.int .i64 er) ∧ Moved B B' w w' ∧ Sd w' s h B' f' tot' n' c' K' ∧ c'.room = c.room ∧
    ((er = 0 ∧ K'.G = G' ∧ Fl h.P f' G' sf ∧ Run c' (a + 3) h.life ∧ (c.armed = 0 → c'.armed = 0)) ∨
     (er = 10 ∧ K'.G = K.G ∧ Gone c' (a + 3) h.life ∧ c.armed ≠ 0 ∧ ((n' = n + 1 ∧ ∃ x, x ≤ (frs l).length ∧ f' = Ta.upd f (nmNew h.P) (some (frs l, x))) ∨ Fl h.P f' G' sf)))
set_option maxHeartbeats 4000000 in
set_option maxRecDepth 100000 in
theorem putS_any {w : World} {s : Nat} {h : Hs} {B : Nat → Prop} {f : Ta.View} {tot n : Nat} {c : Ta.Sc} {K : Kx} (kk : Sd w s h B f tot n c K) (lb : Lb w) (hB : ∀ b, B b → 8 ≤ b) (hP : 1 ≤ h.P.length ∧ h.P.length ≤ 16) (hlog : Log K.G) (hfit : Fit K.G)
    {a : Nat} (hlf : c.life = h.life) (q : Run c a h.life) (ha : a + 3 ≤ 1099511627776) (hl : h.life ≤ 1099511627776) {sf : Nat} (hfl : Fl h.P f K.G sf) {i : Nat} {x : Sx} (hx : K.X[i]? = some x) (hi : i + 1 < K.X.length)
    (u : Value) (L : List (Pl.Bt × Value)) (hu : BtIn (fun b => ¬ B b) w u L) (has : As x.first x.bts (L.map (·.1))) (hles : ∀ (j : Nat) (p q : Pl.Bt × Value), L[j]? = some p → x.L[j]? = some q → lesB p.1 q.1 = true) (hn : n < 256) (hM : tot + (frs (L.map (·.1))).length ≤ c.room) (hrl : ∀ p ∈ L, p.1.recs.length ≤ 1048576) :
    Calls Tryz.prog 40 #[.pointer (some ⟨s, 0, none⟩), .int .i64 i, u] w (PutSOut w s h B f n c K (L.map (·.1)) (K.G.set i ⟨x.first, L.map (·.1)⟩) sf a) := by
  have hxm := List.mem_of_getElem? hx
  have hGi : K.G[i]? = some x.sg := by show (K.X.map Sx.sg)[i]? = _; rw [List.getElem?_map, hx]; rfl
  have hGl : i + 1 < K.G.length := by rw [show K.G.length = K.X.length from List.length_map _]; exact hi
  have hNs : K.X.length ≤ 1048576 := by have := hfit.segs; rw [show K.G.length = K.X.length from List.length_map _] at this; exact this
  have hxl : x.L.length ≤ 1048576 := by have := hfit.lists _ (List.mem_of_getElem? hGi); simpa [Sx.sg, Sx.bts] using this
  have hlen : x.L.length = L.length := by have := has.len; simpa [Sx.bts] using this.symm
  have hch : Chain x.first x.bts := hlog.chs _ (List.mem_of_getElem? hGi)
  have hgood : ∀ p ∈ L, Pl.goodB p.1 = true := fun p hp => (has.chain hch).good _ (List.mem_map.2 ⟨p, hp, rfl⟩)
  have hgoodx : ∀ p ∈ x.L, Pl.goodB p.1 = true := fun p hp => hch.good _ (List.mem_map.2 ⟨p, hp, rfl⟩)
  obtain ⟨hF0, hF1⟩ := hfit.firsts _ (List.mem_of_getElem? hGi)
  have HLS : Hid (L.length ≤ 1048576) := Lib.hid (by omega)
  have HR := Lib.hid (readyS_ok kk hlf hl)
  have HKK := Lib.hid kk
  have HFP : Hid (Fl h.P (Ta.upd f (nm h.P x.first) (some (frs (L.map (·.1)), (frs (L.map (·.1))).length))) (K.G.set i ⟨x.first, L.map (·.1)⟩) sf) := Lib.hid (hfl.put hlog hGi hGl _)
  have HNW := Lib.hid (hfl.noNew hlog)
  have HEQ : Hid (∀ wx, Below w.heap.size w wx → Calls Tryz.prog 88 #[u, x.lv, .func (.func 89) #[] #[]] wx fun e w' => e = .returned (.bool true) ∧ Below wx.heap.size wx w') := Lib.hid fun wx hb => eqlB_any u x.lv L x.L wx (hu.below hb) ((kk.lies.list hxm).below hb) hlen (by omega) hrl (fun p hp => by have := (Pl.enc_short (hgoodx p hp)).2.2; omega) hles
  have HFR : Hid (∀ wx, Below w.heap.size w wx → Calls Tryz.prog 80 #[u] wx fun e w' => e = .returned (.string ⟨(frs (L.map (·.1))).toArray⟩) ∧ Below wx.heap.size wx w') := Lib.hid fun wx hb => frames_any u L wx (lb.below lb.size hb) (hu.below hb) hgood (by omega)
  have hPl : h.P.length ≤ 1048576 := by omega
  have HBE : Hid (∀ wx, Blk wx s (hcells h K.v) 99 → Calls Tryz.prog 91 #[.pointer (some ⟨s, 0, none⟩)] wx fun e w' => e = .returned (.string ⟨(nmNew h.P).toArray⟩) ∧ wx = w') := Lib.hid fun wx hb => beside_any wx s h K.v hb hPl
  have HNM : Hid (∀ wx, Lb wx → Blk wx s (hcells h K.v) 99 → Calls Tryz.prog 81 #[.pointer (some ⟨s, 0, none⟩), .int .i64 x.first] wx fun e w' => e = .returned (.string ⟨(nm h.P x.first).toArray⟩) ∧ Below wx.heap.size wx w') := Lib.hid fun wx l hb => name_any wx l s h K.v hb hPl x.first hF0 hF1
  have HOK : Hid (Ta.okName (nmNew h.P) = true ∧ Ta.okName (nm h.P x.first) = true) := Lib.hid ⟨by simp [Ta.okName, nmNew]; omega, by simp only [Ta.okName, nm_length (x := x.first) hF0 hF1]; simp; omega⟩
  have HLB := Lib.hid lb
  have HHB := Lib.hid hB
  have HU := Lib.hid hu
  have HQ := Lib.hid q
  have HGO := Lib.hid hgood
  have HRL := Lib.hid hrl
  have HMR := Lib.hid hM
  have HX := Lib.hid hx
  obtain ⟨g, o, cap, hgb, hv, hcap, hgl, g0, g1, g2⟩ := kk.lies.get hx
  obtain ⟨la, lc, hlv⟩ := (kk.lies.list hxm).form
  obtain ⟨N, hN⟩ : ∃ N, K.X.length = N := ⟨_, rfl⟩
  obtain ⟨m, hm⟩ : ∃ m, x.L.length = m := ⟨_, rfl⟩
  obtain ⟨F, hF⟩ : ∃ F, x.first = F := ⟨_, rfl⟩
  obtain ⟨Y, hY⟩ : ∃ Y, (frs x.bts).length = Y := ⟨_, rfl⟩
  rw [hm] at hlv
  rw [hlv] at g2 HEQ
  rw [hF] at g0 HNM HFP HOK ⊢
  rw [hY] at g1
  rw [hN] at hv hcap hi hNs
  have c4 : w.cell? ⟨s, 4, none⟩ = some (.slice (some ⟨g, o, none⟩) N cap) := by rw [← hv]; exact kk.lies.head.cell rfl
  obtain ⟨ua, uc, hue⟩ := hu.form
  obtain ⟨S, hS⟩ : ∃ S : ByteArray, (⟨(frs (L.map (·.1))).toArray⟩ : ByteArray) = S := ⟨_, rfl⟩
  obtain ⟨SN, hSN⟩ : ∃ S : ByteArray, (⟨(nmNew h.P).toArray⟩ : ByteArray) = S := ⟨_, rfl⟩
  obtain ⟨SF, hSF⟩ : ∃ S : ByteArray, (⟨(nm h.P F).toArray⟩ : ByteArray) = S := ⟨_, rfl⟩
  obtain ⟨y, hy⟩ : ∃ y, S.size = y := ⟨_, rfl⟩
  have hyf : (frs (L.map (·.1))).length = y := by rw [← hy, ← hS]; simp [ByteArray.size]
  rw [hS] at HFR
  rw [hSN] at HBE
  rw [hSF] at HNM
  have HS := Lib.hid hS
  have HSN := Lib.hid hSN
  have HSF := Lib.hid hSF
  have HY := Lib.hid hy
  have HYF := Lib.hid hyf
  have HV := Lib.hid (And.intro hgb (And.intro hv hlv))
  have HN := Lib.hid hN
  have HF := Lib.hid hF
  have HUE := Lib.hid hue
  have HM2 := Lib.hid hm
  have hsl : s < w.heap.size := kk.lies.head.lt
  clear kk lb hB hlog hfit hlf q hfl hu has hles hM hrl hxm hGi hGl hlen hch hgood hgoodx hF0 hF1 hgb hv hlv hN hF hS hSN hSF hy hyf hY hm hx hue hPl hxl
  have d1 : decide ((i : Int) < 0) = false := by simp
  have hwN : IntKind.i64.wrap ((N : Int) - 2) = (N : Int) - 2 := IntWalk.i64_in _ (by omega)
  have d2 : decide ((N : Int) - 2 < (i : Int)) = false := by simp; omega
  have i0 : (0 : Int) ≤ (i : Int) := by omega
  have i1 : (i : Int) < (N : Int) := by omega
  go_enter Tryz.func40, Tryz.ntmps40
  go_wp2_with fail
  refine HR.out.mono ?_
  rintro e w1 ⟨rfl, b1⟩
  have e4 : w1.cell? ⟨s, 4, none⟩ = some (.slice (some ⟨g, o, none⟩) N cap) := (b1.cell (p := ⟨s, 4, none⟩) hsl).trans c4
  have e2 : w1.cell? ⟨g, o + i * 3 + 2, none⟩ = some (.slice la m lc) := (b1.cell (p := ⟨g, _, none⟩) hgl).trans g2
  have HE1 := Lib.hid (HEQ.out _ b1)
  have H1 := Lib.hid b1
  clear b1 HR HEQ
  go_wp2_with fail
  refine HE1.out.mono ?_
  rintro e w2 ⟨rfl, b2⟩
  have b3 := H1.out.trans (b2.mono H1.out.size)
  have k4 : w2.cell? ⟨s, 4, none⟩ = some (.slice (some ⟨g, o, none⟩) N cap) := (b3.cell (p := ⟨s, 4, none⟩) hsl).trans c4
  have k0 : w2.cell? ⟨g, o + i * 3, none⟩ = some (.int .i64 F) := (b3.cell (p := ⟨g, _, none⟩) hgl).trans g0
  have q4 : ∀ d os, _ := cell_regrown k4
  have q0 : ∀ d os, _ := cell_regrown k0
  have HF2 := Lib.hid fun d os => Calls.regrown_of (HFR.out _ (b3.trans ((below_regrown w2 d os).mono b3.size)))
  have H2 := Lib.hid b3
  clear b2 b3 H1 HE1 e4 e2 c4 g0 g1 g2
  go_wp2_with fail
  refine wp_region_quiet_below (by kernel_rfl) (by kernel_rfl) ?_
  repeat (go_big_quiet_step ((go_at_call 80; with_reducible exact HF2.out _ _)))
  refine wpQuiet_nil ?_
  intro w3 hw3
  obtain ⟨⟨dq, osq⟩, hw3'⟩ := hw3
  have H3 : Hid (Below w.heap.size w w3) := by rw [hw3']; exact H2.out.trans ((below_regrown w2 dq osq).mono H2.out.size)
  clear hw3' q4 q0 HF2 H2 k4 k0 HFR
  have hs3 := HKK.out.below H3.out
  have HB3 := Lib.hid (HBE.out w3 hs3.lies.head)
  have hwr := writeS_any hs3 HQ.out (by omega) hl (nmNew h.P) (frs (L.map (·.1))) HOK.out.1 HNW.out hn HMR.out
  rw [HSN.out, HS.out] at hwr
  have HWR := Lib.hid hwr
  clear hs3 hwr
  go_wp2_with fail
  refine HB3.out.mono ?_
  rintro e _ ⟨rfl, rfl⟩
  go_wp2_with fail
  refine HWR.out.mono ?_
  rintro e w4 ⟨B4, c4, er, rfl, hmv4, hr4, hor⟩
  have HMV4 := Lib.hid ((Moved.of_below H3.out).trans hmv4)
  have HR4 := Lib.hid hr4
  clear hmv4 hr4 HWR HB3
  rcases hor with ⟨rfl, hsd4, hrun4, harm4⟩ | ⟨rfl, hsd4, hgone4, harm4⟩
  rotate_left
  · have HRES : Hid (PutSOut w s h B f n c K (L.map (·.1)) (K.G.set i ⟨F, L.map (·.1)⟩) sf a (.returned (.int .i64 10)) w4) := Lib.hid ⟨B4, _, _, _, c4, K, 10, rfl, HMV4.out, hsd4, HR4.out, .inr ⟨rfl, rfl, hgone4.more (by omega), harm4, .inl ⟨rfl, 0, Nat.zero_le _, rfl⟩⟩⟩
    clear hsd4 hgone4 harm4
    go_wp2_with fail
    go_ret
    exact HRES.out
  have HARM4 := Lib.hid harm4
  have HRUN4 := Lib.hid hrun4
  have HSD4 := Lib.hid hsd4
  have t0 : w4.cell? ⟨s, 0, none⟩ = some (.pointer (some ⟨h.t, 0, none⟩)) := hsd4.lies.head.cell rfl
  have q0 : ∀ d os, _ := cell_regrown t0
  obtain ⟨lb4, hB4⟩ := HLB.out.moved HHB.out HMV4.out
  have HLB4 := Lib.hid (And.intro lb4 hB4)
  have HBE4 := Lib.hid fun d os => Calls.regrown_of ((HBE.out _ (hsd4.lies.head.below (below_regrown w4 d os))).mono fun _ _ ⟨he, hw⟩ => ⟨he, hw ▸ Below.refl _ _⟩)
  have HNM4 := Lib.hid fun d os => Calls.regrown_of (HNM.out _ (lb4.below lb4.size (below_regrown w4 d os)) (hsd4.lies.head.below (below_regrown w4 d os)))
  clear harm4 hrun4 hsd4 lb4 hB4
  go_wp2_with fail
  refine wp_region_below_tail 9 (by kernel_rfl) (by kernel_rfl) ?_
  simp only [List.take_succ_cons, List.take_zero, List.drop_succ_cons, List.drop_zero]
  repeat (go_big_quiet_step (first | (go_at_call 91; with_reducible exact HBE4.out _ _) | (go_at_call 81; with_reducible exact HNM4.out _ _)))
  refine wpQuiet_nil ?_
  intro w5 hw5
  obtain ⟨⟨dq, osq⟩, hw5'⟩ := hw5
  have H5 : Hid (Below w4.heap.size w4 w5) := by rw [hw5']; exact below_regrown w4 dq osq
  clear hw5' HBE4 HNM4 q0 t0
  obtain ⟨T, hst, hup⟩ := (HSD4.out.below H5.out).tape
  have hsw := Ta.s_swap hst (HRUN4.out.small (by omega) hl) (nmNew h.P) (nm h.P F) _ (Ta.upd_same _ _ _) HOK.out.2
  rw [upd_gone HNW.out, HSN.out, HSF.out] at hsw
  have HSW := Lib.hid hsw
  have HUP := Lib.hid hup
  clear hst hsw hup
  go_wp2_with fail
  refine HSW.out.mono ?_
  rintro e w6 ⟨rfl, T6, tot6, n6, hS6, hm6⟩
  obtain ⟨B6, hsd6, hmv6⟩ := HUP.out _ _ _ _ _ _ hS6 hm6
  have HMV6 := Lib.hid (HMV4.out.trans ((Moved.of_below H5.out).trans hmv6))
  have HR6 : Hid ((Ta.actS c4).room = c.room) := Lib.hid ((Ta.actS_room _).trans HR4.out)
  clear hS6 hm6 HSW HUP
  rcases HRUN4.out.split with ⟨ha0, hrun, harm⟩ | ⟨ha0, hgone, harm⟩
  rotate_left
  · rw [ha0]
    have HRES : Hid (PutSOut w s h B f n c K (L.map (·.1)) (K.G.set i ⟨F, L.map (·.1)⟩) sf a (.returned (.int .i64 10)) w6) := Lib.hid ⟨B6, _, _, _, _, K, 10, rfl, HMV6.out, hsd6, HR6.out, .inr ⟨rfl, rfl, hgone, fun h0 => by have := HARM4.out h0; omega, .inr HFP.out⟩⟩
    clear hsd6 hgone harm ha0
    go_wp2_with fail
    go_ret
    exact HRES.out
  rw [ha0]
  obtain ⟨hgb, hv, hlv⟩ := HV.out
  have p4 : w6.cell? ⟨s, 4, none⟩ = some (.slice (some ⟨g, o, none⟩) N cap) := by rw [← hv]; exact hsd6.lies.head.cell rfl
  have hu6 : BtIn (fun b => ¬ B6 b) w6 u L := HU.out.moved HMV6.out
  have hgl6 : g < w6.heap.size := hsd6.lies.segs.lt g hgb
  have hsg6 : Sl w6 (.slice (some ⟨g, o, none⟩) N cap) (some g) 119 3 N (K.X.flatMap sc3) := by
    have h1 := hsd6.lies.segs
    rw [hv, hgb, HN.out] at h1
    exact h1
  have HSG6 := Lib.hid hsg6
  have HGS : Hid (s ≠ g) := Lib.hid fun e => hsd6.lies.sg (by rw [hgb, e])
  have HCE : Hid (∀ w7 : World, Below w6.heap.size w6.drew w7 → (∃ u0, w7.cell? ⟨g, o + i * 3, none⟩ = some u0) ∧ (∃ u1, w7.cell? ⟨g, o + i * 3 + 1, none⟩ = some u1) ∧ (∃ u2, w7.cell? ⟨g, o + i * 3 + 2, none⟩ = some u2) ∧ ∀ j, w7.frozen? ⟨g, j, none⟩ = false) := Lib.hid fun w7 hb7 => by
    have h7 : Below w6.heap.size w6 w7 := ⟨hb7.os, hb7.tape, hb7.output, hb7.size, hb7.block⟩
    have h1 := hsg6.below h7
    have hlen := h1.1
    have key : ∀ j, j < 3 → ∃ u, w7.cell? ⟨g, o + i * 3 + j, none⟩ = some u := fun j hj => by
      have h3 := h1.cell rfl (i * 3 + j) _ (List.getElem?_eq_getElem (by omega))
      rw [← Nat.add_assoc] at h3
      exact ⟨_, h3⟩
    exact ⟨key 0 (by decide), key 1 (by decide), key 2 (by decide), fun j => h1.frozen rfl j⟩
  have HCL : Hid (∀ wx, Below w6.heap.size w6 wx → Calls Tryz.prog 87 #[u] wx (Clones wx (L.map (·.1)))) := Lib.hid fun wx hb => clones_any u L wx (hu6.below hb) HLS.out HRL.out
  have HSD6 := Lib.hid hsd6
  have HRUN6 := Lib.hid hrun
  have HARM6 := Lib.hid harm
  clear hsd6 hrun harm ha0 hgb hv hlv hu6 hmv6 H5 hsg6
  go_wp2_with fail
  go_region_held3 (fun w' => w'.cell? ⟨s, 4, none⟩ = some (.slice (some ⟨g, o, none⟩) N cap)) (first | go_keep | with_reducible exact dcell hb7 p4 | with_reducible exact scell3 HGS.out (dcell hb7 p4))
    (first
      | (go_at_call 87; (refine (HCL.out _ ((Below.refl _ _).drew)).mono ?_); rintro e w7 ⟨v7, cb, L7, rfl, hL7, hs7, hn7, ha7, hb7⟩; obtain ⟨ca, cc, rfl⟩ := hs7.form; obtain ⟨⟨u0, f0⟩, ⟨u1, f1⟩, ⟨u2, f2⟩, fz⟩ := HCE.out _ hb7)
      | fail)
  obtain ⟨hgb, hv, -⟩ := HV.out
  have hb7' : Below w6.heap.size w6 w7 := ⟨hb7.os, hb7.tape, hb7.output, hb7.size, hb7.block⟩
  have hs7' := HSG6.out.below hb7'
  obtain ⟨e1, e2, e3⟩ := flat_set3 K.X i x ⟨F, .slice ca L7.length cc, cb, L7⟩ HX.out
  have hyl : (frs (L7.map (·.1))).length = S.size := by rw [hL7, HYF.out, HY.out]
  rw [e1] at hs7'
  have hset := Sl.set3 (k := i) hs7' e3 (.int .i64 F) (.int .i64 S.size) (.slice ca L7.length cc)
  rw [show [Value.int .i64 F, .int .i64 S.size, .slice ca L7.length cc] = sc3 ⟨F, .slice ca L7.length cc, cb, L7⟩ from by unfold sc3 Sx.bts; simp only [hyl], ← e2] at hset
  rw [← hv, ← hgb, ← HN.out] at hset
  have hgr := grown_set (i := o + i * 3 + 2) (grown_set (i := o + i * 3 + 1) (grown_set (i := o + i * 3) (World.grownBy.refl w7 (some g)) (.int .i64 F)) (.int .i64 S.size)) (.slice ca L7.length cc)
  rw [← hgb] at hgr
  have hsd7 := HSD6.out.seat (w3 := w7) hb7' hgr i ⟨F, .slice ca L7.length cc, cb, L7⟩ hs7 hn7 ha7 hset
  obtain ⟨B7, hsd7, hmv7⟩ := hsd7
  have hG7 : (K.X.set i ⟨F, .slice ca L7.length cc, cb, L7⟩).map Sx.sg = K.G.set i ⟨F, L.map (·.1)⟩ := by
    rw [List.map_set]
    show (K.X.map Sx.sg).set i ⟨F, L7.map (·.1)⟩ = _
    rw [hL7]
    rfl
  have HRES : Hid (PutSOut w s h B f n c K (L.map (·.1)) (K.G.set i ⟨F, L.map (·.1)⟩) sf a (.returned (.int .i64 0)) _) := Lib.hid ⟨B7, _, _, _, _, _, 0, rfl, HMV6.out.trans hmv7, hsd7, HR6.out, .inl ⟨rfl, hG7, HFP.out, HRUN6.out, fun h0 => HARM6.out (HARM4.out h0)⟩⟩
  clear hsd7 hmv7 hgr hset hs7' hs7 hn7 ha7 hb7 hb7' e1 e2 e3 hG7
  go_wp2_with fail
  go_ret
  exact HRES.out
end Go.Proofs.YtdaoeplblkfapaaGreatDoor

/- Put as the laws meet it. -/
namespace Go.Proofs.YtdaoeplblkfapaaGreatDoor
open Go.RowKit

set_option maxHeartbeats 1000000 in
set_option maxRecDepth 100000 in
theorem putS_bad {w : World} {s : Nat} {h : Hs} {B : Nat → Prop} {f : Ta.View} {tot n : Nat} {c : Ta.Sc} {K : Kx} (kk : Sd w s h B f tot n c K) (hlf : c.life = h.life) (hl : h.life ≤ 1099511627776) (hX : K.X.length ≤ 1048576) (x : Int) (hx : x < 0 ∨ (K.X.length : Int) - 2 < x) (v : Value) :
    Calls Tryz.prog 40 #[.pointer (some ⟨s, 0, none⟩), .int .i64 x, v] w fun e w' => e = .returned (.int .i64 1) ∧ Below w.heap.size w w' := by
  have HR := Lib.hid (readyS_ok kk hlf hl)
  have k2 := kk.lies
  obtain ⟨a, cap, hv⟩ := k2.segs.form
  obtain ⟨N, hN⟩ : ∃ N, K.X.length = N := ⟨_, rfl⟩
  rw [hN] at hX hx hv
  have c4 : w.cell? ⟨s, 4, none⟩ = some (.slice a N cap) := by rw [← hv]; exact k2.head.cell rfl
  have hs := k2.head.lt
  have hwN : IntKind.i64.wrap ((N : Int) - 2) = (N : Int) - 2 := IntWalk.i64_in _ (by omega)
  clear k2 kk hlf hv hN
  go_enter Tryz.func40, Tryz.ntmps40
  go_wp2_with fail
  refine HR.out.mono ?_
  rintro e w1 ⟨rfl, b1⟩
  have c4' : w1.cell? ⟨s, 4, none⟩ = some (.slice a N cap) := (b1.cell (p := ⟨s, 4, none⟩) hs).trans c4
  have HB := Lib.hid b1
  clear b1 c4
  by_cases h0 : x < 0
  · have d1 : decide (x < 0) = true := by simpa using h0
    go_wp2_with fail
    go_ret
    exact ⟨rfl, HB.out⟩
  · have d1 : decide (x < 0) = false := by simpa using h0
    have d2 : decide ((N : Int) - 2 < x) = true := by simp; omega
    go_wp2_with fail
    go_ret
    exact ⟨rfl, HB.out⟩
section
variable {w0 W : World} {t s m l : Nat} {E : En} {G : List Sg} {Q : Nat → Prop} {y : Bool}
theorem Opd.put_bad (L : Opd w0 t s E m l G Q y W) (x : Int) (hx : x < 0 ∨ (G.length : Int) - 2 < x) (v : Value) :
    Calls Tryz.prog 40 #[.pointer (some ⟨s, 0, none⟩), .int .i64 x, v] W fun e W' => e = .returned (.int .i64 1) ∧ Below W.heap.size W W' := by
  obtain ⟨B, f, tot, n, c, K, sf, h1, rfl, h3, h4, h5⟩ := L
  have hlm := h1.life
  have hmx := h1.max_
  have hok3 := h1.ok.2.2.1
  have e : K.G.length = K.X.length := List.length_map _
  exact putS_bad h1.sd h1.run.life (by show l ≤ _; omega) h1.small.1 x (by rw [← e]; exact hx) v
/-- Seg at whatever place. -/
theorem Opd.seg_any (L : Opd w0 t s E m l G Q y W) (x : Int) :
    Calls Tryz.prog 38 #[.pointer (some ⟨s, 0, none⟩), .int .i64 x] W fun e W' => ∃ v, e = .returned v ∧ Below W.heap.size W W' := by
  by_cases hx : x < 0 ∨ (G.length : Int) ≤ x
  · obtain ⟨B, f, tot, n, c, K, sf, h1, rfl, h3, h4, h5⟩ := L
    have e : K.G.length = K.X.length := List.length_map _
    exact (seg_out h1.sd.lies x (by rw [← e]; exact hx)).mono fun _ _ ⟨h, hw⟩ => ⟨_, h, hw ▸ Below.refl _ _⟩
  · obtain ⟨j, rfl⟩ : ∃ j : Nat, x = j := ⟨x.toNat, by omega⟩
    obtain ⟨g, hg⟩ : ∃ g, G[j]? = some g := ⟨_, List.getElem?_eq_getElem (by omega)⟩
    exact (L.seg hg).mono fun _ _ ⟨v, _, _, h, _, _, _, _, hb⟩ => ⟨v, h, hb⟩
theorem frs_less {l : List Pl.Bt} (h : ∀ b ∈ l, Pl.goodB b = true) : (frs l).length ≤ 1130 * l.length := by
  induction l with
  | nil => simp [frs]
  | cons b l ih =>
    have h3 := ih fun c hc => h c (List.mem_cons_of_mem _ hc)
    have h4 := (good_enc (h b List.mem_cons_self)).2.2
    rw [frs_cons, List.length_append, List.length_cons]
    omega
theorem seg_few {G : List Sg} {g : Sg} (h : g ∈ G) : g.l.length ≤ (fla G).length := by
  obtain ⟨A, C, rfl⟩ := List.append_of_mem h
  rw [fla_append, show fla (g :: C) = g.l ++ fla C from rfl]
  simp only [List.length_append]
  omega
theorem Opd.put (L : Opd w0 t s E m l G Q y W) (hm : m < E.M) (hR : 2260 * (E.M + 1) ≤ E.R) {i : Nat} {g : Sg} (hg : G[i]? = some g) (hi : i + 1 < G.length) (less : List Int) (u : Value) (LL : List (Pl.Bt × Value)) (hu : BtIn Q W u LL) (hL : LL.map (·.1) = woL less 0 g.l) :
    Calls Tryz.prog 40 #[.pointer (some ⟨s, 0, none⟩), .int .i64 i, u] W fun e W' => e = .returned (.int .i64 0) ∧ Opd w0 t s E (m + 1) l (G.set i ⟨g.first, woL less 0 g.l⟩) (fun k => Q k ∧ k < W.heap.size) y W' ∧ Kq (fun k => Q k ∧ k < W.heap.size) W W' := by
  have hlog := L.log
  obtain ⟨B, f, tot, n, c, K, sf, h1, rfl, h3, h4, h5⟩ := L
  have hlm := h1.life
  have hmx := h1.max_
  have hok3 := h1.ok.2.2.1
  have hX := h1.X
  obtain ⟨hn, htot⟩ := h1.sizes
  have e : K.G.length = K.X.length := List.length_map _
  have hfl := h1.len
  obtain ⟨x, hx, rfl⟩ : ∃ x, K.X[i]? = some x ∧ x.sg = g := by
    rw [show K.G[i]? = K.X[i]?.map Sx.sg from List.getElem?_map ..] at hg
    cases hx : K.X[i]? with
    | none => rw [hx] at hg; cases hg
    | some x => rw [hx] at hg; exact ⟨x, rfl, Option.some.inj hg⟩
  have hgm := List.mem_of_getElem? hg
  have has : As x.first x.bts (LL.map (·.1)) := by rw [hL]; exact As.wo less 0 _ _
  have hch : Chain x.first x.bts := hlog.chs _ hgm
  have hgood : ∀ b ∈ LL.map (·.1), Pl.goodB b = true := (has.chain hch).good
  have hbl : x.bts.length ≤ (fla K.G).length := seg_few hgm
  have hll : LL.length = x.bts.length := by have := has.len; rwa [List.length_map] at this
  have hfr := frs_less hgood
  have hset : (K.G.set i ⟨x.first, LL.map (·.1)⟩) = K.G.set i ⟨x.sg.first, woL less 0 x.sg.l⟩ := by rw [hL]; rfl
  refine (putS_any h1.sd h1.lbW h1.b8 h1.ok.2.1 hlog h1.fit h1.run.life h1.run (by omega) (by show l ≤ _; omega) h1.fl hx (by rw [← e]; exact hi) u LL (hu.mono fun b hb => h4 b hb) has (fun j p q hp hq => ?_) (by omega) (by rw [List.length_map] at hfr; rw [h1.room]; omega) fun p hp => ?_).mono ?_
  · have hb : x.bts[j]? = some q.1 := by show (x.L.map (·.1))[j]? = _; rw [List.getElem?_map, hq]; rfl
    have hp1 : (woL less 0 x.bts)[j]? = some p.1 := by
      have e1 : (LL.map (·.1))[j]? = some p.1 := by rw [List.getElem?_map, hp]; rfl
      rw [← e1, hL]
      rfl
    obtain ⟨n', hn'⟩ := woL_get hp1 hb
    rw [hn']
    exact les_wo (hch.good _ (List.mem_of_getElem? hb))
  · have := (Pl.enc_short (hgood p.1 (List.mem_map.2 ⟨p, hp, rfl⟩))).2.2
    omega
  rintro e' W' ⟨B', f', tot', n', c', K', er, rfl, hmv, hsd, hr, hor⟩
  rcases hor with ⟨rfl, hG, hf, hrun, ha⟩ | ⟨-, -, -, hna, -⟩
  · rw [hset] at hG hf
    refine ⟨rfl, ⟨B', f', tot', n', c', K', sf, ⟨hsd, h1.lb, moved_low h1.new h1.low hmv, moved_new h1.new h1.low.size hmv, ?_, by rw [hG]; exact hf, hrun.more (by omega), by rw [hr, h1.room], ?_, by omega, by omega, h1.ok⟩, hG, ha h3, hmv.keepQ h4, fun hy G0 g0 he => ?_⟩, Kq.moved hmv fun k hk => h4 k hk.1⟩
    · rw [hG]; exact hlog.put hg (As.wo less 0 _ _)
    · rw [hG, fla_put_length hg (woL_length _ _ _)]; omega
    · have hl0 : K.G.length = G0.length + 1 := by have := congrArg List.length he; simpa using this
      have hg0 : K.G[G0.length]? = some g0 := by
        have h6 : (K.G.set i ⟨x.sg.first, woL less 0 x.sg.l⟩)[G0.length]? = some g0 := by rw [he]; simp
        rwa [List.getElem?_set_ne (by omega)] at h6
      refine h5 hy (K.G.take G0.length) g0 ?_
      have := take_nxt hg0
      rw [← hl0, List.take_length] at this
      exact this
  · exact absurd h3 hna
end
end Go.Proofs.YtdaoeplblkfapaaGreatDoor

/- What lies below a strand whose power is gone. -/
namespace Go.Proofs.YtdaoeplblkfapaaGreatDoor
open Go.RowKit

theorem Ofd.low {w0 W : World} {t s m l : Nat} {E : En} {G : List Sg} {Q : Nat → Prop} {y : Bool} {fates : Option (List Int)} (L : Ofd w0 t s E m l G Q y fates W) : Below w0.heap.size w0 W :=
  let ⟨_, _, _, _, _, _, _, _, _, _, h, _⟩ := L
  h
end Go.Proofs.YtdaoeplblkfapaaGreatDoor
