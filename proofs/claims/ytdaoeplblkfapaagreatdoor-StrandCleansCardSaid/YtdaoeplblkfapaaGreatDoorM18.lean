import Derived.Test.YtdaoeplblkfapaaGreatDoorM15
import Derived.Test.YtdaoeplblkfapaaGreatDoorM03
import Derived.Deep.CutRange
import Derived.Deep.DeepCutAuto
import Derived.Deep.RegionHeld3

/- THE CONTRACT OF strand's Append. -/
namespace Go.Proofs.YtdaoeplblkfapaaGreatDoor
open Go.RowKit

/-- What Append leaves. -/
def AppOut (w : World) (s : Nat) (h : Hs) (B A : Nat → Prop) (tot n : Nat) (c : Ta.Sc) (G : List Sg) (sf : Nat) (b : Pl.Bt) (a l : Nat) (e : Ending) (w' : World) : Prop :=
  ∃ (B' : Nat → Prop) (f' : Ta.View) (tot' n' : Nat) (c' : Ta.Sc) (K' : Kx) (er : Int), e = .returned (.int .i64 er) ∧ Moved B B' w w' ∧ Sd w' s h B' f' tot' n' c' K' ∧ c'.room = c.room ∧ tot' ≤ tot + 1130 ∧ n' ≤ n + 1 ∧ (∀ b, K'.A b → A b ∨ w.heap.size ≤ b) ∧
    ((er = 0 ∧ K'.G = push G h.seg b ∧ Fl h.P f' (push G h.seg b) (pushSf G h.seg sf) ∧ Run c' (a + 2) l ∧ (c.armed = 0 → c'.armed = 0)) ∨
     (er = 10 ∧ K'.G = G ∧ (Fl h.P f' G sf ∨ Fl h.P f' (push G h.seg b) (pushSf G h.seg sf)) ∧ Gone c' (a + 2) l ∧ c.armed ≠ 0))
/-- What stands ahead of the act: the segment that takes the batch. -/
structure Mid (w : World) (s : Nat) (h : Hs) (B A : Nat → Prop) (tot n : Nat) (c : Ta.Sc) (G : List Sg) (sf : Nat) (b : Pl.Bt) (rv : Value) (a l : Nat) (bb gx i : Nat) (x : Sx) (sf1 : Nat) (wx : World) (B1 : Nat → Prop) (f1 : Ta.View) (c1 : Ta.Sc) (K1 : Kx) : Prop where
  sd : Sd wx s h B1 f1 tot n c1 K1
  G1 : K1.G = G
  mv : Moved B B1 w wx
  bx : Blk wx bb #[.int .i64 b.base, .int .i64 b.count, .int .i64 b.prod, .int .i64 b.seq, .int .i64 b.time, rv] 34
  gg : Blk wx gx #[.int .i64 x.first, .int .i64 ((frs x.bts).length : Nat), x.lv] 119
  nb : ¬ B1 bb
  ng : ¬ B1 gx
  ne : bb < gx
  lo : w.heap.size ≤ bb
  kA : ∀ k, K1.A k → A k ∧ k < w.heap.size
  rc : RcIn (fun k => ¬ B1 k ∧ k < w.heap.size) wx rv b.recs
  at_ : Takes K1.X i x
  more : Ta.more (f1 (nm h.P x.first)) (fr b) = (frs x.bts ++ fr b, sf1)
  fin : Fl h.P (Ta.upd f1 (nm h.P x.first) (some (frs x.bts ++ fr b, sf1))) (push G h.seg b) sf1
  sfe : sf1 = pushSf G h.seg sf
  new : push G h.seg b = G.take i ++ [⟨x.first, x.bts ++ [b]⟩]
  run : Run c1 (a + 1) l
  arm : c.armed = 0 → c1.armed = 0
  room : c1.room = c.room
  fst : 0 ≤ x.first ∧ x.first ≤ 1099511627776
  few : n < 256
  small : (frs x.bts).length ≤ 1048576 ∧ x.L.length ≤ 1048576

set_option maxHeartbeats 4000000 in
set_option maxRecDepth 100000 in
theorem appendS_any {w : World} {s : Nat} {h : Hs} {B : Nat → Prop} {f : Ta.View} {tot n : Nat} {c : Ta.Sc} {K : Kx} (kk : Sd w s h B f tot n c K) (lb : Lb w) (hB : ∀ b, B b → 8 ≤ b) (hP : 1 ≤ h.P.length ∧ h.P.length ≤ 16) (hseg : 1 ≤ h.seg ∧ h.seg ≤ 1048576) (hlog : Log K.G) (hfit : Fit K.G)
    {a : Nat} (hlf : c.life = h.life) (q : Run c a h.life) (ha : a + 2 ≤ 1099511627776) (hl : h.life ≤ 1099511627776) {sf : Nat} (hfl : Fl h.P f K.G sf) (base count prod seq time : Int) (recs : List Pl.Rc) (rv : Value) (hr : RcIn (fun k => ¬ B k) w rv recs)
    (hg : Pl.goodB ⟨base, count, prod, seq, time, recs⟩ = true) (hbase : base = gsEnd K.G) (hn : n < 256) (htot : tot + 1130 ≤ c.room) :
    Calls Tryz.prog 30 #[.pointer (some ⟨s, 0, none⟩), .agg #[.int .i64 base, .int .i64 count, .int .i64 prod, .int .i64 seq, .int .i64 time, rv]] w (AppOut w s h B K.A tot n c K.G sf ⟨base, count, prod, seq, time, recs⟩ a h.life) := by
  have hrl := (Pl.enc_short hg).2.2
  simp only at hrl
  have hks := kk.lies.head.lt
  obtain ⟨W0, hW0⟩ : ∃ W0, w.alloc (.cells #[.int .i64 base, .int .i64 count, .int .i64 prod, .int .i64 seq, .int .i64 time, rv] 34) = W0 := ⟨_, rfl⟩
  have hs0 : W0.heap.size = w.heap.size + 1 := by rw [← hW0]; simp
  have hb0 : Blk W0 w.heap.size #[.int .i64 base, .int .i64 count, .int .i64 prod, .int .i64 seq, .int .i64 time, rv] 34 := by rw [← hW0]; exact Blk.new _ _ _
  have hw0 : Below w.heap.size w W0 := by rw [← hW0]; exact (Below.refl _ _).alloc (Nat.le_refl _) _
  have kk0 : Sd W0 s h B f tot n c { K with A := fun k => K.A k ∧ k < w.heap.size } := (kk.known (fun k => K.A k ∧ k < w.heap.size) fun _ hb ha => ⟨ha, hb⟩).below hw0
  have hr0 : RcIn (fun k => ¬ B k ∧ k < w.heap.size) W0 rv recs := Rds.keep hr hw0.size fun b hb hl => ⟨hw0.block b hl, hb, hl⟩
  have HR := Lib.hid (readyS_ok kk0 hlf hl)
  have HG := Lib.hid fun (wx : World) (hbx : Below W0.heap.size W0 wx) => dgood base count prod seq time recs rv wx (lb.below lb.size (hw0.trans (hbx.mono hw0.size))) (RcIn.recs (hr0.below hbx)) (by omega)
  rw [hg] at HG
  have hLm : ∀ x ∈ K.X, x.L.length ≤ 1048576 := fun x hx => by
    have := hfit.lists x.sg (List.mem_map.2 ⟨x, hx, rfl⟩)
    simpa [Sx.sg, Sx.bts] using this
  have hXl : K.X.length ≤ 1048576 := by have := hfit.segs; simpa [Kx.G] using this
  have HE := Lib.hid fun (wx : World) (hbx : Below W0.heap.size W0 wx) => endS_any (kk0.lies.below hbx) hXl hlog.chs hLm
  simp only at HE
  rw [show gsEnd (K.X.map Sx.sg) = base from hbase.symm] at HE
  have c0 : W0.cell? ⟨w.heap.size, 0, none⟩ = some (.int .i64 base) := hb0.cell rfl
  have HBL := Lib.hid (show ∀ b, B b → b < w.heap.size from kk.lt)
  have HW0 := Lib.hid hw0
  have HB0 := Lib.hid hb0
  have HS0 := Lib.hid hs0
  have HKK := Lib.hid kk0
  have HRC := Lib.hid hr0
  have HLM := Lib.hid hLm
  have HFL := Lib.hid hfl
  have HLOG := Lib.hid hlog
  have HFIT := Lib.hid hfit
  have HQ := Lib.hid q
  have HBASE := Lib.hid hbase
  have HGOOD := Lib.hid hg
  have hlt : w.heap.size < W0.heap.size := by omega
  clear kk hLm hfl hlog hfit q hbase hg hr0 kk0 hs0 hb0 hw0 hr
  go_enter Tryz.func30, Tryz.ntmps30
  go_wp2_with fail
  refine HR.out.mono ?_
  rintro e w1 ⟨rfl, b1⟩
  have kb := HB0.out.below b1
  have d0 : w1.cell? ⟨w.heap.size, 0, none⟩ = some (.int .i64 base) := kb.cell rfl
  have d1 : w1.cell? ⟨w.heap.size, 1, none⟩ = some (.int .i64 count) := kb.cell rfl
  have d2 : w1.cell? ⟨w.heap.size, 2, none⟩ = some (.int .i64 prod) := kb.cell rfl
  have d3 : w1.cell? ⟨w.heap.size, 3, none⟩ = some (.int .i64 seq) := kb.cell rfl
  have d4 : w1.cell? ⟨w.heap.size, 4, none⟩ = some (.int .i64 time) := kb.cell rfl
  have d5 : w1.cell? ⟨w.heap.size, 5, none⟩ = some rv := kb.cell rfl
  have H1 := Lib.hid b1
  clear b1 kb c0
  go_wp2_with fail
  refine (HG.out _ H1.out).mono ?_
  rintro e w2 ⟨rfl, b2⟩
  have b3 := H1.out.trans (b2.mono H1.out.size)
  have H2 := Lib.hid b3
  have e0 : w2.cell? ⟨w.heap.size, 0, none⟩ = some (.int .i64 base) := (HB0.out.below b3).cell rfl
  have k0 : ∀ d os, _ := cell_regrown e0
  have HE2 := Lib.hid fun d os => Calls.regrown_of (HE.out _ (b3.trans ((below_regrown w2 d os).mono b3.size)))
  have hne : (base != base) = false := by simp
  clear b2 b3 H1 HG d0 d1 d2 d3 d4 d5 HR HE
  go_wp2_with fail
  refine wp_region_quiet_below (by kernel_rfl) (by kernel_rfl) ?_
  repeat (go_big_quiet_step ((go_at_call 29; with_reducible exact HE2.out _ _)))
  refine wpQuiet_nil ?_
  intro w3 hw3
  obtain ⟨⟨dq, osq⟩, hw3'⟩ := hw3
  have H3 : Hid (Below W0.heap.size W0 w3) := by rw [hw3']; exact H2.out.trans ((below_regrown w2 dq osq).mono H2.out.size)
  clear hw3' k0 HE2 H2 e0
  have kx := HKK.out.below H3.out
  obtain ⟨va, cap, hva⟩ := kx.lies.segs.form
  simp only at hva
  obtain ⟨N, hN⟩ : ∃ N, K.X.length = N := ⟨_, rfl⟩
  rw [hN] at hva
  have c4 : w3.cell? ⟨s, 4, none⟩ = some (.slice va N cap) := by rw [← hva]; exact kx.lies.head.cell rfl
  have c0 : w3.cell? ⟨w.heap.size, 0, none⟩ = some (.int .i64 base) := (HB0.out.below H3.out).cell rfl
  have hwl : w.heap.size < w3.heap.size := Nat.lt_of_lt_of_le hlt H3.out.size
  have HGX := Lib.hid H3.out.size
  have hsl : s < w3.heap.size := by omega
  clear kx
  go_wp2_with fail
  go_region_held3 (fun w' => w'.cell? ⟨s, 4, none⟩ = some (.slice va N cap) ∧ w'.cell? ⟨w.heap.size, 0, none⟩ = some (.int .i64 base)) (go_keep) (first | fail)
  generalize hW4 : (w3.alloc (.cells #[.int .i64 base, .int .i64 0, .slice none 0 0] 119)).drew = W4
  have b4 : Below w3.heap.size w3 W4 := by rw [← hW4]; exact ((Below.refl _ _).alloc (Nat.le_refl _) _).drew
  have hg4 : Blk W4 w3.heap.size #[.int .i64 base, .int .i64 0, .slice none 0 0] 119 := by rw [← hW4]; exact Blk.new _ _ _
  have H4 := Lib.hid (H3.out.trans (b4.mono H3.out.size))
  have HG4 := Lib.hid hg4
  have HN := Lib.hid hN
  have HVA := Lib.hid hva
  have c4' : W4.cell? ⟨s, 4, none⟩ = some (.slice va N cap) := (b4.cell (p := ⟨s, 4, none⟩) hsl).trans c4
  clear hW4 b4 hg4 hva hN c4 c0 H3
  obtain ⟨cnd, hcnd⟩ : ∃ cnd : Bool, cnd = (match K.G.getLast? with | none => false | some g => decide (((frs g.l).length : Int) < h.seg)) := ⟨_, rfl⟩
  have HCND := Lib.hid hcnd
  clear hcnd
  go_upto_region 9 with fail
  go_cut [51] (fun s51 wx => s51 = .bool cnd ∧ Below W4.heap.size W4 wx)
  case first =>
    rcases snoc_or K.X with hX | ⟨X0, x, hX⟩
    · have hN0 : N = 0 := by rw [← HN.out, hX]; rfl
      subst hN0
      have hc0 : cnd = false := by rw [HCND.out]; simp [Kx.G, hX]
      clear HCND
      refine wp_region_quiet_below (by kernel_rfl) (by kernel_rfl) ?_
      repeat (go_big_quiet_step (fail))
      refine wpQuiet_nil ?_
      intro w5 hw5
      obtain ⟨⟨dq, osq⟩, hw5'⟩ := hw5
      subst hw5'
      go_wp2_with fail
      go_meet
      case rel => exact ⟨by rw [hc0], below_regrown _ _ _⟩
    · obtain ⟨n0, hn0⟩ : ∃ n0, X0.length = n0 := ⟨_, rfl⟩
      have hN0 : N = n0 + 1 := by rw [← HN.out, hX]; simp [hn0]
      have hX1 : K.X[n0]? = some x := by rw [hX, ← hn0]; simp
      obtain ⟨g, o, cap', eg, ev, hcap, hgl, -, c1, -⟩ := ((HKK.out.below H4.out).lies).get hX1
      have hvv := HVA.out
      rw [ev] at hvv
      injection hvv with e1 e2 e3
      subst e1 e3
      have c3 : W4.cell? ⟨s, 3, none⟩ = some (.int .i64 h.seg) := (HKK.out.below H4.out).lies.head.cell rfl
      have hc0 : cnd = decide ((((frs x.bts).length : Nat) : Int) < h.seg) := by
        rw [HCND.out]
        simp [Kx.G, hX, Sx.sg]
      obtain ⟨y, hy⟩ : ∃ y, (frs x.bts).length = y := ⟨_, rfl⟩
      obtain ⟨sg, hsg⟩ : ∃ sg, h.seg = sg := ⟨_, rfl⟩
      rw [hy] at c1 hc0
      rw [hsg] at c3 hc0
      have i0 : (0 : Int) ≤ (n0 : Int) := by omega
      have i1 : (n0 : Int) < (N : Int) := by omega
      have i2 : IntKind.i64.wrap ((N : Int) - 1) = (n0 : Int) := by rw [show (N : Int) - 1 = n0 by omega]; exact IntWalk.i64_in _ (by have := HN.out; omega)
      have i3 : decide (0 < N) = true := by simp; omega
      have k1 : ∀ d os, _ := cell_regrown c1
      have k3 : ∀ d os, _ := cell_regrown c3
      have k4 : ∀ d os, _ := cell_regrown c4'
      clear hX hX1 HN HVA HCND ev eg hy hsg hcap hn0 hN0
      refine wp_region_quiet_below (by kernel_rfl) (by kernel_rfl) ?_
      repeat (go_big_quiet_step (fail))
      refine wpQuiet_nil ?_
      intro w5 hw5
      obtain ⟨⟨dq, osq⟩, hw5'⟩ := hw5
      subst hw5'
      go_wp2_with fail
      go_meet
      case rel => exact ⟨by rw [hc0], below_regrown _ _ _⟩
  case rest =>
    obtain ⟨rfl, hb5⟩ := hcut
    have H5 := Lib.hid (H4.out.trans (hb5.mono H4.out.size))
    have HG5 := Lib.hid (HG4.out.below hb5)
    have hw5 : w3.heap.size < wc.heap.size := Nat.lt_of_lt_of_le HG4.out.lt hb5.size
    clear hb5 H4 HG4 c4'
    go_upto_if 51 with fail
    go_cut [6] (fun s6 wx => ∃ (i : Nat) (x : Sx) (sf1 : Nat) (B1 : Nat → Prop) (f1 : Ta.View) (c1 : Ta.Sc) (K1 : Kx), s6 = .int .i64 i ∧ Mid w s h B K.A tot n c K.G sf ⟨base, count, prod, seq, time, recs⟩ rv a h.life w.heap.size w3.heap.size i x sf1 wx B1 f1 c1 K1)
    case first =>
      rcases hcc : cnd with _ | _
      · rcases snoc_or K.X with hX | ⟨X0, x, hX⟩
        · have HSY := Lib.hid (syncS_none (HKK.out.below H5.out) hX hlf hl)
          have HX := Lib.hid hX
          have HCC := Lib.hid hcc
          clear hX hcc
          go_wp2_with fail
          refine HSY.out.mono ?_
          rintro e w6 ⟨rfl, b6⟩
          have H6 := Lib.hid (H5.out.trans (b6.mono H5.out.size))
          have HB6 := Lib.hid b6
          clear b6 HSY
          go_wp2_with fail
          go_meet
          case rel =>
            have hN0 : N = 0 := by rw [← HN.out, HX.out]; rfl
            have hG : K.G = [] := by show K.X.map Sx.sg = []; rw [HX.out]; rfl
            have hlow : Below w.heap.size w w6 := HW0.out.trans (H6.out.mono HW0.out.size)
            have hgd := HGOOD.out
            have hb := good_bend hgd
            simp only at hb
            have hpn : push K.G h.seg ⟨base, count, prod, seq, time, recs⟩ = K.G ++ [⟨base, [⟨base, count, prod, seq, time, recs⟩]⟩] := by rw [hG]; rfl
            obtain ⟨hnew, hfin⟩ := Fl.push_new HFL.out (fun G0 g e => by rw [hG] at e; simp at e) HLOG.out hseg.1 hgd HBASE.out hpn
            simp only at hnew hfin
            have hgx := HGX.out
            refine ⟨N, ⟨base, .slice none 0 0, none, []⟩, 0, B, f, c, { K with A := fun k => K.A k ∧ k < w.heap.size }, rfl, ⟨HKK.out.below H6.out, rfl, .of_below hlow, HB0.out.below H6.out, HG5.out.below HB6.out, fun hb => ?_, fun hb => ?_, by omega, Nat.le_refl _, fun _ h => h, HRC.out.below H6.out, .inr ⟨HN.out.symm, rfl, rfl, rfl⟩, ?_, hfin, ?_, ?_, HQ.out.more (by omega), id, rfl, ?_, hn, ⟨Nat.zero_le _, Nat.zero_le _⟩⟩⟩
            · have := HBL.out _ hb; omega
            · have := HBL.out _ hb; omega
            · rw [hnew]; rfl
            · rw [hG]; rfl
            · rw [hpn, hG, List.take_nil]; rfl
            · exact ⟨hb.1, by show base ≤ 1099511627776; omega⟩
        · have hG : K.G = X0.map Sx.sg ++ [x.sg] := by show K.X.map Sx.sg = _; rw [hX, List.map_append]; rfl
          have hnl : ¬ ((frs x.sg.l).length : Int) < h.seg := by
            have := HCND.out
            rw [hcc, hG] at this
            simpa using this
          have hfl' := HFL.out
          rw [hG] at hfl'
          have hlow : Below w.heap.size w wc := HW0.out.trans (H5.out.mono HW0.out.size)
          have HSY := Lib.hid (syncS_any (HKK.out.below H5.out) hG (lb.below lb.size hlow) hB (by omega) (hG ▸ HFIT.out) hlf HQ.out (by omega) hl (frs x.sg.l) sf hfl'.last)
          have HGG := Lib.hid hG
          have HNL := Lib.hid hnl
          have HFC := Lib.hid (hfl'.change (hG ▸ HLOG.out) x.sg.l)
          have HLOW := Lib.hid hlow
          have HCC := Lib.hid hcc
          clear hX hcc hG hnl hfl' hlow
          go_wp2_with fail
          refine HSY.out.mono ?_
          rintro e w6 ⟨B6, c6, er, rfl, hmv6, hroom6, hor⟩
          have hmvw := (Moved.of_below HLOW.out).trans hmv6
          rcases hor with ⟨rfl, hSd6, hrun6, harm6⟩ | ⟨rfl, hSd6, hgone6, harm6⟩
          · have HMV := Lib.hid hmv6
            have HMW := Lib.hid hmvw
            have HSD := Lib.hid hSd6
            have HRUN := Lib.hid hrun6
            have HARM := Lib.hid harm6
            clear HSY hmv6 hmvw hSd6 hrun6 harm6
            go_wp2_with fail
            go_meet
            case rel =>
              have hgx := HGX.out
              have hpn : push K.G h.seg ⟨base, count, prod, seq, time, recs⟩ = K.G ++ [⟨base, [⟨base, count, prod, seq, time, recs⟩]⟩] := by rw [HGG.out, push_more (Int.not_lt.2 HNL.out)]
              have hfc := HFC.out (frs x.sg.l).length
              obtain ⟨hnew, hfin⟩ := Fl.push_new (G := K.G) (by rw [HGG.out]; exact hfc) (fun G0 g e => by
                rw [HGG.out] at e
                have := (List.append_inj' e rfl).2
                rw [List.cons.inj this |>.1]) HLOG.out hseg.1 HGOOD.out HBASE.out hpn
              simp only at hnew hfin
              obtain ⟨hbx, hnb⟩ := (HB0.out.below H5.out).moved HMV.out (fun hb => by have := HBL.out _ hb; omega)
              obtain ⟨hgg, hng⟩ := HG5.out.moved HMV.out (fun hb => by have := HBL.out _ hb; omega)
              have hb := good_bend HGOOD.out
              simp only at hb
              refine ⟨N, ⟨base, .slice none 0 0, none, []⟩, 0, B6, _, c6, { K with A := fun k => K.A k ∧ k < w.heap.size }, rfl, ⟨HSD.out, rfl, HMW.out, hbx, hgg, hnb, hng, by omega, Nat.le_refl _, fun _ h => h, ?_, .inr ⟨HN.out.symm, rfl, rfl, rfl⟩, ?_, hfin, ?_, ?_, HRUN.out, HARM.out, hroom6, ?_, hn, ⟨Nat.zero_le _, Nat.zero_le _⟩⟩⟩
              · refine Rds.keep (HRC.out.below H5.out) HMV.out.size fun k hk hl => ⟨HMV.out.block k hl hk.1, fun hk' => ?_, hk.2⟩
                rcases HMV.out.new k hk' with h1 | h1
                · exact hk.1 h1
                · omega
              · rw [hnew]; rfl
              · rw [HGG.out, pushSf_more (Int.not_lt.2 HNL.out)]
              · rw [hpn, List.take_of_length_le (by rw [← HN.out]; simp [Kx.G])]; rfl
              · exact ⟨hb.1, by show base ≤ 1099511627776; omega⟩
          · have hres : AppOut w s h B K.A tot n c K.G sf ⟨base, count, prod, seq, time, recs⟩ a h.life (.returned (.int .i64 10)) w6 :=
              ⟨B6, _, _, _, c6, _, 10, rfl, hmvw, hSd6, hroom6, by omega, by omega, fun b hb => .inl hb.1, .inr ⟨rfl, rfl, .inl (by rw [HGG.out]; exact HFC.out sf), hgone6.more (by omega), harm6⟩⟩
            have HRES := Lib.hid hres
            clear HSY hmv6 hmvw hSd6 hgone6 harm6 hres
            go_wp2_with fail
            go_ret
            exact HRES.out
      · obtain ⟨X0, x, hX⟩ : ∃ X0 x, K.X = X0 ++ [x] := by
          rcases snoc_or K.X with hX | h
          · have := HCND.out; rw [hcc] at this; simp [Kx.G, hX] at this
          · exact h
        obtain ⟨n0, hn0⟩ : ∃ n0, X0.length = n0 := ⟨_, rfl⟩
        have hN0 : N = n0 + 1 := by rw [← HN.out, hX]; simp [hn0]
        have hX1 : K.X[n0]? = some x := by rw [hX, ← hn0]; simp
        have i0 : (0 : Int) ≤ (n0 : Int) := by omega
        have i1 : (n0 : Int) < (N : Int) := by omega
        have i2 : IntKind.i64.wrap ((N : Int) - 1) = (n0 : Int) := by rw [show (N : Int) - 1 = n0 by omega]; exact IntWalk.i64_in _ (by have := HN.out; omega)
        have hlss : ((frs x.bts).length : Int) < h.seg := by
          have := HCND.out
          rw [hcc] at this
          simpa [Kx.G, hX, Sx.sg] using this
        obtain ⟨g, o, cap', eg, ev, hcap, hgl, c1, c2, c3⟩ := ((HKK.out.below H5.out).lies).get hX1
        have hvv := HVA.out
        rw [ev] at hvv
        injection hvv with e1 e2 e3
        subst e1 e3
        have HN0 := Lib.hid hN0
        have HN1 := Lib.hid hn0
        have c4 : wc.cell? ⟨s, 4, none⟩ = some (.slice (some ⟨g, o, none⟩) N cap') := by
          have := (HKK.out.below H5.out).lies.head.cell (i := 4) (x := K.v) rfl
          rw [this, HVA.out]
        obtain ⟨la, lc, hlv⟩ := ((HKK.out.below H5.out).lies.lists x (by rw [hX]; simp)).form
        obtain ⟨y, hy⟩ : ∃ y, (frs x.bts).length = y := ⟨_, rfl⟩
        obtain ⟨m, hm⟩ : ∃ m, x.L.length = m := ⟨_, rfl⟩
        have HY := Lib.hid hy
        have HLV := Lib.hid hlv
        have HM := Lib.hid hm
        rw [hy] at c2
        rw [hlv, hm] at c3
        have HX := Lib.hid hX
        have HLS := Lib.hid hlss
        have g0 : wc.cell? ⟨w3.heap.size, 0, none⟩ = some (.int .i64 base) := HG5.out.cell rfl
        have g1 : wc.cell? ⟨w3.heap.size, 1, none⟩ = some (.int .i64 0) := HG5.out.cell rfl
        have g2 : wc.cell? ⟨w3.heap.size, 2, none⟩ = some (.slice none 0 0) := HG5.out.cell rfl
        have z0 : wc.frozen? ⟨w3.heap.size, 0, none⟩ = false := HG5.out.free
        have z1 : wc.frozen? ⟨w3.heap.size, 1, none⟩ = false := HG5.out.free
        have z2 : wc.frozen? ⟨w3.heap.size, 2, none⟩ = false := HG5.out.free
        clear hX hX1 hlss ev eg hcap hlv hy hm hn0 hN0 HVA HCND
        go_wp2_with fail
        go_meet
        case rel =>
          have H6 : Below W0.heap.size W0 (((wc.setCell ⟨w3.heap.size, 0, none⟩ (.int .i64 x.first)).setCell ⟨w3.heap.size, 1, none⟩ (.int .i64 y)).setCell ⟨w3.heap.size, 2, none⟩ (.slice la m lc)) :=
            ((H5.out.setCell (p := ⟨w3.heap.size, 0, none⟩) HGX.out _).setCell (p := ⟨w3.heap.size, 1, none⟩) HGX.out _).setCell (p := ⟨w3.heap.size, 2, none⟩) HGX.out _
          have hlow := HW0.out.trans (H6.mono HW0.out.size)
          have hG : K.G = X0.map Sx.sg ++ [x.sg] := by show K.X.map Sx.sg = _; rw [HX.out, List.map_append]; rfl
          have hfl' := HFL.out
          have hlog' := HLOG.out
          rw [hG] at hfl' hlog'
          obtain ⟨hold, hfin⟩ := Fl.push_old (b := ⟨base, count, prod, seq, time, recs⟩) hfl' hlog' HLS.out
          rw [← hG] at hfin
          have hgx := HGX.out
          have hx1 : K.X[n0]? = some x := by rw [HX.out, ← HN1.out]; simp
          refine ⟨n0, x, sf, B, f, c, { K with A := fun k => K.A k ∧ k < w.heap.size }, rfl, ⟨HKK.out.below H6, rfl, .of_below hlow, HB0.out.below H6, ?_, fun hb => ?_, fun hb => ?_, by omega, Nat.le_refl _, fun _ h => h, HRC.out.below H6, .inl ⟨hx1, ?_⟩, ?_, hfin, ?_, ?_, HQ.out.more (by omega), id, rfl, ?_, hn, ⟨by have := HLS.out; omega, HLM.out x (by rw [HX.out]; simp)⟩⟩⟩
          · rw [HY.out, HLV.out, HM.out]
            exact ((HG5.out.set (i := 0) (.int .i64 x.first)).set (i := 1) (.int .i64 y)).set (i := 2) (.slice la m lc)
          · have := HBL.out _ hb; omega
          · have := HBL.out _ hb; omega
          · show n0 + 1 = K.X.length
            rw [HX.out, List.length_append, HN1.out]; rfl
          · show Ta.more (f (nm h.P x.sg.first)) _ = _
            rw [hold]; rfl
          · rw [hG, pushSf_some HLS.out]
          · rw [hG, push_some HLS.out, List.take_left' (by rw [List.length_map, HN1.out])]; rfl
          · exact HLOG.out.firsts x.sg (by rw [hG]; simp)
    case rest =>
      obtain ⟨i, x, sf1, B1, f1, c1, K1, rfl, hM⟩ := hcut
      have HM := Lib.hid hM
      have hgd := HGOOD.out
      have hfr := (good_enc hgd).2
      clear HCND HN HVA HB0 HLOG HFL HKK HRC HW0 H5 HG5 hW0 HBASE HLM HBL
      obtain ⟨W1, hW1⟩ : ∃ W1, wc.alloc (.cells #[.int .i64 base, .int .i64 count, .int .i64 prod, .int .i64 seq, .int .i64 time, rv] 34) = W1 := ⟨_, rfl⟩
      have hbl1 : Below wc.heap.size wc W1 := by rw [← hW1]; exact (Below.refl _ _).alloc (Nat.le_refl _) _
      have hlb1 := (lb.moved hB hM.mv).1
      have hlo1 := (lb.moved hB hM.mv).2
      have hbt1 : BtIn (fun _ => True) W1 (.slice (some ⟨wc.heap.size, 0, none⟩) 1 1) [(⟨base, count, prod, seq, time, recs⟩, rv)] := by
        refine ⟨?_, fun p hp => ?_⟩
        · rw [← hW1]
          exact (Rds.lit rfl [.int .i64 base, .int .i64 count, .int .i64 prod, .int .i64 seq, .int .i64 time, rv] _ 6 1 rfl).mono fun _ _ => trivial
        · rw [List.mem_singleton.1 hp]
          exact (Rds.below hM.rc hbl1).mono fun _ _ => trivial
      have HFR := Lib.hid (frames_any _ _ W1 (hlb1.below hlb1.size hbl1) hbt1 (fun p hp => by rw [List.mem_singleton.1 hp]; exact hgd) (by simp))
      simp only [List.map_cons, List.map_nil, frs_one] at HFR
      obtain ⟨T, hT⟩ : ∃ T : ByteArray, (⟨(fr ⟨base, count, prod, seq, time, recs⟩).toArray⟩ : ByteArray) = T := ⟨_, rfl⟩
      rw [hT] at HFR
      have d0 : wc.cell? ⟨w.heap.size, 0, none⟩ = some (.int .i64 base) := hM.bx.cell rfl
      have d1 : wc.cell? ⟨w.heap.size, 1, none⟩ = some (.int .i64 count) := hM.bx.cell rfl
      have d2 : wc.cell? ⟨w.heap.size, 2, none⟩ = some (.int .i64 prod) := hM.bx.cell rfl
      have d3 : wc.cell? ⟨w.heap.size, 3, none⟩ = some (.int .i64 seq) := hM.bx.cell rfl
      have d4 : wc.cell? ⟨w.heap.size, 4, none⟩ = some (.int .i64 time) := hM.bx.cell rfl
      have d5 : wc.cell? ⟨w.heap.size, 5, none⟩ = some rv := hM.bx.cell rfl
      have hbw := hM.bx.lt
      have HBL1 := Lib.hid hbl1
      have HLB1 := Lib.hid hlb1
      have HLO1 := Lib.hid hlo1
      have HT := Lib.hid hT
      clear hbl1 hlb1 hlo1 hbt1 hT hM
      go_wp2_with fail
      refine HFR.out.mono ?_
      rintro e w8 ⟨rfl, b8⟩
      have hb8 : Below wc.heap.size wc w8 := HBL1.out.trans (b8.mono HBL1.out.size)
      have hM := HM.out
      have hsd8 := hM.sd.below hb8
      have c0 : w8.cell? ⟨s, 0, none⟩ = some (.pointer (some ⟨h.t, 0, none⟩)) := hsd8.lies.head.cell rfl
      obtain ⟨F, hF⟩ : ∃ F, x.first = F := ⟨_, rfl⟩
      have hgg8 := hM.gg.below hb8
      rw [hF] at hgg8
      have e0 : w8.cell? ⟨w3.heap.size, 0, none⟩ = some (.int .i64 F) := hgg8.cell rfl
      have k0 : ∀ d os, _ := cell_regrown c0
      have k1 : ∀ d os, _ := cell_regrown e0
      have HNM := Lib.hid fun d os => Calls.regrown_of (name_any _ ((HLB1.out.below HLB1.out.size hb8).below (HLB1.out.below HLB1.out.size hb8).size (below_regrown w8 d os)) s h _ (hsd8.lies.head.below (below_regrown w8 d os)) (by omega) F (hF ▸ hM.fst.1) (hF ▸ hM.fst.2))
      obtain ⟨M, hMn⟩ : ∃ M : ByteArray, (⟨(nm h.P F).toArray⟩ : ByteArray) = M := ⟨_, rfl⟩
      rw [hMn] at HNM
      have HMN := Lib.hid hMn
      have HF := Lib.hid hF
      have HSD8 := Lib.hid hsd8
      have HB8 := Lib.hid hb8
      clear hM hsd8 hb8 b8 HFR hF hgg8 hMn d0 d1 d2 d3 d4 d5 hW1 HBL1
      go_wp2_with fail
      refine wp_region_below_tail 9 (by kernel_rfl) (by kernel_rfl) ?_
      simp only [List.take_succ_cons, List.take_zero, List.drop_succ_cons, List.drop_zero]
      repeat (go_big_quiet_step ((go_at_call 81; with_reducible exact HNM.out _ _)))
      refine wpQuiet_nil ?_
      intro w9 hw9
      obtain ⟨⟨dq, osq⟩, hw9'⟩ := hw9
      have H89 : Hid (Below w8.heap.size w8 w9) := by rw [hw9']; exact below_regrown w8 dq osq
      clear hw9' HNM k0 k1 c0 e0
      have k2 := HSD8.out.below H89.out
      obtain ⟨Tt, hst, hup⟩ := k2.tape
      have hM := HM.out
      have hap := Ta.s_append hst (hM.run.small (by omega) hl) (nm h.P F) (fr ⟨base, count, prod, seq, time, recs⟩) (by
        have hll := nm_length (P := h.P) (x := F) (HF.out ▸ hM.fst.1) (HF.out ▸ hM.fst.2)
        simp only [Ta.okName, hll]
        simp
        omega) hM.few (by rw [hM.room]; omega)
      rw [← HF.out, hM.more, HF.out, HMN.out, HT.out] at hap
      have HAP := Lib.hid hap
      have HUP := Lib.hid hup
      clear k2 hst hap hup hM
      go_wp2_with fail
      refine HAP.out.mono ?_
      rintro e w10 ⟨rfl, Tt', hS10, hm10⟩
      obtain ⟨B2, hSd2, hmv2⟩ := HUP.out _ _ _ _ _ _ hS10 hm10
      have hmvA := (Moved.of_below (HB8.out.trans (H89.out.mono HB8.out.size))).trans hmv2
      have htot2 : tot + (fr ⟨base, count, prod, seq, time, recs⟩).length ≤ tot + 1130 := by omega
      have hnn2 : (if (f1 (nm h.P F)).isSome = true then n else n + 1) ≤ n + 1 := by split <;> omega
      have hroom2 : (Ta.actS c1).room = c.room := (Ta.actS_room c1).trans HM.out.room
      have hfin := HM.out.fin
      rw [HF.out] at hfin
      rcases HM.out.run.split with ⟨ha0, hrun, harm⟩ | ⟨ha0, hgone, harm⟩
      · rw [ha0]
        have hM := HM.out
        have hcc10 := hB
        have hbw := hM.bx.lt
        have hgw := hM.gg.lt
        have hb89 := HB8.out.trans (H89.out.mono HB8.out.size)
        obtain ⟨hbx, hnb⟩ := (hM.bx.below hb89).moved hmv2 hM.nb
        obtain ⟨hgg, hng⟩ := (hM.gg.below hb89).moved hmv2 hM.ng
        have hrc : RcIn (fun k => ¬ B2 k ∧ k < w.heap.size) w10 rv recs := Rds.keep (Rds.below hM.rc hb89) hmv2.size fun k hk hl => ⟨hmv2.block k hl hk.1, fun hk' => by
            rcases hmv2.new k hk' with h1 | h1
            · exact hk.1 h1
            · omega, hk.2⟩
        obtain ⟨y, hy⟩ : ∃ y, (frs x.bts).length = y := ⟨_, rfl⟩
        obtain ⟨z, hz⟩ : ∃ z, (fr ⟨base, count, prod, seq, time, recs⟩).length = z := ⟨_, rfl⟩
        obtain ⟨m, hm⟩ : ∃ m, x.L.length = m := ⟨_, rfl⟩
        have hTz : T.size = z := by rw [← HT.out, ← hz]; exact size_list _
        have hsm := hM.small
        rw [hy, hm] at hsm
        rw [hz] at hfr
        rw [hy] at hgg
        have hkA : ∀ k, K1.A k → k < w.heap.size := fun k hk => (hM.kA k hk).2
        have hlo := hM.lo
        have hown : ∀ k, (k = w.heap.size ∨ k = w3.heap.size) → k < w10.heap.size ∧ ¬ B2 k ∧ ¬ K1.A k := by
          rintro k (rfl | rfl)
          · exact ⟨hbx.lt, hnb, fun hk => by have := hkA _ hk; omega⟩
          · exact ⟨hgg.lt, hng, fun hk => by have := hkA _ hk; have := hM.ne; omega⟩
        have htk := hM.at_
        have hGR := fun (wA w' : World) (rv' : Value) (hA) (hr') (cs : Array Value) (g q cap : Nat) (gb' : Option Nat) (hs) (hg) (hgb) (hn) => grown_of (z := y + z) hSd2 htk (own := fun k => k = w.heap.size ∨ k = w3.heap.size) hown (gx := w3.heap.size) (.inr rfl) (b := ⟨base, count, prod, seq, time, recs⟩) hgg (by rw [hz]) hy (wA := wA) (w' := w') (rv := rv') hA hr' cs (g := g) (q := q) (cap := cap) (gb' := gb') hs hg hgb hn
        have hsl := htk.sl hSd2
        obtain ⟨la, lc, hlv⟩ := hsl.form
        rw [hm] at hlv hsl
        have f1' : w10.frozen? ⟨w3.heap.size, 1, none⟩ = false := hgg.free
        rw [HF.out, hlv] at hgg
        have g0 : w10.cell? ⟨w3.heap.size, 0, none⟩ = some (.int .i64 F) := hgg.cell rfl
        have g1 : w10.cell? ⟨w3.heap.size, 1, none⟩ = some (.int .i64 y) := hgg.cell rfl
        have g2 : w10.cell? ⟨w3.heap.size, 2, none⟩ = some (.slice la m lc) := hgg.cell rfl
        have hsum : IntKind.i64.wrap ((y : Int) + (z : Int)) = ((y + z : Nat) : Int) := by rw [show (y : Int) + (z : Int) = ((y + z : Nat) : Int) by omega]; exact IntWalk.i64_in _ (by omega)
        have HGR := Lib.hid hGR
        have HSL := Lib.hid hsl
        have HRC2 := Lib.hid hrc
        have HBX := Lib.hid hbx
        have HGG := Lib.hid hgg
        have HLV := Lib.hid hlv
        have HML := Lib.hid hm
        have HTK := Lib.hid htk
        have HOWN := Lib.hid hown
        have HSD2 := Lib.hid hSd2
        have HFIN := Lib.hid hfin
        have HRUN := Lib.hid hrun
        have HARM := Lib.hid harm
        have HMVA := Lib.hid hmvA
        have HRM := Lib.hid hroom2
        clear ha0 hM hcc10 hbx hnb hng hrc hy hz hm hGR hsl hlv hgg hkA hown htk hSd2 hfin hrun harm hmvA hroom2 hmv2 hS10 hm10 HAP HUP hb89
        go_upto_region 20 with fail
        obtain ⟨WB, hWB⟩ : ∃ WB, w10.setCell ⟨w3.heap.size, 1, none⟩ (.int .i64 ((y : Int) + (z : Int))) = WB := ⟨_, rfl⟩
        rw [hWB]
        have hWB' : w10.setCell ⟨w3.heap.size, 1, none⟩ (.int .i64 ((y + z : Nat) : Int)) = WB := hWB
        have hsB : WB.heap.size = w10.heap.size := by rw [← hWB]; simp [World.setCell]
        have hgB : Blk WB w3.heap.size #[.int .i64 F, .int .i64 ((y + z : Nat) : Int), .slice la m lc] 119 := by rw [← hWB']; exact HGG.out.set (i := 1) _
        have hbB : Blk WB w.heap.size #[.int .i64 base, .int .i64 count, .int .i64 prod, .int .i64 seq, .int .i64 time, rv] 34 := by
          rw [← hWB']
          exact HBX.out.setAway _ _ (by have := HM.out.ne; simp only; omega)
        have hrB : RcIn (fun k => k < w.heap.size) WB rv recs := Rds.keep HRC2.out (by rw [hsB]; exact Nat.le_refl _) fun k hk _ => ⟨by
          rw [← hWB']
          refine Below.heap_setCell _ _ _ _ ?_
          have := HM.out.ne
          simp only
          omega, hk.2⟩
        have HCL := Lib.hid fun (wx : World) (hb : Below WB.heap.size WB wx) => cloned_any (⟨base, count, prod, seq, time, recs⟩, rv) wx (Rds.below hrB hb) (by show recs.length ≤ _; omega)
        have HGRB : Hid _ := Lib.hid HGR.out
        rw [hWB'] at HGRB
        have G2 : WB.cell? ⟨w3.heap.size, 2, none⟩ = some (.slice la m lc) := hgB.cell rfl
        have d0 : WB.cell? ⟨w.heap.size, 0, none⟩ = some (.int .i64 base) := hbB.cell rfl
        have d1 : WB.cell? ⟨w.heap.size, 1, none⟩ = some (.int .i64 count) := hbB.cell rfl
        have d2 : WB.cell? ⟨w.heap.size, 2, none⟩ = some (.int .i64 prod) := hbB.cell rfl
        have d3 : WB.cell? ⟨w.heap.size, 3, none⟩ = some (.int .i64 seq) := hbB.cell rfl
        have d4 : WB.cell? ⟨w.heap.size, 4, none⟩ = some (.int .i64 time) := hbB.cell rfl
        have d5 : WB.cell? ⟨w.heap.size, 5, none⟩ = some rv := hbB.cell rfl
        have HWB := Lib.hid hWB'
        clear hWB hWB' hrB hbB g0 g1 g2 f1'
        go_cut [93] (fun _ wx => ∃ x', Grown w10 B2 K1.A (fun k => k = w.heap.size ∨ k = w3.heap.size) x ⟨base, count, prod, seq, time, recs⟩ w3.heap.size x' wx)
        case first =>
          rw [HLV.out, HML.out] at HGRB
          have HSLW : Hid (∀ (wA : World) (o : Obj), Below WB.heap.size WB wA → Sl (wA.alloc o) (.slice la m lc) x.lb 34 6 m (x.L.flatMap bc6)) := Lib.hid fun wA o hb => by
            have h1 : Sl WB (.slice la m lc) x.lb 34 6 m (x.L.flatMap bc6) := by
              rw [← HWB.out, ← HLV.out]
              refine HSL.out.same fun k hk => Below.heap_setCell _ _ _ _ ?_
              rintro rfl
              exact (HOWN.out _ (.inr rfl)).2.1 (HTK.out.lbB HSD2.out _ hk)
            exact (h1.below hb).alloc o
          have HNW : Hid (∀ (W : World) (cs : Array Value) j u, cs.toList[j]? = some u → World.cell? (W.alloc (.cells cs 34)) (Addr.add ⟨W.heap.size, 0, none⟩ j) = some u) := Lib.hid fun W cs => World.news_of_block (cs := cs) (t := 34) (fr := (0, 0)) (heap_alloc_new W _)
          have HAL : Hid (∀ (wA : World) (o : Obj), Below WB.heap.size WB wA → Below WB.heap.size WB (wA.alloc o)) := Lib.hid fun wA o hb => hb.alloc hb.size o
          have HBC : Hid (∀ wA : World, Below WB.heap.size WB wA → wA.cell? ⟨w3.heap.size, 2, none⟩ = some (.slice la m lc)) := Lib.hid fun wA hb => (hb.cell (p := ⟨w3.heap.size, 2, none⟩) hgB.lt).trans G2
          obtain ⟨i0, hi0, hz0, hz1, hz2⟩ := infoBt
          have HBY : Hid ((m + 1) * 64 ≤ 140737488355328) := by show _ ≤ _; omega
          have H63 : Hid (m + 1 ≤ 9223372036854775807) := by show _ ≤ _; omega
          clear hgB HSD2 HTK HOWN HGG HSL
          go_region_law (first
            | (go_simp; go_at_call 82; refine (HCL.out _ (by first | exact Below.refl _ _ | exact (Below.refl _ _).drew)).mono ?_; rintro e wA ⟨rv', rfl, hr', hbA⟩; obtain ⟨ra, rcp, rfl⟩ := Rds.form hr'; have HBA := Lib.hid (show Below WB.heap.size WB wA from (by first | exact hbA | exact ((Below.refl _ _).drew).trans hbA)); have e2 := HBC.out _ HBA.out; have e3 := HBC.out _ (HAL.out wA (.cells #[.int .i64 base, .int .i64 count, .int .i64 prod, .int .i64 seq, .int .i64 time, .slice ra recs.length rcp] 34) HBA.out); have HRA : Hid (RcIn (fun k => w10.heap.size ≤ k) wA (.slice ra recs.length rcp) recs) := Lib.hid (by rw [← hsB]; exact hr'); clear hr' hbA)
            | (refine step_append_sl _ (by rfl) _ _ _ (by rfl) 34 i0 (.agg zeroB) 6 64 Tryz.underlying29 hi0 hz0 hz1 hz2 rfl (.slice la m lc) x.lb m (x.L.flatMap bc6) (by rfl) (HSLW.out wA _ HBA.out) ⟨wA.heap.size, 0, none⟩ 1 1 [.int .i64 base, .int .i64 count, .int .i64 prod, .int .i64 seq, .int .i64 time, .slice ra recs.length rcp] (by rfl) (by rfl) (HNW.out wA #[.int .i64 base, .int .i64 count, .int .i64 prod, .int .i64 seq, .int .i64 time, .slice ra recs.length rcp]) (by simp [Value.oneCell']) (by decide) HBY.out H63.out ?_; intro g9 q9 cap9 w9' gb9 hown9 hgrow9 hgb9 hnew9; obtain ⟨hT9, c9, f9⟩ := HGRB.out wA w9' _ HBA.out HRA.out _ g9 q9 cap9 gb9 hown9 hgrow9 hgb9 (hnew9.imp id (fun h => by simpa using h)); have HT9 := Lib.hid hT9; clear hT9 hown9 hgrow9 hgb9 hnew9)
            | fail)
          all_goals (go_wp2_with fail)
          all_goals go_meet
          all_goals exact ⟨_, HT9.out⟩
        case rest =>
          obtain ⟨x', hGr⟩ := hcut
          clear HGRB HCL G2 d0 d1 d2 d3 d4 d5 HWB hgB hsB
          have htk := HTK.out
          have hsd := HSD2.out
          have hnl : K1.X.length ≤ 1048576 := by
            have h1 := HFIT.out.segs
            rw [← HM.out.G1] at h1
            simpa [Kx.G] using h1
          have hil := htk.le
          obtain ⟨la', lc', hlv'⟩ := hGr.sl.form
          obtain ⟨m', hm'⟩ : ∃ m', x'.L.length = m' := ⟨_, rfl⟩
          obtain ⟨Y, hY⟩ : ∃ Y : Int, ((frs x'.bts).length : Int) = Y := ⟨_, rfl⟩
          rw [hm'] at hlv'
          have hgg := hGr.gg
          rw [HF.out, hY, hlv'] at hgg
          have g0 : wc.cell? ⟨w3.heap.size, 0, none⟩ = some (.int .i64 F) := hgg.cell rfl
          have g1 : wc.cell? ⟨w3.heap.size, 1, none⟩ = some (.int .i64 Y) := hgg.cell rfl
          have g2 : wc.cell? ⟨w3.heap.size, 2, none⟩ = some (.slice la' m' lc') := hgg.cell rfl
          have hsc3 : sc3 x' = [.int .i64 F, .int .i64 Y, .slice la' m' lc'] := by unfold sc3; rw [hGr.first, HF.out, hY, hlv']
          have hBs : B2 s := hsd.os s (.inl rfl)
          have hgbB : ∀ g, K1.gb = some g → wc.heap[g]? = w10.heap[g]? := fun g hg => by
            refine hGr.chg.block g (hsd.lies.segs.lt g hg) ?_
            rintro (ho | ho)
            · exact (HOWN.out g ho).2.1 (hsd.os g (.inr (.inl hg)))
            · obtain ⟨y', hy', e'⟩ := htk.ch g ho
              exact (hsd.lies.sl y' (List.mem_of_getElem? hy')).2 g e' hg
          have hs4 : wc.cell? ⟨s, 4, none⟩ = some K1.v := by
            refine Blk.cell (hsd.lies.head.same (hGr.chg.block s hsd.lies.head.lt ?_)) rfl
            rintro (ho | ho)
            · exact (HOWN.out s ho).2.1 hBs
            · obtain ⟨y', hy', e'⟩ := htk.ch s ho
              exact (hsd.lies.sl y' (List.mem_of_getElem? hy')).1 e'
          have HPUT : Hid (∀ (w5 : World) (o : Obj) (g p cap : Nat) (gb' : Option Nat), Sl w5 (.slice (some ⟨g, p, none⟩) (i + 1) cap) gb' 119 3 (i + 1) ((K1.X.take i).flatMap sc3 ++ [.int .i64 F, .int .i64 Y, .slice la' m' lc']) → (wc.alloc o).drew.grownBy w5 K1.gb → gb' = some g → (gb' = K1.gb ∨ (wc.alloc o).heap.size ≤ g) →
              AppOut w s h B K.A tot n c K.G sf ⟨base, count, prod, seq, time, recs⟩ a h.life (.returned (.int .i64 0)) (w5.setCell ⟨s, 4, none⟩ (.slice (some ⟨g, p, none⟩) (i + 1) cap)) ∧ w5.cell? ⟨s, 4, none⟩ = some K1.v ∧ w5.frozen? ⟨s, 4, none⟩ = false) := Lib.hid fun w5 o g p cap gb' h1 h2 h3 h4 => by
            rw [← hsc3] at h1
            obtain ⟨⟨B', K', k1, k2, k3, k6⟩, k4, k5⟩ := put_of HSD2.out HTK.out HOWN.out hGr o h1 ⟨h2.os, h2.tape, h2.output, h2.size, h2.block⟩ h3 h4
            refine ⟨⟨B', _, _, _, _, K', 0, rfl, ?_, k1, HRM.out, htot2, hnn2, fun b hb => (k6 b hb).imp (fun h => (HM.out.kA b h).1) (fun h => Nat.le_trans (HM.out.mv.trans HMVA.out).size h), .inl ⟨rfl, ?_, ?_, HRUN.out, fun h0 => HARM.out (HM.out.arm h0)⟩⟩, k4, k5⟩
            · refine (HM.out.mv.trans HMVA.out).trans' k2 ?_
              rintro k (rfl | rfl)
              · exact HM.out.lo
              · have := HM.out.ne
                have := HM.out.lo
                omega
            · rw [k3, HM.out.new, HM.out.G1]
            · rw [← HM.out.sfe]; exact HFIN.out
          have HALD : Hid (∀ o : Obj, Below wc.heap.size wc (wc.alloc o)) := Lib.hid fun o => (Below.refl _ _).alloc (Nat.le_refl _) o
          have HNWS : Hid (∀ (W : World) (cs : Array Value) j u, cs.toList[j]? = some u → World.cell? (W.alloc (.cells cs 119)).drew (Addr.add ⟨W.heap.size, 0, none⟩ j) = some u) := Lib.hid fun W cs => World.news_of_block (cs := cs) (t := 119) (fr := (0, 0)) (heap_alloc_new W _)
          obtain ⟨i1, hi1, hy0, hy1, hy2⟩ := infoSg
          have HBY : Hid ((i + 1) * 40 ≤ 140737488355328) := by show _ ≤ _; omega
          have H63 : Hid (i + 1 ≤ 9223372036854775807) := by show _ ≤ _; omega
          have hslt : s < wc.heap.size := Nat.lt_of_lt_of_le hsd.lies.head.lt hGr.chg.size
          have hglt : w3.heap.size < wc.heap.size := hgg.lt
          rcases segs_upto hsd hil hgbB with ⟨hv, hgb0, hX0, hi0⟩ | ⟨g, o, capx, hgb0, hv, hcx, hSl⟩
          · rw [hv] at hs4 HPUT
            have HSG : Hid (∀ wx, Below wc.heap.size wc wx → Sl wx (.slice none 0 0) K1.gb 119 3 i ((K1.X.take i).flatMap sc3)) := Lib.hid fun wx _ => by
              rw [hgb0, hX0, hi0]; exact Sl.nil _ _ _
            subst hi0
            have q4 := ((HALD.out (.cells #[.int .i64 F, .int .i64 Y, .slice la' m' lc'] 119)).cell (p := ⟨s, 4, none⟩) hslt).trans hs4
            clear hGr htk hsd hnl hil hlv' hm' hY hgg hsc3 hgbB hv hgb0 hX0 HTK HSD2 HOWN HM HGG HSL HRC2 HBX HLV HML HGR HFIN HRUN HARM HMVA HRM hBs
            go_upto_region 21 with fail
            go_region_law (first
              | (refine step_append_sl _ (by rfl) _ _ _ (by rfl) 119 i1 (.agg #[.int .i64 0, .int .i64 0, .slice none 0 0]) 3 40 Tryz.underlying97 hi1 hy0 hy1 hy2 rfl (.slice none 0 0) K1.gb 0 ((K1.X.take 0).flatMap sc3) (by rfl) (HSG.out _ (HALD.out _).drew) ⟨wc.heap.size, 0, none⟩ 1 1 [.int .i64 F, .int .i64 Y, .slice la' m' lc'] (by rfl) (by rfl) (HNWS.out wc #[.int .i64 F, .int .i64 Y, .slice la' m' lc']) (by simp [Value.oneCell']) (by decide) HBY.out H63.out ?_; intro g9 q9 cap9 w9' gb9 hown9 hgrow9 hgb9 hnew9; obtain ⟨hT9, c9, f9⟩ := HPUT.out w9' _ g9 q9 cap9 gb9 hown9 hgrow9 hgb9 (hnew9.imp id (fun h => by simpa using h)); have HT9 := Lib.hid hT9; clear hT9 hown9 hgrow9 hgb9 hnew9)
              | fail)
            all_goals (go_wp2_with fail)
            all_goals go_ret
            all_goals exact HT9.out
          · rw [hv] at hs4 HPUT
            have HSG : Hid (∀ wx, Below wc.heap.size wc wx → Sl wx (.slice (some ⟨g, o, none⟩) i capx) K1.gb 119 3 i ((K1.X.take i).flatMap sc3)) := Lib.hid fun wx hb => by
              rw [hgb0]; exact hSl.below hb
            obtain ⟨N1, hN1⟩ : ∃ N1, K1.X.length = N1 := ⟨_, rfl⟩
            rw [hN1] at hs4 HPUT hil hcx
            have hic : i ≤ capx := Nat.le_trans hil hcx
            have q4 := ((HALD.out (.cells #[.int .i64 F, .int .i64 Y, .slice la' m' lc'] 119)).cell (p := ⟨s, 4, none⟩) hslt).trans hs4
            clear hGr htk hsd hnl hlv' hm' hY hgg hsc3 hgbB hv hgb0 HTK HSD2 HOWN HM HGG HSL HRC2 HBX HLV HML HGR HFIN HRUN HARM HMVA HRM hBs hSl hN1
            go_upto_region 21 with fail
            go_region_law (first
              | (refine step_append_sl _ (by rfl) _ _ _ (by rfl) 119 i1 (.agg #[.int .i64 0, .int .i64 0, .slice none 0 0]) 3 40 Tryz.underlying97 hi1 hy0 hy1 hy2 rfl (.slice (some ⟨g, o, none⟩) i capx) K1.gb i ((K1.X.take i).flatMap sc3) (by rfl) (HSG.out _ (HALD.out _).drew) ⟨wc.heap.size, 0, none⟩ 1 1 [.int .i64 F, .int .i64 Y, .slice la' m' lc'] (by rfl) (by rfl) (HNWS.out wc #[.int .i64 F, .int .i64 Y, .slice la' m' lc']) (by simp [Value.oneCell']) (by decide) HBY.out H63.out ?_; intro g9 q9 cap9 w9' gb9 hown9 hgrow9 hgb9 hnew9; obtain ⟨hT9, c9, f9⟩ := HPUT.out w9' _ g9 q9 cap9 gb9 hown9 hgrow9 hgb9 (hnew9.imp id (fun h => by simpa using h)); have HT9 := Lib.hid hT9; clear hT9 hown9 hgrow9 hgb9 hnew9)
              | fail)
            all_goals (go_wp2_with fail)
            all_goals go_ret
            all_goals exact HT9.out
      · rw [ha0]
        have hres : AppOut w s h B K.A tot n c K.G sf ⟨base, count, prod, seq, time, recs⟩ a h.life (.returned (.int .i64 10)) w10 :=
          ⟨B2, _, _, _, _, _, 10, rfl, HM.out.mv.trans hmvA, hSd2, hroom2, htot2, hnn2, fun b hb => .inl (HM.out.kA b hb).1, .inr ⟨rfl, HM.out.G1, .inr (by rw [← HM.out.sfe]; exact hfin), hgone, fun h => by have := HM.out.arm h; omega⟩⟩
        have HRES := Lib.hid hres
        clear ha0 hgone harm hfin hroom2 hnn2 htot2 hmvA hSd2 hmv2 hS10 hm10 HAP HUP hres
        go_wp2_with fail
        go_ret
        exact HRES.out
end Go.Proofs.YtdaoeplblkfapaaGreatDoor
