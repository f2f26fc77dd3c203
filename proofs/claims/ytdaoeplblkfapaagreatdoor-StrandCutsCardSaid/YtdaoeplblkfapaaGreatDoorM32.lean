import Derived.Test.YtdaoeplblkfapaaGreatDoorM31
import Derived.Test.YtdaoeplblkfapaaGreatDoorM16
import Derived.Test.YtdaoeplblkfapaaGreatDoorM24
import Derived.Test.YtdaoeplblkfapaaGreatDoorM21
import Derived.Test.YtdaoeplblkfapaaGreatDoorM15

/- THE CONTRACT OF strand's Cut, where it goes through. -/
namespace Go.Proofs.YtdaoeplblkfapaaGreatDoor
open Go.RowKit

/-- What Cut leaves. -/
def CutSOut (w : World) (s : Nat) (h : Hs) (B : Nat → Prop) (tot n : Nat) (c : Ta.Sc) (G : List Sg) (a l : Nat) (e : Ending) (w' : World) : Prop :=
  ∃ (B' : Nat → Prop) (f' : Ta.View) (tot' n' : Nat) (c' : Ta.Sc) (K' : Kx) (sf' : Nat), e = .returned (.int .i64 0) ∧ Moved B B' w w' ∧ Sd w' s h B' f' tot' n' c' K' ∧ K'.G = G ∧ Fl h.P f' G sf' ∧ tot' ≤ tot ∧ n' ≤ n ∧ c'.room = c.room ∧ Run c' a l ∧ c'.armed = 0
/-- Behind the call of drop. -/
structure CutD (w : World) (s : Nat) (h : Hs) (B : Nat → Prop) (f : Ta.View) (tot n : Nat) (c : Ta.Sc) (K : Kx) (zs : List Int) (a : Nat) (bx : Nat) (cs : Array Value) (wx : World) (B' : Nat → Prop) (tot' n' : Nat) (c' : Ta.Sc) : Prop where
  sd : Sd wx s h B' (fdrop h.P f zs) tot' n' c' K
  mv : Moved B B' w wx
  tot : tot' ≤ tot
  n : n' ≤ n
  room : c'.room = c.room
  run : Run c' a h.life
  arm : c'.armed = 0
  box : Blk wx bx cs 119
  lo : w.heap.size ≤ bx
  nb : ¬ B' bx
set_option maxHeartbeats 4000000 in
set_option maxRecDepth 100000 in
theorem cutS_main {w : World} {s : Nat} {h : Hs} {B : Nat → Prop} {f : Ta.View} {tot n : Nat} {c : Ta.Sc} {K : Kx} (kk : Sd w s h B f tot n c K) (hKA : K.A = fun k => k < w.heap.size) (lb : Lb w) (hB : ∀ b, B b → 8 ≤ b) (hP : h.P.length ≤ 1048576) (hlog : Log K.G) (hfit : Fit K.G)
    {a : Nat} (hlf : c.life = h.life) (q : Run c a h.life) (harm : c.armed = 0) (ha : a + K.X.length + 1 ≤ 1099511627776) (hl : h.life ≤ 1099511627776) {sf : Nat} (hfl : Fl h.P f K.G sf) (off : Int) (ho : gsStart K.G ≤ off ∧ off ≤ gsEnd K.G)
    {i : Nat} (hi : leftN K.G off - 1 = i) {x : Sx} (hx : K.X[i]? = some x) (hne : x.L ≠ []) {m : Nat} (hm : upN x.bts off = m) (hmo : ∀ b rv, x.L[m]? = some (b, rv) → off ≤ b.base) :
    Calls Tryz.prog 44 #[.pointer (some ⟨s, 0, none⟩), .int .i64 off] w (CutSOut w s h B tot n c (K.G.take i ++ [⟨x.first, x.bts.take m⟩]) (a + K.X.length + 1) h.life) := by
  have hX : K.X.length ≤ 1048576 := by have h1 := hfit.segs; simpa [Kx.G] using h1
  have hLm : ∀ y ∈ K.X, y.L.length ≤ 1048576 := fun y hy => by
    have := hfit.lists y.sg (List.mem_map.2 ⟨y, hy, rfl⟩)
    simpa [Sx.sg, Sx.bts] using this
  have hxm := List.mem_of_getElem? hx
  have HR := Lib.hid (readyS_ok kk hlf hl)
  have HS := Lib.hid fun (wx : World) (hbx : Below w.heap.size w wx) => start_any (kk.below hbx).lies hX
  have HE := Lib.hid fun (wx : World) (hbx : Below w.heap.size w wx) => endS_any (kk.below hbx).lies hX hlog.chs hLm
  have HL := Lib.hid fun (wx : World) (hbx : Below w.heap.size w wx) => left_any (kk.below hbx).lies off hX hlog.rises
  have HBS := Lib.hid fun (wx : World) (hbx : Below w.heap.size w wx) => bases_of (kk.below hbx) hX
  rw [show leftN (K.X.map Sx.sg) off - 1 = i from hi] at HL
  obtain ⟨st, hst⟩ : ∃ st, gsStart (K.X.map Sx.sg) = st := ⟨_, rfl⟩
  obtain ⟨en, hen⟩ : ∃ en, gsEnd (K.X.map Sx.sg) = en := ⟨_, rfl⟩
  rw [hst] at HS
  rw [hen] at HE
  have b1 : decide (off < st) = false := by have := ho.1; unfold Kx.G at this; rw [hst] at this; simp; omega
  have b2 : decide (en < off) = false := by have := ho.2; unfold Kx.G at this; rw [hen] at this; simp; omega
  obtain ⟨ml, hml⟩ : ∃ ml, x.L.length = ml := ⟨_, rfl⟩
  have hml0 : 0 < ml := by rw [← hml]; exact List.length_pos_iff.2 hne
  have hmlm : ml ≤ 1048576 := by rw [← hml]; exact hLm x hxm
  have hmle : m ≤ ml := by rw [← hm, ← hml]; have := upN_le x.bts off; simpa [Sx.bts] using this
  obtain ⟨bl, bo, lc, hlv⟩ : ∃ bl bo lc, x.lv = .slice (some ⟨bl, bo, none⟩) ml lc := by
    obtain ⟨bl, bo, lc, e, -⟩ := Rds.at (kk.lies.list hxm).1 (by rw [hml]; exact hml0)
    exact ⟨bl, bo, lc, by rw [e, hml]⟩
  obtain ⟨y, hy⟩ : ∃ y, (frs x.bts).length = y := ⟨_, rfl⟩
  obtain ⟨F, hF⟩ : ∃ F, x.first = F := ⟨_, rfl⟩
  have HU := Lib.hid fun (wx : World) (hbx : Below w.heap.size w wx) => upto_any x.first (y : Int) off x.lv x.L wx ((kk.below hbx).lies.list hxm) (hlog.chs x.sg (List.mem_map.2 ⟨x, hxm, rfl⟩)) (hLm x hxm)
  rw [show upN (x.L.map (·.1)) off = m from hm, hF, hlv] at HU
  obtain ⟨g, o, cap, hgb, hv, hcap, hgl, k0, k1, k2⟩ := kk.lies.get hx
  rw [hF] at k0
  rw [hy] at k1
  rw [hlv] at k2
  obtain ⟨N, hN⟩ : ∃ N, K.X.length = N := ⟨_, rfl⟩
  have hiN : i < N := by rw [← hN]; exact (List.getElem?_eq_some_iff.1 hx).1
  rw [hN] at hv hX hcap
  have c4 : w.cell? ⟨s, 4, none⟩ = some (.slice (some ⟨g, o, none⟩) N cap) := by rw [← hv]; exact kk.lies.head.cell rfl
  have hks := kk.lies.head.lt
  have hN0 : ((N : Int) == 0) = false := by simp; omega
  have HMB : Hid (m < ml → ∃ bb : Int, off ≤ bb ∧ bl < w.heap.size ∧ w.cell? ⟨bl, bo + m * 6, none⟩ = some (.int .i64 bb)) := Lib.hid fun hmm => by
    obtain ⟨⟨b, rv⟩, hb⟩ : ∃ p, x.L[m]? = some p := ⟨_, List.getElem?_eq_getElem (by rw [hml]; exact hmm)⟩
    obtain ⟨bl', bo', bcap, e1, -, hbl, hq, -⟩ := (kk.lies.list hxm).at hb
    rw [hlv] at e1
    have e2 : (some ⟨bl, bo, none⟩ : Option Addr) = some ⟨bl', bo', none⟩ := by injection e1
    have e3 : (⟨bl, bo, none⟩ : Addr) = ⟨bl', bo', none⟩ := Option.some.inj e2
    have e4 : bl = bl' := congrArg Addr.block e3
    have e5 : bo = bo' := congrArg Addr.off e3
    subst e4 e5
    exact ⟨b.base, hmo b rv hb, hbl, hq 0 _ (by decide) rfl⟩
  have HHX := Lib.hid hX
  have HKK := Lib.hid kk
  have HLB := Lib.hid lb
  have HHB := Lib.hid hB
  have HHP := Lib.hid hP
  have HLOG := Lib.hid hlog
  have HQ := Lib.hid q
  have HARM := Lib.hid harm
  have HFLL := Lib.hid hfl
  have HHX2 := Lib.hid hx
  have HHM := Lib.hid hm
  have HLV := Lib.hid hlv
  have HML := Lib.hid hml
  have HY := Lib.hid hy
  have HF := Lib.hid hF
  have HV := Lib.hid (And.intro hgb (And.intro hv hcap))
  have HN := Lib.hid hN
  have HKA := Lib.hid hKA
  have HLF := Lib.hid hlf
  rw [hN] at ha ⊢
  clear kk lb hB hP hlog hfit hlf q harm hfl hi hx hne hm hmo hLm hxm hst hen ho hlv hml hy hF hgb hv hcap hN hX hKA
  go_enter Tryz.func44, Tryz.ntmps44
  go_wp2_with fail
  refine HR.out.mono ?_
  rintro e w1 ⟨rfl, h1⟩
  have HB1 := Lib.hid h1
  clear h1
  go_wp2_with fail
  refine (HS.out _ HB1.out).mono ?_
  rintro e _ ⟨rfl, rfl⟩
  go_wp2_with fail
  refine (HE.out _ HB1.out).mono ?_
  rintro e w2 ⟨rfl, h2⟩
  have d4 : w2.cell? ⟨s, 4, none⟩ = some (.slice (some ⟨g, o, none⟩) N cap) := ((HB1.out.trans (h2.mono HB1.out.size)).cell (p := ⟨s, 4, none⟩) hks).trans c4
  have HB2 := Lib.hid (HB1.out.trans (h2.mono HB1.out.size))
  clear h2 c4
  go_wp2_with fail
  refine (HL.out _ HB2.out).mono ?_
  rintro e w3 ⟨rfl, h3⟩
  have hb3 := HB2.out.trans (h3.mono HB2.out.size)
  have d4' : w3.cell? ⟨s, 4, none⟩ = some (.slice (some ⟨g, o, none⟩) N cap) := (h3.cell (p := ⟨s, 4, none⟩) (Nat.lt_of_lt_of_le hks HB2.out.size)).trans d4
  have m0 : w3.cell? ⟨g, o + i * 3, none⟩ = some (.int .i64 F) := (hb3.cell (p := ⟨g, _, none⟩) hgl).trans k0
  have m1 : w3.cell? ⟨g, o + i * 3 + 1, none⟩ = some (.int .i64 y) := (hb3.cell (p := ⟨g, _, none⟩) hgl).trans k1
  have m2 : w3.cell? ⟨g, o + i * 3 + 2, none⟩ = some (.slice (some ⟨bl, bo, none⟩) ml lc) := (hb3.cell (p := ⟨g, _, none⟩) hgl).trans k2
  have HB3 := Lib.hid hb3
  have i0 : (0 : Int) ≤ (i : Int) := by omega
  have i1 : (i : Int) < (N : Int) := by omega
  obtain ⟨W4, hW4⟩ : ∃ W4, w3.alloc (.cells #[.int .i64 F, .int .i64 y, .slice (some ⟨bl, bo, none⟩) ml lc] 119) = W4 := ⟨_, rfl⟩
  have hb4 : Below w3.heap.size w3 W4 := by rw [← hW4]; exact (Below.refl _ _).alloc (Nat.le_refl _) _
  have hg4 : Blk W4 w3.heap.size #[.int .i64 F, .int .i64 y, .slice (some ⟨bl, bo, none⟩) ml lc] 119 := by rw [← hW4]; exact Blk.new _ _ _
  have hbw4 := HB3.out.trans (hb4.mono HB3.out.size)
  have HU4 := Lib.hid (HU.out _ hbw4)
  have HB4 := Lib.hid hbw4
  have HG4 := Lib.hid hg4
  have p0 : W4.cell? ⟨w3.heap.size, 0, none⟩ = some (.int .i64 F) := hg4.cell rfl
  have p1 : W4.cell? ⟨w3.heap.size, 1, none⟩ = some (.int .i64 y) := hg4.cell rfl
  have p2 : W4.cell? ⟨w3.heap.size, 2, none⟩ = some (.slice (some ⟨bl, bo, none⟩) ml lc) := hg4.cell rfl
  clear h3 hb3 d4 k0 k1 k2 hb4 hbw4 hg4 HU
  go_wp2_with fail
  refine HU4.out.mono ?_
  rintro e w5 ⟨rfl, h5⟩
  have hg5 := HG4.out.below h5
  have hb5 := HB4.out.trans (h5.mono HB4.out.size)
  have n2 : w5.cell? ⟨w3.heap.size, 2, none⟩ = some (.slice (some ⟨bl, bo, none⟩) ml lc) := hg5.cell rfl
  have HG5 := Lib.hid hg5
  have hw3 := (HB3.out.size)
  have HB5 := Lib.hid hb5
  clear h5 hg5 hb5 HU4
  go_upto_region 11 with fail
  go_cut [61] (fun s61 wx => s61 = .bool false ∧ Eqw w5 wx)
  case first =>
    by_cases hmm : m < ml
    · obtain ⟨bb, hbb, hbl, q0⟩ := HMB.out hmm
      have hd1 : decide (m < ml) = true := by simp; omega
      have hd2 : decide (bb < off) = false := by simp; omega
      have i2 : (0 : Int) ≤ (m : Int) := by omega
      have i3 : (m : Int) < (ml : Int) := by omega
      have n3 : w5.cell? ⟨bl, bo + m * 6, none⟩ = some (.int .i64 bb) := (HB5.out.cell (p := ⟨bl, _, none⟩) hbl).trans q0
      go_wp2_with fail
      go_meet
      case rel => exact ⟨rfl, rfl⟩
    · have hd1 : decide (m < ml) = false := by simp; omega
      go_wp2_with fail
      go_meet
      case rel => exact ⟨rfl, rfl⟩
  case rest =>
  obtain ⟨rfl, hwx⟩ := hcut
  have hwx' : w5 = wc := (show wc = w5 from hwx).symm
  subst hwx'
  clear hwx HMB
  go_upto_region 13 with fail
  go_cut [9] (fun s9 wx => s9 = .int .i64 0 ∧ ∃ B1 tot1 n1 c1, CutD w s h B f tot n c K ((K.G.map Sg.first).drop (i + 1)) (a + N) w3.heap.size #[.int .i64 F, .int .i64 y, .slice (some ⟨bl, bo, none⟩) ml lc] wx B1 tot1 n1 c1)
  case first =>
    go_wp2_with fail
    refine (HBS.out _ HB5.out).mono ?_
    rintro e w6 ⟨fv, fgb, rfl, hfs, hfn, hb6⟩
    have hzl : (firstsOf K).length = N := by rw [← HN.out]; simp [firstsOf, Kx.G]
    obtain ⟨fb, fp, fc, hfc, hfv⟩ : ∃ fb fp fc, N ≤ fc ∧ fv = .slice (some ⟨fb, fp, none⟩) N fc := by
      rcases hfs.2 with ⟨-, -, h⟩ | ⟨g2, p2, c2, _, -, h, -, hc, -⟩
      · omega
      · exact ⟨g2, p2, c2, by rw [← hzl]; exact hc, by rw [← hzl]; exact h⟩
    subst hfv
    have hb56 := HB5.out.trans (hb6.mono HB5.out.size)
    have hfr : Rds (fun b => ¬ B b) w6 (.slice (some ⟨fb, fp, none⟩) N fc) 1 N ((firstsOf K).map icell) := by
      have h1 := Rds.of_sl hfs (A := fun b => ¬ B b) fun b hb hB => by have := hfn b hb; have := HKK.out.lt b hB; have := HB5.out.size; omega
      rw [hzl] at h1
      exact h1
    have hNb := HHX.out
    have hdr := fun (cap : Nat) (ad : Addr) (hd : i + 1 < N → ad = ⟨fb, fp + (i + 1), none⟩) => drop_rest (HKK.out.below hb56) (HLB.out.below HLB.out.size hb56) HHB.out HHP.out HQ.out HARM.out hzl hfr (fun z hz => (let ⟨g, hg, e⟩ := List.mem_map.1 hz; e ▸ HLOG.out.firsts g hg)) HLOG.out.sorted (j := i + 1) (by omega) (fun z hz => (let ⟨g, hg, e⟩ := List.mem_map.1 (List.mem_of_mem_drop hz); let ⟨k, hk⟩ := List.getElem?_of_mem hg; ⟨_, _, e ▸ HFLL.out.hold k g hk⟩)) (by omega) hl hNb cap ad hd
    have HDR := Lib.hid hdr
    have HCD : Hid (∀ w7 B1 tot1 n1 c1, Sd w7 s h B1 (fdrop h.P f ((firstsOf K).drop (i + 1))) tot1 n1 c1 K → Moved B B1 w6 w7 → tot1 ≤ tot → n1 ≤ n → c1.room = c.room → Run c1 (a + N) h.life → c1.armed = 0 → CutD w s h B f tot n c K ((K.G.map Sg.first).drop (i + 1)) (a + N) w3.heap.size #[.int .i64 F, .int .i64 y, .slice (some ⟨bl, bo, none⟩) ml lc] w7 B1 tot1 n1 c1) := Lib.hid fun w7 B1 tot1 n1 c1 k1 k2 k3 k4 k5 k6 k7 => by
      have hg6 := HG5.out.below hb6
      have hlo : w.heap.size ≤ w3.heap.size := hw3
      have hnB : ¬ B w3.heap.size := fun hb => by have := HKK.out.lt _ hb; omega
      refine ⟨k1, (Moved.of_below hb56).trans k2, k3, k4, k5, k6, k7, hg6.same (k2.block _ hg6.lt hnB), hlo, fun hb => ?_⟩
      rcases k2.new _ hb with h1 | h1
      · exact hnB h1
      · have := hg6.lt; omega
    have hi1 : i + 1 ≤ N := hiN
    clear hfs hfn hb6 hb56 hfr hdr hzl HBS HG5 n2
    go_wp2_with fail
    all_goals (refine (HDR.out _ _ (fun h => by first | rfl | (exfalso; omega))).mono ?_)
    all_goals (rintro e w7 ⟨rfl, B1, tot1, n1, c1, k1, k2, k3, k4, k5, k6, k7⟩; have HC7 := Lib.hid (HCD.out w7 B1 tot1 n1 c1 k1 k2 k3 k4 k5 k6 k7); clear k1 k2 k3 k4 k5 k6 k7 HDR HCD)
    all_goals (go_wp2_with fail)
    all_goals go_meet
    all_goals exact ⟨rfl, _, _, _, _, HC7.out⟩
  case rest =>
  obtain ⟨rfl, B1, tot1, n1, c1, hD⟩ := hcut
  obtain ⟨bx, hbx⟩ : ∃ bx, w3.heap.size = bx := ⟨_, rfl⟩
  rw [hbx] at hD ⊢
  have HD := Lib.hid hD
  have hxm := List.mem_of_getElem? HHX2.out
  have hlist := hD.sd.lies.list hxm
  rw [HLV.out] at hlist
  have hpre : Rds (fun b => (¬ B1 b ∧ K.A b) ∨ x.lb = some b) wc (.slice (some ⟨bl, bo, none⟩) m lc) 6 m ((x.L.take m).flatMap bc6) := by
    have h1 := hlist.1
    rw [HML.out] at h1
    have h2 := h1.prefix hmle lc
    rwa [flat_take bc6 6 bc6_length] at h2
  have HCL := Lib.hid (cloneBt _ m _ wc hpre (fun u hu => bc6_one hlist.2 u (List.mem_flatMap.2 (let ⟨p, hp, hq⟩ := List.mem_flatMap.1 hu; ⟨p, List.mem_of_mem_take hp, hq⟩))) (by omega))
  have HALL := Lib.hid (show All (fun b => ¬ B1 b ∧ K.A b) wc (x.L.take m) from fun p hp => hD.sd.lies.recs x hxm p (List.mem_of_mem_take hp))
  have g0 : wc.cell? ⟨bx, 0, none⟩ = some (.int .i64 F) := hD.box.cell rfl
  have g1 : wc.cell? ⟨bx, 1, none⟩ = some (.int .i64 y) := hD.box.cell rfl
  have g2 : wc.cell? ⟨bx, 2, none⟩ = some (.slice (some ⟨bl, bo, none⟩) ml lc) := hD.box.cell rfl
  have HLO : Hid (w.heap.size ≤ bx) := Lib.hid (by omega)
  have hlc : ml ≤ lc := by
    have h1 := HD.out.sd.lies.lists x hxm
    rw [HLV.out] at h1
    rcases h1.2 with ⟨e, -, -⟩ | ⟨_, _, _, _, -, e, -, hc, -⟩
    · cases e
    · injection e with _ e1 e2
      omega
  clear hD hlist hpre hbx hw3 n2 HG5 HB5 HB4 HB3 HG4 HB2 HB1 HBS HKK
  go_wp2_with fail
  refine HCL.out.mono ?_
  rintro e w8 ⟨cv, cb, rfl, hcs, hcn, hb8⟩
  obtain ⟨ca, cc, rfl⟩ := hcs.form
  have hbx8 := HD.out.box.below hb8
  have e0 : w8.cell? ⟨bx, 0, none⟩ = some (.int .i64 F) := hbx8.cell rfl
  have e1 : w8.cell? ⟨bx, 1, none⟩ = some (.int .i64 y) := hbx8.cell rfl
  have e2 : w8.cell? ⟨bx, 2, none⟩ = some (.slice (some ⟨bl, bo, none⟩) ml lc) := hbx8.cell rfl
  have f2 : w8.frozen? ⟨bx, 2, none⟩ = false := hbx8.free
  obtain ⟨W8, hW8⟩ : ∃ W8, w8.setCell ⟨bx, 2, none⟩ (.slice ca m cc) = W8 := ⟨_, rfl⟩
  have hA : ¬ K.A bx := by rw [HKA.out]; have := HLO.out; simp only; omega
  have hsd8 : Sd W8 s h B1 (fdrop h.P f ((K.G.map Sg.first).drop (i + 1))) tot1 n1 c1 K := by rw [← hW8]; exact (HD.out.sd.below hb8).beside HD.out.nb hA 2 _
  have hs8 : W8.heap.size = w8.heap.size := by rw [← hW8]; simp [World.setCell]
  have hbk8 : Blk W8 bx #[.int .i64 F, .int .i64 y, .slice ca m cc] 119 := by rw [← hW8]; exact hbx8.set (i := 2) _
  have hcb : ∀ b, cb = some b → wc.heap.size ≤ b ∧ b ≠ bx := fun b hb => by
    have h1 := hcn b hb
    have h2 := HD.out.box.lt
    exact ⟨h1, by omega⟩
  have hcs8 : Sl W8 (.slice ca m cc) cb 34 6 m ((x.L.take m).flatMap bc6) := by rw [← hW8]; exact hcs.same fun b hb => Below.heap_setCell _ _ _ _ (hcb b hb).2
  have hall8 : All (fun b => b < w.heap.size ∧ ¬ B1 b) W8 (x.L.take m) := fun p hp => by
    refine Rds.keep (HALL.out p hp) (by rw [hs8]; exact hb8.size) fun b hb hl => ⟨?_, ?_⟩
    · rw [← hW8]
      refine (Below.heap_setCell _ _ _ _ ?_).trans (hb8.block b hl)
      rintro rfl
      exact hA hb.2
    · rw [HKA.out] at hb
      exact ⟨hb.2, hb.1⟩
  have lbc := (HLB.out.moved HHB.out HD.out.mv).1
  have lb8 : Lb W8 := by
    have h1 := lbc.below lbc.size hb8
    rw [← hW8]
    exact (h1.moved (B := fun b => b = bx) (fun b hb => by have := HLB.out.size; have := HLO.out; omega) (Moved.setCell w8 ⟨bx, 2, none⟩ _ rfl)).1
  have hlm : (x.L.take m).length = m := by rw [List.length_take, HML.out]; omega
  have htk : (x.L.take m).map (·.1) = x.bts.take m := by rw [List.map_take]; rfl
  have hgood : ∀ p ∈ x.L.take m, Pl.goodB p.1 = true := fun p hp => HLOG.out.good _ (List.mem_flatMap.2 ⟨x.sg, List.mem_map.2 ⟨x, hxm, rfl⟩, List.mem_map.2 ⟨p, List.mem_of_mem_take hp, rfl⟩⟩)
  have hfrm := frames_any (A := fun _ => True) (.slice ca m cc) (x.L.take m) W8 lb8 ⟨by rw [hlm]; exact Rds.of_sl hcs8 fun _ _ => trivial, fun p hp => Rds.mono (hall8 p hp) fun _ _ => trivial⟩ hgood (by omega)
  obtain ⟨S, hS⟩ : ∃ S : ByteArray, (⟨(frs ((x.L.take m).map (·.1))).toArray⟩ : ByteArray) = S := ⟨_, rfl⟩
  obtain ⟨Y, hY⟩ : ∃ Y, S.size = Y := ⟨_, rfl⟩
  have hYf : (frs (x.bts.take m)).length = Y := by rw [← hY, ← hS, ← htk]; simp [ByteArray.size]
  rw [hS] at hfrm
  have HFR := Lib.hid hfrm
  have e3 : W8.cell? ⟨bx, 2, none⟩ = some (.slice ca m cc) := hbk8.cell rfl
  have HBK8 := Lib.hid hbk8
  have HS8 := Lib.hid hs8
  have HSD8 := Lib.hid hsd8
  have HCB := Lib.hid hcb
  have HCS8 := Lib.hid hcs8
  have HALL8 := Lib.hid hall8
  have HLB8 := Lib.hid lb8
  have HB8 := Lib.hid hb8
  have HBX8 := Lib.hid hbx8
  have HW8 := Lib.hid hW8
  have HYF := Lib.hid hYf
  have HTK := Lib.hid htk
  have HLM := Lib.hid hlm
  have HHY := Lib.hid hY
  clear hbk8 hs8 hsd8 hcb hcs8 hall8 lb8 hb8 hbx8 hW8 hYf htk hlm hgood hfrm hS hY lbc hcs hcn hxm g0 g1 g2 HCL HALL
  go_wp2_with fail
  rw [HW8.out]
  try go_wp2_with fail
  refine HFR.out.mono ?_
  rintro e w9 ⟨rfl, hb9⟩
  have hxm := List.mem_of_getElem? HHX2.out
  have hbk9 := HBK8.out.below hb9
  have q1 : w9.cell? ⟨bx, 1, none⟩ = some (.int .i64 y) := hbk9.cell rfl
  have q2 : w9.frozen? ⟨bx, 1, none⟩ = false := hbk9.free
  obtain ⟨W9, hW9⟩ : ∃ W9, w9.setCell ⟨bx, 1, none⟩ (.int .i64 Y) = W9 := ⟨_, rfl⟩
  have hsd9 : Sd W9 s h B1 (fdrop h.P f ((K.G.map Sg.first).drop (i + 1))) tot1 n1 c1 K := by rw [← hW9]; exact (HSD8.out.below hb9).beside HD.out.nb hA 1 _
  have hs9 : W9.heap.size = w9.heap.size := by rw [← hW9]; simp [World.setCell]
  have hbk9' : Blk W9 bx #[.int .i64 F, .int .i64 Y, .slice ca m cc] 119 := by rw [← hW9]; exact hbk9.set (i := 1) _
  have hcs9 : Sl W9 (.slice ca m cc) cb 34 6 m ((x.L.take m).flatMap bc6) := by rw [← hW9]; exact HCS8.out.same fun b hb => (Below.heap_setCell _ _ _ _ (HCB.out b hb).2).trans (hb9.block b (HCS8.out.lt b hb))
  have hall9 : All (fun b => b < w.heap.size ∧ ¬ B1 b) W9 (x.L.take m) := fun p hp => by
    refine Rds.keep (HALL8.out p hp) (by rw [hs9]; exact hb9.size) fun b hb hl => ⟨?_, hb⟩
    rw [← hW9]
    refine (Below.heap_setCell _ _ _ _ ?_).trans (hb9.block b hl)
    rintro rfl
    have := HLO.out
    omega
  have lb9 : Lb W9 := by
    have h1 := HLB8.out.below HLB8.out.size hb9
    rw [← hW9]
    exact (h1.moved (B := fun b => b = bx) (fun b hb => by have := HLB.out.size; have := HLO.out; omega) (Moved.setCell w9 ⟨bx, 1, none⟩ _ rfl)).1
  have hwW9 : wc.heap.size ≤ W9.heap.size := by rw [hs9]; have := hb9.size; have := HS8.out; have := HB8.out.size; omega
  have hkeep9 : ∀ b, b < wc.heap.size → b ≠ bx → W9.heap[b]? = wc.heap[b]? := fun b hl hb => by
    have h1 := HB8.out.block b hl
    have h2 := hb9.block b (by have := HS8.out; have := HB8.out.size; omega)
    rw [← hW9]
    refine (Below.heap_setCell _ _ _ _ hb).trans (h2.trans ?_)
    rw [← HW8.out]
    exact (Below.heap_setCell _ _ _ _ hb).trans h1
  have hmv9 : Moved (fun b => b = bx) (fun b => b = bx) wc W9 := by
    have h1 : Moved (fun b => b = bx) (fun b => b = bx) wc W8 := by rw [← HW8.out]; exact (Moved.of_below HB8.out).trans (Moved.setCell w8 ⟨bx, 2, none⟩ _ rfl)
    rw [← hW9]
    exact h1.trans ((Moved.of_below hb9).trans (Moved.setCell w9 ⟨bx, 1, none⟩ _ rfl))
  have hGi : K.G[i]? = some x.sg := by show (K.X.map Sx.sg)[i]? = _; rw [List.getElem?_map, HHX2.out]; rfl
  obtain ⟨hfile, hflc⟩ := HFLL.out.cut HLOG.out hGi m rfl
  have hF := HLOG.out.firsts x.sg (List.mem_map.2 ⟨x, hxm, rfl⟩)
  rw [show x.sg.first = F from HF.out] at hF hfile hflc
  rw [show x.sg.l = x.bts from rfl] at hfile hflc
  have hYy : Y ≤ y := by rw [← HYF.out, ← HY.out]; have h1 := frs_cut x.bts m; rw [← h1, List.length_take]; exact Nat.min_le_right _ _
  have hy0 : 0 < y := by
    rw [← HY.out]
    obtain ⟨p, L', hL⟩ : ∃ p L', x.L = p :: L' := by
      cases hL : x.L with
      | nil => have := HML.out; rw [hL] at this; simp at this; omega
      | cons p L' => exact ⟨p, L', rfl⟩
    have hg : Pl.goodB p.1 = true := HLOG.out.good _ (List.mem_flatMap.2 ⟨x.sg, List.mem_map.2 ⟨x, hxm, rfl⟩, List.mem_map.2 ⟨p, by rw [hL]; simp, rfl⟩⟩)
    have h25 := (good_enc hg).2.1
    unfold Sx.bts
    rw [hL, List.map_cons, frs_cons, List.length_append]
    omega
  have c0 : W9.cell? ⟨s, 0, none⟩ = some (.pointer (some ⟨h.t, 0, none⟩)) := hsd9.lies.head.cell rfl
  have p0 : W9.cell? ⟨bx, 0, none⟩ = some (.int .i64 F) := hbk9'.cell rfl
  have p1 : W9.cell? ⟨bx, 1, none⟩ = some (.int .i64 Y) := hbk9'.cell rfl
  obtain ⟨M, hM⟩ : ∃ M : ByteArray, (⟨(nm h.P F).toArray⟩ : ByteArray) = M := ⟨_, rfl⟩
  have hNM := fun (wx : World) (hbx : Below W9.heap.size W9 wx) => name_any wx (lb9.below lb9.size hbx) s h _ (hsd9.lies.head.below hbx) HHP.out F hF.1 hF.2
  rw [hM] at hNM
  have HNM := Lib.hid fun d os => Calls.regrown_of (hNM _ (below_regrown W9 d os))
  have k0 : ∀ d os, _ := cell_regrown c0
  have k1 : ∀ d os, _ := cell_regrown p0
  have k2 : ∀ d os, _ := cell_regrown p1
  have HSD9 := Lib.hid hsd9
  have HBK9 := Lib.hid hbk9'
  have HCS9 := Lib.hid hcs9
  have HALL9 := Lib.hid hall9
  have HMV9 := Lib.hid hmv9
  have HFI := Lib.hid hfile
  have HFC := Lib.hid hflc
  have HYY := Lib.hid (And.intro hYy hy0)
  have HM := Lib.hid hM
  have HW9 := Lib.hid hW9
  clear hsd9 hs9 hbk9 hbk9' hcs9 hall9 lb9 hwW9 hkeep9 hmv9 hGi hfile hflc hYy hy0 hNM hM hW9 hb9 hxm hF HFR HBK8 HSD8 HCS8 HALL8 HLB8 HB8 HBX8 e0 e1 e2 e3 f2
  go_wp2_with fail
  rw [HHY.out, HW9.out]
  try go_wp2_with fail
  refine wp_region_below_tail 10 (by kernel_rfl) (by kernel_rfl) ?_
  simp only [List.take_succ_cons, List.take_zero, List.drop_succ_cons, List.drop_zero]
  repeat (go_big_quiet_step ((go_at_call 81; with_reducible exact HNM.out _ _)))
  refine wpQuiet_nil ?_
  intro w10 hw10
  obtain ⟨⟨dq, osq⟩, hw10'⟩ := hw10
  have H10 : Hid (Below W9.heap.size W9 w10) := by rw [hw10']; exact below_regrown W9 dq osq
  clear hw10' HNM k0 k1 k2 c0 p0 p1
  obtain ⟨Tt, hst, hup⟩ := (HSD9.out.below H10.out).tape
  have hcut := Ta.s_cut hst (HD.out.run.small (by omega) hl) (nm h.P F) (frs x.bts) _ Y HFI.out (by rw [HY.out]; exact HYY.out.1) (by rw [HY.out]; exact HYY.out.2)
  rw [HM.out] at hcut
  have htl : (frs x.bts).length ≤ tot1 := hst.sized HFI.out
  have HCUT := Lib.hid hcut
  have HUP := Lib.hid hup
  clear hst hcut hup
  go_wp2_with fail
  refine HCUT.out.mono ?_
  rintro e w11 ⟨rfl, Tt11, hS11, hm11⟩
  obtain ⟨B2, hsd11, hmv11⟩ := HUP.out _ _ _ _ _ _ hS11 hm11
  rcases HD.out.run.split with ⟨ha0, hrun, harm⟩ | ⟨ha0, hgone, harm⟩
  rotate_left
  · have := HD.out.arm
    omega
  rw [ha0]
  have hbx10 : bx < w10.heap.size := Nat.lt_of_lt_of_le HBK9.out.lt H10.out.size
  have hnb2 : ¬ B2 bx := fun hb => by
    rcases hmv11.new bx hb with h1 | h1
    · exact HD.out.nb h1
    · omega
  have hwwc : w.heap.size ≤ wc.heap.size := HD.out.mv.size
  have hcbw : ∀ b, cb = some b → wc.heap.size ≤ b ∧ b ≠ bx ∧ b < w10.heap.size ∧ ¬ B1 b ∧ ¬ B2 b := fun b hb => by
    have h1 := HCB.out b hb
    have h2 := HCS9.out.lt b hb
    have h3 := H10.out.size
    have h4 : ¬ B1 b := fun h => by have := HD.out.sd.lt b h; omega
    refine ⟨h1.1, h1.2, by omega, h4, fun h => ?_⟩
    rcases hmv11.new b h with h5 | h5
    · exact h4 h5
    · omega
  have hown : ∀ b, b = bx → b < w11.heap.size ∧ ¬ B2 b ∧ ¬ K.A b := by
    rintro b rfl
    exact ⟨Nat.lt_of_lt_of_le hbx10 hmv11.size, hnb2, hA⟩
  have hfre : ∀ b, cb = some b → ¬ B2 b ∧ ¬ b = bx ∧ ¬ K.A b := fun b hb => by
    obtain ⟨h1, h2, -, -, h3⟩ := hcbw b hb
    exact ⟨h3, h2, by rw [HKA.out]; simp only; omega⟩
  have hcs11 : Sl w11 (.slice ca m cc) cb 34 6 (x.L.take m).length ((x.L.take m).flatMap bc6) := by
    rw [HLM.out]
    exact HCS9.out.same fun b hb => (hmv11.block b (hcbw b hb).2.2.1 (hcbw b hb).2.2.2.1).trans (H10.out.block b (HCS9.out.lt b hb))
  have hall11 : All (fun b => (b < w11.heap.size ∧ ¬ B2 b ∧ K.A b) ∨ (w11.heap.size ≤ b ∧ cb ≠ some b)) w11 (x.L.take m) := fun p hp => by
    refine Rds.keep (HALL9.out p hp) (Nat.le_trans H10.out.size hmv11.size) fun b hb hl => ⟨(hmv11.block b (Nat.lt_of_lt_of_le hl H10.out.size) hb.2).trans (H10.out.block b hl), .inl ⟨Nat.lt_of_lt_of_le (Nat.lt_of_lt_of_le hl H10.out.size) hmv11.size, fun h => ?_, by rw [HKA.out]; exact hb.1⟩⟩
    rcases hmv11.new b h with h5 | h5
    · exact hb.2 h5
    · have := hb.1; have := H10.out.size; have := hmv11.size; omega
  have hbk11 : Blk w11 bx #[.int .i64 F, .int .i64 Y, .slice ca m cc] 119 := (HBK9.out.below H10.out).same (hmv11.block bx hbx10 HD.out.nb)
  have hmvw : Moved B B2 w w11 := by
    refine ⟨hmv11.os.trans (H10.out.os.trans (HMV9.out.os.trans HD.out.mv.os)), hmv11.tape.trans (H10.out.tape.trans (HMV9.out.tape.trans HD.out.mv.tape)), hmv11.output.trans (H10.out.output.trans (HMV9.out.output.trans HD.out.mv.output)), Nat.le_trans hwwc (Nat.le_trans HMV9.out.size (Nat.le_trans H10.out.size hmv11.size)), fun k hk hn => ?_, fun k hk => ?_⟩
    · have h1 : ¬ B1 k := fun h => by
        rcases HD.out.mv.new k h with h5 | h5
        · exact hn h5
        · omega
      have h2 : k < wc.heap.size := by omega
      have h3 : k < W9.heap.size := Nat.lt_of_lt_of_le h2 HMV9.out.size
      have h4 : k < w10.heap.size := Nat.lt_of_lt_of_le h3 H10.out.size
      have h5 : ¬ k = bx := fun e => by have := HLO.out; omega
      exact (hmv11.block k h4 h1).trans ((H10.out.block k h3).trans ((HMV9.out.block k h2 h5).trans (HD.out.mv.block k hk hn)))
    · rcases hmv11.new k hk with h5 | h5
      · exact HD.out.mv.new k h5
      · right
        have := HMV9.out.size
        have := H10.out.size
        omega
  have hsc : sc3 ⟨x.first, .slice ca m cc, cb, x.L.take m⟩ = [.int .i64 F, .int .i64 Y, .slice ca m cc] := by
    unfold sc3 Sx.bts
    simp only
    rw [HF.out, show (List.map (fun x => x.1) (List.take m x.L)) = x.bts.take m from HTK.out, HYF.out]
  obtain ⟨hgb, hv, hcap⟩ := HV.out
  have hsd4 : w11.cell? ⟨s, 4, none⟩ = some (.slice (some ⟨g, o, none⟩) N cap) := by rw [← hv]; exact hsd11.lies.head.cell rfl
  have hNX := HN.out
  have hput : ∀ (wE w5 : World) (g9 q9 cap9 : Nat) (gb9 : Option Nat), Chg (fun b => b = bx) K.gb w11 wE → wE.grownBy w5 K.gb → Sl w5 (.slice (some ⟨g9, q9, none⟩) (i + 1) cap9) gb9 119 3 (i + 1) ((K.X.take i).flatMap sc3 ++ [.int .i64 F, .int .i64 Y, .slice ca m cc]) → gb9 = some g9 → (gb9 = K.gb ∨ wE.heap.size ≤ g9) →
      CutSOut w s h B tot n c (K.G.take i ++ [⟨x.first, x.bts.take m⟩]) (a + N + 1) h.life (.returned (.int .i64 0)) (w5.setCell ⟨s, 4, none⟩ (.slice (some ⟨g9, q9, none⟩) (i + 1) cap9)) ∧ w5.cell? ⟨s, 4, none⟩ = some (.slice (some ⟨g, o, none⟩) N cap) ∧ w5.frozen? ⟨s, 4, none⟩ = false := by
    intro wE w5 g9 q9 cap9 gb9 hch hg9 hs9 e9 hn9
    rw [← hsc] at hs9
    obtain ⟨B', k1, k2⟩ := hsd11.put2 (own := fun b => b = bx) hown (fre := fun b => cb = some b) hfre (i := i) (by omega) (ch := none) (fun g e => by cases e) (Chg.refl _ _ _) ⟨x.first, .slice ca m cc, cb, x.L.take m⟩ hcs11 (fun g e => .inr (.inr e)) hall11 (hch.grown hg9) _ gb9 hs9 (fun g' e => by
      rcases hn9 with h1 | h1
      · exact .inl (h1 ▸ e)
      · rw [e9] at e
        cases e
        exact .inr (Nat.le_trans hch.size h1))
    have hsB : B2 s := hsd11.os s (.inl rfl)
    have hsl : s < w11.heap.size := hsd11.lies.head.lt
    have hhead : Blk w5 s (hcells h K.v) 99 := hsd11.lies.head.same ((hg9.block s (Nat.lt_of_lt_of_le hsl hch.size) fun e => hsd11.lies.sg e.symm).trans (hch.block s hsl (by
      rintro (rfl | h1)
      · exact hnb2 hsB
      · exact hsd11.lies.sg h1)))
    refine ⟨⟨B', _, _, _, _, _, min (if i + 1 = K.G.length then sf else (frs x.bts).length) Y, rfl, ?_, k1, ?_, ?_, ?_, HD.out.n, ?_, hrun, harm HD.out.arm⟩, by rw [← hv]; exact hhead.cell rfl, hhead.free⟩
    · refine ⟨k2.os.trans hmvw.os, k2.tape.trans hmvw.tape, k2.output.trans hmvw.output, Nat.le_trans hmvw.size k2.size, fun k hk hn => ?_, fun k hk => ?_⟩
      · refine (k2.block k (Nat.lt_of_lt_of_le hk hmvw.size) ?_).trans (hmvw.block k hk hn)
        rintro ((h1 | h1) | h1)
        · have := HLO.out; omega
        · have := (hcbw k h1).1; omega
        · rcases hmvw.new k h1 with h2 | h2
          · exact hn h2
          · omega
      · rcases k2.new k hk with ((h1 | h1) | h1) | h1
        · have := HLO.out; right; omega
        · have := (hcbw k h1).1; right; omega
        · exact hmvw.new k h1
        · have := hmvw.size; right; omega
    · show (K.X.take i ++ [_]).map Sx.sg = (K.X.map Sx.sg).take i ++ [_]
      rw [List.map_append, List.map_take]
      congr 1
      show [(⟨x.first, (x.L.take m).map (·.1)⟩ : Sg)] = _
      rw [HTK.out]
    · have e1 : (frs x.bts).take Y = frs (x.bts.take m) := by rw [← HYF.out]; exact frs_cut _ _
      have hfl2 := HFC.out
      rw [HYF.out] at hfl2
      rw [e1]
      rw [HF.out]
      exact hfl2
    · have h1 := HYY.out.1
      have h2 := HD.out.tot
      have h3 := HY.out
      omega
    · rw [Ta.actS_room]; exact HD.out.room
  have hdel : ∀ wx, Below w11.heap.size w11 wx → Calls Tryz.prog 94 #[.slice (some ⟨g, o, none⟩) N cap, .int .i64 i, .int .i64 N] wx fun e w' => e = .returned (.slice (some ⟨g, o, none⟩) i cap) ∧ Sl w' (.slice (some ⟨g, o, none⟩) i cap) K.gb 119 3 i ((K.X.take i).flatMap sc3) ∧ wx.grownBy w' K.gb ∧ (w'.cell? ⟨bx, 0, none⟩ = some (.int .i64 F) ∧ w'.cell? ⟨bx, 1, none⟩ = some (.int .i64 Y) ∧ w'.cell? ⟨bx, 2, none⟩ = some (.slice ca m cc)) := fun wx hb => by
    have hsg : Sl wx (.slice (some ⟨g, o, none⟩) N cap) (some g) 119 3 N (K.X.flatMap sc3) := by
      have h1 := hsd11.lies.segs.below hb
      rw [hv, hgb, hNX] at h1
      exact h1
    have hgB : B2 g := hsd11.os g (.inr (.inl hgb))
    refine (delete_less hsg (by omega) i N hiN (Nat.le_refl _) HHX.out (sc3_one hsd11.lies)).mono ?_
    rintro e w' ⟨rfl, h1, h2⟩
    rw [show N - (N - i) = i by omega] at h1 ⊢
    rw [flat_take sc3 3 sc3_length, List.drop_of_length_le (by rw [hsg.1]; exact Nat.le_refl _), List.append_nil] at h1
    have hk : Blk w' bx #[.int .i64 F, .int .i64 Y, .slice ca m cc] 119 := (hbk11.below hb).same (h2.block bx (hbk11.below hb).lt (by rintro e; injection e with e; exact hnb2 (e ▸ hgB)))
    exact ⟨rfl, by rw [hgb]; exact h1, by rw [hgb]; exact h2, hk.cell rfl, hk.cell rfl, hk.cell rfl⟩
  have hgl11 : ∀ k, K.gb = some k → k < w11.heap.size := fun k hk => hsd11.lies.segs.lt k hk
  have hadd : ∀ (wx wD : World), Below w11.heap.size w11 wx → wx.grownBy wD K.gb → Chg (fun b => b = bx) K.gb w11 wD := fun wx wD hb hg => ((Chg.refl _ _ w11).below hb).grown hg
  have halc : ∀ o : Obj, Below w11.heap.size w11 (w11.alloc o) := fun o => (Below.refl _ _).alloc (Nat.le_refl _) o
  have hnws : ∀ (W : World) (cs : Array Value) j u, cs.toList[j]? = some u → World.cell? (W.alloc (.cells cs 119)) (Addr.add ⟨W.heap.size, 0, none⟩ j) = some u := fun W cs => World.news_of_block (cs := cs) (t := 119) (fr := (0, 0)) (heap_alloc_new W _)
  have hnwd : ∀ (wD : World) (cs : Array Value), ((w11.alloc (.cells cs 119)).drew).grownBy wD K.gb → ∀ j u, cs.toList[j]? = some u → World.cell? wD (Addr.add ⟨w11.heap.size, 0, none⟩ j) = some u := fun wD cs hg => World.news_of_block (cs := cs) (t := 119) (fr := (0, 0)) (by
    have h1 := hg.block w11.heap.size (by show w11.heap.size < (w11.alloc (.cells cs 119)).heap.size; simp) (fun e => by have := hgl11 _ e.symm; omega)
    exact h1.trans (heap_alloc_new w11 _))
  have b0 : w11.cell? ⟨bx, 0, none⟩ = some (.int .i64 F) := hbk11.cell rfl
  have b3 : w11.cell? ⟨bx, 1, none⟩ = some (.int .i64 Y) := hbk11.cell rfl
  have b4 : w11.cell? ⟨bx, 2, none⟩ = some (.slice ca m cc) := hbk11.cell rfl
  obtain ⟨i1, hi1, hy0, hy1, hy2⟩ := infoSg
  have hNb := HHX.out
  have HBY : Hid ((i + 1) * 40 ≤ 140737488355328) := Lib.hid (by omega)
  have H63 : Hid (i + 1 ≤ 9223372036854775807) := Lib.hid (by omega)
  have hslt : s < w11.heap.size := hsd11.lies.head.lt
  have hicap : i ≤ cap := by omega
  have HPUT := Lib.hid hput
  have HDEL := Lib.hid hdel
  have HADD := Lib.hid hadd
  have HALC := Lib.hid halc
  have HNWS := Lib.hid hnws
  have HNWD := Lib.hid hnwd
  clear hput hdel hadd halc hnws hnwd hgl11 hsd11 hS11 hm11 hmv11 hrun harm ha0 hbx10 hnb2 hwwc hcbw hown hfre hcs11 hall11 hbk11 hmvw hsc hv hgb htl HCUT HUP HSD9 HBK9 HCS9 HALL9 HMV9 HFI HFC HYY HM HW9 H10 HYF HTK HLM HHY HCB HS8 HW8 HD HLO HV hA hlc
  go_upto_region 21 with fail
  go_region_law (first
    | (go_simp; go_at_call 94; refine (HDEL.out _ (by first | exact Below.refl _ _ | exact (Below.refl _ _).drew | exact (HALC.out _).drew)).mono ?_; rintro e wD ⟨rfl, hsD, hgD, x0, x1, x2⟩; have HSD := Lib.hid hsD; have HGD := Lib.hid hgD; clear hsD hgD)
    | (refine step_append_sl _ (by rfl) _ _ _ (by rfl) 119 i1 (.agg #[.int .i64 0, .int .i64 0, .slice none 0 0]) 3 40 Tryz.underlying97 hi1 hy0 hy1 hy2 rfl (.slice (some ⟨g, o, none⟩) i cap) K.gb i ((K.X.take i).flatMap sc3) (by rfl) (HSD.out.same fun k hk => Below.heap_alloc _ _ _ (HSD.out.lt k hk)) ⟨wD.heap.size, 0, none⟩ 1 1 [.int .i64 F, .int .i64 Y, .slice ca m cc] (by rfl) (by rfl) (HNWS.out wD #[.int .i64 F, .int .i64 Y, .slice ca m cc]) (by simp [Value.oneCell']) (by decide) HBY.out H63.out ?_; intro g9 q9 cap9 w9' gb9 hown9 hgrow9 hgb9 hnew9; obtain ⟨hT9, c9, f9⟩ := HPUT.out _ w9' g9 q9 cap9 gb9 ((HADD.out _ _ ((Below.refl _ _).drew) HGD.out).alloc _) hgrow9 hown9 hgb9 hnew9; have HT9 := Lib.hid hT9; clear hT9 hown9 hgrow9 hgb9 hnew9)
    | (refine step_append_sl _ (by rfl) _ _ _ (by rfl) 119 i1 (.agg #[.int .i64 0, .int .i64 0, .slice none 0 0]) 3 40 Tryz.underlying97 hi1 hy0 hy1 hy2 rfl (.slice (some ⟨g, o, none⟩) i cap) K.gb i ((K.X.take i).flatMap sc3) (by rfl) HSD.out ⟨w11.heap.size, 0, none⟩ 1 1 [.int .i64 F, .int .i64 Y, .slice ca m cc] (by rfl) (by rfl) (HNWD.out wD #[.int .i64 F, .int .i64 Y, .slice ca m cc] HGD.out) (by simp [Value.oneCell']) (by decide) HBY.out H63.out ?_; intro g9 q9 cap9 w9' gb9 hown9 hgrow9 hgb9 hnew9; obtain ⟨hT9, c9, f9⟩ := HPUT.out _ w9' g9 q9 cap9 gb9 (HADD.out _ _ ((HALC.out _).drew) HGD.out) hgrow9 hown9 hgb9 hnew9; have HT9 := Lib.hid hT9; clear hT9 hown9 hgrow9 hgb9 hnew9)
    | fail)
  all_goals (go_wp2_with fail)
  all_goals go_ret
  all_goals exact HT9.out
end Go.Proofs.YtdaoeplblkfapaaGreatDoor
