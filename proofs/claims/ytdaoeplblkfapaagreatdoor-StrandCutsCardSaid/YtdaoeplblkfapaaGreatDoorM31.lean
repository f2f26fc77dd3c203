import Derived.Test.YtdaoeplblkfapaaGreatDoorM17
import Derived.Test.YtdaoeplblkfapaaGreatDoorM20
import Derived.Test.YtdaoeplblkfapaaGreatDoorM14

/- THE CONTRACT OF strand's Cut. -/
namespace Go.Proofs.YtdaoeplblkfapaaGreatDoor
open Go.RowKit

/-- Of a strand without segments nothing is cut. -/
theorem cutS_none {w : World} {s : Nat} {h : Hs} {B : Nat → Prop} {f : Ta.View} {tot n : Nat} {c : Ta.Sc} {K : Kx} (kk : Sd w s h B f tot n c K) (hK : K.X = []) (hlf : c.life = h.life) (hl : h.life ≤ 1099511627776) (off : Int) (ho : off = 0 ∨ off = 1) :
    Calls Tryz.prog 44 #[.pointer (some ⟨s, 0, none⟩), .int .i64 off] w fun e w' => e = .returned (.int .i64 off) ∧ Below w.heap.size w w' := by
  have HR := Lib.hid (readyS_ok kk hlf hl)
  have HS := Lib.hid fun (wx : World) (hbx : Below w.heap.size w wx) => start_any (kk.below hbx).lies (by rw [hK]; exact Nat.zero_le _)
  have HE := Lib.hid fun (wx : World) (hbx : Below w.heap.size w wx) => endS_any (kk.below hbx).lies (by rw [hK]; exact Nat.zero_le _) (by rw [hK]; intro g hg; cases hg) (by rw [hK]; intro x hx; cases hx)
  rw [hK] at HS HE
  simp only [List.map_nil, gsStart, gsEnd] at HS HE
  obtain ⟨ka, kc, hkv⟩ := kk.lies.segs.form
  rw [hK] at hkv
  have hks := kk.lies.head.lt
  have c4 : w.cell? ⟨s, 4, none⟩ = some (.slice ka 0 kc) := by rw [← show K.v = .slice ka 0 kc from hkv]; exact kk.lies.head.cell rfl
  clear kk hK hkv
  rcases ho with rfl | rfl
  · go_enter Tryz.func44, Tryz.ntmps44
    go_wp2_with fail
    refine HR.out.mono ?_
    rintro e w1 ⟨rfl, b1⟩
    have HB1 := Lib.hid b1
    clear b1
    go_wp2_with fail
    refine (HS.out _ HB1.out).mono ?_
    rintro e _ ⟨rfl, rfl⟩
    go_wp2_with fail
    refine (HE.out _ HB1.out).mono ?_
    rintro e w2 ⟨rfl, b2⟩
    have d4 : w2.cell? ⟨s, 4, none⟩ = some (.slice ka 0 kc) := ((HB1.out.trans (b2.mono HB1.out.size)).cell (p := ⟨s, 4, none⟩) hks).trans c4
    have HB2 := Lib.hid (HB1.out.trans (b2.mono HB1.out.size))
    clear b2
    go_wp2_with fail
    go_ret
    exact ⟨rfl, HB2.out⟩
  · go_enter Tryz.func44, Tryz.ntmps44
    go_wp2_with fail
    refine HR.out.mono ?_
    rintro e w1 ⟨rfl, b1⟩
    have HB1 := Lib.hid b1
    clear b1
    go_wp2_with fail
    refine (HS.out _ HB1.out).mono ?_
    rintro e _ ⟨rfl, rfl⟩
    go_wp2_with fail
    refine (HE.out _ HB1.out).mono ?_
    rintro e w2 ⟨rfl, b2⟩
    have HB2 := Lib.hid (HB1.out.trans (b2.mono HB1.out.size))
    clear b2
    go_wp2_with fail
    go_ret
    exact ⟨rfl, HB2.out⟩
set_option maxHeartbeats 4000000 in
set_option maxRecDepth 100000 in
/-- A batch stands across the offset. -/
theorem cutS_bad {w : World} {s : Nat} {h : Hs} {B : Nat → Prop} {f : Ta.View} {tot n : Nat} {c : Ta.Sc} {K : Kx} (kk : Sd w s h B f tot n c K) (hlog : Log K.G) (hfit : Fit K.G) (hlf : c.life = h.life) (hl : h.life ≤ 1099511627776) (off : Int) (ho : gsStart K.G ≤ off ∧ off ≤ gsEnd K.G)
    {i : Nat} (hi : leftN K.G off - 1 = i) {x : Sx} (hx : K.X[i]? = some x) {m : Nat} (hm : upN x.bts off = m) {b : Pl.Bt} {rv : Value} (hb : x.L[m]? = some (b, rv)) (hbo : b.base < off) :
    Calls Tryz.prog 44 #[.pointer (some ⟨s, 0, none⟩), .int .i64 off] w fun e w' => e = .returned (.int .i64 1) ∧ Below w.heap.size w w' := by
  have hX : K.X.length ≤ 1048576 := by have h1 := hfit.segs; simpa [Kx.G] using h1
  have hLm : ∀ y ∈ K.X, y.L.length ≤ 1048576 := fun y hy => by
    have := hfit.lists y.sg (List.mem_map.2 ⟨y, hy, rfl⟩)
    simpa [Sx.sg, Sx.bts] using this
  have hxm := List.mem_of_getElem? hx
  have HR := Lib.hid (readyS_ok kk hlf hl)
  have HS := Lib.hid fun (wx : World) (hbx : Below w.heap.size w wx) => start_any (kk.below hbx).lies hX
  have HE := Lib.hid fun (wx : World) (hbx : Below w.heap.size w wx) => endS_any (kk.below hbx).lies hX hlog.chs hLm
  have HL := Lib.hid fun (wx : World) (hbx : Below w.heap.size w wx) => left_any (kk.below hbx).lies off hX hlog.rises
  rw [show leftN (K.X.map Sx.sg) off - 1 = i from hi] at HL
  obtain ⟨st, hst⟩ : ∃ st, gsStart (K.X.map Sx.sg) = st := ⟨_, rfl⟩
  obtain ⟨en, hen⟩ : ∃ en, gsEnd (K.X.map Sx.sg) = en := ⟨_, rfl⟩
  rw [hst] at HS
  rw [hen] at HE
  have b1 : decide (off < st) = false := by have := ho.1; unfold Kx.G at this; rw [hst] at this; simp; omega
  have b2 : decide (en < off) = false := by have := ho.2; unfold Kx.G at this; rw [hen] at this; simp; omega
  obtain ⟨la, lc, hlv⟩ := (kk.lies.lists x hxm).form
  obtain ⟨ml, hml⟩ : ∃ ml, x.L.length = ml := ⟨_, rfl⟩
  obtain ⟨y, hy⟩ : ∃ y, (frs x.bts).length = y := ⟨_, rfl⟩
  obtain ⟨F, hF⟩ : ∃ F, x.first = F := ⟨_, rfl⟩
  have HU := Lib.hid fun (wx : World) (hbx : Below w.heap.size w wx) => upto_any x.first (y : Int) off x.lv x.L wx ((kk.below hbx).lies.list hxm) (hlog.chs x.sg (List.mem_map.2 ⟨x, hxm, rfl⟩)) (hLm x hxm)
  rw [show upN (x.L.map (·.1)) off = m from hm, hF, hlv, hml] at HU
  obtain ⟨g, o, cap, hgb, hv, hcap, hgl, k0, k1, k2⟩ := kk.lies.get hx
  rw [hF] at k0
  rw [hy] at k1
  rw [hlv, hml] at k2
  obtain ⟨N, hN⟩ : ∃ N, K.X.length = N := ⟨_, rfl⟩
  have hiN : i < N := by rw [← hN]; exact (List.getElem?_eq_some_iff.1 hx).1
  rw [hN] at hv hX
  have c4 : w.cell? ⟨s, 4, none⟩ = some (.slice (some ⟨g, o, none⟩) N cap) := by rw [← hv]; exact kk.lies.head.cell rfl
  have hks := kk.lies.head.lt
  obtain ⟨bl, bo, bcap, e1, -, hbl, hq, -⟩ := (kk.lies.list hxm).at hb
  have hmm : m < ml := by rw [← hml]; exact (List.getElem?_eq_some_iff.1 hb).1
  rw [hlv, hml] at e1
  injection e1 with e2 e3 e4
  subst e2 e4
  have q0 : w.cell? ⟨bl, bo + m * 6, none⟩ = some (.int .i64 b.base) := hq 0 _ (by decide) rfl
  have hN0 : ((N : Int) == 0) = false := by simp; omega
  have hd1 : decide (m < ml) = true := by simp; omega
  have hd2 : decide (b.base < off) = true := by simp; omega
  obtain ⟨bb, hbb⟩ : ∃ bb, b.base = bb := ⟨_, rfl⟩
  rw [hbb] at q0 hd2
  have HHX := Lib.hid hX
  clear kk hlog hfit hi hx hm hb hbo hLm hxm hst hen ho hlv hml hy hF hgb hv hcap hN hq hbb hX
  go_enter Tryz.func44, Tryz.ntmps44
  go_wp2_with fail
  refine HR.out.mono ?_
  rintro e w1 ⟨rfl, h1⟩
  have HB1 := Lib.hid h1
  clear h1
  go_wp2_with fail
  refine (HS.out _ HB1.out).mono ?_
  rintro e _ ⟨rfl, rfl⟩
  go_wp2_with fail
  refine (HE.out _ HB1.out).mono ?_
  rintro e w2 ⟨rfl, h2⟩
  have d4 : w2.cell? ⟨s, 4, none⟩ = some (.slice (some ⟨g, o, none⟩) N cap) := ((HB1.out.trans (h2.mono HB1.out.size)).cell (p := ⟨s, 4, none⟩) hks).trans c4
  have HB2 := Lib.hid (HB1.out.trans (h2.mono HB1.out.size))
  clear h2 c4
  go_wp2_with fail
  refine (HL.out _ HB2.out).mono ?_
  rintro e w3 ⟨rfl, h3⟩
  have hb3 := HB2.out.trans (h3.mono HB2.out.size)
  have d4' : w3.cell? ⟨s, 4, none⟩ = some (.slice (some ⟨g, o, none⟩) N cap) := (h3.cell (p := ⟨s, 4, none⟩) (Nat.lt_of_lt_of_le hks HB2.out.size)).trans d4
  have m0 : w3.cell? ⟨g, o + i * 3, none⟩ = some (.int .i64 F) := (hb3.cell (p := ⟨g, _, none⟩) hgl).trans k0
  have m1 : w3.cell? ⟨g, o + i * 3 + 1, none⟩ = some (.int .i64 y) := (hb3.cell (p := ⟨g, _, none⟩) hgl).trans k1
  have m2 : w3.cell? ⟨g, o + i * 3 + 2, none⟩ = some (.slice (some ⟨bl, bo, none⟩) ml lc) := (hb3.cell (p := ⟨g, _, none⟩) hgl).trans k2
  have HB3 := Lib.hid hb3
  have i0 : (0 : Int) ≤ (i : Int) := by omega
  have i1 : (i : Int) < (N : Int) := by omega
  have i2 : (0 : Int) ≤ (m : Int) := by omega
  have i3 : (m : Int) < (ml : Int) := by omega
  obtain ⟨W4, hW4⟩ : ∃ W4, w3.alloc (.cells #[.int .i64 F, .int .i64 y, .slice (some ⟨bl, bo, none⟩) ml lc] 119) = W4 := ⟨_, rfl⟩
  have hb4 : Below w3.heap.size w3 W4 := by rw [← hW4]; exact (Below.refl _ _).alloc (Nat.le_refl _) _
  have hg4 : Blk W4 w3.heap.size #[.int .i64 F, .int .i64 y, .slice (some ⟨bl, bo, none⟩) ml lc] 119 := by rw [← hW4]; exact Blk.new _ _ _
  have hbw4 := HB3.out.trans (hb4.mono HB3.out.size)
  have HU4 := Lib.hid (HU.out _ hbw4)
  have HB4 := Lib.hid hbw4
  have HG4 := Lib.hid hg4
  have p0 : W4.cell? ⟨w3.heap.size, 0, none⟩ = some (.int .i64 F) := hg4.cell rfl
  have p1 : W4.cell? ⟨w3.heap.size, 1, none⟩ = some (.int .i64 y) := hg4.cell rfl
  have p2 : W4.cell? ⟨w3.heap.size, 2, none⟩ = some (.slice (some ⟨bl, bo, none⟩) ml lc) := hg4.cell rfl
  clear h3 hb3 d4 k0 k1 k2 hb4 hbw4 hg4 HU
  go_wp2_with fail
  refine HU4.out.mono ?_
  rintro e w5 ⟨rfl, h5⟩
  have hg5 := HG4.out.below h5
  have hb5 := HB4.out.trans (h5.mono HB4.out.size)
  have n2 : w5.cell? ⟨w3.heap.size, 2, none⟩ = some (.slice (some ⟨bl, bo, none⟩) ml lc) := hg5.cell rfl
  have n3 : w5.cell? ⟨bl, bo + m * 6, none⟩ = some (.int .i64 bb) := (hb5.cell (p := ⟨bl, _, none⟩) hbl).trans q0
  have HB5 := Lib.hid hb5
  clear h5 hg5 hb5 q0 HU4
  go_wp2_with fail
  go_ret
  exact ⟨rfl, HB5.out⟩
end Go.Proofs.YtdaoeplblkfapaaGreatDoor

/- A strand's segment is put anew, its list in a block that lay there already; a block beside a strand is written. -/
namespace Go.Proofs.YtdaoeplblkfapaaGreatDoor
open Go.RowKit

theorem Sd.beside {w : World} {s : Nat} {h : Hs} {B : Nat → Prop} {f : Ta.View} {tot n : Nat} {c : Ta.Sc} {K : Kx} (k : Sd w s h B f tot n c K) {b : Nat} (hb : ¬ B b) (hA : ¬ K.A b) (i : Nat) (v : Value) : Sd (w.setCell ⟨b, i, none⟩ v) s h B f tot n c K := by
  obtain ⟨T, k1, k2, k4, k5⟩ := k
  refine ⟨T, k1.beside (fun h => hb ((k4 b).2 (.inl h))) i v, k2.keep (by simp [World.setCell]) (fun b' hb' => Below.heap_setCell _ _ _ _ ?_) (fun b' hb' _ => ⟨Below.heap_setCell _ _ _ _ ?_, hb'⟩), k4, k5⟩
  · rintro rfl; exact hb ((k4 _).2 (.inr hb'))
  · rintro rfl; exact hA hb'.2
theorem Sd.put2 {w1 w3 w5 : World} {s : Nat} {h : Hs} {B : Nat → Prop} {f : Ta.View} {tot n : Nat} {c : Ta.Sc} {K : Kx} (k : Sd w1 s h B f tot n c K) {own : Nat → Prop} (hown : ∀ b, own b → b < w1.heap.size ∧ ¬ B b ∧ ¬ K.A b) {fre : Nat → Prop} (hfre : ∀ b, fre b → ¬ B b ∧ ¬ own b ∧ ¬ K.A b) {i : Nat} (hi : i ≤ K.X.length) {ch : Option Nat} (hch : ∀ g, ch = some g → ∃ x, K.X[i]? = some x ∧ x.lb = some g)
    (m1 : Chg own ch w1 w3) (x' : Sx) (hl : Sl w3 x'.lv x'.lb 34 6 x'.L.length (x'.L.flatMap bc6)) (hlb : ∀ g, x'.lb = some g → ch = some g ∨ w1.heap.size ≤ g ∨ fre g)
    (hr : All (fun b => (b < w1.heap.size ∧ ¬ B b ∧ K.A b) ∨ (w1.heap.size ≤ b ∧ x'.lb ≠ some b)) w3 x'.L)
    (m2 : Chg own K.gb w3 w5) (v' : Value) (gb' : Option Nat) (hs : Sl w5 v' gb' 119 3 (i + 1) ((K.X.take i).flatMap sc3 ++ sc3 x')) (hgb : ∀ g, gb' = some g → K.gb = some g ∨ w3.heap.size ≤ g) :
    ∃ B', Sd (w5.setCell ⟨s, 4, none⟩ v') s h B' f tot n c ⟨K.X.take i ++ [x'], v', gb', fun _ => True⟩ ∧ Moved (fun b => (own b ∨ fre b) ∨ B b) B' w1 (w5.setCell ⟨s, 4, none⟩ v') := by
  obtain ⟨T, k1, k2, k4, k5⟩ := k
  have hsB : B s := (k4 s).2 (.inr (.inl rfl))
  have hgB : ∀ g, K.gb = some g → B g := fun g hg => (k4 g).2 (.inr (.inr (.inl hg)))
  have hxB : ∀ x ∈ K.X, ∀ g, x.lb = some g → B g := fun x hx g hg => (k4 g).2 (.inr (.inr (.inr ⟨x, hx, hg⟩)))
  have hTB : ∀ b, T b → B b := fun b hb => (k4 b).2 (.inl hb)
  have hBl : ∀ b, B b → b < w1.heap.size := fun b hb => by
    rcases (k4 b).1 hb with h5 | h5
    · exact k1.lt b h5
    · exact k2.lt b h5
  have hcB : ∀ g, ch = some g → B g := fun g hg => let ⟨x, hx, e⟩ := hch g hg; hxB x (List.mem_of_getElem? hx) g e
  have hs1 : w1.heap.size ≤ w3.heap.size := m1.size
  have hs2 : w3.heap.size ≤ w5.heap.size := m2.size
  -- what is of B, and neither changed block, is as it was
  have keep1 : ∀ b, b < w1.heap.size → ¬ own b → ch ≠ some b → w3.heap[b]? = w1.heap[b]? := fun b hb h1 h2 => m1.block b hb fun h => h.elim h1 h2
  have keep2 : ∀ b, b < w3.heap.size → ¬ own b → K.gb ≠ some b → w5.heap[b]? = w3.heap[b]? := fun b hb h1 h2 => m2.block b hb fun h => h.elim h1 h2
  have keep3 : ∀ b, b ≠ s → (w5.setCell ⟨s, 4, none⟩ v').heap[b]? = w5.heap[b]? := fun b hb => Below.heap_setCell _ _ _ _ hb
  have nown : ∀ b, B b → ¬ own b := fun b hb ho => (hown b ho).2.1 hb
  have keep : ∀ b, B b → b ≠ s → ch ≠ some b → K.gb ≠ some b → (w5.setCell ⟨s, 4, none⟩ v').heap[b]? = w1.heap[b]? := fun b hb h1 h2 h3 =>
    (keep3 b h1).trans ((keep2 b (Nat.lt_of_lt_of_le (hBl b hb) hs1) (nown b hb) h3).trans (keep1 b (hBl b hb) (nown b hb) h2))
  have hcs : ch ≠ some s := fun e => let ⟨x, hx, e'⟩ := hch s e; (k2.sl x (List.mem_of_getElem? hx)).1 e'
  have hcg : ∀ g, ch = some g → K.gb ≠ some g := fun g e => let ⟨x, hx, e'⟩ := hch g e; (k2.sl x (List.mem_of_getElem? hx)).2 g e'
  have hgs : gb' ≠ some s := fun e => by
    rcases hgb s e with h1 | h1
    · exact k2.sg h1
    · have := hBl s hsB; omega
  have hls : x'.lb ≠ some s := fun e => by
    rcases hlb s e with h1 | h1 | h1
    · exact hcs h1
    · have := hBl s hsB; omega
    · exact (hfre s h1).1 hsB
  have hl3 : ∀ g, x'.lb = some g → g < w3.heap.size := fun g e => hl.lt g e
  have hlown : ∀ g, x'.lb = some g → ¬ own g := fun g e ho => by
    rcases hlb g e with h1 | h1 | h1
    · exact nown g (hcB g h1) ho
    · have := (hown g ho).1; omega
    · exact (hfre g h1).2.1 ho
  have hlg : ∀ g, x'.lb = some g → K.gb ≠ some g := fun g e e2 => by
    rcases hlb g e with h1 | h1 | h1
    · exact hcg g h1 e2
    · have := hBl g (hgB g e2); omega
    · exact (hfre g h1).1 (hgB g e2)
  have hlg' : ∀ g, x'.lb = some g → gb' ≠ some g := fun g e e2 => by
    rcases hgb g e2 with h1 | h1
    · exact hlg g e h1
    · have := hl3 g e; omega
  -- the segments ahead
  have htm : ∀ y ∈ K.X.take i, y ∈ K.X := fun y hy => List.mem_of_mem_take hy
  have htch : ∀ y ∈ K.X.take i, ∀ g, y.lb = some g → ch ≠ some g := fun y hy g e e2 => by
    obtain ⟨x, hx, e'⟩ := hch g e2
    obtain ⟨j, hj⟩ := List.getElem?_of_mem hy
    have hjl := (List.getElem?_eq_some_iff.1 hj).1
    rw [List.length_take] at hjl
    have hji : j < i := by omega
    rw [List.getElem?_take_of_lt hji] at hj
    have hil := (List.getElem?_eq_some_iff.1 hx).1
    have hjl' := (List.getElem?_eq_some_iff.1 hj).1
    have := List.pairwise_iff_getElem.1 k2.apart j i hjl' hil hji g
    rw [(List.getElem?_eq_some_iff.1 hj).2, (List.getElem?_eq_some_iff.1 hx).2] at this
    exact this e e'
  have hB' : ∀ b, (T b ∨ Os s gb' (K.X.take i ++ [x']) b) → B b ∨ w1.heap.size ≤ b ∨ fre b := by
    rintro b (hb | rfl | hb | ⟨y, hy, hb⟩)
    · exact .inl (hTB b hb)
    · exact .inl hsB
    · exact (hgb b hb).imp (hgB b) (fun h => .inl (Nat.le_trans hs1 h))
    · rcases List.mem_append.1 hy with hy | hy
      · exact .inl (hxB y (htm y hy) b hb)
      · rw [List.mem_singleton.1 hy] at hb
        exact (hlb b hb).imp (hcB b) id
  have hTn : ∀ b, T b → (w5.setCell ⟨s, 4, none⟩ v').heap[b]? = w1.heap[b]? := fun b hb => keep b (hTB b hb) (fun e => k5 b hb (.inl e)) (fun e => by
      obtain ⟨x, hx, e'⟩ := hch b e
      exact k5 b hb (.inr (.inr ⟨x, List.mem_of_getElem? hx, e'⟩))) (fun e => k5 b hb (.inr (.inl e)))
  have hTO : ∀ b, T b → ¬ Os s gb' (K.X.take i ++ [x']) b := by
    rintro b hb (rfl | h1 | ⟨y, hy, h1⟩)
    · exact k5 b hb (.inl rfl)
    · rcases hgb b h1 with h2 | h2
      · exact k5 b hb (.inr (.inl h2))
      · have := k1.lt b hb; omega
    · rcases List.mem_append.1 hy with hy | hy
      · exact k5 b hb (.inr (.inr ⟨y, htm y hy, h1⟩))
      · rw [List.mem_singleton.1 hy] at h1
        rcases hlb b h1 with h2 | h2 | h2
        · obtain ⟨x, hx, e'⟩ := hch b h2
          exact k5 b hb (.inr (.inr ⟨x, List.mem_of_getElem? hx, e'⟩))
        · have := k1.lt b hb; omega
        · exact (hfre b h2).1 (hTB b hb)
  refine ⟨fun b => T b ∨ Os s gb' (K.X.take i ++ [x']) b, ⟨T, k1.same hTn, ?_, fun b => Iff.rfl, hTO⟩, ?_⟩
  · refine ⟨?_, ?_, ?_, ?_, hgs, ?_, ?_⟩
    · have h1 : Blk w5 s (hcells h K.v) 99 := k2.head.same (((keep2 s (Nat.lt_of_lt_of_le (hBl s hsB) hs1) (nown s hsB) k2.sg)).trans (keep1 s (hBl s hsB) (nown s hsB) hcs))
      exact h1.set (i := 4) v'
    · have e : (K.X.take i ++ [x']).length = i + 1 := by simp [Nat.min_eq_left hi]
      show Sl _ v' gb' _ 3 (K.X.take i ++ [x']).length ((K.X.take i ++ [x']).flatMap sc3)
      rw [e, flat_snoc3]
      exact hs.same fun b hb => keep3 b (by rintro rfl; exact hgs hb)
    · intro y hy
      rcases List.mem_append.1 hy with hy | hy
      · refine (k2.lists y (htm y hy)).same fun b hb => ?_
        have hyl := k2.sl y (htm y hy)
        exact keep b (hxB y (htm y hy) b hb) (by rintro rfl; exact hyl.1 hb) (htch y hy b hb) (hyl.2 b hb)
      · rw [List.mem_singleton.1 hy]
        exact hl.same fun b hb => (keep3 b (by rintro rfl; exact hls hb)).trans (keep2 b (hl3 b hb) (hlown b hb) (hlg b hb))
    · intro y hy
      have hsz : w1.heap.size ≤ (w5.setCell ⟨s, 4, none⟩ v').heap.size := by
        have : (w5.setCell ⟨s, 4, none⟩ v').heap.size = w5.heap.size := by simp [World.setCell]
        omega
      have hold : ∀ b, b < w1.heap.size → ¬ B b → K.A b → (w5.setCell ⟨s, 4, none⟩ v').heap[b]? = w1.heap[b]? ∧ ¬ (T b ∨ Os s gb' (K.X.take i ++ [x']) b) ∧ True := fun b hl hb hA => by
        have ho : ¬ own b := fun ho => (hown b ho).2.2 hA
        refine ⟨(keep3 b (by rintro rfl; exact hb hsB)).trans ((keep2 b (Nat.lt_of_lt_of_le hl hs1) ho fun e => hb (hgB b e)).trans (keep1 b hl ho fun e => hb (hcB b e))), fun h' => ?_, trivial⟩
        rcases hB' b h' with h1 | h1 | h1
        · exact hb h1
        · omega
        · exact (hfre b h1).2.2 hA
      rcases List.mem_append.1 hy with hy | hy
      · exact (k2.recs y (htm y hy)).keep hsz fun b hb hl => hold b hl hb.1 hb.2
      · rw [List.mem_singleton.1 hy]
        refine hr.keep (by simp only [World.setCell, Array.size_modify]; omega) fun b hb hl => ?_
        rcases hb with ⟨h1, h2, h3⟩ | ⟨h1, h2⟩
        · have ho : ¬ own b := fun ho => (hown b ho).2.2 h3
          exact ⟨(hold b h1 h2 h3).1.trans (keep1 b h1 ho fun e => h2 (hcB b e)).symm, (hold b h1 h2 h3).2⟩
        · have hnB : ¬ B b := fun hb => by have := hBl b hb; omega
          refine ⟨(keep3 b (by rintro rfl; exact hnB hsB)).trans (keep2 b hl (fun ho => by have := (hown b ho).1; omega) fun e => hnB (hgB b e)), ?_, trivial⟩
          rintro (h3 | rfl | h3 | ⟨z, hz, h3⟩)
          · exact hnB (hTB b h3)
          · exact hnB hsB
          · rcases hgb b h3 with h4 | h4
            · exact hnB (hgB b h4)
            · omega
          · rcases List.mem_append.1 hz with hz | hz
            · exact hnB (hxB z (htm z hz) b h3)
            · rw [List.mem_singleton.1 hz] at h3
              exact h2 h3
    · intro y hy
      rcases List.mem_append.1 hy with hy | hy
      · have hyl := k2.sl y (htm y hy)
        refine ⟨hyl.1, fun g hg e => ?_⟩
        rcases hgb g e with h1 | h1
        · exact hyl.2 g hg h1
        · have := hBl g (hxB y (htm y hy) g hg); omega
      · rw [List.mem_singleton.1 hy]
        exact ⟨hls, hlg'⟩
    · rw [List.pairwise_append]
      refine ⟨k2.apart.sublist (List.take_sublist _ _), List.pairwise_singleton _ _, fun y hy z hz g hg e => ?_⟩
      rw [List.mem_singleton.1 hz] at e
      rcases hlb g e with h1 | h1 | h1
      · exact htch y hy g hg h1
      · have := hBl g (hxB y (htm y hy) g hg); omega
      · exact (hfre g h1).1 (hxB y (htm y hy) g hg)
  · refine ⟨m2.os.trans m1.os, m2.tape.trans m1.tape, m2.output.trans m1.output, by simp only [World.setCell, Array.size_modify]; omega, fun b hb hn => ?_, fun b hb => ?_⟩
    rotate_left
    · rcases hB' b hb with h | h | h
      · exact .inl (.inr h)
      · exact .inr h
      · exact .inl (.inl (.inr h))
    have ho : ¬ own b := fun ho => hn (.inl (.inl ho))
    have hb' : ¬ B b := fun hb => hn (.inr hb)
    exact (keep3 b (by rintro rfl; exact hb' hsB)).trans ((keep2 b (Nat.lt_of_lt_of_le hb hs1) ho fun e => hb' (hgB b e)).trans (keep1 b hb ho fun e => hb' (hcB b e)))
end Go.Proofs.YtdaoeplblkfapaaGreatDoor
