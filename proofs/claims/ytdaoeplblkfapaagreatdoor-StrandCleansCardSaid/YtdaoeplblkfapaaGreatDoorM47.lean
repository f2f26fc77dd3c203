import Derived.Test.YtdaoeplblkfapaaGreatDoorM46
import Derived.Test.YtdaoeplblkfapaaGreatDoorM28
import Derived.Test.YtdaoeplblkfapaaGreatDoorM29

/- Put as the laws meet it. -/
namespace Go.Proofs.YtdaoeplblkfapaaGreatDoor
open Go.RowKit

set_option maxHeartbeats 1000000 in
set_option maxRecDepth 100000 in
theorem putS_bad {w : World} {s : Nat} {h : Hs} {B : Nat → Prop} {f : Ta.View} {tot n : Nat} {c : Ta.Sc} {K : Kx} (kk : Sd w s h B f tot n c K) (hlf : c.life = h.life) (hl : h.life ≤ 1099511627776) (hX : K.X.length ≤ 1048576) (x : Int) (hx : x < 0 ∨ (K.X.length : Int) - 2 < x) (v : Value) :
    Calls Tryz.prog 40 #[.pointer (some ⟨s, 0, none⟩), .int .i64 x, v] w fun e w' => e = .returned (.int .i64 1) ∧ Below w.heap.size w w' := by
  have HR := Lib.hid (readyS_ok kk hlf hl)
  have k2 := kk.lies
  obtain ⟨a, cap, hv⟩ := k2.segs.form
  obtain ⟨N, hN⟩ : ∃ N, K.X.length = N := ⟨_, rfl⟩
  rw [hN] at hX hx hv
  have c4 : w.cell? ⟨s, 4, none⟩ = some (.slice a N cap) := by rw [← hv]; exact k2.head.cell rfl
  have hs := k2.head.lt
  have hwN : IntKind.i64.wrap ((N : Int) - 2) = (N : Int) - 2 := IntWalk.i64_in _ (by omega)
  clear k2 kk hlf hv hN
  go_enter Tryz.func40, Tryz.ntmps40
  go_wp2_with fail
  refine HR.out.mono ?_
  rintro e w1 ⟨rfl, b1⟩
  have c4' : w1.cell? ⟨s, 4, none⟩ = some (.slice a N cap) := (b1.cell (p := ⟨s, 4, none⟩) hs).trans c4
  have HB := Lib.hid b1
  clear b1 c4
  by_cases h0 : x < 0
  · have d1 : decide (x < 0) = true := by simpa using h0
    go_wp2_with fail
    go_ret
    exact ⟨rfl, HB.out⟩
  · have d1 : decide (x < 0) = false := by simpa using h0
    have d2 : decide ((N : Int) - 2 < x) = true := by simp; omega
    go_wp2_with fail
    go_ret
    exact ⟨rfl, HB.out⟩
section
variable {w0 W : World} {t s m l : Nat} {E : En} {G : List Sg} {Q : Nat → Prop} {y : Bool}
theorem Opd.put_bad (L : Opd w0 t s E m l G Q y W) (x : Int) (hx : x < 0 ∨ (G.length : Int) - 2 < x) (v : Value) :
    Calls Tryz.prog 40 #[.pointer (some ⟨s, 0, none⟩), .int .i64 x, v] W fun e W' => e = .returned (.int .i64 1) ∧ Below W.heap.size W W' := by
  obtain ⟨B, f, tot, n, c, K, sf, h1, rfl, h3, h4, h5⟩ := L
  have hlm := h1.life
  have hmx := h1.max_
  have hok3 := h1.ok.2.2.1
  have e : K.G.length = K.X.length := List.length_map _
  exact putS_bad h1.sd h1.run.life (by show l ≤ _; omega) h1.small.1 x (by rw [← e]; exact hx) v
/-- Seg at whatever place. -/
theorem Opd.seg_any (L : Opd w0 t s E m l G Q y W) (x : Int) :
    Calls Tryz.prog 38 #[.pointer (some ⟨s, 0, none⟩), .int .i64 x] W fun e W' => ∃ v, e = .returned v ∧ Below W.heap.size W W' := by
  by_cases hx : x < 0 ∨ (G.length : Int) ≤ x
  · obtain ⟨B, f, tot, n, c, K, sf, h1, rfl, h3, h4, h5⟩ := L
    have e : K.G.length = K.X.length := List.length_map _
    exact (seg_out h1.sd.lies x (by rw [← e]; exact hx)).mono fun _ _ ⟨h, hw⟩ => ⟨_, h, hw ▸ Below.refl _ _⟩
  · obtain ⟨j, rfl⟩ : ∃ j : Nat, x = j := ⟨x.toNat, by omega⟩
    obtain ⟨g, hg⟩ : ∃ g, G[j]? = some g := ⟨_, List.getElem?_eq_getElem (by omega)⟩
    exact (L.seg hg).mono fun _ _ ⟨v, _, _, h, _, _, _, _, hb⟩ => ⟨v, h, hb⟩
theorem frs_less {l : List Pl.Bt} (h : ∀ b ∈ l, Pl.goodB b = true) : (frs l).length ≤ 1130 * l.length := by
  induction l with
  | nil => simp [frs]
  | cons b l ih =>
    have h3 := ih fun c hc => h c (List.mem_cons_of_mem _ hc)
    have h4 := (good_enc (h b List.mem_cons_self)).2.2
    rw [frs_cons, List.length_append, List.length_cons]
    omega
theorem seg_few {G : List Sg} {g : Sg} (h : g ∈ G) : g.l.length ≤ (fla G).length := by
  obtain ⟨A, C, rfl⟩ := List.append_of_mem h
  rw [fla_append, show fla (g :: C) = g.l ++ fla C from rfl]
  simp only [List.length_append]
  omega
theorem Opd.put (L : Opd w0 t s E m l G Q y W) (hm : m < E.M) (hR : 2260 * (E.M + 1) ≤ E.R) {i : Nat} {g : Sg} (hg : G[i]? = some g) (hi : i + 1 < G.length) (less : List Int) (u : Value) (LL : List (Pl.Bt × Value)) (hu : BtIn Q W u LL) (hL : LL.map (·.1) = woL less 0 g.l) :
    Calls Tryz.prog 40 #[.pointer (some ⟨s, 0, none⟩), .int .i64 i, u] W fun e W' => e = .returned (.int .i64 0) ∧ Opd w0 t s E (m + 1) l (G.set i ⟨g.first, woL less 0 g.l⟩) (fun k => Q k ∧ k < W.heap.size) y W' ∧ Kq (fun k => Q k ∧ k < W.heap.size) W W' := by
  have hlog := L.log
  obtain ⟨B, f, tot, n, c, K, sf, h1, rfl, h3, h4, h5⟩ := L
  have hlm := h1.life
  have hmx := h1.max_
  have hok3 := h1.ok.2.2.1
  have hX := h1.X
  obtain ⟨hn, htot⟩ := h1.sizes
  have e : K.G.length = K.X.length := List.length_map _
  have hfl := h1.len
  obtain ⟨x, hx, rfl⟩ : ∃ x, K.X[i]? = some x ∧ x.sg = g := by
    rw [show K.G[i]? = K.X[i]?.map Sx.sg from List.getElem?_map ..] at hg
    cases hx : K.X[i]? with
    | none => rw [hx] at hg; cases hg
    | some x => rw [hx] at hg; exact ⟨x, rfl, Option.some.inj hg⟩
  have hgm := List.mem_of_getElem? hg
  have has : As x.first x.bts (LL.map (·.1)) := by rw [hL]; exact As.wo less 0 _ _
  have hch : Chain x.first x.bts := hlog.chs _ hgm
  have hgood : ∀ b ∈ LL.map (·.1), Pl.goodB b = true := (has.chain hch).good
  have hbl : x.bts.length ≤ (fla K.G).length := seg_few hgm
  have hll : LL.length = x.bts.length := by have := has.len; rwa [List.length_map] at this
  have hfr := frs_less hgood
  have hset : (K.G.set i ⟨x.first, LL.map (·.1)⟩) = K.G.set i ⟨x.sg.first, woL less 0 x.sg.l⟩ := by rw [hL]; rfl
  refine (putS_any h1.sd h1.lbW h1.b8 h1.ok.2.1 hlog h1.fit h1.run.life h1.run (by omega) (by show l ≤ _; omega) h1.fl hx (by rw [← e]; exact hi) u LL (hu.mono fun b hb => h4 b hb) has (fun j p q hp hq => ?_) (by omega) (by rw [List.length_map] at hfr; rw [h1.room]; omega) fun p hp => ?_).mono ?_
  · have hb : x.bts[j]? = some q.1 := by show (x.L.map (·.1))[j]? = _; rw [List.getElem?_map, hq]; rfl
    have hp1 : (woL less 0 x.bts)[j]? = some p.1 := by
      have e1 : (LL.map (·.1))[j]? = some p.1 := by rw [List.getElem?_map, hp]; rfl
      rw [← e1, hL]
      rfl
    obtain ⟨n', hn'⟩ := woL_get hp1 hb
    rw [hn']
    exact les_wo (hch.good _ (List.mem_of_getElem? hb))
  · have := (Pl.enc_short (hgood p.1 (List.mem_map.2 ⟨p, hp, rfl⟩))).2.2
    omega
  rintro e' W' ⟨B', f', tot', n', c', K', er, rfl, hmv, hsd, hr, hor⟩
  rcases hor with ⟨rfl, hG, hf, hrun, ha⟩ | ⟨-, -, -, hna, -⟩
  · rw [hset] at hG hf
    refine ⟨rfl, ⟨B', f', tot', n', c', K', sf, ⟨hsd, h1.lb, moved_low h1.new h1.low hmv, moved_new h1.new h1.low.size hmv, ?_, by rw [hG]; exact hf, hrun.more (by omega), by rw [hr, h1.room], ?_, by omega, by omega, h1.ok⟩, hG, ha h3, hmv.keepQ h4, fun hy G0 g0 he => ?_⟩, Kq.moved hmv fun k hk => h4 k hk.1⟩
    · rw [hG]; exact hlog.put hg (As.wo less 0 _ _)
    · rw [hG, fla_put_length hg (woL_length _ _ _)]; omega
    · have hl0 : K.G.length = G0.length + 1 := by have := congrArg List.length he; simpa using this
      have hg0 : K.G[G0.length]? = some g0 := by
        have h6 : (K.G.set i ⟨x.sg.first, woL less 0 x.sg.l⟩)[G0.length]? = some g0 := by rw [he]; simp
        rwa [List.getElem?_set_ne (by omega)] at h6
      refine h5 hy (K.G.take G0.length) g0 ?_
      have := take_nxt hg0
      rw [← hl0, List.take_length] at this
      exact this
  · exact absurd h3 hna
end
end Go.Proofs.YtdaoeplblkfapaaGreatDoor

/- A STRAND WHOSE TAPE MAY BE ARMED, all of it safe: what Put and Drop do to it; the power gone, back; opened again. -/
namespace Go.Proofs.YtdaoeplblkfapaaGreatDoor
open Go.RowKit

/-- All of the last file is safe. -/
def Whole (G : List Sg) (sf : Nat) : Prop := ∀ G0 g, G = G0 ++ [g] → sf = (frs g.l).length
theorem Whole.drop {G : List Sg} {sf j : Nat} (h : Whole G sf) : Whole (G.drop j) sf := fun G0 g e => h (G.take j ++ G0) g (by rw [List.append_assoc, ← e, List.take_append_drop])
theorem Whole.set {G : List Sg} {sf i : Nat} {x : Sg} (h : Whole G sf) (hi : i + 1 < G.length) : Whole (G.set i x) sf := fun G0 g he => by
  have hl0 : G.length = G0.length + 1 := by have := congrArg List.length he; simpa using this
  have hg0 : G[G0.length]? = some g := by
    have h6 : (G.set i x)[G0.length]? = some g := by rw [he]; simp
    rwa [List.getElem?_set_ne (by omega)] at h6
  refine h (G.take G0.length) g ?_
  have := take_nxt hg0
  rw [← hl0, List.take_length] at this
  exact this
theorem Fl.new {P : List UInt8} {f : Ta.View} {G : List Sg} {sf : Nat} (h : Fl P f G sf) (hg : Log G) (v : Option (List UInt8 × Nat)) : Fm P (Ta.upd f (nmNew P) v) G sf := by
  refine ⟨fun j g hj => ?_, fun k h1 h2 => ?_⟩
  · have hm := hg.firsts g (List.mem_of_getElem? hj)
    rw [Ta.upd_other _ _ (nm_not_new hm.1 hm.2)]
    exact h.hold j g hj
  · rw [Ta.upd_other _ _ h2]
    exact h.rest k h1
theorem Log.drop {G : List Sg} (h : Log G) (j : Nat) : Log (G.drop j) := Log.right (G := G.take j) (by rw [List.take_append_drop]; exact h)
theorem fla_drop_le (G : List Sg) (j : Nat) : (fla (G.drop j)).length ≤ (fla G).length := by
  have e2 : (fla G).length = (fla (G.take j)).length + (fla (G.drop j)).length := by rw [← List.length_append, ← fla_append, List.take_append_drop]
  omega
/-- A strand over a tape that may be armed: all is safe. Blocks of Q are none of theirs. -/
def Ard (w0 : World) (t s : Nat) (E : En) (m l : Nat) (G : List Sg) (Q : Nat → Prop) (W : World) : Prop :=
  ∃ B f tot n c K sf, Lw w0 t s E m l B f tot n c K sf W ∧ K.G = G ∧ (∀ b, Q b → ¬ B b) ∧ Whole G sf
/-- The power is gone (z: and nothing is armed); its files hold a log, all of it safe. -/
def Gn (w0 : World) (t : Nat) (E : En) (m l : Nat) (G : List Sg) (Q : Nat → Prop) (z : Bool) (W : World) : Prop :=
  ∃ s B f tot n c K sf, Sd W s ⟨t, l, E.P, E.sv⟩ B f tot n c K ∧ Lb w0 ∧ Below w0.heap.size w0 W ∧ (∀ b, B b → w0.heap.size ≤ b) ∧ Log G ∧ Fm E.P f G sf ∧ c.down = true ∧ (z = true → c.armed = 0) ∧ c.acts ≤ 1000 * m ∧ c.life = l + 1 ∧ c.room = E.R ∧ n ≤ m + 2 ∧ (fla G).length ≤ m ∧ l ≤ m ∧ m ≤ E.M ∧ E.ok ∧ (∀ b, Q b → ¬ B b) ∧ Whole G sf
/-- It is back. -/
def Bn (w0 : World) (t : Nat) (E : En) (m l : Nat) (G : List Sg) (Q : Nat → Prop) (zs : List Int) (W : World) : Prop :=
  ∃ s B f0 f tot n c K sf, Sd W s ⟨t, l, E.P, E.sv⟩ B f tot n c K ∧ Lb w0 ∧ Below w0.heap.size w0 W ∧ (∀ b, B b → w0.heap.size ≤ b) ∧ Log G ∧ Fm E.P f0 G sf ∧ Ta.Left zs f0 f ∧ c.down = false ∧ c.armed = 0 ∧ c.acts ≤ 1000 * m ∧ c.life = l + 1 ∧ c.room = E.R ∧ n ≤ m + 2 ∧ (fla G).length ≤ m ∧ l ≤ m ∧ m ≤ E.M ∧ E.ok ∧ (∀ b, Q b → ¬ B b) ∧ Whole G sf
section
variable {w0 W W' : World} {t s m l : Nat} {E : En} {G : List Sg} {Q : Nat → Prop} {z : Bool}
theorem Ard.low (L : Ard w0 t s E m l G Q W) : Below w0.heap.size w0 W := let ⟨_, _, _, _, _, _, _, h1, _⟩ := L; h1.low
theorem Gn.low (L : Gn w0 t E m l G Q z W) : Below w0.heap.size w0 W := let ⟨_, _, _, _, _, _, _, _, _, _, h, _⟩ := L; h
theorem Bn.low {zs : List Int} (L : Bn w0 t E m l G Q zs W) : Below w0.heap.size w0 W := let ⟨_, _, _, _, _, _, _, _, _, _, _, h, _⟩ := L; h
theorem Gn.more (L : Gn w0 t E m l G Q z W) (hm : m + 1 ≤ E.M) : Gn w0 t E (m + 1) l G Q z W := by
  obtain ⟨s, B, f, tot, n, c, K, sf, h1, h2, h3, h4, h5, h6, h7, h8, h9, h10, h11, h12, h13, h14, h15, h16, h17, h18⟩ := L
  exact ⟨s, B, f, tot, n, c, K, sf, h1, h2, h3, h4, h5, h6, h7, h8, by omega, h10, h11, by omega, by omega, by omega, hm, h16, h17, h18⟩
theorem Opd.arm (L : Opd w0 t s E m l G Q true W) (i : Int) (hi : 0 ≤ i ∧ i ≤ 1000) :
    Calls Tryz.prog 27 #[.pointer (some ⟨t, 0, none⟩), .int .i64 i] W fun e W' => (∃ v, e = .returned v) ∧ Ard w0 t s E m l G (fun k => Q k ∧ k < W.heap.size) W' ∧ Kq (fun k => Q k ∧ k < W.heap.size) W W' := by
  obtain ⟨B, f, tot, n, c, K, sf, h1, rfl, h3, h4, h5⟩ := L
  obtain ⟨T, hst, hup⟩ := h1.sd.tape
  refine (Ta.s_arm hst i).mono ?_
  rintro e W' ⟨hv, T', hs, hm⟩
  obtain ⟨B', hsd, hmv⟩ := hup _ _ _ _ _ _ hs hm
  exact ⟨hv, ⟨B', f, tot, n, _, K, sf, { h1 with sd := hsd, low := moved_low h1.new h1.low hmv, new := moved_new h1.new h1.low.size hmv, run := ⟨h1.run.on, h1.run.acts, h1.run.life, by show 0 ≤ max i 0 ∧ max i 0 ≤ 1000; omega⟩, room := h1.room }, rfl, hmv.keepQ h4, h5 rfl⟩, Kq.moved hmv fun k hk => h4 k hk.1⟩
/-- What Put leaves. -/
def APut (w0 : World) (t s : Nat) (E : En) (m l : Nat) (G G' : List Sg) (Q : Nat → Prop) (W : World) (e : Ending) (W' : World) : Prop :=
  Kq (fun k => Q k ∧ k < W.heap.size) W W' ∧ ((e = .returned (.int .i64 0) ∧ Ard w0 t s E (m + 1) l G' (fun k => Q k ∧ k < W.heap.size) W') ∨
    (e = .returned (.int .i64 10) ∧ ∃ G2, (G2 = G ∨ G2 = G') ∧ Gn w0 t E (m + 1) l G2 (fun k => Q k ∧ k < W.heap.size) false W'))
theorem Ard.put (L : Ard w0 t s E m l G Q W) (hm : m < E.M) (hR : 2260 * (E.M + 1) ≤ E.R) {i : Nat} {g : Sg} (hg : G[i]? = some g) (hi : i + 1 < G.length) (less : List Int) (u : Value) (LL : List (Pl.Bt × Value)) (hu : BtIn Q W u LL) (hL : LL.map (·.1) = woL less 0 g.l) :
    Calls Tryz.prog 40 #[.pointer (some ⟨s, 0, none⟩), .int .i64 i, u] W (APut w0 t s E m l G (G.set i ⟨g.first, woL less 0 g.l⟩) Q W) := by
  obtain ⟨B, f, tot, n, c, K, sf, h1, rfl, h4, h5⟩ := L
  have hlog := h1.log
  have hlm := h1.life
  have hmx := h1.max_
  have hok3 := h1.ok.2.2.1
  have hX := h1.X
  obtain ⟨hn, htot⟩ := h1.sizes
  have e : K.G.length = K.X.length := List.length_map _
  have hfl := h1.len
  obtain ⟨x, hx, rfl⟩ : ∃ x, K.X[i]? = some x ∧ x.sg = g := by
    rw [show K.G[i]? = K.X[i]?.map Sx.sg from List.getElem?_map ..] at hg
    cases hx : K.X[i]? with
    | none => rw [hx] at hg; cases hg
    | some x => rw [hx] at hg; exact ⟨x, rfl, Option.some.inj hg⟩
  have hgm := List.mem_of_getElem? hg
  have has : As x.first x.bts (LL.map (·.1)) := by rw [hL]; exact As.wo less 0 _ _
  have hch : Chain x.first x.bts := hlog.chs _ hgm
  have hgood : ∀ b ∈ LL.map (·.1), Pl.goodB b = true := (has.chain hch).good
  have hbl : x.bts.length ≤ (fla K.G).length := seg_few hgm
  have hll : LL.length = x.bts.length := by have := has.len; rwa [List.length_map] at this
  have hfr := frs_less hgood
  have hset : (K.G.set i ⟨x.first, LL.map (·.1)⟩) = K.G.set i ⟨x.sg.first, woL less 0 x.sg.l⟩ := by rw [hL]; rfl
  have hlog' : Log (K.G.set i ⟨x.sg.first, woL less 0 x.sg.l⟩) := hlog.put hg (As.wo less 0 _ _)
  have hfl' : (fla (K.G.set i ⟨x.sg.first, woL less 0 x.sg.l⟩)).length = (fla K.G).length := fla_put_length hg (woL_length _ _ _)
  refine (putS_any h1.sd h1.lbW h1.b8 h1.ok.2.1 hlog h1.fit h1.run.life h1.run (by omega) (by show l ≤ _; omega) h1.fl hx (by rw [← e]; exact hi) u LL (hu.mono fun b hb => h4 b hb) has (fun j p q hp hq => ?_) (by omega) (by rw [List.length_map] at hfr; rw [h1.room]; omega) fun p hp => ?_).mono ?_
  · have hb : x.bts[j]? = some q.1 := by show (x.L.map (·.1))[j]? = _; rw [List.getElem?_map, hq]; rfl
    have hp1 : (woL less 0 x.bts)[j]? = some p.1 := by
      have e1 : (LL.map (·.1))[j]? = some p.1 := by rw [List.getElem?_map, hp]; rfl
      rw [← e1, hL]
      rfl
    obtain ⟨n', hn'⟩ := woL_get hp1 hb
    rw [hn']
    exact les_wo (hch.good _ (List.mem_of_getElem? hb))
  · have := (Pl.enc_short (hgood p.1 (List.mem_map.2 ⟨p, hp, rfl⟩))).2.2
    omega
  rintro e' W' ⟨B', f', tot', n', c', K', er, rfl, hmv, hsd, hr, hor⟩
  refine ⟨Kq.moved hmv fun k hk => h4 k hk.1, ?_⟩
  rw [hset] at hor
  rcases hor with ⟨rfl, hG, hf, hrun, ha⟩ | ⟨rfl, hG, hgone, -, hor⟩
  · exact .inl ⟨rfl, B', f', tot', n', c', K', sf, ⟨hsd, h1.lb, moved_low h1.new h1.low hmv, moved_new h1.new h1.low.size hmv, by rw [hG]; exact hlog', by rw [hG]; exact hf, hrun.more (by omega), by rw [hr, h1.room], by rw [hG, hfl']; omega, by omega, by omega, h1.ok⟩, hG, hmv.keepQ h4, h5.set hi⟩
  · refine .inr ⟨rfl, ?_⟩
    rcases hor with ⟨hn', y, -, rfl⟩ | hf
    · exact ⟨K.G, .inl rfl, s, B', _, tot', n', c', K', sf, hsd, h1.lb, moved_low h1.new h1.low hmv, moved_new h1.new h1.low.size hmv, hlog, h1.fl.new hlog _, hgone.off, (fun h => by cases h), by have := hgone.acts; omega, hgone.life, by rw [hr, h1.room], by omega, by omega, by omega, by omega, h1.ok, hmv.keepQ h4, h5⟩
    · have hn'' : n' = (K.G.set i ⟨x.sg.first, woL less 0 x.sg.l⟩).length := by
        obtain ⟨T, hst, -⟩ := hsd
        exact (hf.sizes hst hlog').1
      rw [List.length_set] at hn''
      exact ⟨_, .inr rfl, s, B', f', tot', n', c', K', sf, hsd, h1.lb, moved_low h1.new h1.low hmv, moved_new h1.new h1.low.size hmv, hlog', hf.fm, hgone.off, (fun h => by cases h), by have := hgone.acts; omega, hgone.life, by rw [hr, h1.room], by omega, by omega, by omega, by omega, h1.ok, hmv.keepQ h4, h5.set hi⟩
/-- What Drop leaves. -/
def ADrop (w0 : World) (t s : Nat) (E : En) (m l : Nat) (G : List Sg) (nn : Nat) (Q : Nat → Prop) (W : World) (e : Ending) (W' : World) : Prop :=
  Kq (fun k => Q k ∧ k < W.heap.size) W W' ∧ ((e = .returned (.int .i64 0) ∧ Ard w0 t s E (m + 1) l (G.drop nn) (fun k => Q k ∧ k < W.heap.size) W') ∨
    (e = .returned (.int .i64 10) ∧ ∃ j, j ≤ nn ∧ Gn w0 t E (m + 1) l (G.drop j) (fun k => Q k ∧ k < W.heap.size) false W'))
theorem Ard.drop (L : Ard w0 t s E m l G Q W) (hm : m < E.M) (nn : Nat) (hnn : nn ≤ G.length - 1) :
    Calls Tryz.prog 41 #[.pointer (some ⟨s, 0, none⟩), .int .i64 nn] W (ADrop w0 t s E m l G nn Q W) := by
  obtain ⟨B, f, tot, n, c, K, sf, h1, rfl, h4, h5⟩ := L
  have hlm := h1.life
  have hmx := h1.max_
  have hok3 := h1.ok.2.2.1
  have hX := h1.X
  have hsz := h1.sizes
  have hfl := h1.len
  have e : K.G.length = K.X.length := List.length_map _
  refine (dropS_any h1.sd h1.lbW h1.b8 (by have := h1.ok.2.1; show E.P.length ≤ 1048576; omega) h1.log h1.fit h1.run.life h1.run (by omega) (by show l ≤ _; omega) h1.fl nn (by omega)).mono ?_
  rintro e W' ⟨B', f', tot', n', c', K', er, rfl, hmv, hsd, ht, hn, hr, hor⟩
  refine ⟨Kq.moved hmv fun k hk => h4 k hk.1, ?_⟩
  rcases hor with ⟨rfl, hG, hf, hrun, ha⟩ | ⟨rfl, hG, ⟨j, hj, hf⟩, hgone, hna⟩
  · exact .inl ⟨rfl, B', f', tot', n', c', K', sf, ⟨hsd, h1.lb, moved_low h1.new h1.low hmv, moved_new h1.new h1.low.size hmv, by rw [hG]; exact h1.log.drop nn, by rw [hG]; exact hf, hrun.more (by omega), by rw [hr, h1.room], by rw [hG]; have := fla_drop_le K.G nn; omega, by omega, by omega, h1.ok⟩, hG, hmv.keepQ h4, h5.drop⟩
  · exact .inr ⟨rfl, j, hj, s, B', f', tot', n', c', K', sf, hsd, h1.lb, moved_low h1.new h1.low hmv, moved_new h1.new h1.low.size hmv, h1.log.drop j, hf.fm, hgone.off, (fun h => by cases h), by have := hgone.acts; omega, hgone.life, by rw [hr, h1.room], by omega, by have := fla_drop_le K.G j; omega, by omega, by omega, h1.ok, hmv.keepQ h4, h5.drop⟩
theorem Ard.off (L : Ard w0 t s E m l G Q W) :
    Calls Tryz.prog 32 #[.pointer (some ⟨t, 0, none⟩)] W fun e W' => (∃ v, e = .returned v) ∧ Gn w0 t E m l G (fun k => Q k ∧ k < W.heap.size) true W' ∧ Kq (fun k => Q k ∧ k < W.heap.size) W W' := by
  obtain ⟨B, f, tot, n, c, K, sf, h1, rfl, h4, h5⟩ := L
  have hl := h1.run.life
  have hlm := h1.life
  have hmx := h1.max_
  have hok3 := h1.ok.2.2.1
  refine (h1.sd.off (by rw [hl]; omega)).mono ?_
  rintro e W' ⟨hv, B', hsd, hmv⟩
  have hoff : Ta.offS c = { c with armed := 0, down := true, life := c.life + 1 } := by unfold Ta.offS; rw [h1.run.on]; rfl
  rw [hoff] at hsd
  have hn : n ≤ m + 1 := by have := h1.sizes.1; have := h1.X; have e : K.G.length = K.X.length := List.length_map _; omega
  exact ⟨hv, ⟨s, B', f, tot, n, _, K, sf, hsd, h1.lb, moved_low h1.new h1.low hmv, moved_new h1.new h1.low.size hmv, h1.log, h1.fl.fm, rfl, fun _ => rfl, h1.run.acts, by rw [← hl], h1.room, by omega, h1.len, hlm, hmx, h1.ok, hmv.keepQ h4, h5⟩, Kq.moved hmv fun k hk => h4 k hk.1⟩
theorem Gn.off (L : Gn w0 t E m l G Q z W) :
    Calls Tryz.prog 32 #[.pointer (some ⟨t, 0, none⟩)] W fun e W' => (∃ v, e = .returned v) ∧ Gn w0 t E m l G (fun k => Q k ∧ k < W.heap.size) true W' ∧ Kq (fun k => Q k ∧ k < W.heap.size) W W' := by
  obtain ⟨s, B, f, tot, n, c, K, sf, h1, h2, h3, h4, h5, h6, h7, h8, h9, h10, h11, h12, h13, h14, h15, h16, h17, h18⟩ := L
  have hok3 := h16.2.2.1
  refine (h1.off (by rw [h10]; omega)).mono ?_
  rintro e W' ⟨hv, B', hsd, hmv⟩
  have hoff : Ta.offS c = { c with armed := 0 } := by unfold Ta.offS; rw [h7]; rfl
  rw [hoff] at hsd
  exact ⟨hv, ⟨s, B', f, tot, n, _, K, sf, hsd, h2, moved_low h4 h3 hmv, moved_new h4 h3.size hmv, h5, h6, h7, fun _ => rfl, h9, h10, h11, h12, h13, h14, h15, h16, hmv.keepQ h17, h18⟩, Kq.moved hmv fun k hk => h17 k hk.1⟩
theorem Gn.on (L : Gn w0 t E m l G Q true W) (fv : Value) (zs : List Int) (hf : Ta.Nums W fv zs) (hfo : 0 < zs.length → ∀ a c d, fv = .slice (some a) c d → a.block < w0.heap.size) :
    Calls Tryz.prog 33 #[.pointer (some ⟨t, 0, none⟩), fv] W fun e W' => (∃ v, e = .returned v) ∧ Bn w0 t E m l G (fun k => Q k ∧ k < W.heap.size) zs W' ∧ Kq (fun k => Q k ∧ k < W.heap.size) W W' := by
  obtain ⟨s, B, f, tot, n, c, K, sf, h1, h2, h3, h4, h5, h6, h7, h8, h9, h10, h11, h12, h13, h14, h15, h16, h17, h18⟩ := L
  refine (h1.on h7 fv zs hf fun h0 a c d e hB => by have := hfo h0 a c d e; have := h4 _ hB; omega).mono ?_
  rintro e W' ⟨hv, B', f', tot', hsd, hleft, hmv⟩
  exact ⟨hv, ⟨s, B', f, f', tot', n, _, K, sf, hsd, h2, moved_low h4 h3 hmv, moved_new h4 h3.size hmv, h5, h6, hleft, rfl, h8 rfl, h9, h10, h11, h12, h13, h14, h15, h16, hmv.keepQ h17, h18⟩, Kq.moved hmv fun k hk => h17 k hk.1⟩
theorem Bn.open_ {zs : List Int} (L : Bn w0 t E m l G Q zs W) (hm : m < E.M) :
    Calls Tryz.prog 18 #[.pointer (some ⟨t, 0, none⟩), .string ⟨E.P.toArray⟩, .int .i64 E.sv] W fun e W' => ∃ p, e = .returned (.tuple #[.pointer (some ⟨p, 0, none⟩), .int .i64 0]) ∧ Opd w0 t p E (m + 1) (l + 1) G (fun k => Q k ∧ k < W.heap.size) true W' ∧ Kq (fun k => Q k ∧ k < W.heap.size) W W' := by
  obtain ⟨s, B, f0, f, tot, n, c, K, sf, h1, h2, h3, h4, h5, h6, h7, h8, h9, h10, h11, h12, h13, h14, h15, h16, h17, h18, h19⟩ := L
  refine (h1.open_ (E := E) (m := m) (l := l + 1) h2 h3 h4 h17 hm ⟨h8, h10, h11, by rw [h9]; omega⟩ (by omega) h9 h12 h13 h6 h5 h14 h7).mono ?_
  rintro e W' ⟨p, B', f', tot', n', c', K', sf', rfl, hL, ha, hr, hs, -, hmv⟩
  have hw := hr.whole h19
  exact ⟨p, rfl, ⟨B', f', tot', n', c', K', sf', hL, hw, ha, hmv.keepQ h18, fun _ => hw ▸ hs⟩, Kq.moved hmv fun k hk => h18 k hk.1⟩
/-- Behind Put and Drop: the power is on, or gone. -/
def Aft (w0 : World) (t : Nat) (E : En) (m l : Nat) (G : List Sg) (Q : Nat → Prop) (W : World) : Prop := (∃ s, Ard w0 t s E m l G Q W) ∨ Gn w0 t E m l G Q false W
theorem Aft.low (L : Aft w0 t E m l G Q W) : Below w0.heap.size w0 W := L.elim (fun ⟨_, h⟩ => h.low) fun h => h.low
theorem Aft.off (L : Aft w0 t E m l G Q W) :
    Calls Tryz.prog 32 #[.pointer (some ⟨t, 0, none⟩)] W fun e W' => (∃ v, e = .returned v) ∧ Gn w0 t E m l G (fun k => Q k ∧ k < W.heap.size) true W' ∧ Kq (fun k => Q k ∧ k < W.heap.size) W W' := L.elim (fun ⟨_, h⟩ => h.off) fun h => h.off
end
end Go.Proofs.YtdaoeplblkfapaaGreatDoor

/- The document's Batches over lists of as many batches: an answer, and true where they are the same. -/
namespace Go.Proofs.YtdaoeplblkfapaaGreatDoor
open Go.RowKit

/-- What Batches answers. -/
def BooOut (l m : List Pl.Bt) (w : World) (e : Ending) (w' : World) : Prop := ∃ q, e = .returned (.bool q) ∧ (l = m → q = true) ∧ Below w.heap.size w w'
set_option maxHeartbeats 4000000 in
set_option maxRecDepth 100000 in
theorem batches_bool {A A' : Nat → Prop} (u v : Value) (L M : List (Pl.Bt × Value)) (w : World) (hu : BtIn A w u L) (hv : BtIn A' w v M) (hML : M.length = L.length) (hl : L.length ≤ 1099511627776) (hr : ∀ p ∈ L, p.1.recs.length ≤ 1099511627776) (hr2 : ∀ p ∈ M, p.1.recs.length ≤ 1099511627776) :
    Calls Tryz.prog 36 #[u, v] w (BooOut (L.map (·.1)) (M.map (·.1)) w) := by
  obtain ⟨a1, cap1, rfl⟩ := hu.1.form
  obtain ⟨a2, cap2, rfl⟩ := hv.1.form
  obtain ⟨m, hm⟩ : ∃ m, L.length = m := ⟨_, rfl⟩
  have HHU := Lib.hid hu
  have HHV := Lib.hid hv
  have HML := Lib.hid (hML.trans hm)
  have HR := Lib.hid hr
  have HR2 := Lib.hid hr2
  rw [hML, hm]
  rw [hm] at hl
  have HM := Lib.hid hm
  clear hm hu hv hr hr2 hML
  go_enter Tryz.func36, Tryz.ntmps36
  go_wp2_with fail
  go_loopw [5] (fun iv wr => ∃ k : Nat, k ≤ m ∧ iv = .int .i64 k ∧ Below w.heap.size w wr) (fun iv _ => m - (intOf iv).toNat)
  case atStart => exact ⟨0, Nat.zero_le _, rfl, Below.refl _ _⟩
  case round =>
    obtain ⟨k, hk, rfl, hb⟩ := hrel
    by_cases hlt : k < m
    · obtain ⟨⟨⟨base, count, prod, seq, time, recs⟩, rv⟩, hg⟩ : ∃ x, L[k]? = some x := ⟨_, List.getElem?_eq_getElem (by rw [HM.out]; exact hlt)⟩
      obtain ⟨⟨⟨base', count', prod', seq', time', recs'⟩, rv2⟩, hg2⟩ : ∃ y, M[k]? = some y := ⟨_, List.getElem?_eq_getElem (by rw [HML.out]; exact hlt)⟩
      have hu1 := HHU.out.below hb
      have hv1 := HHV.out.below hb
      obtain ⟨b1, o1, cp1, e1, -, -, hc1, hr1⟩ := hu1.at hg
      obtain ⟨b2, o2, cp2, e2, -, -, hc2, hr2⟩ := hv1.at hg2
      obtain rfl : a1 = some ⟨b1, o1, none⟩ := by injection e1
      obtain rfl : a2 = some ⟨b2, o2, none⟩ := by injection e2
      have c0 : wr.cell? ⟨b1, o1 + k * 6, none⟩ = some (.int .i64 base) := hc1 0 _ (by decide) rfl
      have c1 : wr.cell? ⟨b1, o1 + k * 6 + 1, none⟩ = some (.int .i64 count) := hc1 1 _ (by decide) rfl
      have c2 : wr.cell? ⟨b1, o1 + k * 6 + 2, none⟩ = some (.int .i64 prod) := hc1 2 _ (by decide) rfl
      have c3 : wr.cell? ⟨b1, o1 + k * 6 + 3, none⟩ = some (.int .i64 seq) := hc1 3 _ (by decide) rfl
      have c4 : wr.cell? ⟨b1, o1 + k * 6 + 4, none⟩ = some (.int .i64 time) := hc1 4 _ (by decide) rfl
      have c5 : wr.cell? ⟨b1, o1 + k * 6 + 5, none⟩ = some rv := hc1 5 _ (by decide) rfl
      have d0 : wr.cell? ⟨b2, o2 + k * 6, none⟩ = some (.int .i64 base') := hc2 0 _ (by decide) rfl
      have d1 : wr.cell? ⟨b2, o2 + k * 6 + 1, none⟩ = some (.int .i64 count') := hc2 1 _ (by decide) rfl
      have d2 : wr.cell? ⟨b2, o2 + k * 6 + 2, none⟩ = some (.int .i64 prod') := hc2 2 _ (by decide) rfl
      have d3 : wr.cell? ⟨b2, o2 + k * 6 + 3, none⟩ = some (.int .i64 seq') := hc2 3 _ (by decide) rfl
      have d4 : wr.cell? ⟨b2, o2 + k * 6 + 4, none⟩ = some (.int .i64 time') := hc2 4 _ (by decide) rfl
      have d5 : wr.cell? ⟨b2, o2 + k * 6 + 5, none⟩ = some rv2 := hc2 5 _ (by decide) rfl
      have hs := fun (wx : World) (hbx : Below wr.heap.size wr wx) => rsame base count prod seq time base' count' prod' seq' time' recs recs' rv rv2 wx (RcIn.recs (hr1.below hbx)) (RcIn.recs (hr2.below hbx)) (HR.out _ (List.mem_of_getElem? hg)) (HR2.out _ (List.mem_of_getElem? hg2))
      obtain ⟨sm, hsm⟩ : ∃ sm, Pl.sameB ⟨base, count, prod, seq, time, recs⟩ ⟨base', count', prod', seq', time', recs'⟩ = sm := ⟨_, rfl⟩
      rw [hsm] at hs
      have HNO : Hid (sm = false → ¬ L.map (·.1) = M.map (·.1)) := Lib.hid fun hf he => by
        have h1 := congrArg (fun l => l[k]?) he
        simp only [List.getElem?_map, hg, hg2, Option.map_some] at h1
        have h2 := Pl.sameB_iff.2 (Option.some.inj h1)
        rw [hsm, hf] at h2
        cases h2
      have HS := Lib.hid fun d os => Calls.regrown_of (hs _ (below_regrown wr d os))
      have HB := Lib.hid hb
      have k0 : ∀ d os, _ := cell_regrown c0
      have k1 : ∀ d os, _ := cell_regrown c1
      have k2 : ∀ d os, _ := cell_regrown c2
      have k3 : ∀ d os, _ := cell_regrown c3
      have k4 : ∀ d os, _ := cell_regrown c4
      have k5 : ∀ d os, _ := cell_regrown c5
      have j0 : ∀ d os, _ := cell_regrown d0
      have j1 : ∀ d os, _ := cell_regrown d1
      have j2 : ∀ d os, _ := cell_regrown d2
      have j3 : ∀ d os, _ := cell_regrown d3
      have j4 : ∀ d os, _ := cell_regrown d4
      have j5 : ∀ d os, _ := cell_regrown d5
      clear hs hsm hg hg2 hu1 hv1 hb hc1 hc2 hr1 hr2 e1 e2
      go_upto_region 6 with fail
      refine wp_region_below_tail 9 (by kernel_rfl) (by kernel_rfl) ?_
      simp only [List.take_succ_cons, List.take_zero, List.drop_succ_cons, List.drop_zero]
      repeat (go_big_quiet_step ((go_at_call 86; with_reducible exact HS.out _ _)))
      refine wpQuiet_nil ?_
      intro w3 hw3
      obtain ⟨⟨dq, osq⟩, hw3'⟩ := hw3
      have H3 : Hid (Below wr.heap.size wr w3) := by rw [hw3']; exact below_regrown wr dq osq
      clear hw3' HS k0 k1 k2 k3 k4 k5 j0 j1 j2 j3 j4 j5 c0 c1 c2 c3 c4 c5 d0 d1 d2 d3 d4 d5
      cases sm with
      | true =>
        go_wp2_with fail
        go_roundw
        case rel => exact ⟨k + 1, by omega, by go_num, HB.out.trans (H3.out.mono HB.out.size)⟩
        case measure => simp [intOf]; omega
      | false =>
        have HF := Lib.hid (HB.out.trans (H3.out.mono HB.out.size))
        go_wp2_with fail
        go_ret
        exact ⟨false, rfl, fun h => absurd h (HNO.out trivial), HF.out⟩
    · have HB := Lib.hid hb
      clear hb
      go_wp2_with fail
      go_ret
      exact ⟨true, rfl, fun _ => rfl, HB.out⟩
end Go.Proofs.YtdaoeplblkfapaaGreatDoor
