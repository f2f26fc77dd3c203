import Derived.Test.YtdaoeplblkfapaaGreatDoorM32
import Derived.Test.YtdaoeplblkfapaaGreatDoorM28
import Derived.Test.YtdaoeplblkfapaaGreatDoorM22
import Derived.Test.YtdaoeplblkfapaaGreatDoorM29

/- Cut as the laws meet it. -/
namespace Go.Proofs.YtdaoeplblkfapaaGreatDoor
open Go.RowKit

theorem cutS_any {w : World} {s : Nat} {h : Hs} {B : Nat → Prop} {f : Ta.View} {tot n : Nat} {c : Ta.Sc} {K : Kx} (kk : Sd w s h B f tot n c K) (lb : Lb w) (hB : ∀ b, B b → 8 ≤ b) (hP : h.P.length ≤ 1048576) (hlog : Log K.G) (hfit : Fit K.G)
    {a : Nat} (hlf : c.life = h.life) (q : Run c a h.life) (harm : c.armed = 0) (ha : a + K.X.length + 1 ≤ 1099511627776) (hl : h.life ≤ 1099511627776) {sf : Nat} (hfl : Fl h.P f K.G sf) (off : Int) (ho : gsStart K.G ≤ off ∧ off ≤ gsEnd K.G)
    {i : Nat} (hi : leftN K.G off - 1 = i) {x : Sx} (hx : K.X[i]? = some x) (hne : x.L ≠ []) {m : Nat} (hm : upN x.bts off = m) (hmo : ∀ b rv, x.L[m]? = some (b, rv) → off ≤ b.base) :
    Calls Tryz.prog 44 #[.pointer (some ⟨s, 0, none⟩), .int .i64 off] w (CutSOut w s h B tot n c (K.G.take i ++ [⟨x.first, x.bts.take m⟩]) (a + K.X.length + 1) h.life) :=
  cutS_main (K := { K with A := fun k => k < w.heap.size }) (kk.known (fun k => k < w.heap.size) fun _ hb _ => hb) rfl lb hB hP hlog hfit hlf q harm ha hl hfl off ho hi hx hne hm hmo
theorem upN_at {l : List Pl.Bt} {off : Int} {b : Pl.Bt} (h : l[upN l off]? = some b) : off < bend b := by
  unfold upN at h
  have e := List.takeWhile_append_dropWhile (p := fun b : Pl.Bt => decide (bend b ≤ off)) (l := l)
  have h2 : (l.dropWhile fun b : Pl.Bt => decide (bend b ≤ off))[0]? = some b := by
    rw [← e, List.getElem?_append_right (by rw [e]; exact Nat.le_refl _)] at h
    rw [e, Nat.sub_self] at h
    exact h
  cases hd : l.dropWhile fun b : Pl.Bt => decide (bend b ≤ off) with
  | nil => rw [hd] at h2; cases h2
  | cons u U =>
    rw [hd] at h2
    cases h2
    have := List.head?_dropWhile_not (p := fun b : Pl.Bt => decide (bend b ≤ off)) (l := l)
    rw [hd] at this
    simpa using this
/-- The batch across an offset is where a Cut looks for it. -/
theorem straddle {G : List Sg} (h : Log G) {off : Int} {b : Pl.Bt} (hb : b ∈ fla G) (h6 : b.base < off) (h7 : off < bend b) {i : Nat} {g : Sg} (hi : leftN G off - 1 = i) (hg : G[i]? = some g) : g.l[upN g.l off]? = some b := by
  have hil := (List.getElem?_eq_some_iff.1 hg).1
  have hsp : G = G.take i ++ (g :: G.drop (i + 1)) := by
    conv => lhs; rw [← List.take_append_drop i G]
    rw [List.drop_eq_getElem_cons hil]
    have hg' := hg
    rw [List.getElem?_eq_getElem hil] at hg'
    rw [Option.some.inj hg']
  have hfl : fla G = fla (G.take i) ++ (g.l ++ fla (G.drop (i + 1))) := by
    conv => lhs; rw [hsp]
    rw [fla_append]
    rfl
  have hgl : b ∈ g.l := by
    rw [hfl] at hb
    rcases List.mem_append.1 hb with hb | hb
    · exfalso
      obtain ⟨x, hx, hk⟩ := h.get
      rw [hsp] at hk
      obtain ⟨k1, -, k3⟩ := Lk.append.1 hk
      have h8 := (k1.chain.bend_le b hb).1
      have hpos : 0 < i := by
        rcases Nat.eq_zero_or_pos i with rfl | hp
        · rw [List.take_zero] at hb; cases hb
        · exact hp
      have h2 := leftN_lt (off := off) (by omega) hg
      have h3 := k3.1
      omega
    · rcases List.mem_append.1 hb with hb | hb
      · exact hb
      · exfalso
        obtain ⟨y, hy, hby⟩ := List.mem_flatMap.1 hb
        obtain ⟨a, ha⟩ := List.getElem?_of_mem hy
        rw [List.getElem?_drop] at ha
        have hya := leftN_ge h.rises (off := off) (by omega) ha
        have h1 := ((h.chs y (List.mem_of_getElem? ha)).bend_le b hby).2
        omega
  obtain ⟨j, hj⟩ := List.getElem?_of_mem hgl
  have hjl := (List.getElem?_eq_some_iff.1 hj).1
  have hle : upN g.l off ≤ j := by
    refine Classical.byContradiction fun hlt => ?_
    have h8 : b ∈ g.l.take (upN g.l off) := by
      refine List.mem_of_getElem? (i := j) ?_
      rw [List.getElem?_take_of_lt (by omega)]
      exact hj
    rw [take_upN] at h8
    have := List.all_eq_true.1 (List.all_takeWhile (p := fun b : Pl.Bt => decide (bend b ≤ off)) (l := g.l)) b h8
    simp at this
    omega
  rcases Nat.eq_or_lt_of_le hle with e | hlt
  · rw [e]; exact hj
  · exfalso
    obtain ⟨c, hc⟩ : ∃ c, g.l[upN g.l off]? = some c := ⟨_, List.getElem?_eq_getElem (by omega)⟩
    have h8 := upN_at hc
    have hch := h.chs g (List.mem_of_getElem? hg)
    rw [← List.take_append_drop j g.l, drop_at hj] at hch
    obtain ⟨c1, c2⟩ := Chain.append.1 hch
    have h9 := (c1.bend_le c (by
      refine List.mem_of_getElem? (i := upN g.l off) ?_
      rw [List.getElem?_take_of_lt hlt]
      exact hc)).1
    have h10 := c2.2.1
    omega
section
variable {w0 W : World} {t s m l : Nat} {E : En} {G : List Sg} {Q : Nat → Prop} {y : Bool}
/-- The segment that a Cut meets. -/
theorem Opd.meets (_L : Opd w0 t s E m l G Q y W) (hne : G ≠ []) (off : Int) : ∃ g, G[leftN G off - 1]? = some g := by
  have h1 := leftN_le G off
  have h2 := List.length_pos_iff.2 hne
  exact ⟨_, List.getElem?_eq_getElem (by omega)⟩
theorem Opd.cut (L : Opd w0 t s E m l G Q y W) (hm : m < E.M) (hne : G ≠ []) (hls : ∀ g ∈ G, g.l ≠ []) (off : Int) (ho : gsStart G ≤ off ∧ off ≤ gsEnd G) (hb : ∀ b ∈ fla G, bend b ≤ off ∨ off ≤ b.base) :
    Calls Tryz.prog 44 #[.pointer (some ⟨s, 0, none⟩), .int .i64 off] W fun e W' => e = .returned (.int .i64 0) ∧ Opd w0 t s E (m + 1) l (cutG G off) (fun k => Q k ∧ k < W.heap.size) false W' ∧ Kq (fun k => Q k ∧ k < W.heap.size) W W' := by
  obtain ⟨g, hg⟩ := L.meets hne off
  have hlog := L.log
  obtain ⟨B, f, tot, n, c, K, sf, h1, rfl, h3, h4, h5⟩ := L
  have hlm := h1.life
  have hmx := h1.max_
  have hok3 := h1.ok.2.2.1
  have hX := h1.X
  obtain ⟨x, hx, rfl⟩ : ∃ x, K.X[leftN K.G off - 1]? = some x ∧ x.sg = g := by
    rw [show K.G[leftN K.G off - 1]? = K.X[leftN K.G off - 1]?.map Sx.sg from List.getElem?_map ..] at hg
    cases hx : K.X[leftN K.G off - 1]? with
    | none => rw [hx] at hg; cases hg
    | some x => rw [hx] at hg; exact ⟨x, rfl, Option.some.inj hg⟩
  have hgm := List.mem_of_getElem? hg
  have hcut : cutG K.G off = K.G.take (leftN K.G off - 1) ++ [⟨x.first, x.bts.take (upN x.bts off)⟩] := by
    unfold cutG
    rw [hg]
    rfl
  refine (cutS_any h1.sd h1.lbW h1.b8 (by have := h1.ok.2.1; show E.P.length ≤ 1048576; omega) h1.log h1.fit h1.run.life h1.run h3 (by omega) (by show l ≤ _; omega) h1.fl off ho rfl hx (fun e => hls _ hgm (by show x.L.map (·.1) = []; rw [e]; rfl)) rfl fun b rv hbx => ?_).mono ?_
  · have hbb : x.bts[upN x.bts off]? = some b := by show (x.L.map (·.1))[_]? = _; rw [List.getElem?_map, hbx]; rfl
    have h6 := upN_at hbb
    rcases hb b (List.mem_flatMap.2 ⟨x.sg, hgm, List.mem_of_getElem? hbb⟩) with h7 | h7
    · omega
    · exact h7
  rintro e W' ⟨B', f', tot', n', c', K', sf', rfl, hmv, hsd, hG, hfl, ht, hn, hr, hrun, ha⟩
  rw [← hcut] at hG
  refine ⟨rfl, ⟨B', f', tot', n', c', K', sf', ⟨hsd, h1.lb, moved_low h1.new h1.low hmv, moved_new h1.new h1.low.size hmv, ?_, by rw [hG, hcut]; exact hfl, hrun.more (by omega), by rw [hr, h1.room], ?_, by omega, by omega, h1.ok⟩, hG, ha, hmv.keepQ h4, fun h => by cases h⟩, Kq.moved hmv fun k hk => h4 k hk.1⟩
  · rw [hG, hcut]
    exact hlog.cut hg _
  · rw [hG, cut_fla hlog hne off]
    have h6 := (List.takeWhile_prefix (p := fun b : Pl.Bt => decide (bend b ≤ off)) (l := fla K.G)).length_le
    have := h1.len
    omega
theorem Opd.cut_none (L : Opd w0 t s E m l [] Q y W) (off : Int) (ho : off = 0 ∨ off = 1) :
    Calls Tryz.prog 44 #[.pointer (some ⟨s, 0, none⟩), .int .i64 off] W fun e W' => e = .returned (.int .i64 off) ∧ Below W.heap.size W W' := by
  obtain ⟨B, f, tot, n, c, K, sf, h1, h2, h3, h4, h5⟩ := L
  have hlm := h1.life
  have hmx := h1.max_
  have hok3 := h1.ok.2.2.1
  exact cutS_none h1.sd (List.map_eq_nil_iff.1 h2) h1.run.life (by show l ≤ _; omega) off ho
theorem Opd.cut_bad (L : Opd w0 t s E m l G Q y W) (hne : G ≠ []) (off : Int) (ho : gsStart G ≤ off ∧ off ≤ gsEnd G) {b : Pl.Bt} (hb : b ∈ fla G) (h6 : b.base < off) (h7 : off < bend b) :
    Calls Tryz.prog 44 #[.pointer (some ⟨s, 0, none⟩), .int .i64 off] W fun e W' => e = .returned (.int .i64 1) ∧ Below W.heap.size W W' := by
  obtain ⟨g, hg⟩ := L.meets hne off
  have hlog := L.log
  obtain ⟨B, f, tot, n, c, K, sf, h1, rfl, h3, h4, h5⟩ := L
  have hlm := h1.life
  have hmx := h1.max_
  have hok3 := h1.ok.2.2.1
  obtain ⟨x, hx, rfl⟩ : ∃ x, K.X[leftN K.G off - 1]? = some x ∧ x.sg = g := by
    rw [show K.G[leftN K.G off - 1]? = K.X[leftN K.G off - 1]?.map Sx.sg from List.getElem?_map ..] at hg
    cases hx : K.X[leftN K.G off - 1]? with
    | none => rw [hx] at hg; cases hg
    | some x => rw [hx] at hg; exact ⟨x, rfl, Option.some.inj hg⟩
  have hst := straddle hlog hb h6 h7 rfl hg
  obtain ⟨⟨b', rv⟩, hbx, rfl⟩ : ∃ p, x.L[upN x.bts off]? = some p ∧ p.1 = b := by
    rw [show x.sg.l[upN x.sg.l off]? = x.L[upN x.bts off]?.map (·.1) from List.getElem?_map ..] at hst
    cases hbx : x.L[upN x.bts off]? with
    | none => rw [hbx] at hst; cases hst
    | some p => rw [hbx] at hst; exact ⟨p, rfl, Option.some.inj hst⟩
  exact cutS_bad h1.sd h1.log h1.fit h1.run.life (by show l ≤ _; omega) off ho rfl hx rfl hbx h6
end
end Go.Proofs.YtdaoeplblkfapaaGreatDoor

/- PLAIN MATHEMATICS OF A CUT at a batch of the log: what stays is what stands ahead of it. -/
namespace Go.Proofs.YtdaoeplblkfapaaGreatDoor

theorem chain_at {x : Int} {l : List Pl.Bt} {k : Nat} {b : Pl.Bt} (h : Chain x l) (hk : l[k]? = some b) : (∀ c ∈ l.take k, bend c ≤ b.base) ∧ (∀ c ∈ l.drop k, b.base ≤ c.base) ∧ x ≤ b.base ∧ bend b ≤ lend x l ∧ Pl.goodB b = true ∧ lend x (l.take k) = b.base := by
  have h0 := h
  have e : l = l.take k ++ l.drop k := (List.take_append_drop k l).symm
  rw [drop_at hk] at e
  rw [e] at h
  obtain ⟨c1, c2⟩ := Chain.append.1 h
  have hb := c2.2.1
  refine ⟨fun c hc => ?_, fun c hc => ?_, (h0.bend_le b (List.mem_of_getElem? hk)).2, (h0.bend_le b (List.mem_of_getElem? hk)).1, c2.1, hb.symm⟩
  · have := (c1.bend_le c hc).1
    omega
  · rw [drop_at hk] at hc
    have := (c2.bend_le c hc).2
    omega
theorem takeWhile_at {x : Int} {l : List Pl.Bt} {k : Nat} {b : Pl.Bt} (h : Chain x l) (hk : l[k]? = some b) : (l.takeWhile fun c => decide (bend c ≤ b.base)) = l.take k := by
  obtain ⟨h1, -, -, -, h5, -⟩ := chain_at h hk
  have hg := good_bend h5
  have e : l = l.take k ++ ([] ++ (b :: l.drop (k + 1))) := by
    have e := (List.take_append_drop k l).symm
    rw [drop_at hk] at e
    exact e
  conv => lhs; rw [e]
  have hC : ∀ c ∈ b :: l.drop (k + 1), decide (bend c ≤ b.base) = false := fun c hc => by
    have e2 := (List.take_append_drop k l).symm
    rw [drop_at hk] at e2
    have h2 := h
    rw [e2] at h2
    have c2 := (Chain.append.1 h2).2
    have h6 := (c2.bend_le c hc).2
    have h7 := good_bend (c2.good c hc)
    have h8 := c2.2.1
    simp
    omega
  rw [takeWhile_split _ _ [] _ (fun c hc => by have := h1 c hc; simp; omega) hC]
  simp
/-- A batch of a log, and a Cut at its base. -/
theorem cut_here {G : List Sg} (h : Log G) {k : Nat} {b : Pl.Bt} (hk : (fla G)[k]? = some b) :
    (gsStart G ≤ b.base ∧ b.base ≤ gsEnd G) ∧ (b.count > 1 → gsStart G ≤ b.base + 1 ∧ b.base + 1 ≤ gsEnd G) ∧ (∀ c ∈ fla G, bend c ≤ b.base ∨ b.base ≤ c.base) ∧ fla (cutG G b.base) = (fla G).take k ∧ b.base < bend b ∧ Pl.goodB b = true := by
  obtain ⟨x, hx, hkk⟩ := h.get
  have hc := hkk.chain
  have hne : G ≠ [] := by rintro rfl; simp [fla] at hk
  obtain ⟨h1, h2, h3, h4, h5, -⟩ := chain_at hc hk
  have hg := good_bend h5
  have hs : gsStart G = x := by
    cases G with
    | nil => exact absurd rfl hne
    | cons g G' => exact hkk.1
  have he : gsEnd G = lend x (fla G) := by
    rcases snoc_or G with rfl | ⟨A, g, rfl⟩
    · exact absurd rfl hne
    · obtain ⟨k1, -, k3⟩ := Lk.append.1 hkk
      rw [gsEnd_snoc, fla_append, lend_append, fla_one, k3.1]
  have hbn : bend b = b.base + b.count := rfl
  refine ⟨⟨by omega, by omega⟩, fun hc1 => ⟨by omega, by omega⟩, fun c hcm => ?_, ?_, hg.2.1, h5⟩
  · rw [← List.take_append_drop k (fla G)] at hcm
    exact (List.mem_append.1 hcm).imp (h1 c) (h2 c)
  · rw [cut_fla h hne, takeWhile_at hc hk]
theorem lk_end {x : Int} {G : List Sg} (h : Lk x G) (hne : G ≠ []) : gsEnd G = lend x (fla G) := by
  rcases snoc_or G with rfl | ⟨A, g, rfl⟩
  · exact absurd rfl hne
  · obtain ⟨k1, -, k3⟩ := Lk.append.1 h
    rw [gsEnd_snoc, fla_append, lend_append, fla_one, k3.1]
/-- Where a log ends that was cut at a batch. -/
theorem cut_end {G : List Sg} (h : Log G) {k : Nat} {b : Pl.Bt} (hk : (fla G)[k]? = some b) : gsEnd (cutG G b.base) = b.base := by
  obtain ⟨x, hx, hkk⟩ := h.get
  have hc := hkk.chain
  have hne : G ≠ [] := by rintro rfl; simp [fla] at hk
  have hle := leftN_le G b.base
  have hlen := List.length_pos_iff.2 hne
  obtain ⟨i, hi⟩ : ∃ i, leftN G b.base - 1 = i := ⟨_, rfl⟩
  obtain ⟨g, hg⟩ : ∃ g, G[i]? = some g := ⟨_, List.getElem?_eq_getElem (by omega)⟩
  have e : cutG G b.base = G.take i ++ [⟨g.first, g.l.take (upN g.l b.base)⟩] := by
    unfold cutG
    rw [hi, hg]
  have hlk : Lk x (cutG G b.base) := by
    rw [e]
    have h1 : Lk x (G.take i ++ [g]) := by
      have h2 := hkk
      rw [← List.take_append_drop (i + 1) G, take_snoc hg] at h2
      exact (Lk.append.1 h2).1
    obtain ⟨k1, k2, k3⟩ := Lk.append.1 h1
    refine Lk.append.2 ⟨k1, fun _ => k2 (by simp), k3.1, ?_, fun h => absurd rfl h, trivial⟩
    have h4 := (h.chs g (List.mem_of_getElem? hg)).take (upN g.l b.base)
    have h5 : g.first = lend x (fla (G.take i)) := k3.1
    rw [← h5]
    exact h4
  rw [lk_end hlk (by rw [e]; simp), (cut_here h hk).2.2.2.1]
  exact (chain_at hc hk).2.2.2.2.2
end Go.Proofs.YtdaoeplblkfapaaGreatDoor

/- A batch of one record; append as a step of a region, be it guarded. -/
namespace Go.Proofs.YtdaoeplblkfapaaGreatDoor
open Go.RowKit

theorem good_one {base : Int} (h0 : 0 ≤ base) (h1 : base + 1 ≤ 1099511627776) : Pl.goodB (btB base 1) = true := by
  have e : btB base 1 = ⟨base, 1, 0, 0, 0, [⟨base + 0, [107], [118], false⟩]⟩ := rfl
  rw [e, Pl.goodB_iff]
  refine ⟨⟨h0, by show base ≤ _; omega⟩, ⟨Int.le_refl _, by show (1 : Int) ≤ 8; omega, by show base ≤ 1099511627776 - 1; omega⟩, ⟨Int.le_refl _, by show (0 : Int) ≤ _; omega⟩, ⟨Int.le_refl _, by show (0 : Int) ≤ _; omega⟩, ⟨Int.le_refl _, by show (0 : Int) ≤ _; omega⟩, Int.le_refl _, ?_⟩
  rw [Pl.riseB_cons]
  exact ⟨rfl, by show base - 1 < base + 0; omega, by show base + 0 < base + 1; omega, rfl⟩
section
variable {P : Program} {w : World}
theorem step_append_rdw {A : Nat → Prop} {ops : Array Oper} {o : Oper} {a : Act} {K : Act → World → Prop} {Q : Exit → Act → World → Prop} {E : Prop} (hw : Region.wanted o (yielded ops a.tmps) = true) (s x : Operand) (t : TypeId)
    (ho : o.op = .call { callee := .builtin .append, args := #[s, x], argTypes := #[t, t] })
    (e : TypeId) (i : TypeInfo) (z : Value) (size bytes : Nat) (ht : P.underlying t = some (.slice e)) (hi : P.info? e = some i) (hz : i.zero = some z)
    (hsize : i.size = size) (hby : i.bytes = bytes) (hzs : z.cells.size = size)
    (v : Value) (gb : Option Nat) (n : Nat) (xs : List Value) (hs : a.eval s = v) (hown : Sl w v gb e size n xs)
    (u : Value) (m : Nat) (news : List Value) (hx : a.eval x = u) (hsrc : Rds A w u size m news) (h1 : ∀ u ∈ news, u.oneCell' = true)
    (hbytes : (n + m) * bytes ≤ 140737488355328) (hsmall : n + m ≤ 9223372036854775807)
    (h : ∀ v' w' gb', Sl w' v' gb' e size (n + m) (xs ++ news) → w.grownBy w' gb → (gb' = gb ∨ ∃ g, gb' = some g ∧ w.heap.size ≤ g) → K (a.put o.dst v') w') :
    if Region.wanted o (yielded ops a.tmps) = true then Oper.wp P o a w K Q else E := by
  rw [if_pos hw]
  obtain ⟨v', w', gb', hr, h2, h3, h4, _⟩ := run_append_rd (P := P) (w := w) t o.type e i z size bytes ht hi hz hsize hby hzs v gb n xs hown u m news hsrc h1 hbytes hsmall
  unfold Oper.wp execOp
  simp only [ho, resolve, invoke, builtin, Sem.run_bind, Sem.run_pure, Result.andThen_ok, List.map_toArray, List.map_cons, List.map_nil, hs, hx, hr]
  exact h v' w' gb' h2 h3 h4
end
end Go.Proofs.YtdaoeplblkfapaaGreatDoor
