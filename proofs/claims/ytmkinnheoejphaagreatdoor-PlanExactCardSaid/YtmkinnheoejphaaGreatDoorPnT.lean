/- THE CONTRACT OF Apply. -/
import Derived.Test.YtmkinnheoejphaaGreatDoorPnS2
import Derived.ScopeJumps
import Derived.WalkMore
import Derived.Deep.RegionHeld3
namespace Go.Proofs.YtmkinnheoejphaaGreatDoor
open Go.RowKit

theorem Ap.start {w wc w5 : World} {b1 b2 g p m cap : Nat} {x : Pn.Ev} {nodes copies : Int} {lab : Lab} {sv lv lv0 sv0 : Value} {parts : List Pn.Pt} {lives : List (Int × Int)}
    (hlow : Below w.heap.size w wc) (hlo : w.heap.size < b1 ∧ b1 < b2) (k1 : Blk wc w.heap.size #[.int .i64 nodes, .int .i64 copies, sv0, lv0] 25) (k2 : Blk wc b1 (evC x) 27) (k3 : Blk wc b2 zeroC 25)
    (h5 : Below wc.heap.size wc w5) (hs : sv = .slice (some ⟨g, p, none⟩) m cap) (hm : 0 < parts.length) (hp : PlS wc.heap.size lab w5 sv lv ⟨nodes, copies, parts, lives⟩) :
    ∃ F gl, F.map PE.x = parts ∧ Ap w b1 b2 wc.heap.size x nodes copies lab sv g F lv gl lives ((((w5.setCell ⟨w.heap.size, 0, none⟩ (.int .i64 nodes)).setCell ⟨w.heap.size, 1, none⟩ (.int .i64 copies)).setCell ⟨w.heap.size, 2, none⟩ sv).setCell ⟨w.heap.size, 3, none⟩ lv) := by
  obtain ⟨⟨gb, F, hF, hrow⟩, gl, hlv, hll⟩ := hp
  simp only at hF hlv
  have hgb : gb = some g := by
    obtain ⟨ao', cap', ev2, -, hpos, -⟩ := Sl.make hrow.1.1
    obtain ⟨g', p', e1, e2⟩ := hpos (by have := congrArg List.length hF; rw [List.length_map] at this; omega)
    rw [hs] at ev2
    injection ev2 with e3 e4 e5
    rw [e1] at e3
    injection e3 with e3
    injection e3 with e3 e6
    rw [e2, e3]
  subst hgb
  have hk := four_kb w5 w.heap.size (.int .i64 nodes) (.int .i64 copies) sv lv
  have k1l := k1.lt
  have k2l := k2.lt
  have k3l := k3.lt
  have h5s := h5.size
  refine ⟨F, gl, hF, ⟨(hlow.trans (h5.mono hlow.size)).trans (hk.below (Nat.le_refl _) (by omega)), ⟨hlo.1, hlo.2, k3l⟩, (k1.below h5).four _ _ _ _, (k2.below h5).kb hk (by omega), (k3.below h5).kb hk (by omega), hrow.keep fun b hl hz _ => ⟨hk.block b hl (by omega), rfl⟩, hlv.kb hk (fun e => by have := hlv.2 _ e; omega), hll⟩⟩
theorem Pn.ok_facts {nodes copies : Int} {parts : List Pn.Pt} {lives : List (Int × Int)} {x : Pn.Ev} (h : Pn.okB ⟨nodes, copies, parts, lives⟩ x = true) :
    Pn.goodB ⟨nodes, copies, parts, lives⟩ = true ∧ Pn.evB x = true ∧ x.node ≤ nodes ∧ x.part < parts.length ∧ 0 ≤ x.part ∧ 2 ≤ parts.length ∧ parts.length ≤ 4 ∧ 1 ≤ nodes ∧ nodes ≤ 5 ∧ 1 ≤ copies ∧ copies ≤ nodes := by
  unfold Pn.okB at h
  simp only [Bool.and_eq_true, decide_eq_true_eq] at h
  obtain ⟨⟨⟨h1, h2⟩, h3⟩, h4⟩ := h
  have hl : Pn.layB nodes copies parts.length = true := by
    unfold Pn.goodB at h1
    simp only [Bool.and_eq_true] at h1
    exact h1.1.1
  unfold Pn.layB at hl
  simp only [Bool.and_eq_true, decide_eq_true_eq] at hl
  have hp : 0 ≤ x.part := by
    unfold Pn.evB at h2
    split at h2
    · simp only [Bool.and_eq_true, decide_eq_true_eq] at h2; omega
    split at h2
    · simp only [Bool.and_eq_true, decide_eq_true_eq] at h2; omega
    split at h2
    · simp only [Bool.and_eq_true, decide_eq_true_eq] at h2; omega
    split at h2
    · simp only [Bool.and_eq_true, decide_eq_true_eq] at h2; omega
    split at h2
    · simp only [Bool.and_eq_true, decide_eq_true_eq] at h2; omega
    · cases h2
  refine ⟨h1, h2, h3, h4, hp, ?_⟩
  omega
theorem arr_range (t : Array Value) (n : Nat) (h : t.size = n) : t = ((List.range n).map fun i => t.getD i undef).toArray := by
  subst h
  apply Array.ext
  · simp
  · intro i h1 h2
    simp [Array.getD, h1]
set_option maxRecDepth 100000 in
theorem arr_frame (t : Array Value) (h : t.size = 164) : ∃ f : Nat → Value, (∀ i, f i = t.getD i undef) ∧ t = #[f 0, f 1, f 2, f 3, f 4, f 5, f 6, f 7, f 8, f 9, f 10, f 11, f 12, f 13, f 14, f 15, f 16, f 17, f 18, f 19, f 20, f 21, f 22, f 23, f 24, f 25, f 26, f 27, f 28, f 29, f 30, f 31, f 32, f 33, f 34, f 35, f 36, f 37, f 38, f 39, f 40, f 41, f 42, f 43, f 44, f 45, f 46, f 47, f 48, f 49, f 50, f 51, f 52, f 53, f 54, f 55, f 56, f 57, f 58, f 59, f 60, f 61, f 62, f 63, f 64, f 65, f 66, f 67, f 68, f 69, f 70, f 71, f 72, f 73, f 74, f 75, f 76, f 77, f 78, f 79, f 80, f 81, f 82, f 83, f 84, f 85, f 86, f 87, f 88, f 89, f 90, f 91, f 92, f 93, f 94, f 95, f 96, f 97, f 98, f 99, f 100, f 101, f 102, f 103, f 104, f 105, f 106, f 107, f 108, f 109, f 110, f 111, f 112, f 113, f 114, f 115, f 116, f 117, f 118, f 119, f 120, f 121, f 122, f 123, f 124, f 125, f 126, f 127, f 128, f 129, f 130, f 131, f 132, f 133, f 134, f 135, f 136, f 137, f 138, f 139, f 140, f 141, f 142, f 143, f 144, f 145, f 146, f 147, f 148, f 149, f 150, f 151, f 152, f 153, f 154, f 155, f 156, f 157, f 158, f 159, f 160, f 161, f 162, f 163] := ⟨fun i => t.getD i undef, fun _ => rfl, (arr_range t 164 h).trans rfl⟩
/-- What is known at the label 'old'. -/
def AtOld (w : World) (b : Nat) (a : Act) (w' : World) : Prop := a.tmps.size = 164 ∧ a.tmps.getD 4 undef = .pointer (some ⟨b, 0, none⟩) ∧ a.defers = [] ∧ Below w.heap.size w w' ∧ Blk w' b zeroC 25 ∧ w.heap.size < b
theorem Pn.good_eps {nodes copies : Int} {parts : List Pn.Pt} {lives : List (Int × Int)} (h : Pn.goodB ⟨nodes, copies, parts, lives⟩ = true) : ∀ x ∈ parts, 0 ≤ x.ep ∧ x.ep ≤ 1073741824 := fun x hx => by
  unfold Pn.goodB at h
  simp only [Bool.and_eq_true, List.all_eq_true] at h
  have := h.1.2 x hx
  unfold Pn.placeB Pn.epB at this
  simp only [Bool.and_eq_true, decide_eq_true_eq] at this
  omega
theorem Pn.lose_ep (n : Int) (x : Pn.Pt) : (Pn.lose n x).ep = x.ep := by
  unfold Pn.lose
  split
  · rfl
  · split <;> rfl
theorem Pn.idx_lt {α : Type} (f : α → Bool) : ∀ (l : List α) (i k : Nat), k ∈ Pn.idx f i l → k < i + l.length
  | [], i, k, h => by cases h
  | x :: l, i, k, h => by
    unfold Pn.idx at h
    rw [List.length_cons]
    split at h
    · rcases List.mem_cons.1 h with rfl | h
      · omega
      · have := Pn.idx_lt f l (i + 1) k h; omega
    · have := Pn.idx_lt f l (i + 1) k h; omega
theorem Pn.idx_lt0 {α : Type} (f : α → Bool) (l : List α) : ∀ k ∈ Pn.idx f 0 l, k < l.length := fun k h => by have := Pn.idx_lt f l 0 k h; omega
theorem Pn.good_lives {nodes copies : Int} {parts : List Pn.Pt} {lives : List (Int × Int)} (h : Pn.goodB ⟨nodes, copies, parts, lives⟩ = true) : Pn.livesB nodes 0 lives = true := by
  unfold Pn.goodB at h
  simp only [Bool.and_eq_true] at h
  exact h.2
theorem Pn.lives_pair : ∀ (l : List (Int × Int)) (nodes last : Int), Pn.livesB nodes last l = true → l.Pairwise (fun a b => a.1 < b.1) ∧ ∀ q ∈ l, last < q.1
  | [], _, _, _ => ⟨List.Pairwise.nil, fun _ h => by cases h⟩
  | q :: l, nodes, last, h => by
    unfold Pn.livesB at h
    simp only [Bool.and_eq_true, decide_eq_true_eq] at h
    obtain ⟨h1, h2⟩ := Pn.lives_pair l nodes q.1 h.2
    refine ⟨List.pairwise_cons.2 ⟨h2, h1⟩, fun x hx => ?_⟩
    rcases List.mem_cons.1 hx with rfl | hx
    · exact h.1.1.1
    · have := h2 x hx; have := h.1.1.1; omega
theorem Pn.idx_ge {α : Type} (f : α → Bool) : ∀ (l : List α) (i k : Nat), k ∈ Pn.idx f i l → i ≤ k
  | [], i, k, h => by cases h
  | x :: l, i, k, h => by
    unfold Pn.idx at h
    split at h
    · rcases List.mem_cons.1 h with rfl | h
      · exact Nat.le_refl _
      · have := Pn.idx_ge f l (i + 1) k h; omega
    · have := Pn.idx_ge f l (i + 1) k h; omega
theorem Pn.ev_node5 {nd pt nn : Int} (h : Pn.evB ⟨5, nd, pt, nn⟩ = true) : 1 ≤ nd := by
  unfold Pn.evB at h
  simp only [show ¬ ((5 : Int) = 1) by decide, show ¬ ((5 : Int) = 2) by decide, show ¬ ((5 : Int) = 3) by decide, show ¬ ((5 : Int) = 4) by decide, if_false, if_true, Bool.and_eq_true, decide_eq_true_eq] at h
  omega
theorem Pn.idx_in {α : Type} (f : α → Bool) : ∀ (l : List α) (i k : Nat) (x : α), l[k]? = some x → (Pn.idx f i l).contains (i + k) = f x
  | [], i, k, x, h => by simp at h
  | y :: l, i, 0, x, h => by
    simp at h
    subst h
    unfold Pn.idx
    split
    · rename_i hy
      simp [hy]
    · rename_i hy
      have : ¬ (i ∈ Pn.idx f (i + 1) l) := fun hm => by
        have := Pn.idx_ge f l (i + 1) _ hm
        omega
      simpa [hy] using this
  | y :: l, i, k + 1, x, h => by
    have := Pn.idx_in f l (i + 1) k x (by simpa using h)
    unfold Pn.idx
    rw [show i + (k + 1) = i + 1 + k by omega]
    split
    · rw [List.contains_cons, show (i + 1 + k == i) = false by simp; omega, Bool.false_or]
      exact this
    · exact this
theorem Pn.wants_has {nodes copies nd : Int} {parts : List Pn.Pt} {lives : List (Int × Int)} {n : Nat} {x : Pn.Pt} (h : 1 ≤ nd ∧ nd ≤ nodes) (hx : parts[n]? = some x) : (Pn.nums (Pn.wants ⟨nodes, copies, parts, lives⟩ nd)).contains (n : Int) = Pn.wantB copies nd x := by
  have h1 := Pn.idx_in (Pn.wantB copies nd) parts 0 n x hx
  rw [Nat.zero_add] at h1
  unfold Pn.wants Pn.nums
  rw [if_pos h, ← h1]
  simp only [List.contains_eq_mem, List.mem_map, decide_eq_decide]
  constructor
  · rintro ⟨k, hk, e⟩
    have : k = n := by omega
    rw [← this]
    exact hk
  · exact fun hk => ⟨n, hk, rfl⟩
theorem Pn.ev_kind {x : Pn.Ev} (h : Pn.evB x = true) : x.kind = 1 ∨ x.kind = 2 ∨ x.kind = 3 ∨ x.kind = 4 ∨ x.kind = 5 := by
  unfold Pn.evB at h
  split at h
  · omega
  split at h
  · omega
  split at h
  · omega
  split at h
  · omega
  split at h
  · omega
  · cases h
set_option maxHeartbeats 8000000 in
set_option maxRecDepth 100000 in
theorem apply_any {A : Nat → Prop} (pv : Value) (p : Pn.P) (x : Pn.Ev) (w : World) (h : PlR A w pv p) (hl : p.parts.length ≤ 64) (hll : p.lives.length ≤ 60) (hc : ∀ x ∈ p.parts, x.ch.length ≤ 64) :
    Calls Tryz.prog 7 #[pv, .agg #[.int .i64 x.kind, .int .i64 x.node, .int .i64 x.part, .int .i64 x.n]] w fun e w' => AplOut w (Pn.apply p x) e w' := by
  obtain ⟨sv0, lv0, rfl, hps, hlv⟩ := h
  obtain ⟨nodes, copies, parts, lives⟩ := p
  obtain ⟨kd, nd, pt, nn⟩ := x
  simp only [plv] at hps hlv hl hll hc ⊢
  obtain ⟨a, cap, rfl⟩ := hps.form
  obtain ⟨la, lcap, rfl⟩ := hlv.form
  obtain ⟨m, hm⟩ : ∃ n, parts.length = n := ⟨_, rfl⟩
  obtain ⟨ln, hln⟩ : ∃ n, lives.length = n := ⟨_, rfl⟩
  obtain ⟨W1, hW1⟩ : ∃ W, w.alloc (.cells #[.int .i64 nodes, .int .i64 copies, .slice a m cap, .slice la ln lcap] 25) = W := ⟨_, rfl⟩
  obtain ⟨W2, hW2⟩ : ∃ W, W1.alloc (.cells #[.int .i64 kd, .int .i64 nd, .int .i64 pt, .int .i64 nn] 27) = W := ⟨_, rfl⟩
  obtain ⟨W3, hW3⟩ : ∃ W, W2.alloc (.cells #[.int .i64 0, .int .i64 0, .slice none 0 0, .slice none 0 0] 25) = W := ⟨_, rfl⟩
  have hb1 : Below w.heap.size w W1 := by rw [← hW1]; exact (Below.refl _ _).alloc (Nat.le_refl _) _
  have hb12 : Below W1.heap.size W1 W2 := by rw [← hW2]; exact (Below.refl _ _).alloc (Nat.le_refl _) _
  have hb23 : Below W2.heap.size W2 W3 := by rw [← hW3]; exact (Below.refl _ _).alloc (Nat.le_refl _) _
  have k1 : Blk W1 w.heap.size #[.int .i64 nodes, .int .i64 copies, .slice a m cap, .slice la ln lcap] 25 := by rw [← hW1]; exact Blk.new _ _ _
  have k2 : Blk W2 W1.heap.size #[.int .i64 kd, .int .i64 nd, .int .i64 pt, .int .i64 nn] 27 := by rw [← hW2]; exact Blk.new _ _ _
  have k3 : Blk W3 W2.heap.size zeroC 25 := by rw [← hW3]; exact Blk.new _ _ _
  have hb2 := hb1.trans (hb12.mono hb1.size)
  have hb3 := hb2.trans (hb23.mono hb2.size)
  have HLT : Hid (w.heap.size < W1.heap.size ∧ W1.heap.size < W2.heap.size ∧ W2.heap.size < W3.heap.size) := Lib.hid ⟨k1.lt, k2.lt, k3.lt⟩
  have HK1 := Lib.hid ((k1.below hb12).below hb23)
  have HK2 := Lib.hid (k2.below hb23)
  have HK3 := Lib.hid k3
  have HB3 := Lib.hid hb3
  have HPL : Hid (∀ wx, Below W3.heap.size W3 wx → PlR A wx (.agg #[.int .i64 nodes, .int .i64 copies, .slice a m cap, .slice la ln lcap]) ⟨nodes, copies, parts, lives⟩) := Lib.hid fun wx hb => ⟨.slice a m cap, .slice la ln lcap, rfl, by rw [← hm]; exact (hps.below hb3).below (hb.mono (Nat.le_refl _)), by rw [← hln]; exact (hlv.below hb3).below hb⟩
  have HGD : Hid (∀ wx, Below W3.heap.size W3 wx → Calls Tryz.prog 13 #[.agg #[.int .i64 nodes, .int .i64 copies, .slice a m cap, .slice la ln lcap]] wx fun e w' => BolOut wx (Pn.goodB ⟨nodes, copies, parts, lives⟩) e w') := Lib.hid fun wx hb => good_any _ ⟨nodes, copies, parts, lives⟩ wx (HPL.out wx hb) (by simp only; omega) (by simp only; omega) hc
  have HEV : Hid (∀ wx : World, Calls Tryz.prog 23 #[.agg #[.int .i64 kd, .int .i64 nd, .int .i64 pt, .int .i64 nn]] wx fun e w' => BolOut wx (Pn.evB ⟨kd, nd, pt, nn⟩) e w') := Lib.hid fun wx => event_any ⟨kd, nd, pt, nn⟩ wx
  have HCD : Hid (∀ wx, Below W3.heap.size W3 wx → Calls Tryz.prog 24 #[.agg #[.int .i64 nodes, .int .i64 copies, .slice a m cap, .slice la ln lcap]] wx fun e w' => ClpOut wx ⟨nodes, copies, parts, lives⟩ e w') := Lib.hid fun wx hb => cloned_any _ ⟨nodes, copies, parts, lives⟩ wx (HPL.out wx hb) (by simp only; omega) (by simp only; omega) hc
  have HOK : Hid (Pn.okB ⟨nodes, copies, parts, lives⟩ ⟨kd, nd, pt, nn⟩ = (Pn.goodB ⟨nodes, copies, parts, lives⟩ && Pn.evB ⟨kd, nd, pt, nn⟩ && decide (nd ≤ nodes) && decide (pt < (m : Int)))) := Lib.hid (by rw [← hm]; rfl)
  obtain ⟨O, hO⟩ : ∃ O, Pn.okB ⟨nodes, copies, parts, lives⟩ ⟨kd, nd, pt, nn⟩ = O := ⟨_, rfl⟩
  have HO := Lib.hid hO
  rw [hO] at HOK
  obtain ⟨G, hG⟩ : ∃ G, Pn.goodB ⟨nodes, copies, parts, lives⟩ = G := ⟨_, rfl⟩
  obtain ⟨V, hV⟩ : ∃ V, Pn.evB ⟨kd, nd, pt, nn⟩ = V := ⟨_, rfl⟩
  rw [hG] at HGD HOK
  rw [hV] at HEV HOK
  have HM := Lib.hid hm
  have HLN := Lib.hid hln
  have HLL := Lib.hid hll
  have HC := Lib.hid hc
  have HX0 := Lib.hid (Below.refl W3.heap.size W3)
  rw [hm, hln]
  obtain ⟨c0, c1, c2, c3⟩ := HK1.out.cells4
  clear hb1 hb12 hb23 k1 k2 k3 hb2 hb3 hps hlv hl hll hc hG hV hO hm hln
  go_enter Tryz.func7, Tryz.ntmps7
  go_wp2_with fail
  refine wp_scope_jumps 0 (fun a' w' => AtOld w W2.heap.size a' w' ∧ Pn.apply ⟨nodes, copies, parts, lives⟩ ⟨kd, nd, pt, nn⟩ = .bad 21) (fun _ _ => 0) rfl ?_ ?_
  · have HQ0 := HX0
    go_wp2_with fail
    refine (HGD.out _ HX0.out).mono ?_
    rintro e wg ⟨rfl, hg⟩
    have HG := Lib.hid hg
    have HK2' := HK2.out.below hg
    obtain ⟨e0, e1, e2, e3⟩ := HK2'.cells4
    clear HK2' hg c0 c1 c2 c3
    cases G with
    | false =>
      have HT : Hid (Pn.apply ⟨nodes, copies, parts, lives⟩ ⟨kd, nd, pt, nn⟩ = .bad 1) := Lib.hid (by unfold Pn.apply; rw [HO.out, HOK.out]; rfl)
      have HD3 := Lib.hid (HK3.out.below HG.out)
      obtain ⟨y0, y1, y2, y3⟩ := HD3.out.free4
      obtain ⟨z0, z1, z2, z3⟩ := HD3.out.cells4
      go_wp2_with fail
      simp only [Exit.jump]
      refine bodyPost_ret (apply_ret (Blk.four HD3.out _ _ _ _) rfl rfl rfl) rfl ?_
      rw [HT.out]
      exact ⟨(HB3.out.trans (HG.out.mono HB3.out.size)).trans ((four_kb _ _ _ _ _ _).below (by have := HLT.out; omega) HD3.out.lt), rfl⟩
    | true =>
    go_wp2_with fail
    refine (HEV.out _).mono ?_
    rintro e we ⟨rfl, he⟩
    have HE := Lib.hid (HG.out.trans (he.mono HG.out.size))
    have HK1' := HK1.out.below HE.out
    have HK2' := HK2.out.below HE.out
    clear e0 e1 e2 e3
    obtain ⟨e0, e1, e2, e3⟩ := HK2'.cells4
    obtain ⟨c0, c1, c2, c3⟩ := HK1'.cells4
    clear HK1' HK2' he
    cases V with
    | false =>
      have HT : Hid (Pn.apply ⟨nodes, copies, parts, lives⟩ ⟨kd, nd, pt, nn⟩ = .bad 1) := Lib.hid (by unfold Pn.apply; rw [HO.out, HOK.out]; rfl)
      have HD3 := Lib.hid (HK3.out.below HE.out)
      obtain ⟨y0, y1, y2, y3⟩ := HD3.out.free4
      obtain ⟨z0, z1, z2, z3⟩ := HD3.out.cells4
      go_wp2_with fail
      simp only [Exit.jump]
      refine bodyPost_ret (apply_ret (Blk.four HD3.out _ _ _ _) rfl rfl rfl) rfl ?_
      rw [HT.out]
      exact ⟨(HB3.out.trans (HE.out.mono HB3.out.size)).trans ((four_kb _ _ _ _ _ _).below (by have := HLT.out; omega) HD3.out.lt), rfl⟩
    | true =>
    by_cases h1 : nodes < nd
    · have h1' : decide (nd ≤ nodes) = false := decide_eq_false (by omega)
      have HT : Hid (Pn.apply ⟨nodes, copies, parts, lives⟩ ⟨kd, nd, pt, nn⟩ = .bad 1) := Lib.hid (by unfold Pn.apply; rw [HO.out, HOK.out, h1']; rfl)
      have HD3 := Lib.hid (HK3.out.below HE.out)
      obtain ⟨y0, y1, y2, y3⟩ := HD3.out.free4
      obtain ⟨z0, z1, z2, z3⟩ := HD3.out.cells4
      go_wp2_with fail
      simp only [Exit.jump]
      refine bodyPost_ret (apply_ret (Blk.four HD3.out _ _ _ _) rfl rfl rfl) rfl ?_
      rw [HT.out]
      exact ⟨(HB3.out.trans (HE.out.mono HB3.out.size)).trans ((four_kb _ _ _ _ _ _).below (by have := HLT.out; omega) HD3.out.lt), rfl⟩
    have h1' : decide (nd ≤ nodes) = true := decide_eq_true (by omega)
    by_cases h2 : (m : Int) ≤ pt
    · have h2' : decide (pt < (m : Int)) = false := decide_eq_false (by omega)
      have HT : Hid (Pn.apply ⟨nodes, copies, parts, lives⟩ ⟨kd, nd, pt, nn⟩ = .bad 1) := Lib.hid (by unfold Pn.apply; rw [HO.out, HOK.out, h1', h2']; rfl)
      have HD3 := Lib.hid (HK3.out.below HE.out)
      obtain ⟨y0, y1, y2, y3⟩ := HD3.out.free4
      obtain ⟨z0, z1, z2, z3⟩ := HD3.out.cells4
      go_wp2_with fail
      simp only [Exit.jump]
      refine bodyPost_ret (apply_ret (Blk.four HD3.out _ _ _ _) rfl rfl rfl) rfl ?_
      rw [HT.out]
      exact ⟨(HB3.out.trans (HE.out.mono HB3.out.size)).trans ((four_kb _ _ _ _ _ _).below (by have := HLT.out; omega) HD3.out.lt), rfl⟩
    have h2' : decide (pt < (m : Int)) = true := decide_eq_true (by omega)
    have HOT : Hid (Pn.okB ⟨nodes, copies, parts, lives⟩ ⟨kd, nd, pt, nn⟩ = true) := Lib.hid (by rw [HO.out, HOK.out, h1', h2']; rfl)
    obtain ⟨hgood, hevb, -, -, hp0, hm2, hm4, hn1, hn5, hc1, hcn⟩ := Pn.ok_facts HOT.out
    simp only at hp0 hm2 hm4 hn1 hn5 hc1 hcn
    have HGO := Lib.hid hgood
    have HEB := Lib.hid hevb
    have HLE := Lib.hid (HB3.out.trans (HE.out.mono HB3.out.size))
    have HF1 := Lib.hid (HK1.out.below HE.out)
    have HF2 := Lib.hid (HK2.out.below HE.out)
    have HF3 := Lib.hid (HK3.out.below HE.out)
    obtain ⟨f0, f1, f2, f3⟩ := HF1.out.free4
    clear h1' h2' HOK HO hgood hevb
    go_wp2_with fail
    refine (HCD.out _ HE.out).mono ?_
    rintro e w5 ⟨h5, lab, sv, lv, rfl, hpl⟩
    simp only [plv]
    obtain ⟨sa, sc, rfl⟩ := hpl.1.form
    obtain ⟨lva, lvc, rfl⟩ := hpl.2.rd.form
    simp only at hpl ⊢
    rw [HM.out, HLN.out] at hpl
    rw [HM.out, HLN.out]
    obtain ⟨sg, sp, rfl⟩ : ∃ g p, sa = some ⟨g, p, none⟩ := by
      obtain ⟨gb, F, hF, hrow⟩ := hpl.1
      obtain ⟨ao', cap', ev2, -, hpos, -⟩ := Sl.make hrow.1.1
      obtain ⟨g', p', e1, e2⟩ := hpos (by have := congrArg List.length hF; rw [List.length_map] at this; have := HM.out; simp only at *; omega)
      injection ev2 with e3 e4 e5
      exact ⟨g', p', e3.trans e1⟩
    obtain ⟨F, gl, hF, hap⟩ := Ap.start (x := ⟨kd, nd, pt, nn⟩) (sv0 := .slice a m cap) (lv0 := .slice la ln lcap) HLE.out ⟨HLT.out.1, HLT.out.2.1⟩ HF1.out HF2.out HF3.out h5 rfl (by omega) hpl
    obtain ⟨q0, q1, q2, q3⟩ := (HF1.out.below h5).cells4
    obtain ⟨r0, r1, r2, r3⟩ := (HF1.out.below h5).free4
    obtain ⟨n, rfl⟩ : ∃ n : Nat, pt = n := ⟨pt.toNat, by omega⟩
    have HAP := Lib.hid hap
    have HFP := Lib.hid hF
    obtain ⟨W6, hW6⟩ : ∃ W, ((((w5.setCell ⟨w.heap.size, 0, none⟩ (.int .i64 nodes)).setCell ⟨w.heap.size, 1, none⟩ (.int .i64 copies)).setCell ⟨w.heap.size, 2, none⟩ (.slice (some ⟨sg, sp, none⟩) m sc)).setCell ⟨w.heap.size, 3, none⟩ (.slice lva ln lvc)) = W := ⟨_, rfl⟩
    have HW6 := Lib.hid hW6
    rw [hW6] at HAP
    clear hap hF hpl h5 hW6 c0 c1 c2 c3 e0 e1 e2 e3 f0 f1 f2 f3
    go_upto_region 4 with fail
    rw [HW6.out]
    clear HW6 q0 q1 q2 q3 r0 r1 r2 r3
    obtain ⟨c0, c1, c2, c3⟩ := HAP.out.k1.cells4
    have hk2 := HAP.out.k2
    simp only [evC] at hk2
    obtain ⟨e0, e1, e2, e3⟩ := hk2.cells4
    obtain ⟨W7, hW7⟩ : ∃ W, W6.alloc (.cells #[.int .i64 (n : Int)] 3) = W := ⟨_, rfl⟩
    have hb7 : Below W6.heap.size W6 W7 := by rw [← hW7]; exact (Below.refl _ _).alloc (Nat.le_refl _) _
    have k7 : Blk W7 W6.heap.size #[.int .i64 (n : Int)] 3 := by rw [← hW7]; exact Blk.new _ _ _
    have HAP7 := Lib.hid (HAP.out.below hb7)
    obtain ⟨hapt, htlt⟩ := HAP.out.told (t := [n]) hb7 (gt := some W6.heap.size) (tv := .slice (some ⟨W6.heap.size, 0, none⟩) 1 1) ⟨⟨rfl, .inr ⟨_, 0, 1, _, rfl, rfl, k7, Nat.le_refl _, by simp, rfl⟩⟩, fun b e => by cases e; exact Nat.le_refl _⟩
    have HAPT := Lib.hid hapt
    have HTLT := Lib.hid htlt
    clear hk2 hb7 hapt htlt
    have HML : Hid (F.length = m) := Lib.hid (by have := congrArg List.length HFP.out; rw [List.length_map] at this; rw [this]; exact HM.out)
    have HEP : Hid (∀ x ∈ parts, 0 ≤ x.ep ∧ x.ep ≤ 1073741824) := Lib.hid (Pn.good_eps HGO.out)
    have hkd : kd = 1 ∨ kd = 2 ∨ kd = 3 ∨ kd = 4 ∨ kd = 5 := by have := Pn.ev_kind HEB.out; simp only at this; exact this
    have HAPP : Hid (Pn.apply ⟨nodes, copies, parts, lives⟩ ⟨kd, nd, (n : Int), nn⟩ = if kd = 1 then Pn.apply1 ⟨nodes, copies, parts, lives⟩ ⟨kd, nd, (n : Int), nn⟩ else if kd = 2 then Pn.apply2 ⟨nodes, copies, parts, lives⟩ ⟨kd, nd, (n : Int), nn⟩ else if kd = 3 then Pn.apply3 ⟨nodes, copies, parts, lives⟩ ⟨kd, nd, (n : Int), nn⟩ else if kd = 4 then Pn.apply4 ⟨nodes, copies, parts, lives⟩ else Pn.apply5 ⟨nodes, copies, parts, lives⟩ ⟨kd, nd, (n : Int), nn⟩) := Lib.hid (by rw [Pn.apply, HOT.out, if_neg (by decide)])
    have HZLE : Hid (we.heap.size ≤ W7.heap.size) := Lib.hid HAP7.out.zle
    go_upto_region 6 with fail
    clear c0 c1 c2 c3 e0 e1 e2 e3
    obtain ⟨c0, c1, c2, c3⟩ := HAP7.out.k1.cells4
    obtain ⟨e0, e1, e2, e3⟩ := (show Blk W7 W1.heap.size #[.int .i64 kd, .int .i64 nd, .int .i64 (n : Int), .int .i64 nn] 27 from HAP7.out.k2).cells4
    rcases hkd with hkd | hkd | hkd | hkd | hkd
    · subst hkd
      have HP1 := Lib.hid (HAPP.out.trans (if_pos rfl))
      have HLF : Hid (∀ wx, Below W7.heap.size W7 wx → Calls Tryz.prog 15 #[.agg #[.int .i64 nodes, .int .i64 copies, .slice (some ⟨sg, sp, none⟩) m sc, .slice lva ln lvc], .int .i64 nd] wx fun e w' => NumOut wx (Pn.life lives nd) e w') := Lib.hid fun wx hb => life_any _ ⟨nodes, copies, F.map PE.x, lives⟩ nd wx (HAP7.out.plr.below hb) (by simp only; have := HLL.out; omega)
      obtain ⟨lf, hlf⟩ : ∃ l, Pn.life lives nd = l := ⟨_, rfl⟩
      have HLV := Lib.hid hlf
      rw [hlf] at HLF
      have HC2 := Lib.hid fun d os => Calls.regrown_of (HLF.out _ (below_regrown W7 d os))
      have HIN0 := Lib.hid hW7
      have k0 : ∀ d os, _ := cell_regrown c0
      have k1 : ∀ d os, _ := cell_regrown c1
      have k2 : ∀ d os, _ := cell_regrown c2
      have k3 : ∀ d os, _ := cell_regrown c3
      have j0 : ∀ d os, _ := cell_regrown e0
      have j1 : ∀ d os, _ := cell_regrown e1
      have j2 : ∀ d os, _ := cell_regrown e2
      have j3 : ∀ d os, _ := cell_regrown e3
      clear hlf hW7 HLF
      go_upto_region 8 with fail
      clear c0 c1 c2 c3 e0 e1 e2 e3
      refine wp_region_quiet_below (by kernel_rfl) (by kernel_rfl) ?_
      repeat (go_big_quiet_step ((go_at_call 15; with_reducible exact HC2.out _ _)))
      refine wpQuiet_nil ?_
      intro w8 hw8
      obtain ⟨⟨dq, osq⟩, hw8'⟩ := hw8
      have H8 : Hid (Below W7.heap.size W7 w8) := Lib.hid (by rw [hw8']; exact below_regrown W7 dq osq)
      clear hw8' HC2 k0 k1 k2 k3 j0 j1 j2 j3
      have HAP8 := Lib.hid (HAP7.out.below H8.out)
      by_cases hlt : nn ≤ lf
      · have HR : Hid (Pn.apply ⟨nodes, copies, parts, lives⟩ ⟨1, nd, (n : Int), nn⟩ = .bad 21) := Lib.hid (by
          rw [HP1.out]
          unfold Pn.apply1
          simp only
          rw [HLV.out, if_pos hlt])
        go_wp2_with fail
        go_step3
        exact ⟨rfl, ⟨rfl, rfl, rfl, HAP8.out.low, HAP8.out.k3, by have := HLT.out; omega⟩, HR.out⟩
      · have hmono := Fk.cP_mono (Pn.lives_pair lives nodes 0 (Pn.good_lives HGO.out)).1 nd
        obtain ⟨R, hR⟩ : ∃ R, Fk.putPt lives nd nn = R := ⟨_, rfl⟩
        have HLIV := Lib.hid (living_any (z := we.heap.size) (.slice lva ln lvc) lives nd nn w8 HAP8.out.lvs HLL.out hmono HAP8.out.zle)
        rw [hR] at HLIV
        have HF0 : Hid (Pn.apply ⟨nodes, copies, parts, lives⟩ ⟨1, nd, (n : Int), nn⟩ = Pn.fin ⟨nodes, copies, parts, lives⟩ parts R (Pn.idx (Pn.hasB nd) 0 parts)) := Lib.hid (by
          rw [HP1.out]
          unfold Pn.apply1
          simp only
          rw [HLV.out, if_neg hlt, hR])
        obtain ⟨c0, c1, c2, c3⟩ := HAP8.out.k1.cells4
        obtain ⟨e0, e1, e2, e3⟩ := (show Blk w8 W1.heap.size #[.int .i64 1, .int .i64 nd, .int .i64 (n : Int), .int .i64 nn] 27 from HAP8.out.k2).cells4
        clear hmono hR
        go_wp2_with fail
        refine HLIV.out.mono ?_
        rintro e w9 ⟨v', gl', rfl, hw9, hg9, hn9⟩
        obtain ⟨va, vc, rfl⟩ := hw9.form
        obtain ⟨RN, hRN⟩ : ∃ k, R.length = k := ⟨_, rfl⟩
        obtain ⟨x0, x1, hap⟩ := HAP8.out.lived hg9 hw9 hn9
        rw [hRN] at hap ⊢
        have HAP10 := Lib.hid hap
        obtain ⟨W10, hW10⟩ : ∃ W, w9.setCell ⟨w.heap.size, 3, none⟩ (.slice va RN vc) = W := ⟨_, rfl⟩
        rw [hW10] at HAP10
        have HW10 := Lib.hid hW10
        clear hap hw9 hg9 hn9 hW10 HLIV c0 c1 c2 c3 e0 e1 e2 e3 hRN
        go_upto_region 10 with fail
        rw [HW10.out]
        clear HW10 x0 x1
        obtain ⟨c0, c1, c2, c3⟩ := HAP10.out.k1.cells4
        obtain ⟨e0, e1, e2, e3⟩ := (show Blk W10 W1.heap.size #[.int .i64 1, .int .i64 nd, .int .i64 (n : Int), .int .i64 nn] 27 from HAP10.out.k2).cells4
        have hpsr := HAP10.out.psr
        rw [HFP.out] at hpsr
        have HCHG := Lib.hid (change_has _ parts nd W10 hpsr (by omega) HC.out)
        clear hpsr
        go_wp2_with fail
        refine HCHG.out.mono ?_
        rintro e w11 ⟨hb11, tv, gt, rfl, hn11⟩
        obtain ⟨ta, tc, rfl⟩ := hn11.ns.form
        obtain ⟨t, ht⟩ : ∃ t, Pn.idx (Pn.hasB nd) 0 parts = t := ⟨_, rfl⟩
        have HFI : Hid (Pn.apply ⟨nodes, copies, parts, lives⟩ ⟨1, nd, (n : Int), nn⟩ = Pn.fin ⟨nodes, copies, parts, lives⟩ (F.map PE.x) R t) := Lib.hid (by rw [HF0.out, HFP.out, ht])
        have HTB : Hid (t.length ≤ m ∧ ∀ k ∈ t, k < m) := Lib.hid (by rw [← ht, ← HM.out]; exact ⟨Pn.idx_len _ _ _, Pn.idx_lt0 _ _⟩)
        rw [ht] at hn11 ⊢
        obtain ⟨hap, htl⟩ := HAP10.out.told hb11 hn11
        have HAP11 := Lib.hid hap
        have HTL11 := Lib.hid htl
        obtain ⟨tn, htn⟩ : ∃ k, (Pn.nums t).length = k := ⟨_, rfl⟩
        rw [htn] at HTL11 ⊢
        have HEB2 : Hid (∀ e ∈ F, 0 ≤ e.x.ep ∧ e.x.ep ≤ 1073741824) := Lib.hid (fun e he => HEP.out e.x (by rw [← HFP.out]; exact List.mem_map_of_mem he))
        have HL2 := HML
        clear hap htl hb11 hn11 ht htn HCHG c0 c1 c2 c3 e0 e1 e2 e3
  
        have HRI := Lib.hid (rise_any _ _ t w11 HAP11.out.row (HTL11.out.apart HAP11.out) (by have := HL2.out; have := HM.out; omega) (by have := HTB.out.1; have := HM.out; omega) (fun k hk => by rw [HL2.out]; exact HTB.out.2 k hk) HEB2.out)
        obtain ⟨D, hD⟩ : ∃ D, Pn.rise (F.map PE.x) t = D := ⟨_, rfl⟩
        have HD := Lib.hid hD
        rw [hD] at HRI
        obtain ⟨c0, c1, c2, c3⟩ := HAP11.out.k1.cells4
        clear hD
        go_wp2_with fail
        refine HRI.out.mono ?_
        rintro e wr ⟨rfl, hg, hq⟩
        clear HRI c0 c1 c2 c3
        cases D with
        | none =>
          have HR : Hid (Pn.apply ⟨nodes, copies, parts, lives⟩ ⟨1, nd, (n : Int), nn⟩ = .bad 32) := Lib.hid (by rw [HFI.out, Pn.fin, HD.out])
          obtain ⟨hlow, hk3⟩ := HAP11.out.top hg
          have HLOW := Lib.hid hlow
          have HK3E := Lib.hid hk3
          obtain ⟨y0, y1, y2, y3⟩ := hk3.free4
          obtain ⟨z0, z1, z2, z3⟩ := hk3.cells4
          clear hlow hk3 hg hq
          go_wp2_with fail
          simp only [Exit.jump]
          refine bodyPost_ret (apply_ret (Blk.four HK3E.out _ _ _ _) rfl rfl rfl) rfl ?_
          rw [HR.out]
          exact ⟨HLOW.out.trans ((four_kb _ _ _ _ _ _).below (by have := HLT.out; omega) HK3E.out.lt), rfl⟩
        | some qs =>
          have HR : Hid (Pn.apply ⟨nodes, copies, parts, lives⟩ ⟨1, nd, (n : Int), nn⟩ = .ok ⟨nodes, copies, qs, R⟩ t) := Lib.hid (by rw [HFI.out, Pn.fin, HD.out])
          obtain ⟨E', hE', hrow⟩ := hq qs rfl
          subst hE'
          have HAP9 := Lib.hid (HAP11.out.rose hg hrow)
          have HTL9 := Lib.hid (HTL11.out.rose HAP11.out hg)
          obtain ⟨c0, c1, c2, c3⟩ := HAP9.out.k1.cells4
          obtain ⟨y0, y1, y2, y3⟩ := HAP9.out.k3.free4
          obtain ⟨z0, z1, z2, z3⟩ := HAP9.out.k3.cells4
          clear hrow hg hq
          go_wp2_with fail
          simp only [Exit.jump]
          refine bodyPost_ret (apply_ret (Blk.four HAP9.out.k3 _ _ _ _) rfl rfl rfl) rfl ?_
          rw [HR.out]
          obtain ⟨l1, l2, gt, l3⟩ := HAP9.out.fin HTL9.out (four_kb _ _ _ _ _ _)
          exact ⟨l1, _, _, gt, rfl, l2, l3⟩
    · subst hkd
      have HP2 := Lib.hid (HAPP.out.trans ((if_neg (by decide)).trans (if_pos rfl)))
      have HCH := Lib.hid (change_lose nd W7 HAP7.out.row HML.out (by have := HM.out; omega) (fun e he => HC.out e.x (by rw [← HFP.out]; exact List.mem_map_of_mem he)))
      rw [HFP.out] at HCH
      go_wp2_with fail
      refine HCH.out.mono ?_
      rintro e w8 ⟨lab2, F2, s2, gt, rfl, hst⟩
      obtain ⟨ta, tc, rfl⟩ := hst.trn.ns.form
      obtain ⟨t, ht⟩ : ∃ t, Pn.idx (Pn.loseB nd) 0 parts = t := ⟨_, rfl⟩
      have htk : parts.take parts.length = parts := List.take_of_length_le (Nat.le_refl _)
      have htr := hst.trn
      rw [htk, ht] at htr
      rw [htk, ht]
      obtain ⟨tn, htn⟩ : ∃ k, (Pn.nums t).length = k := ⟨_, rfl⟩
      have htl : t.length = tn := by rw [← htn]; unfold Pn.nums; rw [List.length_map]
      have HTB : Hid (t.length ≤ m ∧ ∀ k ∈ t, k < m) := Lib.hid (by rw [← ht, ← HM.out]; exact ⟨Pn.idx_len _ _ _, Pn.idx_lt0 _ _⟩)
      have HXS : Hid (F2.map PE.x = parts.map (Pn.lose nd)) := Lib.hid (by rw [hst.xs, htk, List.drop_of_length_le (Nat.le_refl _), List.append_nil])
      have HAP8 := Lib.hid (HAP7.out.mut hst.mu hst.labs hst.row)
      have HTL8 : Hid (Tl we.heap.size lab2 w8 (.slice ta (Pn.nums t).length tc) t) := Lib.hid ⟨gt, htr.mono HZLE.out, hst.no⟩
      have HT := Lib.hid ht
      have HTNN := Lib.hid htl
      rw [htn] at HTL8 ⊢
      clear hst htk htr htn htl ht c0 c1 c2 c3 e0 e1 e2 e3 hW7
      by_cases h0 : tn = 0
      · have HR : Hid (Pn.apply ⟨nodes, copies, parts, lives⟩ ⟨2, nd, (n : Int), nn⟩ = .bad 21) := Lib.hid (by
          rw [HP2.out]
          have ht0 : t = [] := List.length_eq_zero_iff.1 (HTNN.out.trans h0)
          unfold Pn.apply2
          simp only
          rw [HT.out, if_pos ht0])
        subst h0
        go_wp2_with fail
        go_step3
        exact ⟨rfl, ⟨rfl, rfl, rfl, HAP8.out.low, HAP8.out.k3, by have := HLT.out; omega⟩, HR.out⟩
      · have hn0 : ((tn : Int) == 0) = false := by simp; omega
        have HFI : Hid (Pn.apply ⟨nodes, copies, parts, lives⟩ ⟨2, nd, (n : Int), nn⟩ = Pn.fin ⟨nodes, copies, parts, lives⟩ (F2.map PE.x) lives t) := Lib.hid (by
          rw [HP2.out, HXS.out]
          have ht0 : ¬ t = [] := fun e => h0 (by rw [← HTNN.out, e]; rfl)
          unfold Pn.apply2
          simp only
          rw [HT.out, if_neg ht0])
        have HEB2 : Hid (∀ e ∈ F2, 0 ≤ e.x.ep ∧ e.x.ep ≤ 1073741824) := Lib.hid (fun e he => by
          have h1 : e.x ∈ F2.map PE.x := List.mem_map_of_mem he
          rw [HXS.out] at h1
          obtain ⟨y, hy, hye⟩ := List.mem_map.1 h1
          rw [← hye, Pn.lose_ep]
          exact HEP.out y hy)
        have HL2 : Hid (F2.length = m) := Lib.hid (by have := congrArg List.length HXS.out; rw [List.length_map, List.length_map] at this; rw [this]; exact HM.out)
        have HRI := Lib.hid (rise_any _ _ t w8 HAP8.out.row (HTL8.out.apart HAP8.out) (by have := HL2.out; have := HM.out; omega) (by have := HTB.out.1; have := HM.out; omega) (fun k hk => by rw [HL2.out]; exact HTB.out.2 k hk) HEB2.out)
        obtain ⟨D, hD⟩ : ∃ D, Pn.rise (F2.map PE.x) t = D := ⟨_, rfl⟩
        have HD := Lib.hid hD
        rw [hD] at HRI
        obtain ⟨c0, c1, c2, c3⟩ := HAP8.out.k1.cells4
        clear hD
        go_wp2_with fail
        refine HRI.out.mono ?_
        rintro e wr ⟨rfl, hg, hq⟩
        clear HRI c0 c1 c2 c3
        cases D with
        | none =>
          have HR : Hid (Pn.apply ⟨nodes, copies, parts, lives⟩ ⟨2, nd, (n : Int), nn⟩ = .bad 32) := Lib.hid (by rw [HFI.out, Pn.fin, HD.out])
          obtain ⟨hlow, hk3⟩ := HAP8.out.top hg
          have HLOW := Lib.hid hlow
          have HK3E := Lib.hid hk3
          obtain ⟨y0, y1, y2, y3⟩ := hk3.free4
          obtain ⟨z0, z1, z2, z3⟩ := hk3.cells4
          clear hlow hk3 hg hq
          go_wp2_with fail
          simp only [Exit.jump]
          refine bodyPost_ret (apply_ret (Blk.four HK3E.out _ _ _ _) rfl rfl rfl) rfl ?_
          rw [HR.out]
          exact ⟨HLOW.out.trans ((four_kb _ _ _ _ _ _).below (by have := HLT.out; omega) HK3E.out.lt), rfl⟩
        | some qs =>
          have HR : Hid (Pn.apply ⟨nodes, copies, parts, lives⟩ ⟨2, nd, (n : Int), nn⟩ = .ok ⟨nodes, copies, qs, lives⟩ t) := Lib.hid (by rw [HFI.out, Pn.fin, HD.out])
          obtain ⟨E', hE', hrow⟩ := hq qs rfl
          subst hE'
          have HAP9 := Lib.hid (HAP8.out.rose hg hrow)
          have HTL9 := Lib.hid (HTL8.out.rose HAP8.out hg)
          obtain ⟨c0, c1, c2, c3⟩ := HAP9.out.k1.cells4
          obtain ⟨y0, y1, y2, y3⟩ := HAP9.out.k3.free4
          obtain ⟨z0, z1, z2, z3⟩ := HAP9.out.k3.cells4
          clear hrow hg hq
          go_wp2_with fail
          simp only [Exit.jump]
          refine bodyPost_ret (apply_ret (Blk.four HAP9.out.k3 _ _ _ _) rfl rfl rfl) rfl ?_
          rw [HR.out]
          obtain ⟨l1, l2, gt, l3⟩ := HAP9.out.fin HTL9.out (four_kb _ _ _ _ _ _)
          exact ⟨l1, _, _, gt, rfl, l2, l3⟩
    · subst hkd
      have HP3 := Lib.hid (HAPP.out.trans ((if_neg (by decide)).trans ((if_neg (by decide)).trans (if_pos rfl))))
      obtain ⟨e, he⟩ : ∃ e, F[n]? = some e := ⟨_, List.getElem?_eq_getElem (by rw [HML.out]; omega)⟩
      have hx : parts[n]? = some e.x := by rw [← HFP.out, List.getElem?_map, he]; rfl
      obtain ⟨d0c, d1c, d2c⟩ := pe_cells he
      have d0 : W7.cell? ⟨sg, sp + n * 3, none⟩ = some (.int .i64 e.x.ep) := Sl.cell HAPT.out.row.1.1 rfl _ _ d0c
      have d1 : W7.cell? ⟨sg, sp + n * 3 + 1, none⟩ = some e.cv := Sl.cell HAPT.out.row.1.1 rfl _ _ d1c
      have d2 : W7.cell? ⟨sg, sp + n * 3 + 2, none⟩ = some (.int .i64 e.x.le) := Sl.cell HAPT.out.row.1.1 rfl _ _ d2c
      obtain ⟨⟨xe, xc, xl⟩, cv⟩ := e
      simp only at hx d0 d1 d2
      have HX := Lib.hid hx
      have HE0 := Lib.hid he
      have HAT : Hid (Pn.at' ⟨nodes, copies, parts, lives⟩ ⟨3, nd, (n : Int), nn⟩ = ⟨xe, xc, xl⟩) := Lib.hid (by
        unfold Pn.at'
        simp only [Int.toNat_natCast, List.getD_eq_getElem?_getD, hx, Option.getD_some])
      have HP4 : Hid (Pn.apply ⟨nodes, copies, parts, lives⟩ ⟨3, nd, (n : Int), nn⟩ = if nn = xe ∧ nd = xl then Pn.fin ⟨nodes, copies, parts, lives⟩ (parts.set n ⟨xe, xc ++ [nd], 0⟩) lives [n] else .bad 21) := Lib.hid (by
        rw [HP3.out]
        unfold Pn.apply3
        rw [HAT.out]
        simp only [Int.toNat_natCast])
      have HW7 := Lib.hid hW7
      clear hx he d0c d1c d2c HP3 HAT hW7
      by_cases g1 : nn = xe
      · subst g1
        by_cases g2 : nd = xl
        · subst g2
          have HF0 : Hid (Pn.apply ⟨nodes, copies, parts, lives⟩ ⟨3, nd, (n : Int), nn⟩ = Pn.fin ⟨nodes, copies, parts, lives⟩ (parts.set n ⟨nn, xc ++ [nd], 0⟩) lives [n]) := Lib.hid (by rw [HP4.out, if_pos ⟨rfl, rfl⟩])
          go_upto_region 15 with fail
          go_quiet (fail)
          obtain ⟨W8, hW8⟩ : ∃ W, W7.drewN nq = W := ⟨_, rfl⟩
          have hb8 : Below W7.heap.size W7 W8 := by rw [← hW8]; exact below_drewN _ _
          have HAP8 := Lib.hid (HAPT.out.below hb8)
          have HTL8 := Lib.hid (HTLT.out.below hb8)
          rw [hW8]
          clear hW8 hb8 c0 c1 c2 c3 e0 e1 e2 e3 d0 d1 d2
          obtain ⟨cb, hc, hcl⟩ := HAP8.out.row.2.2 n _ HE0.out
          simp only at hc
          obtain ⟨ca, cc, rfl⟩ := hc.ns.form
          obtain ⟨cn, hcn⟩ : ∃ k, xc.length = k := ⟨_, rfl⟩
          have HC8 := Lib.hid hc
          have HCL8 := Lib.hid hcl
          have HCN := Lib.hid hcn
          have hc64 : cn ≤ 64 := by have := HC.out _ (List.mem_of_getElem? HX.out); simp only at this; omega
          have HROW : Hid (∀ wx, Below W8.heap.size W8 wx → Sl wx (.slice ca cn cc) cb 3 1 cn (xc.map (Value.int .i64))) := Lib.hid fun wx hb => by
            have := (Wz.below HC8.out hb).1
            rw [HCN.out] at this
            exact this
          have hx1 : W8.cell? ⟨sg, sp + n * 3 + 1, none⟩ = some (.slice ca cn cc) := by
            have := Sl.cell HAP8.out.row.1.1 rfl _ _ (pe_cells HE0.out).2.1
            rw [← HCN.out]
            exact this
          obtain ⟨e0, e1, e2, e3⟩ := (show Blk W8 W1.heap.size #[.int .i64 3, .int .i64 nd, .int .i64 (n : Int), .int .i64 nn] 27 from HAP8.out.k2).cells4
          obtain ⟨ip, hip, i1p, i2p, i3p, i4p⟩ := infoInt
          have hab := HAP8.out.below ((Below.refl W8.heap.size W8).alloc (Nat.le_refl _) (.cells #[.int .i64 nd] 3))
          have hx2 : (W8.alloc (.cells #[.int .i64 nd] 3)).cell? ⟨sg, sp + n * 3 + 1, none⟩ = some (.slice ca cn cc) := by
            have := Sl.cell hab.row.1.1 rfl _ _ (pe_cells HE0.out).2.1
            rw [← HCN.out]
            exact this
          obtain ⟨q0, q1, q2, q3⟩ := (show Blk _ W1.heap.size #[.int .i64 3, .int .i64 nd, .int .i64 (n : Int), .int .i64 nn] 27 from hab.k2).cells4
          clear hab
          have HAB := Lib.hid ((Below.refl W8.heap.size W8).alloc (Nat.le_refl _) (.cells #[.int .i64 nd] 3))
          have HSR : Hid (∀ wx, Below (W8.alloc (.cells #[.int .i64 nd] 3)).heap.size (W8.alloc (.cells #[.int .i64 nd] 3)) wx → Rds (fun b => b = W8.heap.size) wx (.slice (some ⟨W8.heap.size, 0, none⟩) 1 1) 1 1 [.int .i64 nd]) := Lib.hid fun wx hb => Rds.below (Rds.lit (w := W8) (n := 1) (size := 1) (cs := [.int .i64 nd]) 3 rfl) hb
          have HRD : Hid (∀ w' wB v' gb', Below W8.heap.size W8 wB → Sl w' v' gb' 3 1 (cn + 1) (xc.map (Value.int .i64) ++ [.int .i64 nd]) → wB.grownBy w' cb → (gb' = cb ∨ ∃ g, gb' = some g ∧ wB.heap.size ≤ g) →
              (w'.cell? ⟨sg, sp + n * 3 + 1, none⟩ = some (.slice ca cn cc) ∧ w'.frozen? ⟨sg, sp + n * 3 + 1, none⟩ = false) ∧
              ((w'.setCell ⟨sg, sp + n * 3 + 1, none⟩ v').cell? ⟨sg, sp + n * 3 + 2, none⟩ = some (.int .i64 nd) ∧ (w'.setCell ⟨sg, sp + n * 3 + 1, none⟩ v').frozen? ⟨sg, sp + n * 3 + 2, none⟩ = false) ∧ 
              ∃ lab2 F2, Ap w W1.heap.size W2.heap.size we.heap.size ⟨3, nd, (n : Int), nn⟩ nodes copies lab2 (.slice (some ⟨sg, sp, none⟩) m sc) sg F2 (.slice lva ln lvc) gl lives ((w'.setCell ⟨sg, sp + n * 3 + 1, none⟩ v').setCell ⟨sg, sp + n * 3 + 2, none⟩ (.int .i64 0)) ∧
                Tl we.heap.size lab2 ((w'.setCell ⟨sg, sp + n * 3 + 1, none⟩ v').setCell ⟨sg, sp + n * 3 + 2, none⟩ (.int .i64 0)) (.slice (some ⟨W6.heap.size, 0, none⟩) 1 1) [n] ∧ F2.map PE.x = parts.set n ⟨nn, xc ++ [nd], 0⟩) := Lib.hid fun w' wB v' gb' hB h1 h2 h3 => by
            obtain ⟨a1, a2, a3, a4⟩ := HAP8.out.ready (tv := .slice (some ⟨W6.heap.size, 0, none⟩) 1 1) (t := [n]) HML.out HE0.out hB HC8.out HCL8.out (by simp only; rw [HCN.out]; exact h1) h2 h3
            simp only at a1 a2
            rw [HCN.out] at a1
            exact ⟨a1, a2, _, _, a3, a4 HTL8.out, by rw [List.map_set, HFP.out]⟩
          clear hc hcl hcn
          go_upto_region 16 with fail
          go_region_law (first
            | (refine step_append_rd (by rfl) _ _ _ (by rfl) 3 ip _ 1 8 Tryz.underlying32 hip i1p i2p i3p i4p _ cb cn (xc.map (Value.int .i64)) (by rfl) (HROW.out _ (by first | exact HAB.out | exact HAB.out.drew)) _ 1 [.int .i64 nd] (by rfl) (HSR.out _ (by first | exact Below.refl _ _ | exact (Below.refl _ _).drew)) (by simp [Value.oneCell']) (by omega) (by omega) ?_; intro v' w' gb' h1 h2 h3; obtain ⟨va, vc, rfl⟩ := h1.form; obtain ⟨⟨x1, x2⟩, ⟨x3, x4⟩, lab2, F2, hap, htl, hf2⟩ := HRD.out _ _ _ _ (by first | exact HAB.out | exact HAB.out.drew) h1 h2 h3; have HAP9 := Lib.hid hap; have HTL9 := Lib.hid htl; have HXS := Lib.hid hf2; clear h1 h2 h3 hap htl hf2)
            | fail)
          all_goals
            obtain ⟨W9, hW9⟩ : ∃ W, (w'.setCell ⟨sg, sp + n * 3 + 1, none⟩ (.slice va (cn + 1) vc)).setCell ⟨sg, sp + n * 3 + 2, none⟩ (.int .i64 0) = W := ⟨_, rfl⟩
            rw [hW9] at HAP9 HTL9 ⊢
            obtain ⟨t, ht⟩ : ∃ t : List Nat, [n] = t := ⟨_, rfl⟩
            rw [ht] at HTL9
            have HFI : Hid (Pn.apply ⟨nodes, copies, parts, lives⟩ ⟨3, nd, (n : Int), nn⟩ = Pn.fin ⟨nodes, copies, parts, lives⟩ (F2.map PE.x) lives t) := Lib.hid (by rw [HF0.out, HXS.out, ht])
            have HTB : Hid (t.length ≤ m ∧ ∀ k ∈ t, k < m) := Lib.hid (by
              rw [← ht]
              refine ⟨by have := HM.out; simp only [List.length_cons, List.length_nil]; omega, fun k hk => ?_⟩
              simp only [List.mem_singleton] at hk
              omega)
            have HEB2 : Hid (∀ e ∈ F2, 0 ≤ e.x.ep ∧ e.x.ep ≤ 1073741824) := Lib.hid (fun e he => by
              have h1 : e.x ∈ F2.map PE.x := List.mem_map_of_mem he
              rw [HXS.out] at h1
              rcases List.mem_or_eq_of_mem_set h1 with h1 | h1
              · exact HEP.out _ h1
              · have h2 := HEP.out _ (List.mem_of_getElem? HX.out)
                rw [h1]
                exact h2)
            have HL2 : Hid (F2.length = m) := Lib.hid (by have := congrArg List.length HXS.out; rw [List.length_map, List.length_set] at this; rw [this]; exact HM.out)
            clear hW9 ht x1 x2 x3 x4 e0 e1 e2 e3 q0 q1 q2 q3 hx1 hx2
            have HRI := Lib.hid (rise_any _ _ t W9 HAP9.out.row (HTL9.out.apart HAP9.out) (by have := HL2.out; have := HM.out; omega) (by have := HTB.out.1; have := HM.out; omega) (fun k hk => by rw [HL2.out]; exact HTB.out.2 k hk) HEB2.out)
            obtain ⟨D, hD⟩ : ∃ D, Pn.rise (F2.map PE.x) t = D := ⟨_, rfl⟩
            have HD := Lib.hid hD
            rw [hD] at HRI
            obtain ⟨c0, c1, c2, c3⟩ := HAP9.out.k1.cells4
            clear hD
            go_wp2_with fail
            refine HRI.out.mono ?_
            rintro e wr ⟨rfl, hg, hq⟩
            clear HRI c0 c1 c2 c3
            cases D with
            | none =>
              have HR : Hid (Pn.apply ⟨nodes, copies, parts, lives⟩ ⟨3, nd, (n : Int), nn⟩ = .bad 32) := Lib.hid (by rw [HFI.out, Pn.fin, HD.out])
              obtain ⟨hlow, hk3⟩ := HAP9.out.top hg
              have HLOW := Lib.hid hlow
              have HK3E := Lib.hid hk3
              obtain ⟨y0, y1, y2, y3⟩ := hk3.free4
              obtain ⟨z0, z1, z2, z3⟩ := hk3.cells4
              clear hlow hk3 hg hq
              go_wp2_with fail
              simp only [Exit.jump]
              refine bodyPost_ret (apply_ret (Blk.four HK3E.out _ _ _ _) rfl rfl rfl) rfl ?_
              rw [HR.out]
              exact ⟨HLOW.out.trans ((four_kb _ _ _ _ _ _).below (by have := HLT.out; omega) HK3E.out.lt), rfl⟩
            | some qs =>
              have HR : Hid (Pn.apply ⟨nodes, copies, parts, lives⟩ ⟨3, nd, (n : Int), nn⟩ = .ok ⟨nodes, copies, qs, lives⟩ t) := Lib.hid (by rw [HFI.out, Pn.fin, HD.out])
              obtain ⟨E', hE', hrow⟩ := hq qs rfl
              subst hE'
              have HAP11 := Lib.hid (HAP9.out.rose hg hrow)
              have HTL11 := Lib.hid (HTL9.out.rose HAP9.out hg)
              obtain ⟨c0, c1, c2, c3⟩ := HAP11.out.k1.cells4
              obtain ⟨y0, y1, y2, y3⟩ := HAP11.out.k3.free4
              obtain ⟨z0, z1, z2, z3⟩ := HAP11.out.k3.cells4
              clear hrow hg hq
              go_wp2_with fail
              simp only [Exit.jump]
              refine bodyPost_ret (apply_ret (Blk.four HAP11.out.k3 _ _ _ _) rfl rfl rfl) rfl ?_
              rw [HR.out]
              obtain ⟨l1, l2, gt, l3⟩ := HAP11.out.fin HTL11.out (four_kb _ _ _ _ _ _)
              exact ⟨l1, _, _, gt, rfl, l2, l3⟩
        · have hz0 := g2
          have hne : (nd != xl) = true := by simp [g2]
          have hne2 : (nd == xl) = false := by simp [g2]
          have HR : Hid (Pn.apply ⟨nodes, copies, parts, lives⟩ ⟨3, nd, (n : Int), nn⟩ = .bad 21) := Lib.hid (by rw [HP4.out, if_neg (fun e => g2 e.2)])
          go_upto_region 15 with fail
          go_quiet (fail)
          go_wp2_with fail
          go_step3
          exact ⟨rfl, ⟨rfl, rfl, rfl, (HAP7.out.below (below_drewN _ _)).low, (HAP7.out.below (below_drewN _ _)).k3, by have := HLT.out; omega⟩, HR.out⟩
      · have hz0 := g1
        have hne : (nn != xe) = true := by simp [g1]
        have hne2 : (nn == xe) = false := by simp [g1]
        have HR : Hid (Pn.apply ⟨nodes, copies, parts, lives⟩ ⟨3, nd, (n : Int), nn⟩ = .bad 21) := Lib.hid (by rw [HP4.out, if_neg (fun e => g1 e.1)])
        go_upto_region 15 with fail
        go_quiet (fail)
        go_wp2_with fail
        go_step3
        exact ⟨rfl, ⟨rfl, rfl, rfl, (HAP7.out.below (below_drewN _ _)).low, (HAP7.out.below (below_drewN _ _)).k3, by have := HLT.out; omega⟩, HR.out⟩
    · subst hkd
      have HP4 := Lib.hid (HAPP.out.trans ((if_neg (by decide)).trans ((if_neg (by decide)).trans ((if_neg (by decide)).trans (if_pos rfl)))))
      by_cases h4 : m = 4
      · have hm4 : ((m : Int) == 4) = true := by simp; omega
        have HR : Hid (Pn.apply ⟨nodes, copies, parts, lives⟩ ⟨4, nd, (n : Int), nn⟩ = .bad 32) := Lib.hid (by
          rw [HP4.out]
          unfold Pn.apply4
          simp only
          rw [HM.out, if_pos h4])
        obtain ⟨y0, y1, y2, y3⟩ := HAP7.out.k3.free4
        obtain ⟨z0, z1, z2, z3⟩ := HAP7.out.k3.cells4
        clear h4
        go_wp2_with fail
        simp only [Exit.jump]
        refine bodyPost_ret (apply_ret (Blk.four HAP7.out.k3 _ _ _ _) rfl rfl rfl) rfl ?_
        rw [HR.out]
        exact ⟨HAP7.out.low.trans ((four_kb _ _ _ _ _ _).below (by have := HLT.out; omega) HAP7.out.k3.lt), rfl⟩
      · have hm4' : ((m : Int) == 4) = false := by simp; omega
        have hmx : m ≤ 4 := by have := HM.out; omega
        have HR : Hid (Pn.apply ⟨nodes, copies, parts, lives⟩ ⟨4, nd, (n : Int), nn⟩ = .ok ⟨nodes, copies, parts ++ [Pn.first nodes copies (m : Int)], lives⟩ [m]) := Lib.hid (by
          rw [HP4.out]
          unfold Pn.apply4
          simp only
          rw [HM.out, if_neg h4])
        have HFI : Hid (∀ wx, Below W7.heap.size W7 wx → Calls Tryz.prog 29 #[.agg #[.int .i64 nodes, .int .i64 copies, .slice (some ⟨sg, sp, none⟩) m sc, .slice lva ln lvc], .int .i64 (m : Int)] wx fun e w' => FisOut wx (Pn.ch0 nodes copies (m : Int)) e w') := Lib.hid fun wx _ => (first_any nodes copies _ _ (m : Int) wx ⟨_, _, _, rfl⟩ ⟨_, _, _, rfl⟩ hn1 hn5 (by omega) (by omega) (by omega) (by omega)).mono fun e w' h => first_spelt h
        obtain ⟨CH, hCH⟩ : ∃ CH, Pn.ch0 nodes copies (m : Int) = CH := ⟨_, rfl⟩
        have HCH := Lib.hid hCH
        have HROW : Hid (∀ wx, Below W7.heap.size W7 wx → Sl wx (.slice (some ⟨sg, sp, none⟩) m sc) (some sg) 49 3 m (F.flatMap PE.cells)) := Lib.hid fun wx hb => by
          have := (HAP7.out.below hb).row.1.1
          rw [HML.out] at this
          exact this
        have HD2 : Hid (∀ wx, Below W7.heap.size W7 wx → wx.cell? ⟨w.heap.size, 2, none⟩ = some (.slice (some ⟨sg, sp, none⟩) m sc)) := Lib.hid fun wx hb => (HAP7.out.below hb).k1.cell rfl
        rw [hCH] at HFI
        have HX0 := Lib.hid (Below.refl W7.heap.size W7)
        obtain ⟨ip, hip, i1p, i2p, i3p, i4p⟩ := infoPart
        have HPUSH : Hid (∀ wA wB w' v' cv cb gb', Below W7.heap.size W7 wA → NsO W7.heap.size wA cv cb CH → Below wA.heap.size wA wB → Sl w' v' gb' 49 3 (m + 1) (F.flatMap PE.cells ++ [.int .i64 1, cv, .int .i64 0]) → wB.grownBy w' (some sg) → (gb' = some sg ∨ ∃ g', gb' = some g' ∧ wB.heap.size ≤ g') →
            (w'.cell? ⟨w.heap.size, 2, none⟩ = some (.slice (some ⟨sg, sp, none⟩) m sc) ∧ w'.frozen? ⟨w.heap.size, 2, none⟩ = false) ∧
            ∃ lab2 g2, Ap w W1.heap.size W2.heap.size we.heap.size ⟨4, nd, (n : Int), nn⟩ nodes copies lab2 v' g2 (F ++ [⟨Pn.first nodes copies (m : Int), cv⟩]) (.slice lva ln lvc) gl lives (w'.setCell ⟨w.heap.size, 2, none⟩ v')) := Lib.hid fun wA wB w' v' cv cb gb' hA hc hB h1 h2 h3 =>
          HAP7.out.push (y := Pn.first nodes copies (m : Int)) hA (show NsO _ _ _ _ (Pn.ch0 nodes copies (m : Int)) by rw [HCH.out]; exact hc) hB (by rw [HML.out]; exact h1) h2 h3
        clear hCH
        go_upto_region 20 with fail
        go_region_law (first
          | (go_simp; go_at_call 29; refine (HFI.out _ (by first | exact HX0.out | exact HX0.out.drew)).mono ?_; rintro e wA ⟨hA, ca, ck, cb, rfl, hc⟩; have HA := Lib.hid (show Below W7.heap.size W7 wA from (by first | exact hA | exact HX0.out.drew.trans hA)); have HC := Lib.hid (show NsO W7.heap.size wA _ cb CH from hc); have g2 := HD2.out wA HA.out; have g3 := HD2.out (wA.alloc (.cells #[.int .i64 1, .slice ca CH.length ck, .int .i64 0] 49)) (HA.out.alloc HA.out.size _); have HAB := Lib.hid (show Below W7.heap.size W7 (wA.alloc (.cells #[.int .i64 1, .slice ca CH.length ck, .int .i64 0] 49)) from HA.out.alloc HA.out.size _); have HSR := Lib.hid (fun wx (hb : Below (wA.alloc (.cells #[.int .i64 1, .slice ca CH.length ck, .int .i64 0] 49)).heap.size (wA.alloc (.cells #[.int .i64 1, .slice ca CH.length ck, .int .i64 0] 49)) wx) => Rds.below (Rds.lit (w := wA) (n := 1) (size := 3) (cs := [.int .i64 1, .slice ca CH.length ck, .int .i64 0]) 49 rfl) hb); clear hA hc)
          | (refine step_append_rd (by rfl) _ _ _ (by rfl) 49 ip _ 3 40 Tryz.underlying22 hip i1p i2p i3p i4p _ (some sg) m (F.flatMap PE.cells) (by rfl) (HROW.out _ (by first | exact HAB.out | exact HAB.out.drew)) _ 1 [.int .i64 1, .slice ca CH.length ck, .int .i64 0] (by rfl) (HSR.out _ (by first | exact Below.refl _ _ | exact (Below.refl _ _).drew)) (by simp [Value.oneCell']) (by omega) (by omega) ?_; intro v' w' gb' h1 h2 h3; obtain ⟨va, vc, rfl⟩ := h1.form; obtain ⟨⟨g4, g5⟩, lab2, gq, hap⟩ := HPUSH.out _ _ _ _ _ _ _ HA.out HC.out (by first | exact (Below.refl _ _).alloc (Nat.le_refl _) (.cells #[.int .i64 1, .slice ca CH.length ck, .int .i64 0] 49) | exact ((Below.refl _ _).alloc (Nat.le_refl _) (.cells #[.int .i64 1, .slice ca CH.length ck, .int .i64 0] 49)).drew) h1 h2 h3; have HAP9 := Lib.hid hap; clear h1 h2 h3 hap)
          | fail)
        all_goals
          obtain ⟨W9, hW9⟩ : ∃ W, w'.setCell ⟨w.heap.size, 2, none⟩ (.slice va (m + 1) vc) = W := ⟨_, rfl⟩
          rw [hW9] at HAP9 ⊢
          clear g2 g3 g4 g5 hW9 c0 c1 c2 c3 e0 e1 e2 e3 HAB HSR
          obtain ⟨c0, c1, c2, c3⟩ := HAP9.out.k1.cells4
          obtain ⟨y0, y1, y2, y3⟩ := HAP9.out.k3.free4
          obtain ⟨z0, z1, z2, z3⟩ := HAP9.out.k3.cells4
          have hw0 : IntKind.i64.wrap (m : Int) = (m : Int) := by rw [IntKind.wrap_i64]; omega
          have hbA := (Below.refl W9.heap.size W9).alloc (Nat.le_refl _) (.cells #[.int .i64 (m : Int)] 3)
          obtain ⟨c0a, c1a, c2a, c3a⟩ := (HAP9.out.below hbA).k1.cells4
          obtain ⟨y0a, y1a, y2a, y3a⟩ := (HAP9.out.below hbA).k3.free4
          obtain ⟨z0a, z1a, z2a, z3a⟩ := (HAP9.out.below hbA).k3.cells4
          have c0d : W9.drew.cell? ⟨w.heap.size, 0, none⟩ = some (.int .i64 nodes) := c0
          have c1d : W9.drew.cell? ⟨w.heap.size, 1, none⟩ = some (.int .i64 copies) := c1
          have c2d : W9.drew.cell? ⟨w.heap.size, 2, none⟩ = some (.slice va (m + 1) vc) := c2
          have c3d : W9.drew.cell? ⟨w.heap.size, 3, none⟩ = some (.slice lva ln lvc) := c3
          have HNE : Hid (w.heap.size ≠ W2.heap.size) := Lib.hid (by have := HLT.out; omega)
          obtain ⟨c0b, c1b, c2b, c3b⟩ := (HAP9.out.below hbA.drew).k1.cells4
          clear hbA HPUSH HROW HD2 HFI HA HC
          have hb2 : W2.heap.size < W9.heap.size := HAP9.out.k3.lt
          have HMI : Hid (MadeAt w (((((W9.alloc (.cells #[.int .i64 (m : Int)] 3)).setCell ⟨W2.heap.size, 0, none⟩ (.int .i64 nodes)).setCell ⟨W2.heap.size, 1, none⟩ (.int .i64 copies)).setCell ⟨W2.heap.size, 2, none⟩ (.slice va (m + 1) vc)).setCell ⟨W2.heap.size, 3, none⟩ (.slice lva ln lvc)).drew W2.heap.size nodes copies (.slice va (m + 1) vc) (.slice lva ln lvc) (parts ++ [Pn.first nodes copies (m : Int)]) lives W9.heap.size m) := Lib.hid (by
            have hm := HAP9.out.made (m := m) ((Kb.alloc (Kb.refl _ _) (.cells #[.int .i64 (m : Int)] 3)).trans (four_kb _ _ (.int .i64 nodes) (.int .i64 copies) (.slice va (m + 1) vc) (.slice lva ln lvc))).drew ((Blk.new _ _ _).four' (by omega) _ _ _ _).drew
            rw [List.map_append, HFP.out] at hm
            exact ⟨(Blk.four (HAP9.out.k3.alloc _) _ _ _ _).drew, hm.1, hm.2.1, hm.2.2⟩)
          have HMJ : Hid (MadeAt w (((((W9.setCell ⟨W2.heap.size, 0, none⟩ (.int .i64 nodes)).setCell ⟨W2.heap.size, 1, none⟩ (.int .i64 copies)).setCell ⟨W2.heap.size, 2, none⟩ (.slice va (m + 1) vc)).setCell ⟨W2.heap.size, 3, none⟩ (.slice lva ln lvc)).alloc (.cells #[.int .i64 (m : Int)] 3)).drew W2.heap.size nodes copies (.slice va (m + 1) vc) (.slice lva ln lvc) (parts ++ [Pn.first nodes copies (m : Int)]) lives W9.heap.size m) := Lib.hid (by
            have hm := HAP9.out.made (m := m) (Kb.alloc (four_kb _ _ (.int .i64 nodes) (.int .i64 copies) (.slice va (m + 1) vc) (.slice lva ln lvc)) (.cells #[.int .i64 (m : Int)] 3)).drew (by rw [← four_size W9 W2.heap.size (.int .i64 nodes) (.int .i64 copies) (.slice va (m + 1) vc) (.slice lva ln lvc)]; exact (Blk.new _ _ _).drew)
            rw [List.map_append, HFP.out] at hm
            exact ⟨((Blk.four HAP9.out.k3 _ _ _ _).alloc _).drew, hm.1, hm.2.1, hm.2.2⟩)
          clear hb2 HAP9
          clear HAPP HAP7 HAPT HTLT HZLE HP4 HEP HGO HX0 hip i1p i2p i3p i4p
          try clear HEB
          try clear HFP
          try clear HML
          try clear HC
          try clear HLL
          try clear HLN
          try clear HM
          try clear hW7
          try clear HLE
          try clear HF1
          try clear HF2
          try clear HF3
          try clear HG
          try clear HE
          try clear HB3
          try clear HPL
          try clear HCD
          try clear HGD
          try clear HEV
          go_upto_region 21 with fail
          go_region_held3 (fun w' => w'.cell? ⟨w.heap.size, 0, none⟩ = some (.int .i64 nodes) ∧ w'.cell? ⟨w.heap.size, 1, none⟩ = some (.int .i64 copies) ∧ w'.cell? ⟨w.heap.size, 2, none⟩ = some (.slice va (m + 1) vc) ∧ w'.cell? ⟨w.heap.size, 3, none⟩ = some (.slice lva ln lvc)) (first | with_reducible exact ⟨c0, c1, c2, c3⟩ | with_reducible exact ⟨c0d, c1d, c2d, c3d⟩ | with_reducible exact ⟨c0a, c1a, c2a, c3a⟩ | with_reducible exact ⟨c0b, c1b, c2b, c3b⟩ | with_reducible exact ⟨far4d HNE.out c0, far4d HNE.out c1, far4d HNE.out c2, far4d HNE.out c3⟩ | with_reducible exact ⟨far4d HNE.out c0a, far4d HNE.out c1a, far4d HNE.out c2a, far4d HNE.out c3a⟩ | with_reducible exact ⟨farA (far4 HNE.out c0), farA (far4 HNE.out c1), farA (far4 HNE.out c2), farA (far4 HNE.out c3)⟩ | (trace_state; fail)) (fail)
          all_goals
            clear c0 c0a c0b c0d c1 c1a c1b c1d c2 c2a c2b c2d c3 c3a c3b c3d y0 y1 y2 y3 z0 z1 z2 z3 y0a y1a y2a y3a z0a z1a z2a z3a hw0
            go_wp2_with fail
            simp only [Exit.jump]
            show bodyPost _ _ _ _ _ _
            first
              | with_reducible refine MadeAt.ret HMI.out ?_ ?_ ?_ HR.out
              | with_reducible refine MadeAt.ret HMJ.out ?_ ?_ ?_ HR.out
            · rfl
            · rfl
            · rfl
    · subst hkd
      have HP5 := Lib.hid (HAPP.out.trans ((if_neg (by decide)).trans ((if_neg (by decide)).trans ((if_neg (by decide)).trans (if_neg (by decide))))))
      obtain ⟨e, he⟩ : ∃ e, F[n]? = some e := ⟨_, List.getElem?_eq_getElem (by rw [HML.out]; omega)⟩
      have hx : parts[n]? = some e.x := by rw [← HFP.out, List.getElem?_map, he]; rfl
      obtain ⟨⟨xe, xc, xl⟩, cv⟩ := e
      simp only at hx
      have HX := Lib.hid hx
      have HE0 := Lib.hid he
      have HAT : Hid (Pn.at' ⟨nodes, copies, parts, lives⟩ ⟨5, nd, (n : Int), nn⟩ = ⟨xe, xc, xl⟩) := Lib.hid (by
        unfold Pn.at'
        simp only [Int.toNat_natCast, List.getD_eq_getElem?_getD, hx, Option.getD_some])
      have hndn : 1 ≤ nd ∧ nd ≤ nodes := ⟨by have := Pn.ev_node5 HEB.out; exact this, by omega⟩
      have HAPT7 : Hid (∀ wx, Below W7.heap.size W7 wx → PlR (fun b => we.heap.size ≤ b) wx (.agg #[.int .i64 nodes, .int .i64 copies, .slice (some ⟨sg, sp, none⟩) m sc, .slice lva ln lvc]) ⟨nodes, copies, F.map PE.x, lives⟩) := Lib.hid fun wx hb => HAP7.out.plr.below hb
      have HLF : Hid (∀ wx, Below W7.heap.size W7 wx → Calls Tryz.prog 15 #[.agg #[.int .i64 nodes, .int .i64 copies, .slice (some ⟨sg, sp, none⟩) m sc, .slice lva ln lvc], .int .i64 nd] wx fun e w' => NumOut wx (Pn.life lives nd) e w') := Lib.hid fun wx hb => life_any _ ⟨nodes, copies, F.map PE.x, lives⟩ nd wx (HAPT7.out wx hb) (by simp only; have := HLL.out; omega)
      have HWN : Hid (∀ wx, Below W7.heap.size W7 wx → Calls Tryz.prog 17 #[.agg #[.int .i64 nodes, .int .i64 copies, .slice (some ⟨sg, sp, none⟩) m sc, .slice lva ln lvc], .int .i64 nd] wx fun e w' => LstOut wx (Pn.nums (Pn.wants ⟨nodes, copies, F.map PE.x, lives⟩ nd)) e w') := Lib.hid fun wx hb => wants_any _ ⟨nodes, copies, F.map PE.x, lives⟩ nd wx (HAPT7.out wx hb) (by simp only [List.length_map]; have := HML.out; have := HM.out; omega) (fun x hx => HC.out x (by rw [← HFP.out]; exact hx))
      obtain ⟨lf, hlf⟩ : ∃ l, Pn.life lives nd = l := ⟨_, rfl⟩
      obtain ⟨B, hB0⟩ : ∃ B, Pn.wantB copies nd ⟨xe, xc, xl⟩ = B := ⟨_, rfl⟩
      have HLV := Lib.hid hlf
      have HP5' : Hid (Pn.apply ⟨nodes, copies, parts, lives⟩ ⟨5, nd, (n : Int), nn⟩ = if lf = 0 ∨ B = false then .bad 21 else Pn.fin ⟨nodes, copies, parts, lives⟩ (parts.set n ⟨xe, xc, nd⟩) lives [n]) := Lib.hid (by
        rw [HP5.out]
        unfold Pn.apply5
        rw [HAT.out]
        simp only [Int.toNat_natCast]
        rw [hlf, hB0])
      have HCT : Hid (∀ (A : Nat → Prop) v wx, Ns A wx v (Pn.nums (Pn.wants ⟨nodes, copies, F.map PE.x, lives⟩ nd)) → Calls Tryz.prog 30 #[v, .int .i64 (n : Int)] wx fun e w' => SmeOut wx B e w') := Lib.hid fun A v wx h => by
        have h1 := contains_any v _ (n : Int) wx h (by unfold Pn.nums Pn.wants; rw [List.length_map, if_pos hndn]; exact Nat.le_trans (Pn.idx_len _ _ _) (by simp only [List.length_map]; have := HML.out; have := HM.out; omega))
        rw [Pn.wants_has hndn (x := ⟨xe, xc, xl⟩) (by rw [HFP.out]; exact HX.out)] at h1
        rw [hB0] at h1
        exact h1
      rw [hlf] at HLF
      have HW7 := Lib.hid hW7
      clear hx he hlf hB0 HAT HP5 hW7
      by_cases h0 : lf = 0
      · have HR : Hid (Pn.apply ⟨nodes, copies, parts, lives⟩ ⟨5, nd, (n : Int), nn⟩ = .bad 21) := Lib.hid (by rw [HP5'.out, if_pos (.inl h0)])
        subst h0
        have HC2 := Lib.hid fun d os => Calls.regrown_of (HLF.out _ (below_regrown W7 d os))
        have k0 : ∀ d os, _ := cell_regrown c0
        have k1 : ∀ d os, _ := cell_regrown c1
        have k2 : ∀ d os, _ := cell_regrown c2
        have k3 : ∀ d os, _ := cell_regrown c3
        have j1 : ∀ d os, _ := cell_regrown e1
        have j2 : ∀ d os, _ := cell_regrown e2
        clear HLF HWN HCT
        go_upto_region 23 with fail
        clear c0 c1 c2 c3 e0 e1 e2 e3
        refine wp_region_quiet_below (by kernel_rfl) (by kernel_rfl) ?_
        repeat (go_big_quiet_step ((go_at_call 15; with_reducible exact HC2.out _ _)))
        refine wpQuiet_nil ?_
        intro w8 hw8
        obtain ⟨⟨dq, osq⟩, hw8'⟩ := hw8
        have H8 : Hid (Below W7.heap.size W7 w8) := Lib.hid (by rw [hw8']; exact below_regrown W7 dq osq)
        clear hw8' HC2 k0 k1 k2 k3 j1 j2
        have HAP8 := Lib.hid (HAP7.out.below H8.out)
        go_wp2_with fail
        go_step3
        exact ⟨rfl, ⟨rfl, rfl, rfl, HAP8.out.low, HAP8.out.k3, by have := HLT.out; omega⟩, HR.out⟩
      · have hz0 : (lf == 0) = false := by simp [h0]
        have HX0 := Lib.hid (drew_refl W7)
        go_upto_region 23 with fail
        have hB := HX0.out
        go_region_held3 (fun w' => w'.cell? ⟨w.heap.size, 0, none⟩ = some (.int .i64 nodes) ∧ w'.cell? ⟨w.heap.size, 1, none⟩ = some (.int .i64 copies) ∧ w'.cell? ⟨w.heap.size, 2, none⟩ = some (.slice (some ⟨sg, sp, none⟩) m sc) ∧ w'.cell? ⟨w.heap.size, 3, none⟩ = some (.slice lva ln lvc) ∧ w'.cell? ⟨W1.heap.size, 1, none⟩ = some (.int .i64 nd) ∧ w'.cell? ⟨W1.heap.size, 2, none⟩ = some (.int .i64 (n : Int)))
          (first | with_reducible exact ⟨dcell hB c0, dcell hB c1, dcell hB c2, dcell hB c3, dcell hB e1, dcell hB e2⟩ | go_keep | fail)
          (first
            | (go_at_call 15; ((with_reducible refine (HLF.out _ (of_drew hB)).mono ?_); rintro e w8 ⟨rfl, hb8⟩; have hB := drew_trans hB hb8))
            | (go_at_call 17; ((with_reducible refine (HWN.out _ (of_drew hB)).mono ?_); rintro e w9 ⟨hb9, v9, g9, rfl, hz9⟩; obtain ⟨a9, k9, rfl⟩ := hz9.ns.form; have HN9 := Lib.hid hz9.ns; clear hz9; have hB := drew_trans hB hb9))
            | (go_at_call 30; ((with_reducible refine (HCT.out _ _ _ HN9.out).mono ?_); rintro e w10 ⟨rfl, rfl⟩))
            | fail)
        all_goals
          have HBD := Lib.hid (of_drew hB)
          have HAP8 := Lib.hid (HAPT.out.below HBD.out)
          have HTL8 := Lib.hid (HTLT.out.below HBD.out)
          clear hB c0 c1 c2 c3 e0 e1 e2 e3 HLF HWN HCT HN9 HX0
          cases B with
          | false =>
            have HR : Hid (Pn.apply ⟨nodes, copies, parts, lives⟩ ⟨5, nd, (n : Int), nn⟩ = .bad 21) := Lib.hid (by rw [HP5'.out, if_pos (.inr rfl)])
            go_wp2_with fail
            go_step3
            exact ⟨rfl, ⟨rfl, rfl, rfl, HAP8.out.low, HAP8.out.k3, by have := HLT.out; omega⟩, HR.out⟩
          | true =>
            have HF0 : Hid (Pn.apply ⟨nodes, copies, parts, lives⟩ ⟨5, nd, (n : Int), nn⟩ = Pn.fin ⟨nodes, copies, parts, lives⟩ (parts.set n ⟨xe, xc, nd⟩) lives [n]) := Lib.hid (by
              rw [HP5'.out, if_neg]
              rintro (h | h)
              · exact h0 h
              · cases h)
            obtain ⟨e0, e1, e2, e3⟩ := (show Blk _ W1.heap.size #[.int .i64 5, .int .i64 nd, .int .i64 (n : Int), .int .i64 nn] 27 from HAP8.out.k2).cells4
            obtain ⟨⟨x1, x2⟩, W9, hW9, hap, htl⟩ := HAP8.out.learn2 nd HML.out HE0.out HTL8.out
            simp only at x1
            have HAP9 := Lib.hid hap
            have HTL9 := Lib.hid htl
            have HW9 := Lib.hid hW9
            clear hap htl hW9 hz0 h0
            go_upto_region 25 with fail
            rw [HW9.out]
            clear HW9 x1 x2 e0 e1 e2 e3
            obtain ⟨F2, hF2⟩ : ∃ F2, F.set n ⟨⟨xe, xc, nd⟩, cv⟩ = F2 := ⟨_, rfl⟩
            have HXS : Hid (F2.map PE.x = parts.set n ⟨xe, xc, nd⟩) := Lib.hid (by rw [← hF2, List.map_set, HFP.out])
            simp only at HAP9
            rw [hF2] at HAP9
            clear hF2
            obtain ⟨t, ht⟩ : ∃ t : List Nat, [n] = t := ⟨_, rfl⟩
            rw [ht] at HTL9
            have HFI : Hid (Pn.apply ⟨nodes, copies, parts, lives⟩ ⟨5, nd, (n : Int), nn⟩ = Pn.fin ⟨nodes, copies, parts, lives⟩ (F2.map PE.x) lives t) := Lib.hid (by rw [HF0.out, HXS.out, ht])
            have HTB : Hid (t.length ≤ m ∧ ∀ k ∈ t, k < m) := Lib.hid (by
              rw [← ht]
              refine ⟨by have := HM.out; simp only [List.length_cons, List.length_nil]; omega, fun k hk => ?_⟩
              simp only [List.mem_singleton] at hk
              omega)
            have HEB2 : Hid (∀ e ∈ F2, 0 ≤ e.x.ep ∧ e.x.ep ≤ 1073741824) := Lib.hid (fun e he => by
              have h1 : e.x ∈ F2.map PE.x := List.mem_map_of_mem he
              rw [HXS.out] at h1
              rcases List.mem_or_eq_of_mem_set h1 with h1 | h1
              · exact HEP.out _ h1
              · have h2 := HEP.out _ (List.mem_of_getElem? HX.out)
                rw [h1]
                exact h2)
            have HL2 : Hid (F2.length = m) := Lib.hid (by have := congrArg List.length HXS.out; rw [List.length_map, List.length_set] at this; rw [this]; exact HM.out)
            clear ht
            have HRI := Lib.hid (rise_any _ _ t W9 HAP9.out.row (HTL9.out.apart HAP9.out) (by have := HL2.out; have := HM.out; omega) (by have := HTB.out.1; have := HM.out; omega) (fun k hk => by rw [HL2.out]; exact HTB.out.2 k hk) HEB2.out)
            obtain ⟨D, hD⟩ : ∃ D, Pn.rise (F2.map PE.x) t = D := ⟨_, rfl⟩
            have HD := Lib.hid hD
            rw [hD] at HRI
            obtain ⟨c0, c1, c2, c3⟩ := HAP9.out.k1.cells4
            clear hD
            go_wp2_with fail
            refine HRI.out.mono ?_
            rintro e wr ⟨rfl, hg, hq⟩
            clear HRI c0 c1 c2 c3
            cases D with
            | none =>
              have HR : Hid (Pn.apply ⟨nodes, copies, parts, lives⟩ ⟨5, nd, (n : Int), nn⟩ = .bad 32) := Lib.hid (by rw [HFI.out, Pn.fin, HD.out])
              obtain ⟨hlow, hk3⟩ := HAP9.out.top hg
              have HLOW := Lib.hid hlow
              have HK3E := Lib.hid hk3
              obtain ⟨y0, y1, y2, y3⟩ := hk3.free4
              obtain ⟨z0, z1, z2, z3⟩ := hk3.cells4
              clear hlow hk3 hg hq
              go_wp2_with fail
              simp only [Exit.jump]
              refine bodyPost_ret (apply_ret (Blk.four HK3E.out _ _ _ _) rfl rfl rfl) rfl ?_
              rw [HR.out]
              exact ⟨HLOW.out.trans ((four_kb _ _ _ _ _ _).below (by have := HLT.out; omega) HK3E.out.lt), rfl⟩
            | some qs =>
              have HR : Hid (Pn.apply ⟨nodes, copies, parts, lives⟩ ⟨5, nd, (n : Int), nn⟩ = .ok ⟨nodes, copies, qs, lives⟩ t) := Lib.hid (by rw [HFI.out, Pn.fin, HD.out])
              obtain ⟨E', hE', hrow⟩ := hq qs rfl
              subst hE'
              have HAP11 := Lib.hid (HAP9.out.rose hg hrow)
              have HTL11 := Lib.hid (HTL9.out.rose HAP9.out hg)
              obtain ⟨c0, c1, c2, c3⟩ := HAP11.out.k1.cells4
              obtain ⟨y0, y1, y2, y3⟩ := HAP11.out.k3.free4
              obtain ⟨z0, z1, z2, z3⟩ := HAP11.out.k3.cells4
              clear hrow hg hq
              go_wp2_with fail
              simp only [Exit.jump]
              refine bodyPost_ret (apply_ret (Blk.four HAP11.out.k3 _ _ _ _) rfl rfl rfl) rfl ?_
              rw [HR.out]
              obtain ⟨l1, l2, gt, l3⟩ := HAP11.out.fin HTL11.out (four_kb _ _ _ _ _ _)
              exact ⟨l1, _, _, gt, rfl, l2, l3⟩
  · rintro ⟨tm, df⟩ w' ⟨⟨hsz, h4, hdf, hlow, hk3, hb⟩, hT⟩
    simp only at hsz h4 hdf
    subst hdf
    obtain ⟨f, hf, rfl⟩ := arr_frame tm hsz
    have h4' : f 4 = .pointer (some ⟨W2.heap.size, 0, none⟩) := (hf 4).trans h4
    have HLOW := Lib.hid hlow
    have HK3' := Lib.hid hk3
    have HT := Lib.hid hT
    obtain ⟨y0, y1, y2, y3⟩ := hk3.free4
    obtain ⟨z0, z1, z2, z3⟩ := hk3.cells4
    rw [h4']
    clear hsz h4 hf h4' hlow hk3 hT c0 c1 c2 c3 hW1 hW2 hW3
    go_wp2_with fail
    simp only [Exit.jump]
    refine bodyPost_ret (apply_ret (Blk.four HK3'.out _ _ _ _) rfl rfl rfl) rfl ?_
    rw [HT.out]
    exact ⟨HLOW.out.trans ((four_kb _ _ _ _ _ _).below (by have := HLT.out; omega) HK3'.out.lt), rfl⟩
end Go.Proofs.YtmkinnheoejphaaGreatDoor
