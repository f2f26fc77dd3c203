import Derived.Test.YtnkgdklmmhhkgaaGreatDoorM25
import Derived.Deep.RegionHeld3
import Derived.Deep.DrawnRows
import Derived.Deep.CutBlock
import Derived.Deep.CutRange

/- HOW LONG A RECORD IS; records with others in between; the law's great. -/
namespace Go.Proofs.YtnkgdklmmhhkgaaGreatDoor
open Go.RowKit

theorem nDig_le : ∀ (k u : Nat), u < 10 ^ (k + 1) → Lib.nDigits u ≤ k + 1
  | 0, u, h => by rw [Lib.nDigits_small (by simpa using h)]; exact Nat.le_refl _
  | k + 1, u, h => by
    by_cases h10 : u < 10
    · rw [Lib.nDigits_small h10]; omega
    · rw [Lib.nDigits_big h10]
      have := nDig_le k (u / 10) (by rw [Nat.pow_succ] at h; omega)
      omega
theorem wInt_le {c : Int} (k : Nat) (h0 : 0 ≤ c) (h1 : c.toNat < 10 ^ (k + 1)) : (Pl.wInt c).length ≤ k + 3 := by
  obtain ⟨u, rfl⟩ : ∃ u : Nat, c = u := ⟨c.toNat, by omega⟩
  have := nDig_le k u (by simpa using h1)
  unfold Pl.wInt
  simp only [List.length_cons, List.length_append, List.length_nil]
  rw [Lib.itoa_nonneg, Lib.decDigits_length]
  omega
theorem wText_le {m : ByteArray} (h : m.size ≤ 8) : (Pl.wText m.data.toList).length ≤ 10 := by
  have h1 := nDig_le 0 m.data.toList.length (by rw [Fk.data_len]; omega)
  unfold Pl.wText
  simp only [List.length_cons, List.length_append]
  rw [Lib.itoa_nonneg, Lib.decDigits_length, Fk.data_len]
  rw [Fk.data_len] at h1
  omega
theorem encMs_le {ms : List ByteArray} (h4 : ms.length ≤ 4) (h8 : ∀ m ∈ ms, m.size ≤ 8) : (Fk.encMs ms).length ≤ 42 := by
  have : ∀ (l : List ByteArray), (∀ m ∈ l, m.size ≤ 8) → (l.flatMap fun m => Pl.wText m.data.toList).length ≤ l.length * 10 := by
    intro l
    induction l with
    | nil => intro _; simp
    | cons m l ih =>
      intro h
      have h1 := ih fun x hx => h x (by simp [hx])
      have h2 := wText_le (h m (by simp))
      rw [List.flatMap_cons, List.length_append, List.length_cons]
      omega
  have := this ms h8
  unfold Fk.encMs
  simp only [List.length_cons, List.length_append, List.length_nil]
  omega
/-- A record's numbers are small. -/
def Fk.Lit : Fk.Wd → Prop
  | .turn _ g _ _ => 0 ≤ g ∧ g ≤ 1001
  | .point _ _ _ g => 0 ≤ g ∧ g ≤ 1001
  | .no c => 0 ≤ c ∧ c ≤ 1001
  | .none => True
theorem enc_tight {x : Fk.Wd} (h : Fk.OkW x) (hg : Fk.Lit x) : (Fk.enc x).1.length ≤ 16 ∧ (Fk.enc x).2.length ≤ 64 := by
  cases x with
  | none => exact ⟨by simp [Fk.enc], by simp [Fk.enc]⟩
  | no c =>
    have := wInt_le (c := c) 3 hg.1 (by have := hg.2; omega)
    refine ⟨by simp [Fk.enc], ?_⟩
    show (108 :: (Pl.wInt c ++ [101])).length ≤ 64
    simp only [List.length_cons, List.length_append, List.length_nil]
    omega
  | turn n g p ms =>
    obtain ⟨h1, h2, h3, h4⟩ := h
    have k1 := (Fk.name_len h1).1
    have k2 := wInt_le (c := g) 3 hg.1 (by have := hg.2; omega)
    have k3 := wInt_le (c := p) 0 h2 (by omega)
    have k4 := encMs_le (Sh.good_len h4) fun m hm => (Fk.name_len (good_mem h4 m hm)).1
    have k5 := Fk.data_len n
    refine ⟨?_, ?_⟩
    · show (116 :: n.data.toList).length ≤ 16
      rw [List.length_cons, k5]; omega
    · show (108 :: (Pl.wInt g ++ (Pl.wInt p ++ Fk.encMs ms) ++ [101])).length ≤ 64
      simp only [List.length_cons, List.length_append, List.length_nil]
      omega
  | point n p o g =>
    obtain ⟨h1, h2, h3, h4, h5⟩ := h
    have k1 := (Fk.name_len h1).1
    have k2 := wInt_le (c := g) 3 hg.1 (by have := hg.2; omega)
    have k3 := wInt_le (c := o) 12 h4 (by omega)
    have k5 := Fk.data_len n
    obtain ⟨d, hd, -⟩ := Fk.itoa_digit ⟨h2, h3⟩
    refine ⟨?_, ?_⟩
    · show (99 :: (Lib.itoa p ++ n.data.toList)).length ≤ 16
      rw [hd, List.length_cons, List.length_append, k5]; simp; omega
    · show (108 :: (Pl.wInt o ++ Pl.wInt g ++ [101])).length ≤ 64
      simp only [List.length_cons, List.length_append, List.length_nil]
      omega
theorem Gk.lit {k : Int} {L : List Fk.G} (h : Gk k L) (h0 : 0 ≤ k) (hk : k ≤ 1000) (parts : Int) (q : Fk.Q) : Fk.Lit (Fk.decide L parts q) := by
  have hg := (h.gd (by omega) q.group).g0
  have h1 : (Fk.fndD L q.group).gen ≤ k := by
    unfold Fk.fndD
    cases hf : Fk.fnd L q.group with
    | none => exact h0
    | some g => exact h.gens g (Fk.hit_mem hf)
  have hno : ∀ c : Int, 0 ≤ c → c ≤ 1000 → Fk.Lit (.no c) := fun c h0 h1 => ⟨h0, by omega⟩
  unfold Fk.decide
  split
  · unfold Fk.decJ
    split
    case isFalse => exact hno 1 (by omega) (by omega)
    case isTrue =>
      split
      case isTrue => exact hno 0 (by omega) (by omega)
      case isFalse =>
        split
        case isTrue => exact hno 32 (by omega) (by omega)
        case isFalse => exact ⟨by omega, by omega⟩
  · split
    · unfold Fk.decL
      split
      case isFalse => exact hno 1 (by omega) (by omega)
      case isTrue =>
        split
        case isTrue => exact hno 31 (by omega) (by omega)
        case isFalse => exact ⟨by omega, by omega⟩
    · split
      · unfold Fk.decC
        split
        case isFalse => exact hno 30 (by omega) (by omega)
        case isTrue ho =>
          split
          case isFalse => exact hno 1 (by omega) (by omega)
          case isTrue => exact ⟨by rw [ho.1]; omega, by rw [ho.1]; omega⟩
      · exact hno 1 (by omega) (by omega)
/-- A request's record, with how long it is. -/
def DecT (w : World) (x : Fk.Wd) (e : Ending) (w' : World) : Prop := ∃ K V : ByteArray, e = .returned (.agg #[.int .i64 0, .string K, .string V, .bool false]) ∧ (Fk.rd K V false = x ∧ K.size ≤ 16 ∧ V.size ≤ 64) ∧ Below w.heap.size w w'
theorem dect_any {A : Nat → Prop} (v : Value) (L : List Fk.G) (parts : Int) (q : Fk.Q) (rv : Value) (k : Int) (w : World) (lb : Lb w) (h : GsR A w v L) (hG : Gk k L) (h0 : 0 ≤ k) (hk : k ≤ 1000) :
    Calls Tryz.prog 14 #[v, .int .i64 parts, qval q rv] w fun e w' => DecT w (Fk.decide L parts q) e w' := by
  refine (decide_any v L parts q rv k w lb h hG (by omega)).mono ?_
  rintro e w' ⟨K, V, rfl, ⟨rfl, rfl⟩, hb⟩
  have hl := enc_tight (hG.word hk parts q).1 (hG.lit h0 hk parts q)
  refine ⟨_, _, rfl, ⟨hG.back hk parts q, ?_, ?_⟩, hb⟩
  · show (Fk.enc (Fk.decide L parts q)).1.toArray.size ≤ 16
    rw [List.size_toArray]; exact hl.1
  · show (Fk.enc (Fk.decide L parts q)).2.toArray.size ≤ 64
    rw [List.size_toArray]; exact hl.2
/-- Records with one of another thing behind each. -/
theorem Fk.told_two (l : List (Int × ByteArray × ByteArray × Bool)) (x j : Int × ByteArray × ByteArray × Bool) (hj : Fk.rd j.2.1 j.2.2.1 j.2.2.2 = .none) : Fk.told (l ++ [x, j]) = Fk.step (Fk.told l) (Fk.rd x.2.1 x.2.2.1 x.2.2.2) := by
  unfold Fk.told
  rw [List.foldl_append]
  simp only [List.foldl_cons, List.foldl_nil, hj]
  rfl
theorem Fk.rd_x (r : List UInt8) (v : ByteArray) (g : Bool) : Fk.rd ⟨(120 :: r).toArray⟩ v g = .none := by
  unfold Fk.rd
  split
  · rfl
  · simp only
    rw [if_neg (by decide), if_neg (by decide), if_neg (by decide)]
theorem GsR.keep {A A' : Nat → Prop} {w w' : World} {v : Value} {L : List Fk.G} (h : GsR A w v L) (hs : w.heap.size ≤ w'.heap.size) (k : ∀ b, A b → b < w.heap.size → w'.heap[b]? = w.heap[b]? ∧ A' b) : GsR A' w' v L := by
  obtain ⟨E, h1, h2, h3⟩ := h
  exact ⟨E, h1, h2.keep hs k, fun e he => ⟨Rds.keep (h3 e he).1 hs k, Rds.keep (h3 e he).2 hs k⟩⟩
def GrtOut (w : World) (l : List (Int × ByteArray × ByteArray × Bool)) (e : Ending) (w' : World) : Prop := ∃ g, e = .returned (.bool g) ∧ w' = w ∧ (g = false → l.length ≤ 60 ∧ ∀ x ∈ l, x.2.1.size ≤ 200 ∧ x.2.2.1.size ≤ 500)
set_option maxHeartbeats 2000000 in
set_option maxRecDepth 100000 in
theorem great_any {A : Nat → Prop} (v : Value) (l : List (Int × ByteArray × ByteArray × Bool)) (w : World) (h : Rcs A w v l) : Calls Tryz.prog 9 #[v] w fun e w' => GrtOut w l e w' := by
  obtain ⟨a, cap, rfl⟩ := h.form
  obtain ⟨m, hm⟩ : ∃ m, l.length = m := ⟨_, rfl⟩
  have HV := Lib.hid h
  have HM := Lib.hid hm
  rw [hm]
  clear h hm
  go_enter Tryz.func9, Tryz.ntmps9
  by_cases g0 : 60 < m
  · have hd : (60 : Int) < (m : Int) := by omega
    go_wp2_with fail
    go_ret
    exact ⟨true, rfl, rfl, fun h => by cases h⟩
  have hd : ¬ ((60 : Int) < (m : Int)) := by omega
  go_wp2_with fail
  go_loop [3] (fun iv => ∃ i : Nat, i ≤ m ∧ iv = .int .i64 i ∧ ∀ j x, j < i → l[j]? = some x → x.2.1.size ≤ 200 ∧ x.2.2.1.size ≤ 500) (fun iv => m - (intOf iv).toNat)
  case atStart => exact ⟨0, Nat.zero_le _, rfl, fun j x hj => absurd hj (Nat.not_lt_zero _)⟩
  case round =>
    obtain ⟨i, hi, rfl, hok⟩ := hrel
    have HOK := Lib.hid hok
    clear hok
    by_cases hlt : i < m
    · obtain ⟨x, hx⟩ : ∃ x, l[i]? = some x := ⟨_, List.getElem?_eq_getElem (by rw [HM.out]; exact hlt)⟩
      have hv := HV.out
      obtain ⟨b, p, cap', e, -, -, c0, c1, c2, c3⟩ := hv.at hx
      rw [HM.out] at e
      obtain rfl : a = some ⟨b, p, none⟩ := by injection e
      obtain ⟨xo, xk, xv, xg⟩ := x
      simp only at c1 c2
      have HX := Lib.hid hx
      have i0 : (0 : Int) ≤ (i : Int) := by omega
      have i1 : (i : Int) < (m : Int) := by omega
      clear e hx hv c0 c3
      by_cases hk : 200 < xk.size
      · have h1 : (200 : Int) < (xk.size : Int) := by omega
        go_wp2_with fail
        go_ret
        exact ⟨true, rfl, rfl, fun h => by cases h⟩
      have h1 : ¬ ((200 : Int) < (xk.size : Int)) := by omega
      by_cases hk2 : 500 < xv.size
      · have h2 : (500 : Int) < (xv.size : Int) := by omega
        go_wp2_with fail
        go_ret
        exact ⟨true, rfl, rfl, fun h => by cases h⟩
      have h2 : ¬ ((500 : Int) < (xv.size : Int)) := by omega
      have HN : Hid (∀ j x, j < i + 1 → l[j]? = some x → x.2.1.size ≤ 200 ∧ x.2.2.1.size ≤ 500) := Lib.hid fun j x hj hx => by
        rcases Nat.lt_or_ge j i with h | h
        · exact HOK.out j x h hx
        · obtain rfl : j = i := by omega
          rw [HX.out] at hx
          obtain rfl := Option.some.inj hx
          exact ⟨by simp only; omega, by simp only; omega⟩
      clear hk hk2
      go_wp2_with fail
      go_round
      case rel => exact ⟨i + 1, by omega, by go_num, HN.out⟩
      case measure => simp [intOf]; omega
    · have him : i = m := by omega
      have HF : Hid (l.length ≤ 60 ∧ ∀ x ∈ l, x.2.1.size ≤ 200 ∧ x.2.2.1.size ≤ 500) := Lib.hid ⟨by rw [HM.out]; omega, fun x hx => by
        obtain ⟨j, hj, rfl⟩ := List.getElem_of_mem hx
        exact HOK.out j _ (by rw [HM.out] at hj; omega) (List.getElem?_eq_getElem hj)⟩
      go_wp2_with fail
      go_ret
      exact ⟨false, rfl, rfl, fun _ => HF.out⟩
end Go.Proofs.YtnkgdklmmhhkgaaGreatDoor

/- THE WALK OF FlockSame. -/
namespace Go.Proofs.YtnkgdklmmhhkgaaGreatDoor
open Go.RowKit

theorem modP (x : Int) (k : Int) (hk : 0 < k) (hk2 : k ≤ 1048576) : ∃ H : Nat, (H : Int) < k ∧ wrap64 ((IntKind.u64.wrap x).tmod k) = (H : Int) := by
  have h0 : 0 ≤ IntKind.u64.wrap x := by
    show 0 ≤ x % _
    exact Int.emod_nonneg _ (by decide)
  have h1 : (IntKind.u64.wrap x).tmod k = (IntKind.u64.wrap x) % k := Int.tmod_eq_emod_of_nonneg h0
  have h2 : 0 ≤ (IntKind.u64.wrap x) % k := Int.emod_nonneg _ (by omega)
  have h3 : (IntKind.u64.wrap x) % k < k := Int.emod_lt_of_pos _ hk
  refine ⟨((IntKind.u64.wrap x) % k).toNat, by omega, ?_⟩
  rw [h1, Int.toNat_of_nonneg h2]
  generalize (IntKind.u64.wrap x) % k = y at h2 h3
  unfold wrap64
  omega
theorem x_cat (s : ByteArray) : (⟨#[120]⟩ : ByteArray) ++ s = ⟨(120 :: s.data.toList).toArray⟩ := key_cat 120 s
theorem infoRec : Info Tryz.prog 28 4 48 (.agg #[.int .i64 0, .string ByteArray.empty, .string ByteArray.empty, .bool false]) := Info.of (by kernel_rfl) rfl
/-- A world that the loop comes to: what lay ahead of its own records is as it was. -/
structure Bth (z : Nat) (W5 w wx : World) : Prop where
  a : Below z W5 wx
  b : Below w.heap.size w wx
  c : z ≤ wx.heap.size
  d : w.heap.size ≤ z
theorem Bth.step {z : Nat} {W5 w wx wy : World} (h : Bth z W5 w wx) (k : Below wx.heap.size wx wy) : Bth z W5 w wy := ⟨h.a.trans (k.mono h.c), h.b.trans (k.mono h.b.size), Nat.le_trans h.c k.size, h.d⟩
theorem Bth.kb {z b : Nat} {W5 w wx wy : World} (h : Bth z W5 w wx) (k : Kb b wx wy) (h1 : z ≤ b) (h2 : b < wx.heap.size) : Bth z W5 w wy := ⟨h.a.trans (k.below h1 h2), h.b.trans (k.below (Nat.le_trans h.d h1) h2), Nat.le_trans h.c k.size, h.d⟩
theorem Bth.app {z : Nat} {W5 w wx wy : World} {gb : Option Nat} (h : Bth z W5 w wx) (k : wx.grownBy wy gb) (hg : ∀ b, gb = some b → z ≤ b) : Bth z W5 w wy :=
  ⟨Below.appended h.a k hg h.c, Below.appended h.b k (fun b e => Nat.le_trans h.d (hg b e)) h.b.size, Nat.le_trans h.c k.size, h.d⟩
theorem rcs_two (l : List (Int × ByteArray × ByteArray × Bool)) (x y : Int × ByteArray × ByteArray × Bool) : rcs l ++ [.int .i64 x.1, .string x.2.1, .string x.2.2.1, .bool x.2.2.2, .int .i64 y.1, .string y.2.1, .string y.2.2.1, .bool y.2.2.2] = rcs (l ++ [x, y]) := by
  unfold rcs
  rw [List.flatMap_append]
  rfl
/-- What is known at the loop's head. -/
structure SmI (i : Nat) (L : List Fk.G) (rs : List (Int × ByteArray × ByteArray × Bool)) : Prop where
  g : Gk i L
  told : Fk.told rs = L
  len : rs.length = i * 2
  sz : ∀ x ∈ rs, x.2.1.size ≤ 1000 ∧ x.2.2.1.size ≤ 1000
set_option maxHeartbeats 4000000 in
set_option maxRecDepth 100000 in
theorem same_walk {A : Nat → Prop} (parts : Int) (v : Value) (l : List (Fk.Q × Value)) (jo : Int) (jk jv : ByteArray) (jg : Bool) (w : World) (lb : Lb w) (h : Rqs A w v l) :
    Calls Tryz.prog 6 #[.int .i64 parts, v, .agg #[.int .i64 jo, .string jk, .string jv, .bool jg]] w fun e w' => e = .returned (.bool true) ∧ Below w.heap.size w w' := by
  obtain ⟨a, cap, rfl⟩ := h.form
  obtain ⟨m, hm⟩ : ∃ m, l.length = m := ⟨_, rfl⟩
  have HM := Lib.hid hm
  obtain ⟨W1, hW1⟩ : ∃ W, w.alloc (.cells #[.int .i64 jo, .string jk, .string jv, .bool jg] 28) = W := ⟨_, rfl⟩
  have hb1 : Below w.heap.size w W1 := by rw [← hW1]; exact (Below.refl _ _).alloc (Nat.le_refl _) _
  have k1 : Blk W1 w.heap.size #[.int .i64 jo, .string jk, .string jv, .bool jg] 28 := by rw [← hW1]; exact Blk.new _ _ _
  have HLB : Hid (∀ wx, Below w.heap.size w wx → Lb wx) := Lib.hid fun wx hb => lb.below lb.size hb
  have HAW := Lib.hid (awake_any W1 (lb.below lb.size hb1))
  have HV := Lib.hid (h.below hb1)
  have HV0 := Lib.hid h
  have HB1 := Lib.hid hb1
  have HK1 := Lib.hid k1
  obtain ⟨P, hP5, hP⟩ := modP parts 5 (by decide) (by decide)
  have HP := Lib.hid hP
  have HP5 := Lib.hid hP5
  rw [hm] at HV HV0 ⊢
  clear lb h hm hP hP5 hb1 k1
  go_enter Tryz.func6, Tryz.ntmps6
  go_wp2_with fail
  refine HAW.out.mono ?_
  rintro e w2 ⟨rfl, hb2⟩
  have HB2 := Lib.hid (HB1.out.trans (hb2.mono HB1.out.size))
  have HV2 := Lib.hid (HV.out.below hb2)
  have HK2 := Lib.hid (HK1.out.below hb2)
  have j0 : w2.cell? ⟨w.heap.size, 0, none⟩ = some (.int .i64 jo) := HK2.out.cell rfl
  have j1 : w2.cell? ⟨w.heap.size, 1, none⟩ = some (.string jk) := HK2.out.cell rfl
  have j2 : w2.cell? ⟨w.heap.size, 2, none⟩ = some (.string jv) := HK2.out.cell rfl
  have j3 : w2.cell? ⟨w.heap.size, 3, none⟩ = some (.bool jg) := HK2.out.cell rfl
  clear hb2 HAW HV HK1
  by_cases h80 : 80 < m
  · have h80i : (80 : Int) < (m : Int) := by omega
    go_wp2_with fail
    go_ret
    exact ⟨rfl, HB2.out⟩
  have h80i : ¬ ((80 : Int) < (m : Int)) := by omega
  obtain ⟨W3, hW3⟩ : ∃ W, w2.alloc (.cells #[.int .i64 jo, .string jk, .string jv, .bool jg] 28) = W := ⟨_, rfl⟩
  have hb3 : Below w2.heap.size w2 W3 := by rw [← hW3]; exact (Below.refl _ _).alloc (Nat.le_refl _) _
  have HGR : Hid (Calls Tryz.prog 9 #[.slice (some ⟨w2.heap.size, 0, none⟩) 1 1] W3 fun e w' => GrtOut W3 [(jo, jk, jv, jg)] e w') := Lib.hid (great_any (A := fun b => b = w2.heap.size) _ _ W3 (by
    rw [← hW3]
    exact Rds.lit (w := w2) (n := 1) (size := 4) (cs := [.int .i64 jo, .string jk, .string jv, .bool jg]) 28 rfl))
  have HB3 := Lib.hid (HB2.out.trans (hb3.mono HB2.out.size))
  have HV3 := Lib.hid (HV2.out.below hb3)
  have HK3 := Lib.hid (HK2.out.below hb3)
  have HVW := Lib.hid HV0.out
  clear hb3 HV2 HK2
  go_wp2_with fail
  refine HGR.out.mono ?_
  rintro e w3 ⟨g, rfl, rfl, hg⟩
  clear HGR j0 j1 j2 j3
  cases g with
  | true =>
    go_wp2_with fail
    go_ret
    exact ⟨rfl, HB3.out⟩
  | false =>
  obtain ⟨-, hg⟩ := hg rfl
  obtain ⟨hjk, hjv⟩ := hg _ (List.mem_singleton.2 rfl)
  simp only at hjk hjv
  go_upto_region 6 with fail
  rw [HP.out]
  clear HP
  have j1 : w3.cell? ⟨w.heap.size, 1, none⟩ = some (.string jk) := HK3.out.cell rfl
  have f1 : w3.frozen? ⟨w.heap.size, 1, none⟩ = false := HK3.out.free
  have hbig : ¬ (9223372036854775807 < 1 + jk.size) := by omega
  have hbig2 : ¬ (9223372036854775807 < (⟨#[120]⟩ : ByteArray).size + jk.size) := by
    have : (⟨#[120]⟩ : ByteArray).size = 1 := rfl
    omega
  obtain ⟨JK, hJK⟩ : ∃ s, (⟨#[120]⟩ : ByteArray) ++ jk = s := ⟨_, rfl⟩
  have HJR : Hid (Fk.rd JK jv jg = .none ∧ JK.size ≤ 201) := Lib.hid (by
    rw [← hJK, x_cat]
    refine ⟨Fk.rd_x _ _ _, ?_⟩
    show (120 :: jk.data.toList).toArray.size ≤ 201
    rw [List.size_toArray, List.length_cons, Fk.data_len]; omega)
  have HK4 : Hid (Blk (w3.setCell ⟨w.heap.size, 1, none⟩ (.string JK)) w.heap.size #[.int .i64 jo, .string JK, .string jv, .bool jg] 28) := Lib.hid (HK3.out.set (i := 1) (.string JK))
  have hkb : Kb w.heap.size w3 (w3.setCell ⟨w.heap.size, 1, none⟩ (.string JK)) := Kb.setCell _ _
  have hb34 : Below w.heap.size w3 (w3.setCell ⟨w.heap.size, 1, none⟩ (.string JK)) := hkb.below (Nat.le_refl _) HK3.out.lt
  have HB4 := Lib.hid (HB3.out.trans hb34)
  have HV4 : Hid (Rqs A (w3.setCell ⟨w.heap.size, 1, none⟩ (.string JK)) (.slice a m cap) l) := Lib.hid ⟨Rds.keep HVW.out.1 HB4.out.size fun b hb hl => ⟨HB4.out.block b hl, hb⟩, HVW.out.2⟩
  obtain ⟨W4, hW4⟩ : ∃ W, w3.setCell ⟨w.heap.size, 1, none⟩ (.string JK) = W := ⟨_, rfl⟩
  rw [hW4] at HK4 HB4 HV4
  go_upto_region 7 with fail
  clear hW4 hkb hb34 j1 f1 HV3 HK3 HB3 HVW hJK
  obtain ⟨W5, hW5⟩ : ∃ W, (W4.alloc (.cells #[] 44)).alloc (.cells #[] 28) = W := ⟨_, rfl⟩
  have hb45 : Below W4.heap.size W4 W5 := by rw [← hW5]; exact ((Below.refl _ _).alloc (Nat.le_refl _) _).alloc (by simp) _
  obtain ⟨z5, hz5⟩ : ∃ n, (W4.alloc (.cells #[] 44)).heap.size = n := ⟨_, rfl⟩
  have HZ5 : Hid (W4.heap.size ≤ z5 ∧ W4.heap.size ≠ z5) := Lib.hid (by
    have : (W4.alloc (.cells #[] 44)).heap.size = W4.heap.size + 1 := Array.size_push _
    omega)
  have HZW : Hid (w.heap.size < z5) := Lib.hid (by have := HK4.out.lt; have := HZ5.out; omega)
  have HREC : Hid (Wz z5 W5 (.slice (some ⟨z5, 0, none⟩) 0 0) (some z5) 28 4 0 []) := Lib.hid (by
    rw [← hW5, ← hz5]
    exact Wz.empty (W4.alloc (.cells #[] 44)) 28 4 (Nat.le_refl _))
  go_upto_region 9 with fail
  try rw [hW5]
  try rw [hz5]
  clear hW5 hz5
  have HB5 := Lib.hid (HB4.out.trans (hb45.mono HB4.out.size))
  have HV5 := Lib.hid (HV4.out.below hb45)
  have HK5 := Lib.hid (HK4.out.below hb45)
  have HR5 := Lib.hid (Below.refl W5.heap.size W5)
  clear hb45 HB4 HV4 HK4
  have HP0 : Hid ((0 : Int) ≤ (P : Int)) := Lib.hid (by omega)
  have HKJ : Hid (∀ wx, Below z5 W5 wx → Blk wx w.heap.size #[.int .i64 jo, .string JK, .string jv, .bool jg] 28) := Lib.hid fun wx hb => HK5.out.same (hb.block _ HZW.out)
  go_wp2_with fail
  go_loopw [7, 8, 9, 10, 11] (fun s7 s8 s9 _ _ wr => ∃ (i : Nat) (L : List Fk.G) (rs : List (Int × ByteArray × ByteArray × Bool)) (gb : Option Nat), i ≤ m ∧ s9 = .int .i64 i ∧ GsR (fun b => gb ≠ some b) wr s7 L ∧ Wz z5 wr s8 gb 28 4 rs.length (rcs rs) ∧ SmI i L rs ∧ Bth z5 W5 w wr) (fun _ _ s9 _ _ _ => m - (intOf s9).toNat)
  case atStart => exact ⟨0, [], [], some z5, Nat.zero_le _, rfl, (GsR.empty _ _ _ _), HREC.out, ⟨Gk.nil, rfl, rfl, fun x hx => by cases hx⟩, ⟨Below.refl _ _, HB5.out, by have := (HREC.out.lt z5 rfl).2; omega, by have := HZW.out; omega⟩⟩
  case round =>
    obtain ⟨i, L, rs, gb, hi, rfl, hL, hR, hI, hT⟩ := hrel
    obtain ⟨aL, cL, rfl⟩ := hL.form
    obtain ⟨aR, cR, rfl⟩ := hR.form
    obtain ⟨nL, hnL⟩ : ∃ n, L.length = n := ⟨_, rfl⟩
    have hrl := hI.len
    obtain ⟨nR, hnR⟩ : ∃ n, rs.length = n := ⟨_, rfl⟩
    rw [hnL] at hL ⊢
    rw [hnR] at hR hrl ⊢
    have HNL := Lib.hid hnL
    have HNR := Lib.hid hnR
    have HL := Lib.hid hL
    have HR := Lib.hid hR
    have HI := Lib.hid hI
    have HT := Lib.hid hT
    have HRL := Lib.hid hrl
    clear hnL hnR hL hR hI hrl
    by_cases hlt : i < m
    · obtain ⟨x, hx⟩ : ∃ x, l[i]? = some x := ⟨_, List.getElem?_eq_getElem (by rw [HM.out]; exact hlt)⟩
      obtain ⟨b, p, cap', ev, -, hbl, hc⟩ := (HV0.out.below hT.b).at hx
      rw [HM.out] at ev
      obtain rfl : a = some ⟨b, p, none⟩ := by injection ev
      obtain ⟨ra, rn, rc, hrv⟩ := HV0.out.2 x (List.mem_of_getElem? hx)
      obtain ⟨⟨cl, qn, kd, pt, sq, of, mx, gn, N, M⟩, rv⟩ := x
      simp only at hrv
      subst hrv
      have e0 := hc 0 _ rfl
      rw [Nat.add_zero] at e0
      have e1 := hc 1 _ rfl
      have e2 := hc 2 _ rfl
      have e3 := hc 3 _ rfl
      have e4 := hc 4 _ rfl
      have e5 := hc 5 _ rfl
      have e6 := hc 6 _ rfl
      have e7 := hc 7 _ rfl
      have e8 := hc 8 _ rfl
      have e9 := hc 9 _ rfl
      have e10 := hc 10 _ rfl
      simp only at e0 e1 e2 e3 e4 e5 e6 e7 e8 e9 e10
      have i0 : (0 : Int) ≤ (i : Int) := by omega
      have i1 : (i : Int) < (m : Int) := by omega
      clear ev hx hc hT
      go_upto_region 13 with fail
      obtain ⟨W6, hW6⟩ : ∃ W, wr.alloc (.cells #[.int .i64 cl, .int .i64 qn, .int .i64 kd, .int .i64 pt, .int .i64 sq, .int .i64 of, .int .i64 mx, .int .i64 gn, .string N, .string M, .slice ra rn rc] 34) = W := ⟨_, rfl⟩
      have hb6 : Below wr.heap.size wr W6 := by rw [← hW6]; exact (Below.refl _ _).alloc (Nat.le_refl _) _
      have k6 : Blk W6 wr.heap.size #[.int .i64 cl, .int .i64 qn, .int .i64 kd, .int .i64 pt, .int .i64 sq, .int .i64 of, .int .i64 mx, .int .i64 gn, .string N, .string M, .slice ra rn rc] 34 := by rw [← hW6]; exact Blk.new _ _ _
      rw [hW6]
      clear hW6 e0 e1 e2 e3 e4 e5 e6 e7 e8 e9 e10
      have HT6 := Lib.hid (HT.out.step hb6)
      have HS6 : Hid (wr.heap.size ≤ W6.heap.size) := Lib.hid hb6.size
      have HL6 := Lib.hid (HL.out.below hb6)
      have HR6 := Lib.hid (HR.out.below hb6)
      obtain ⟨d0, d1, d2, d3, d4, d5, d6, d7, d8, d9, d10⟩ := k6.cells11
      clear hb6 k6
      by_cases hn2 : 200 < N.size
      · have hni : (200 : Int) < (N.size : Int) := by omega
        go_wp2_with fail
        go_ret
        exact ⟨rfl, HT6.out.b⟩
      have hni : ¬ ((200 : Int) < (N.size : Int)) := by omega
      by_cases hm2 : 200 < M.size
      · have hmi : (200 : Int) < (M.size : Int) := by omega
        go_wp2_with fail
        go_ret
        exact ⟨rfl, HT6.out.b⟩
      have hmi : ¬ ((200 : Int) < (M.size : Int)) := by omega
      have HDA := Lib.hid (dect_any _ L P ⟨cl, qn, kd, pt, sq, of, mx, gn, N, M⟩ (.slice ra rn rc) i W6 (HLB.out _ HT6.out.b) HL6.out HI.out.g (by omega) (by omega))
      go_wp2_with fail
      refine HDA.out.mono ?_
      rintro e w7 ⟨K, V, rfl, hKV, hb7⟩
      have HKV := Lib.hid hKV
      obtain ⟨W7, hW7⟩ : ∃ W, w7.alloc (.cells #[.int .i64 0, .string K, .string V, .bool false] 28) = W := ⟨_, rfl⟩
      have hbx : Below w7.heap.size w7 W7 := by rw [← hW7]; exact (Below.refl _ _).alloc (Nat.le_refl _) _
      have kx : Blk W7 w7.heap.size #[.int .i64 0, .string K, .string V, .bool false] 28 := by rw [← hW7]; exact Blk.new _ _ _
      have hb67 : Below W6.heap.size W6 W7 := hb7.trans (hbx.mono hb7.size)
      have HBX : Hid (z5 ≤ w7.heap.size ∧ w7.heap.size < W7.heap.size ∧ wr.heap.size ≤ w7.heap.size) := Lib.hid ⟨Nat.le_trans HT6.out.c hb7.size, kx.lt, Nat.le_trans HS6.out hb7.size⟩
      have HT7 := Lib.hid (HT6.out.step hb67)
      have HL7 := Lib.hid (HL6.out.below hb67)
      have HR7 := Lib.hid (HR6.out.below hb67)
      have HX7 := Lib.hid kx
      have HNA := Lib.hid (next_any _ L P ⟨cl, qn, kd, pt, sq, of, mx, gn, N, M⟩ K V i W7 (HLB.out _ HT7.out.b) HL7.out HI.out.g (by omega) hKV.1 (by have := hKV.2.1; omega) (by have := hKV.2.2; omega))
      have hk16 : ¬ ((16 : Int) < (K.size : Int)) := by have := hKV.2.1; omega
      have hv64 : ¬ ((64 : Int) < (V.size : Int)) := by have := hKV.2.2; omega
      have HW7 := Lib.hid hW7
      clear hW7 d0 d1 d2 d3 d4 d5 d6 d7 d8 d9 d10 hKV HDA hb7 hb67 hbx kx
      go_upto_region 16 with fail
      rw [HW7.out]
      clear HW7
      obtain ⟨bx, hbxe⟩ : ∃ n, w7.heap.size = n := ⟨_, rfl⟩
      rw [hbxe] at HX7 HBX ⊢
      clear hbxe
      have x0 : W7.cell? ⟨bx, 0, none⟩ = some (.int .i64 0) := HX7.out.cell rfl
      have x1 : W7.cell? ⟨bx, 1, none⟩ = some (.string K) := HX7.out.cell rfl
      have x2 : W7.cell? ⟨bx, 2, none⟩ = some (.string V) := HX7.out.cell rfl
      have x3 : W7.cell? ⟨bx, 3, none⟩ = some (.bool false) := HX7.out.cell rfl
      go_wp2_with fail
      refine HNA.out.mono ?_
      rintro e w8 ⟨hb8, lab, v8, rfl, hO⟩
      have HLO := Lib.hid hO.rd
      obtain ⟨a8, k8, rfl⟩ := hO.form
      have HT8 := Lib.hid (HT7.out.step hb8)
      have HR8 := Lib.hid (HR7.out.below hb8)
      have HX8 := Lib.hid (HX7.out.below hb8)
      have HS8 : Hid (W7.heap.size ≤ w8.heap.size) := Lib.hid hb8.size
      clear x0 x1 x2 x3 hb8 hO HNA
      have x0 : w8.cell? ⟨bx, 0, none⟩ = some (.int .i64 0) := HX8.out.cell rfl
      have y0 : w8.frozen? ⟨bx, 0, none⟩ = false := HX8.out.free
      obtain ⟨W9, hW9⟩ : ∃ W, w8.setCell ⟨bx, 0, none⟩ (.int .i64 (i : Int)) = W := ⟨_, rfl⟩
      have hk9 : Kb bx w8 W9 := by rw [← hW9]; exact Kb.setCell _ _
      have kx9 : Blk W9 bx #[.int .i64 (i : Int), .string K, .string V, .bool false] 28 := by rw [← hW9]; exact HX8.out.set (i := 0) (.int .i64 (i : Int))
      have HT9 := Lib.hid (HT8.out.kb hk9 HBX.out.1 HX8.out.lt)
      have HR9 : Hid (Wz z5 W9 (.slice aR nR cR) gb 28 4 nR (rcs rs)) := Lib.hid (HR8.out.kb hk9 (fun e => by have h1 := (HR.out.lt bx e).2; have h2 := HBX.out.2.2; omega))
      have HS9 : Hid (w8.heap.size ≤ W9.heap.size) := Lib.hid hk9.size
      have HL9 : Hid (GsR (fun b => W7.heap.size ≤ b ∧ b < w8.heap.size) W9 (.slice a8 (Fk.next L P ⟨cl, qn, kd, pt, sq, of, mx, gn, N, M⟩).length k8) (Fk.next L P ⟨cl, qn, kd, pt, sq, of, mx, gn, N, M⟩)) := Lib.hid (GsR.keep HLO.out hk9.size fun b hb hl => ⟨hk9.block b hl (fun e => by have := HBX.out.2.1; omega), hb, hl⟩)
      have kj9 := HKJ.out W9 HT9.out.a
      have x0' : W9.cell? ⟨bx, 0, none⟩ = some (.int .i64 (i : Int)) := kx9.cell rfl
      have x1' : W9.cell? ⟨bx, 1, none⟩ = some (.string K) := kx9.cell rfl
      have x2' : W9.cell? ⟨bx, 2, none⟩ = some (.string V) := kx9.cell rfl
      have x3' : W9.cell? ⟨bx, 3, none⟩ = some (.bool false) := kx9.cell rfl
      have j0' : W9.cell? ⟨w.heap.size, 0, none⟩ = some (.int .i64 jo) := kj9.cell rfl
      have j1' : W9.cell? ⟨w.heap.size, 1, none⟩ = some (.string JK) := kj9.cell rfl
      have j2' : W9.cell? ⟨w.heap.size, 2, none⟩ = some (.string jv) := kj9.cell rfl
      have j3' : W9.cell? ⟨w.heap.size, 3, none⟩ = some (.bool jg) := kj9.cell rfl
      obtain ⟨W10, hW10⟩ : ∃ W, W9.alloc (.cells #[.int .i64 (i : Int), .string K, .string V, .bool false, .int .i64 jo, .string JK, .string jv, .bool jg] 28) = W := ⟨_, rfl⟩
      have hb10 : Below W9.heap.size W9 W10 := by rw [← hW10]; exact (Below.refl _ _).alloc (Nat.le_refl _) _
      have HS28 : Hid (Rds (fun b => b = W9.heap.size) W10 (.slice (some ⟨W9.heap.size, 0, none⟩) 2 2) 4 2 [.int .i64 (i : Int), .string K, .string V, .bool false, .int .i64 jo, .string JK, .string jv, .bool jg]) := Lib.hid (by
        rw [← hW10]
        exact Rds.lit (w := W9) (n := 2) (size := 4) (cs := [.int .i64 (i : Int), .string K, .string V, .bool false, .int .i64 jo, .string JK, .string jv, .bool jg]) 28 rfl)
      have HONE : Hid (∀ u ∈ [Value.int .i64 (i : Int), .string K, .string V, .bool false, .int .i64 jo, .string JK, .string jv, .bool jg], u.oneCell' = true) := Lib.hid (by simp [Value.oneCell'])
      have HT10 := Lib.hid (HT9.out.step hb10)
      have HR10 := Lib.hid (HR9.out.below hb10)
      have HL10 := Lib.hid (HL9.out.below hb10)
      have HS10 : Hid (W9.heap.size ≤ W10.heap.size) := Lib.hid hb10.size
      have HNR8 : Hid (nR ≤ 160) := Lib.hid (by have := HRL.out; omega)
      obtain ⟨ir, hir, i1r, i2r, i3r, i4r⟩ := infoRec
      clear hb10 hk9 kx9 kj9
      go_wp2_with (at_builtin; refine wpList_append_rd (by rfl) _ _ _ (by rfl) 28 ir _ 4 48 Tryz.underlying22 hir i1r i2r i3r i4r _ gb nR (rcs rs) (by rfl) HR10.out.1 _ 2 [.int .i64 (i : Int), .string K, .string V, .bool false, .int .i64 jo, .string JK, .string jv, .bool jg] (by rfl) HS28.out HONE.out (by have := HNR8.out; omega) (by have := HNR8.out; omega) ?_)
      intro v' w11 gb' r1 r2 r3
      have HT11 := Lib.hid (HT10.out.app r2 (fun b e => (HR10.out.lt b e).1))
      have HL11 : Hid (GsR (fun b => gb' ≠ some b) w11 (.slice a8 (Fk.next L P ⟨cl, qn, kd, pt, sq, of, mx, gn, N, M⟩).length k8) (Fk.next L P ⟨cl, qn, kd, pt, sq, of, mx, gn, N, M⟩)) := Lib.hid (GsR.keep HL10.out r2.size fun b hb hl => ⟨r2.block b hl (fun e => by have h1 := (HR.out.lt b e.symm).2; have h2 := HBX.out; omega), fun e => by
        rcases r3 with r3 | ⟨g, r3, r4⟩
        · rw [r3] at e; have h1 := (HR.out.lt b e).2; have h2 := HBX.out; omega
        · rw [r3] at e; injection e with e; subst e; have h1 := HS9.out; have h2 := HS10.out; omega⟩)
      have HR11 : Hid (Wz z5 w11 v' gb' 28 4 (rs ++ [((i : Int), K, V, false), (jo, JK, jv, jg)]).length (rcs (rs ++ [((i : Int), K, V, false), (jo, JK, jv, jg)]))) := Lib.hid ⟨by
        rw [List.length_append, HNR.out, ← rcs_two]
        exact r1, fun b e => by
        rcases r3 with r3 | ⟨g, r3, r4⟩
        · rw [r3] at e; exact (HR.out.lt b e).1
        · rw [r3] at e; injection e with e; subst e; exact Nat.le_trans HT10.out.c r4⟩
      have HI11 : Hid (SmI (i + 1) (Fk.next L P ⟨cl, qn, kd, pt, sq, of, mx, gn, N, M⟩) (rs ++ [((i : Int), K, V, false), (jo, JK, jv, jg)])) := Lib.hid (by
        refine ⟨HI.out.g.next (by omega) (by omega) P ⟨cl, qn, kd, pt, sq, of, mx, gn, N, M⟩, ?_, ?_, fun x hx => ?_⟩
        · rw [Fk.told_two _ _ _ HJR.out.1, HI.out.told]
          show Fk.step L (Fk.rd K V false) = _
          rw [HKV.out.1]
          rfl
        · rw [List.length_append, HI.out.len]; simp; omega
        · rcases List.mem_append.1 hx with hx | hx
          · exact HI.out.sz x hx
          · simp only [List.mem_cons, List.not_mem_nil, or_false] at hx
            rcases hx with rfl | rfl
            · exact ⟨by have := HKV.out.2.1; simp only; omega, by have := HKV.out.2.2; simp only; omega⟩
            · exact ⟨by have := HJR.out.2; simp only; omega, by simp only; omega⟩)
      clear r1 r2 r3
      go_wp2_with fail
      go_roundw
      case rel => exact ⟨i + 1, _, _, gb', by omega, by go_num, HL11.out, HR11.out, HI11.out, HT11.out⟩
      case measure => simp [intOf]; omega
    · have HFO := Lib.hid (fold_any (A := fun b => z5 ≤ b) (.slice aR nR cR) rs wr (HLB.out _ HT.out.b) (by have := HR.out.rd; unfold Rcs; rw [HNR.out]; exact this) (by have := HRL.out; rw [HNR.out]; omega) HI.out.sz)
      rw [HI.out.told] at HFO
      have HG := Lib.hid HI.out.g
      go_wp2_with fail
      refine HFO.out.mono ?_
      rintro e w8 ⟨hb8, lab, v8, rfl, hO⟩
      have HSM := Lib.hid (same_any v8 (.slice aL nL cL) L w8 hO.rd (HL.out.below hb8) (by have := HG.out.ok.len; omega) fun g hg => by
        have ho := HG.out.ok.all g hg
        exact ⟨by have := Sh.good_len ho.mem; omega, by have := Fk.pts_few ho.pts fun q hq => ⟨(ho.low q hq).1, (ho.low q hq).2.1⟩; omega⟩)
      have HT8 := Lib.hid (HT.out.step hb8)
      clear hb8 hO HFO
      go_wp2_with fail
      refine HSM.out.mono ?_
      rintro e w9 ⟨rfl, n, rfl⟩
      have HT9 := Lib.hid (HT8.out.step (below_drewN _ n))
      go_wp2_with fail
      go_ret
      exact ⟨rfl, HT9.out.b⟩
end Go.Proofs.YtnkgdklmmhhkgaaGreatDoor
