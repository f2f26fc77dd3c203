import Derived.Test.YtjccfilbihkfpaaGreatDoorM25
import Derived.Deep.RegionHeld3
import Derived.Deep.DrawnRows
import Derived.Deep.CutBlock
import Derived.Deep.CutRange
import Derived.BigQuiet
import Derived.Lib.QuietBelow

/- WHAT A COMMIT DOES, plainly. -/
namespace Go.Proofs.YtjccfilbihkfpaaGreatDoor
open Go.RowKit

namespace Fk
theorem off_put {l : List (Int × Int)} (h : l.Pairwise fun a b => a.1 < b.1) (n m a : Int) : offOf (putPt l n m) a = if a = n then m else offOf l a := by
  have hm : Mono (cP n) l := mono_of (cP_rel n) h
  -- life by what stands there
  have key : ∀ (l : List (Int × Int)), l.Pairwise (fun a b => a.1 < b.1) → ∀ q ∈ l, offOf l q.1 = q.2 := by
    intro l
    induction l with
    | nil => intro _ q hq; cases hq
    | cons x l ih =>
      intro hp q hq
      rw [List.pairwise_cons] at hp
      unfold offOf
      rw [List.find?_cons]
      rcases List.mem_cons.1 hq with rfl | hq
      · simp
      · have hlt := hp.1 q hq
        have : (x.1 == q.1) = false := by simp; omega
        rw [this]
        have := ih hp.2 q hq
        unfold offOf at this
        exact this
  have none : ∀ (l : List (Int × Int)) (a : Int), (∀ q ∈ l, q.1 ≠ a) → offOf l a = -1 := by
    intro l a h
    unfold offOf
    have : l.find? (fun q => q.1 == a) = none := by
      rw [List.find?_eq_none]
      intro q hq
      simp [h q hq]
    rw [this]
  have hp' := putPt_rise (p := n) (o := m) h
  have mem : (n, m) ∈ putPt l n m := by
    unfold putPt
    split
    · rename_i hs
      obtain ⟨x, hx⟩ := Option.isSome_iff_exists.1 hs
      obtain ⟨h1, h2⟩ := hit_some hx
      exact List.mem_of_getElem? (i := low (cP n) l) (by rw [List.getElem?_set]; simp [(List.getElem?_eq_some_iff.1 h1).1])
    · exact ins_mem.2 (.inl rfl)
  have old : ∀ q ∈ l, q.1 ≠ n → q ∈ putPt l n m := by
    intro q hq hne
    unfold putPt
    split
    · rename_i hs
      obtain ⟨x, hx⟩ := Option.isSome_iff_exists.1 hs
      obtain ⟨h1, h2⟩ := hit_some hx
      obtain ⟨i, hi, e⟩ := List.getElem_of_mem hq
      refine List.mem_of_getElem? (i := i) ?_
      rw [List.getElem?_set, if_neg, ← e]
      · exact List.getElem?_eq_getElem hi
      · intro e2
        subst e2
        rw [List.getElem?_eq_getElem hi, e] at h1
        injection h1 with h1
        subst h1
        exact hne (cmpI_eq.1 h2)
    · exact ins_mem.2 (.inr hq)
  split
  · rename_i e
    subst e
    exact key _ hp' _ mem
  · rename_i hne
    by_cases hex : ∃ q ∈ l, q.1 = a
    · obtain ⟨q, hq, e⟩ := hex
      rw [← e, key l h q hq]
      exact key _ hp' q (old q hq (by omega))
    · rw [none l a (fun q hq e => hex ⟨q, hq, e⟩)]
      refine none _ a fun q hq e => ?_
      rcases putPt_mem hq with rfl | hq
      · exact hne e.symm
      · exact hex ⟨q, hq, e⟩
theorem off_hit {l : List (Int × Int)} (h : l.Pairwise fun a b => a.1 < b.1) (p : Int) : (hit (cP p) l = none → offOf l p = -1) ∧ ∀ x, hit (cP p) l = some x → offOf l p = x.2 := by
  have hm : Mono (cP p) l := mono_of (cP_rel p) h
  refine ⟨fun hn => offOf_none fun q hq e => hit_none hm hn q hq (cmpI_eq.2 e), fun x hx => ?_⟩
  obtain ⟨h1, h2⟩ := hit_some hx
  have hp : x.1 = p := cmpI_eq.1 h2
  refine offOf_first h1 hp fun j y hj hy e => ?_
  have := List.pairwise_iff_getElem.1 h j (low (cP p) l) (List.getElem?_eq_some_iff.1 hy).1 (List.getElem?_eq_some_iff.1 h1).1 hj
  rw [(List.getElem?_eq_some_iff.1 hy).2, (List.getElem?_eq_some_iff.1 h1).2] at this
  omega
theorem own_zero (p : Int) : ownD zeroG p = none := by
  unfold ownD
  have : Sh.msOf zeroG.parts zeroG.mem = [] := by kernel_rfl
  rw [this]
  unfold Sh.ownerOf
  split <;> rfl
theorem own_is {L : List G} {n m : ByteArray} {p : Int} (h : ownD (fndD L n) p = some m) : (fnd L n).isSome = true := by
  cases hf : fnd L n with
  | some g => rfl
  | none =>
    unfold fndD at h
    rw [hf] at h
    simp only [Option.getD_none] at h
    rw [own_zero] at h
    cases h
end Fk
/-- A group's points, as a law looks at them. -/
structure PtsG (l : List (Int × Int)) : Prop where
  rise : l.Pairwise fun a b => a.1 < b.1
  low : ∀ q ∈ l, 0 ≤ q.2
theorem Gk.ptsG {k : Int} {L : List Fk.G} (h : Gk k L) (n : ByteArray) : PtsG (Fk.fndD L n).pts := by
  unfold Fk.fndD
  cases hf : Fk.fnd L n with
  | none => exact ⟨List.Pairwise.nil, fun q hq => by cases hq⟩
  | some g =>
    have ho := h.ok.all g (Fk.hit_mem hf)
    exact ⟨ho.pts, fun q hq => (ho.low q hq).2.2.1⟩
/-- What is told of a partition's offset. -/
theorem Gk.lookF {k : Int} {L : List Fk.G} (h : Gk k L) (p : Int) (N M : ByteArray) :
    (Fk.look L ⟨0, 0, 7, p, 0, 0, 0, 0, N, M⟩ = ⟨0, Fk.offOf (Fk.fndD L N).pts p, 0, []⟩ ∧ 0 ≤ Fk.offOf (Fk.fndD L N).pts p) ∨ (Fk.look L ⟨0, 0, 7, p, 0, 0, 0, 0, N, M⟩ = ⟨12, 0, 0, []⟩ ∧ Fk.offOf (Fk.fndD L N).pts p = -1) := by
  have hg := h.ptsG N
  obtain ⟨h1, h2⟩ := Fk.off_hit hg.rise p
  unfold Fk.look
  simp only
  rw [if_neg (by decide), if_pos trivial]
  cases hf : Fk.hit (Fk.cP p) (Fk.fndD L N).pts with
  | none => exact .inr ⟨rfl, h1 hf⟩
  | some x =>
    have := h2 x hf
    exact .inl ⟨by rw [this], by rw [this]; exact hg.low x (Fk.hit_mem hf)⟩
/-- What a request does to its group's points, and what a commit is told. -/
structure ComF (q : Fk.Q) (w n : Fk.G) (t : Fk.T) : Prop where
  other : q.kind ≠ 6 → ∀ p, Fk.offOf n.pts p = Fk.offOf w.pts p
  code : q.kind = 6 → t.code = (if q.gen = w.gen ∧ Fk.ownD w q.part = some q.member then (if 0 ≤ q.off ∧ q.off ≤ 1099511627776 then 0 else 1) else 30)
  off : q.kind = 6 → ∀ p, Fk.offOf n.pts p = if t.code = 0 ∧ p = q.part then q.off else Fk.offOf w.pts p
theorem Gk.next_pts {k : Int} {L : List Fk.G} (h : Gk k L) (hk : k ≤ 1000) (parts : Int) (q : Fk.Q) {gn p : Int} {ms : List ByteArray} (hl : Fk.fnd L q.group = none → L.length < 4) (hd : Fk.decide L parts q = .turn q.group gn p ms) (r : Int) :
    Fk.offOf (Fk.fndD (Fk.next L parts q) q.group).pts r = Fk.offOf (Fk.fndD L q.group).pts r := by
  have h1 := h.next_same hk parts q hl
  rw [hd] at h1
  unfold Fk.fndD
  rw [h1]
  cases hf : Fk.fnd L q.group with
  | none =>
    simp only [Fk.stepF]
    split <;> rfl
  | some o =>
    simp only [Fk.stepF]
    split <;> rfl
theorem Gk.comF {k : Int} {L : List Fk.G} (h : Gk k L) (hk : k ≤ 1000) (parts : Int) (q : Fk.Q) :
    ComF q (Fk.fndD L q.group) (Fk.fndD (Fk.next L parts q) q.group) (Fk.answer (Fk.next L parts q) (Fk.decide L parts q) q) := by
  have hg := h.gd (by omega) q.group
  by_cases k6 : q.kind = 6
  · have hd0 : Fk.decide L parts q = Fk.decC L q := by unfold Fk.decide; rw [if_neg (by omega), if_neg (by omega), if_pos k6]
    have hno : ∀ c : Int, c ≠ 0 → Fk.decide L parts q = .no c → (Fk.answer (Fk.next L parts q) (Fk.decide L parts q) q).code = c ∧ ∀ p, Fk.offOf (Fk.fndD (Fk.next L parts q) q.group).pts p = Fk.offOf (Fk.fndD L q.group).pts p := fun c hc hd => by
      rw [Fk.next_no hd, hd]
      exact ⟨by unfold Fk.answer; simp only; split <;> rfl, fun _ => rfl⟩
    unfold Fk.decC at hd0
    by_cases ho : q.gen = (Fk.fndD L q.group).gen ∧ Fk.ownD (Fk.fndD L q.group) q.part = some q.member
    · rw [if_pos ho] at hd0
      by_cases hof : 0 ≤ q.off ∧ q.off ≤ 1099511627776
      · rw [if_pos hof] at hd0
        have his := Fk.own_is ho.2
        obtain ⟨x, hx⟩ := Option.isSome_iff_exists.1 his
        have hxd := Fk.fndD_of hx
        have h1 := h.next_same hk parts q (fun e => by rw [hx] at e; cases e)
        rw [hd0, hx] at h1
        simp only [Fk.stepF] at h1
        rw [if_pos (by rw [ho.1, hxd])] at h1
        have h2 := Fk.fndD_of h1
        have ea : (Fk.answer (Fk.next L parts q) (Fk.decide L parts q) q).code = 0 := by rw [hd0]; rfl
        refine ⟨fun e => absurd k6 e, fun _ => by rw [ea, if_pos ho, if_pos hof], fun _ p => ?_⟩
        rw [ea, h2, hxd]
        simp only
        rw [Fk.off_put (by have := (h.ptsG q.group).rise; rw [hxd] at this; exact this)]
        by_cases hp : p = q.part
        · rw [if_pos hp, if_pos ⟨trivial, hp⟩]
        · rw [if_neg hp, if_neg (fun e => hp e.2)]
      · rw [if_neg hof] at hd0
        obtain ⟨a1, a2⟩ := hno 1 (by decide) hd0
        refine ⟨fun e => absurd k6 e, fun _ => by rw [a1, if_pos ho, if_neg hof], fun _ p => ?_⟩
        rw [a1, if_neg (fun e => by cases e.1)]
        exact a2 p
    · rw [if_neg ho] at hd0
      obtain ⟨a1, a2⟩ := hno 30 (by decide) hd0
      refine ⟨fun e => absurd k6 e, fun _ => by rw [a1, if_neg ho], fun _ p => ?_⟩
      rw [a1, if_neg (fun e => by cases e.1)]
      exact a2 p
  · refine ⟨fun _ p => ?_, fun e => absurd e k6, fun e => absurd e k6⟩
    have hno : ∀ c : Int, Fk.decide L parts q = .no c → Fk.offOf (Fk.fndD (Fk.next L parts q) q.group).pts p = Fk.offOf (Fk.fndD L q.group).pts p := fun c hd => by rw [Fk.next_no hd]
    by_cases k3 : q.kind = 3
    · have hd0 : Fk.decide L parts q = Fk.decJ L parts q := by unfold Fk.decide; rw [if_pos k3]
      unfold Fk.decJ at hd0
      split at hd0
      case isFalse => exact hno _ hd0
      case isTrue hn =>
        split at hd0
        case isTrue hh => exact hno _ hd0
        case isFalse hh =>
          split at hd0
          case isTrue => exact hno _ hd0
          case isFalse hm =>
            exact h.next_pts hk parts q (fun e => by
              rcases Nat.lt_or_ge L.length 4 with h1 | h1
              · exact h1
              · exact absurd (.inr ⟨by rw [e]; rfl, h1⟩) hm) hd0 p
    · by_cases k4 : q.kind = 4
      · have hd0 : Fk.decide L parts q = Fk.decL L parts q := by unfold Fk.decide; rw [if_neg k3, if_pos k4]
        unfold Fk.decL at hd0
        split at hd0
        case isFalse => exact hno _ hd0
        case isTrue hn =>
          split at hd0
          case isTrue => exact hno _ hd0
          case isFalse hh =>
            have hin : q.member ∈ (Fk.fndD L q.group).mem := (Fk.hit_of hg.mem).1 (by
              cases e : (Fk.hit (Fk.cS q.member) (Fk.fndD L q.group).mem).isSome with
              | true => rfl
              | false => exact absurd e hh)
            exact h.next_pts hk parts q (fun e => by
              unfold Fk.fndD at hin
              rw [e] at hin
              simp [Fk.zeroG] at hin) hd0 p
      · exact hno 1 (by unfold Fk.decide; rw [if_neg k3, if_neg k4, if_neg k6])
end Go.Proofs.YtjccfilbihkfpaaGreatDoor

/- THE WALK OF FlockCommits. -/
namespace Go.Proofs.YtjccfilbihkfpaaGreatDoor
open Go.RowKit

theorem modN (x : Int) (k : Int) (hk : 0 < k) (hk2 : k ≤ 1048576) : ∃ H : Nat, (H : Int) < k ∧ wrap64 ((IntKind.u64.wrap x).tmod k) = (H : Int) := by
  have h0 : 0 ≤ IntKind.u64.wrap x := by
    show 0 ≤ x % _
    exact Int.emod_nonneg _ (by decide)
  have h1 : (IntKind.u64.wrap x).tmod k = (IntKind.u64.wrap x) % k := Int.tmod_eq_emod_of_nonneg h0
  have h2 : 0 ≤ (IntKind.u64.wrap x) % k := Int.emod_nonneg _ (by omega)
  have h3 : (IntKind.u64.wrap x) % k < k := Int.emod_lt_of_pos _ hk
  refine ⟨((IntKind.u64.wrap x) % k).toNat, by omega, ?_⟩
  rw [h1, Int.toNat_of_nonneg h2]
  generalize (IntKind.u64.wrap x) % k = y at h2 h3
  unfold wrap64
  omega
set_option maxHeartbeats 40000000 in
set_option maxRecDepth 100000 in
theorem commits_any {A : Nat → Prop} (parts : Int) (v : Value) (l : List (Fk.Q × Value)) (w : World) (lb : Lb w) (h : Rqs A w v l) :
    Calls Tryz.prog 5 #[.int .i64 parts, v] w fun e w' => e = .returned (.bool true) ∧ Below w.heap.size w w' := by
  obtain ⟨a, cap, rfl⟩ := h.form
  obtain ⟨m, hm⟩ : ∃ m, l.length = m := ⟨_, rfl⟩
  have HM := Lib.hid hm
  have HLB : Hid (∀ wx, Below w.heap.size w wx → Lb wx) := Lib.hid fun wx hb => lb.below lb.size hb
  have HAW := Lib.hid (awake_any w lb)
  have HV := Lib.hid h
  obtain ⟨P, hP5, hP⟩ := modN parts 5 (by decide) (by decide)
  have HP := Lib.hid hP
  have HP5 := Lib.hid hP5
  rw [hm] at HV ⊢
  clear lb h hm hP hP5
  go_enter Tryz.func5, Tryz.ntmps5
  go_wp2_with fail
  refine HAW.out.mono ?_
  rintro e w2 ⟨rfl, hb2⟩
  have HB2 := Lib.hid hb2
  have HV2 := Lib.hid (HV.out.below hb2)
  clear hb2 HAW HV
  by_cases h80 : 80 < m
  · have h80i : (80 : Int) < (m : Int) := by omega
    go_wp2_with fail
    go_ret
    exact ⟨rfl, HB2.out⟩
  have h80i : ¬ ((80 : Int) < (m : Int)) := by omega
  go_upto_region 6 with fail
  rw [HP.out]
  clear HP
  go_upto_region 7 with fail
  obtain ⟨W3, hW3⟩ : ∃ W, w2.alloc (.cells #[] 44) = W := ⟨_, rfl⟩
  have hb3 : Below w2.heap.size w2 W3 := by rw [← hW3]; exact (Below.refl _ _).alloc (Nat.le_refl _) _
  rw [hW3]
  clear hW3
  have HB3 := Lib.hid (HB2.out.trans (hb3.mono HB2.out.size))
  have HV3 := Lib.hid (HV2.out.below hb3)
  have HR3 := Lib.hid (Below.refl W3.heap.size W3)
  clear hb3 HV2 HB2
  have HP0 : Hid ((0 : Int) ≤ (P : Int)) := Lib.hid (by omega)
  go_wp2_with fail
  go_loopw [5, 6, 7, 8, 9, 10, 11, 12, 13, 14, 15, 16, 17, 18, 19, 20, 21] (fun s5 s6 _ _ _ _ _ _ _ _ _ _ _ _ _ _ _ wr => ∃ (i : Nat) (L : List Fk.G), i ≤ m ∧ s6 = .int .i64 i ∧ GsR (fun _ => True) wr s5 L ∧ Gk i L ∧ Below W3.heap.size W3 wr) (fun _ s6 _ _ _ _ _ _ _ _ _ _ _ _ _ _ _ _ => m - (intOf s6).toNat)
  case atStart => exact ⟨0, [], Nat.zero_le _, rfl, GsR.empty _ _ _ _, Gk.nil, HR3.out⟩
  case round =>
    obtain ⟨i, L, hi, rfl, hL, hG, hb⟩ := hrel
    obtain ⟨aL, cL, rfl⟩ := hL.form
    obtain ⟨nL, hnL⟩ : ∃ n, L.length = n := ⟨_, rfl⟩
    rw [hnL] at hL ⊢
    have HNL := Lib.hid hnL
    have HG := Lib.hid hG
    have HBW := Lib.hid (HB3.out.trans (hb.mono HB3.out.size))
    have HB := Lib.hid hb
    clear hnL hG
    by_cases hlt : i < m
    · obtain ⟨x, hx⟩ : ∃ x, l[i]? = some x := ⟨_, List.getElem?_eq_getElem (by rw [HM.out]; exact hlt)⟩
      obtain ⟨b, p, cap', ev, -, hbl, hc⟩ := (HV3.out.below hb).at hx
      rw [HM.out] at ev
      obtain rfl : a = some ⟨b, p, none⟩ := by injection ev
      obtain ⟨ra, rn, rc, hrv⟩ := HV3.out.2 x (List.mem_of_getElem? hx)
      obtain ⟨⟨cl, qn, kd, pt, sq, of, mx, gn, N, M⟩, rv⟩ := x
      simp only at hrv
      subst hrv
      have e0 := hc 0 _ rfl
      rw [Nat.add_zero] at e0
      have e1 := hc 1 _ rfl
      have e2 := hc 2 _ rfl
      have e3 := hc 3 _ rfl
      have e4 := hc 4 _ rfl
      have e5 := hc 5 _ rfl
      have e6 := hc 6 _ rfl
      have e7 := hc 7 _ rfl
      have e8 := hc 8 _ rfl
      have e9 := hc 9 _ rfl
      have e10 := hc 10 _ rfl
      simp only at e0 e1 e2 e3 e4 e5 e6 e7 e8 e9 e10
      have i0 : (0 : Int) ≤ (i : Int) := by omega
      have i1 : (i : Int) < (m : Int) := by omega
      clear ev hx hc hb
      go_upto_region 11 with fail
      obtain ⟨W4, hW4⟩ : ∃ W, wr.alloc (.cells #[.int .i64 cl, .int .i64 qn, .int .i64 kd, .int .i64 pt, .int .i64 sq, .int .i64 of, .int .i64 mx, .int .i64 gn, .string N, .string M, .slice ra rn rc] 34) = W := ⟨_, rfl⟩
      have hb4 : Below wr.heap.size wr W4 := by rw [← hW4]; exact (Below.refl _ _).alloc (Nat.le_refl _) _
      have k4 : Blk W4 wr.heap.size #[.int .i64 cl, .int .i64 qn, .int .i64 kd, .int .i64 pt, .int .i64 sq, .int .i64 of, .int .i64 mx, .int .i64 gn, .string N, .string M, .slice ra rn rc] 34 := by rw [← hW4]; exact Blk.new _ _ _
      obtain ⟨bq, hbq⟩ : ∃ n, wr.heap.size = n := ⟨_, rfl⟩
      rw [hbq] at k4
      rw [hW4, hbq]
      clear hW4 e0 e1 e2 e3 e4 e5 e6 e7 e8 e9 e10
      have HBW4 := Lib.hid (HBW.out.trans (hb4.mono HBW.out.size))
      have HB4 := Lib.hid (HB.out.trans (hb4.mono HB.out.size))
      have HK4 := Lib.hid k4
      have HL4 := Lib.hid (hL.below hb4)
      have HBQ : Hid (w.heap.size ≤ bq) := Lib.hid (by rw [← hbq]; exact HBW.out.size)
      obtain ⟨d0, d1, d2, d3, d4, d5, d6, d7, d8, d9, d10⟩ := k4.cells11
      clear hb4 k4 hL hbq
      by_cases hn2 : 200 < N.size
      · have hni : (200 : Int) < (N.size : Int) := by omega
        go_wp2_with fail
        go_ret
        exact ⟨rfl, HBW4.out⟩
      have hni : ¬ ((200 : Int) < (N.size : Int)) := by omega
      by_cases hm2 : 200 < M.size
      · have hmi : (200 : Int) < (M.size : Int) := by omega
        go_wp2_with fail
        go_ret
        exact ⟨rfl, HBW4.out⟩
      have hmi : ¬ ((200 : Int) < (M.size : Int)) := by omega
      obtain ⟨gW, hgW⟩ : ∃ g, Fk.fndD L N = g := ⟨_, rfl⟩
      obtain ⟨fW, hfW⟩ : ∃ b, (Fk.fnd L N).isSome = b := ⟨_, rfl⟩
      have HFW : Hid (∀ p m', Fk.ownD gW p = some m' → fW = true) := Lib.hid fun p m' h => by rw [← hfW]; exact Fk.own_is (n := N) (by rw [hgW]; exact h)
      have hcf := HG.out.comF (by omega) (P : Int) ⟨cl, qn, kd, pt, sq, of, mx, gn, N, M⟩
      rw [show (⟨cl, qn, kd, pt, sq, of, mx, gn, N, M⟩ : Fk.Q).group = N from rfl, hgW] at hcf
      have hdW := HG.out.gd (by omega) N
      rw [hgW] at hdW
      have HGA := group_any (.slice aL nL cL) L N W4 (GsR.bound HL4.out) (fun b hb => hb) HG.out.ok
      rw [hgW, hfW] at HGA
      have HGA := Lib.hid HGA
      have HCF := Lib.hid hcf
      have HDW := Lib.hid hdW
      clear hgW hfW hcf hdW
      go_wp2_with fail
      refine HGA.out.mono ?_
      rintro e w5 ⟨gv, rfl, ⟨wmv, wpv, rfl, hwe⟩, hb5⟩
      obtain ⟨wnm, wgen, wparts, wmem, wpts⟩ := gW
      obtain ⟨wma, wmc, rfl⟩ := hwe.1.form
      obtain ⟨wpa, wpc, rfl⟩ := hwe.2.form
      simp only at hwe ⊢
      obtain ⟨W5, hW5⟩ : ∃ W, w5.alloc (.cells #[.string wnm, .int .i64 wgen, .int .i64 wparts, .slice wma wmem.length wmc, .slice wpa wpts.length wpc] 44) = W := ⟨_, rfl⟩
      have hbx : Below w5.heap.size w5 W5 := by rw [← hW5]; exact (Below.refl _ _).alloc (Nat.le_refl _) _
      have kw : Blk W5 w5.heap.size #[.string wnm, .int .i64 wgen, .int .i64 wparts, .slice wma wmem.length wmc, .slice wpa wpts.length wpc] 44 := by rw [← hW5]; exact Blk.new _ _ _
      have hb45 : Below W4.heap.size W4 W5 := hb5.trans (hbx.mono hb5.size)
      obtain ⟨bw, hbw⟩ : ∃ n, w5.heap.size = n := ⟨_, rfl⟩
      rw [hbw] at kw
      have HBW5 := Lib.hid (HBW4.out.trans (hb45.mono HBW4.out.size))
      have HB5 := Lib.hid (HB4.out.trans (hb45.mono HB4.out.size))
      have HL5 := Lib.hid (HL4.out.below hb45)
      have HK5 := Lib.hid (HK4.out.below hb45)
      have HWE5 := Lib.hid (hwe.below hbx)
      have HWK5 := Lib.hid kw
      have HDA := Lib.hid (dec_any _ L P ⟨cl, qn, kd, pt, sq, of, mx, gn, N, M⟩ (.slice ra rn rc) i W5 (HLB.out _ HBW5.out) HL5.out HG.out (by omega))
      have HW5 := Lib.hid hW5
      clear hW5 hbx kw hb45 hb5 hwe HGA HK4 HL4 HB4 HBW4 d0 d1 d2 d3 d4 d5 d6 d7 d8 d9 d10
      go_upto_region 14 with fail
      rw [HW5.out]
      clear HW5 hbw
      obtain ⟨d0, d1, d2, d3, d4, d5, d6, d7, d8, d9, d10⟩ := HK5.out.cells11
      go_wp2_with fail
      refine HDA.out.mono ?_
      rintro e w6 ⟨K, V, rfl, hKV, hb6⟩
      have HKV := Lib.hid hKV
      obtain ⟨W6, hW6⟩ : ∃ W, w6.alloc (.cells #[.int .i64 0, .string K, .string V, .bool false] 28) = W := ⟨_, rfl⟩
      have hbx : Below w6.heap.size w6 W6 := by rw [← hW6]; exact (Below.refl _ _).alloc (Nat.le_refl _) _
      have kx : Blk W6 w6.heap.size #[.int .i64 0, .string K, .string V, .bool false] 28 := by rw [← hW6]; exact Blk.new _ _ _
      have hb56 : Below W5.heap.size W5 W6 := hb6.trans (hbx.mono hb6.size)
      obtain ⟨bx, hbxe⟩ : ∃ n, w6.heap.size = n := ⟨_, rfl⟩
      rw [hbxe] at kx
      have HBW6 := Lib.hid (HBW5.out.trans (hb56.mono HBW5.out.size))
      have HB6 := Lib.hid (HB5.out.trans (hb56.mono HB5.out.size))
      have HL6 := Lib.hid (HL5.out.below hb56)
      have HK6 := Lib.hid (HK5.out.below hb56)
      have HWE6 := Lib.hid (HWE5.out.below hb56)
      have HWK6 := Lib.hid (HWK5.out.below hb56)
      have HX6 := Lib.hid kx
      have HNA := Lib.hid (next_any _ L P ⟨cl, qn, kd, pt, sq, of, mx, gn, N, M⟩ K V i W6 (HLB.out _ HBW6.out) HL6.out HG.out (by omega) hKV.1 hKV.2.1 hKV.2.2)
      have HW6 := Lib.hid hW6
      clear hW6 d0 d1 d2 d3 d4 d5 d6 d7 d8 d9 d10 hKV HDA hb6 hb56 hbx HBW5 HB5 HL5 HK5 HWE5 HWK5
      go_upto_region 15 with fail
      rw [HW6.out]
      clear HW6 hbxe
      have x0 : W6.cell? ⟨bx, 0, none⟩ = some (.int .i64 0) := kx.cell rfl
      have x1 : W6.cell? ⟨bx, 1, none⟩ = some (.string K) := kx.cell rfl
      have x2 : W6.cell? ⟨bx, 2, none⟩ = some (.string V) := kx.cell rfl
      have x3 : W6.cell? ⟨bx, 3, none⟩ = some (.bool false) := kx.cell rfl
      clear kx
      go_wp2_with fail
      refine HNA.out.mono ?_
      rintro e w7 ⟨hb7, lab, v7, rfl, hO⟩
      have HL7 := Lib.hid (hO.rd.mono (A' := fun _ => True) fun _ _ => trivial)
      obtain ⟨a7, k7, rfl⟩ := hO.form
      have HG7 := Lib.hid (HG.out.next (by omega) (by omega) P ⟨cl, qn, kd, pt, sq, of, mx, gn, N, M⟩)
      have HBW7 := Lib.hid (HBW6.out.trans (hb7.mono HBW6.out.size))
      have HB7 := Lib.hid (HB6.out.trans (hb7.mono HB6.out.size))
      have HK7 := Lib.hid (HK6.out.below hb7)
      have HWE7 := Lib.hid (HWE6.out.below hb7)
      have HWK7 := Lib.hid (HWK6.out.below hb7)
      have HX7 := Lib.hid (HX6.out.below hb7)
      clear x0 x1 x2 x3 hb7 hO HNA HK6 HX6 HBW6 HB6 HL6 HWE6 HWK6
      have HANT : Hid (∀ wx, Below w7.heap.size w7 wx → Calls Tryz.prog 15 #[.slice a7 (Fk.next L P ⟨cl, qn, kd, pt, sq, of, mx, gn, N, M⟩).length k7, .agg #[.int .i64 0, .string K, .string V, .bool false], .agg #[.int .i64 cl, .int .i64 qn, .int .i64 kd, .int .i64 pt, .int .i64 sq, .int .i64 of, .int .i64 mx, .int .i64 gn, .string N, .string M, .slice ra rn rc]] wx fun e w' => RspOut wx cl qn (Fk.answer (Fk.next L P ⟨cl, qn, kd, pt, sq, of, mx, gn, N, M⟩) (Fk.decide L P ⟨cl, qn, kd, pt, sq, of, mx, gn, N, M⟩) ⟨cl, qn, kd, pt, sq, of, mx, gn, N, M⟩) e w') := Lib.hid fun wx hb => by
        have h := answer_any (A := fun _ => True) (.slice a7 (Fk.next L P ⟨cl, qn, kd, pt, sq, of, mx, gn, N, M⟩).length k7) (Fk.next L P ⟨cl, qn, kd, pt, sq, of, mx, gn, N, M⟩) 0 K V false ⟨cl, qn, kd, pt, sq, of, mx, gn, N, M⟩ (.slice ra rn rc) ((i : Int) + 1) wx (HLB.out _ (HBW7.out.trans (hb.mono HBW7.out.size))) (HL7.out.below hb) HG7.out (by omega) (by have := HKV.out.2.1; omega) (by have := HKV.out.2.2; omega)
        rw [HKV.out.1] at h
        exact h
      obtain ⟨t, ht⟩ : ∃ t, Fk.answer (Fk.next L P ⟨cl, qn, kd, pt, sq, of, mx, gn, N, M⟩) (Fk.decide L P ⟨cl, qn, kd, pt, sq, of, mx, gn, N, M⟩) ⟨cl, qn, kd, pt, sq, of, mx, gn, N, M⟩ = t := ⟨_, rfl⟩
      rw [ht] at HANT HCF
      obtain ⟨L', hL'⟩ : ∃ L', Fk.next L P ⟨cl, qn, kd, pt, sq, of, mx, gn, N, M⟩ = L' := ⟨_, rfl⟩
      rw [hL'] at HANT HL7 HG7 HCF ⊢
      obtain ⟨gN, hgN⟩ : ∃ g, Fk.fndD L' N = g := ⟨_, rfl⟩
      have hdN := HG7.out.gd (by omega) N
      have hlk := fun p => HG7.out.lookF p N ⟨#[]⟩
      rw [hgN] at hdN HCF
      have hlk : ∀ p, (Fk.look L' ⟨0, 0, 7, p, 0, 0, 0, 0, N, ⟨#[]⟩⟩ = ⟨0, Fk.offOf gN.pts p, 0, []⟩ ∧ 0 ≤ Fk.offOf gN.pts p) ∨ (Fk.look L' ⟨0, 0, 7, p, 0, 0, 0, 0, N, ⟨#[]⟩⟩ = ⟨12, 0, 0, []⟩ ∧ Fk.offOf gN.pts p = -1) := fun p => by rw [← hgN]; exact hlk p
      have HGB := group_any _ L' N w7 (GsR.bound HL7.out) (fun b hb => hb) HG7.out.ok
      rw [hgN] at HGB
      have HGB := Lib.hid HGB
      have HLK := Lib.hid hlk
      have HDN := Lib.hid hdN
      have d8 : w7.cell? ⟨bq, 8, none⟩ = some (.string N) := HK7.out.cell rfl
      clear ht hL' hgN hdN hlk
      go_wp2_with fail
      refine HGB.out.mono ?_
      rintro e w8 ⟨gv, rfl, ⟨nmv, npv, rfl, hne⟩, hb8⟩
      obtain ⟨nnm, ngen, nparts, nmem, npts⟩ := gN
      obtain ⟨nma, nmc, rfl⟩ := hne.1.form
      obtain ⟨npa, npc, rfl⟩ := hne.2.form
      simp only at hne HLK ⊢
      obtain ⟨W8, hW8⟩ : ∃ W, w8.alloc (.cells #[.string nnm, .int .i64 ngen, .int .i64 nparts, .slice nma nmem.length nmc, .slice npa npts.length npc] 44) = W := ⟨_, rfl⟩
      have hbx : Below w8.heap.size w8 W8 := by rw [← hW8]; exact (Below.refl _ _).alloc (Nat.le_refl _) _
      have kn : Blk W8 w8.heap.size #[.string nnm, .int .i64 ngen, .int .i64 nparts, .slice nma nmem.length nmc, .slice npa npts.length npc] 44 := by rw [← hW8]; exact Blk.new _ _ _
      have hb78 : Below w7.heap.size w7 W8 := hb8.trans (hbx.mono hb8.size)
      obtain ⟨bn, hbn⟩ : ∃ n, w8.heap.size = n := ⟨_, rfl⟩
      rw [hbn] at kn
      have HBW8 := Lib.hid (HBW7.out.trans (hb78.mono HBW7.out.size))
      have HB8 := Lib.hid (HB7.out.trans (hb78.mono HB7.out.size))
      have HL8 := Lib.hid (HL7.out.below hb78)
      have HK8 := Lib.hid (HK7.out.below hb78)
      have HX8 := Lib.hid (HX7.out.below hb78)
      have HWE8 := Lib.hid (HWE7.out.below hb78)
      have HWK8 := Lib.hid (HWK7.out.below hb78)
      have HNE8 := Lib.hid (hne.below hbx)
      have HNK8 := Lib.hid kn
      have HAN8 := Lib.hid (HANT.out W8 hb78)
      have HW8 := Lib.hid hW8
      have HGF := Lib.hid (HG7.out.mono (m' := ((i + 1 : Nat) : Int)) (by omega))
      clear hW8 hbx kn hb78 hb8 hne HGB HANT HK7 HX7 HWE7 HWK7 HL7 HB7 HBW7 d8
      go_upto_region 17 with fail
      rw [HW8.out]
      clear HW8 hbn
      have HOFW : Hid (∀ wx p, Below W8.heap.size W8 wx → Calls Tryz.prog 19 #[.agg #[.string wnm, .int .i64 wgen, .int .i64 wparts, .slice wma wmem.length wmc, .slice wpa wpts.length wpc], .int .i64 p] wx fun e w' => BtOut wx (Fk.offOf wpts p) e w') := Lib.hid fun wx p hb => off_any _ ⟨wnm, wgen, wparts, wmem, wpts⟩ p wx ⟨_, _, rfl, HWE8.out.below hb⟩ (by have := HDW.out.pts; simp only at this ⊢; omega)
      have HOFN : Hid (∀ wx p, Below W8.heap.size W8 wx → Calls Tryz.prog 19 #[.agg #[.string nnm, .int .i64 ngen, .int .i64 nparts, .slice nma nmem.length nmc, .slice npa npts.length npc], .int .i64 p] wx fun e w' => BtOut wx (Fk.offOf npts p) e w') := Lib.hid fun wx p hb => off_any _ ⟨nnm, ngen, nparts, nmem, npts⟩ p wx ⟨_, _, rfl, HNE8.out.below hb⟩ (by have := HDN.out.pts; simp only at this ⊢; omega)
      have d2 : W8.cell? ⟨bq, 2, none⟩ = some (.int .i64 kd) := HK8.out.cell rfl
      have HR8 := Lib.hid (Below.refl W8.heap.size W8)
      by_cases k6 : kd = 6
      · have hk6 : (kd != 6) = false := by simp [k6]
        have hcode := HCF.out.code k6
        have hoff := HCF.out.off k6
        simp only at hcode hoff
        obtain ⟨tc, tof, tg, tp⟩ := t
        simp only at hcode hoff
        obtain ⟨o, ho⟩ : ∃ o, Fk.ownD ⟨wnm, wgen, wparts, wmem, wpts⟩ pt = o := ⟨_, rfl⟩
        rw [ho] at hcode
        have HOW : Hid (∀ wx, Below W8.heap.size W8 wx → Calls Tryz.prog 18 #[.int .i64 wparts, .slice wma wmem.length wmc, .int .i64 pt] wx fun e w' => OwnOut wx o e w') := Lib.hid fun wx hb => by
          have h := owner_any wparts (.slice wma wmem.length wmc) wmem pt wx (HWE8.out.below hb).1
          rw [← ho]
          exact h
        have HFO : Hid (o = some M → fW = true) := Lib.hid fun h => HFW.out pt M (ho.trans h)
        have HCODE := Lib.hid hcode
        have HOFF := Lib.hid hoff
        have HLOOK : Hid (∀ wx p, Below W8.heap.size W8 wx → Calls Tryz.prog 20 #[.slice a7 L'.length k7, .agg #[.int .i64 0, .int .i64 0, .int .i64 7, .int .i64 p, .int .i64 0, .int .i64 0, .int .i64 0, .int .i64 0, .string N, .string ⟨#[]⟩, .slice none 0 0]] wx fun e w' => RspOut wx 0 0 (Fk.look L' ⟨0, 0, 7, p, 0, 0, 0, 0, N, ⟨#[]⟩⟩) e w') := Lib.hid fun wx p hb => look_any _ L' ⟨0, 0, 7, p, 0, 0, 0, 0, N, ⟨#[]⟩⟩ (.slice none 0 0) _ wx (HL8.out.below hb) HGF.out (by omega)
        obtain ⟨d0, d1, d2', d3, d4, d5, d6, d7, d8, d9, d10⟩ := HK8.out.cells11
        clear d2'
        have x0 : W8.cell? ⟨bx, 0, none⟩ = some (.int .i64 0) := HX8.out.cell rfl
        have x1 : W8.cell? ⟨bx, 1, none⟩ = some (.string K) := HX8.out.cell rfl
        have x2 : W8.cell? ⟨bx, 2, none⟩ = some (.string V) := HX8.out.cell rfl
        have x3 : W8.cell? ⟨bx, 3, none⟩ = some (.bool false) := HX8.out.cell rfl
        clear ho hcode hoff k6
        go_wp2_with fail
        refine HAN8.out.mono ?_
        rintro e w9 ⟨pv, rfl, hpv, hb9⟩
        obtain ⟨pva, pvc, rfl⟩ := hpv.form
        simp only at hpv hb9 ⊢
        obtain ⟨W9, hW9⟩ : ∃ W, w9.alloc (.cells (rsp cl qn tc tof tg (.slice pva tp.length pvc)) 39) = W := ⟨_, rfl⟩
        have hbx : Below w9.heap.size w9 W9 := by rw [← hW9]; exact (Below.refl _ _).alloc (Nat.le_refl _) _
        have kr : Blk W9 w9.heap.size (rsp cl qn tc tof tg (.slice pva tp.length pvc)) 39 := by rw [← hW9]; exact Blk.new _ _ _
        have hb89 : Below W8.heap.size W8 W9 := hb9.trans (hbx.mono hb9.size)
        obtain ⟨br, hbr⟩ : ∃ n, w9.heap.size = n := ⟨_, rfl⟩
        rw [hbr] at kr
        have HB89 := Lib.hid hb89
        have HK9 := Lib.hid (HK8.out.below hb89)
        have HWK9 := Lib.hid (HWK8.out.below hb89)
        have HNK9 := Lib.hid (HNK8.out.below hb89)
        have HR9 := Lib.hid kr
        have HW9 := Lib.hid hW9
        have HOW9 := Lib.hid (HOW.out W9 hb89)
        clear hW9 hbx kr hb89 hb9 hpv HAN8 x0 x1 x2 x3 d0 d1 d2 d3 d4 d5 d6 d7 d8 d9 d10
        go_upto_region 25 with fail
        rw [HW9.out]
        clear HW9 hbr
        -- what stands in the boxes, from here on
        have HCEL : Hid (∀ wx, Below W9.heap.size W9 wx → wx.cell? ⟨bq, 3, none⟩ = some (.int .i64 pt) ∧ wx.cell? ⟨bq, 5, none⟩ = some (.int .i64 of) ∧ wx.cell? ⟨bq, 7, none⟩ = some (.int .i64 gn) ∧ wx.cell? ⟨bq, 8, none⟩ = some (.string N) ∧ wx.cell? ⟨bq, 9, none⟩ = some (.string M) ∧ wx.cell? ⟨br, 2, none⟩ = some (.int .i64 tc) ∧
            wx.cell? ⟨bw, 0, none⟩ = some (.string wnm) ∧ wx.cell? ⟨bw, 1, none⟩ = some (.int .i64 wgen) ∧ wx.cell? ⟨bw, 2, none⟩ = some (.int .i64 wparts) ∧ wx.cell? ⟨bw, 3, none⟩ = some (.slice wma wmem.length wmc) ∧ wx.cell? ⟨bw, 4, none⟩ = some (.slice wpa wpts.length wpc) ∧
            wx.cell? ⟨bn, 0, none⟩ = some (.string nnm) ∧ wx.cell? ⟨bn, 1, none⟩ = some (.int .i64 ngen) ∧ wx.cell? ⟨bn, 2, none⟩ = some (.int .i64 nparts) ∧ wx.cell? ⟨bn, 3, none⟩ = some (.slice nma nmem.length nmc) ∧ wx.cell? ⟨bn, 4, none⟩ = some (.slice npa npts.length npc)) := Lib.hid fun wx hb =>
          ⟨(HK9.out.below hb).cell rfl, (HK9.out.below hb).cell rfl, (HK9.out.below hb).cell rfl, (HK9.out.below hb).cell rfl, (HK9.out.below hb).cell rfl, (HR9.out.below hb).cell rfl,
           (HWK9.out.below hb).cell rfl, (HWK9.out.below hb).cell rfl, (HWK9.out.below hb).cell rfl, (HWK9.out.below hb).cell rfl, (HWK9.out.below hb).cell rfl,
           (HNK9.out.below hb).cell rfl, (HNK9.out.below hb).cell rfl, (HNK9.out.below hb).cell rfl, (HNK9.out.below hb).cell rfl, (HNK9.out.below hb).cell rfl⟩
        have HRR := Lib.hid (Below.refl W9.heap.size W9)
        obtain ⟨c0, c1, c2, c3, c4, c5, c6, c7, c8, c9, c10, c11, c12, c13, c14, c15⟩ := HCEL.out W9 HRR.out
        go_wp2_with fail
        refine HOW9.out.mono ?_
        rintro e wo ⟨hbo, rfl⟩
        have HBO := Lib.hid hbo
        obtain ⟨MB, hMB⟩ : ∃ b, decide (gn = wgen ∧ o = some M) = b := ⟨_, rfl⟩
        have HMB := Lib.hid hMB
        clear hbo hMB HOW9 c0 c1 c2 c3 c4 c5 c6 c7 c8 c9 c10 c11 c12 c13 c14 c15
        obtain ⟨c0, c1, c2, c3, c4, c5, c6, c7, c8, c9, c10, c11, c12, c13, c14, c15⟩ := HCEL.out wo HBO.out
        go_upto_region 26 with fail
        go_cut [18] from 102 to 118 (fun s wx => s = .bool MB ∧ Eqw wo wx)
        case first => as_aux_lemma =>
          cases fW with
          | false =>
            have hm : MB = false := by rw [← HMB.out]; simp only [decide_eq_false_iff_not]; rintro ⟨-, h⟩; have := HFO.out h; cases this
            go_wp2_with fail
            go_meet
            case rel => exact ⟨by rw [hm], rfl⟩
          | true =>
            by_cases hgn : gn = wgen
            · have hgb : (gn == wgen) = true := by simp [hgn]
              cases o with
              | none =>
                have hm : MB = false := by rw [← HMB.out]; simp
                clear hgn
                go_wp2_with fail
                go_meet
                case rel => exact ⟨by rw [hm], rfl⟩
              | some o' =>
                by_cases hom : o' = M
                · have hm : MB = true := by rw [← HMB.out]; simp [hgn, hom]
                  have hs : (o'.toList == M.toList) = true := by simp [hom]
                  clear hgn hom
                  simp only [Option.getD_some, Option.isSome_some]
                  go_wp2_with fail
                  go_meet
                  case rel => exact ⟨by rw [hm], rfl⟩
                · have hm : MB = false := by rw [← HMB.out]; simp [hom]
                  have hs : (o'.toList == M.toList) = false := str_ne hom
                  clear hgn hom
                  simp only [Option.getD_some, Option.isSome_some]
                  go_wp2_with fail
                  go_meet
                  case rel => exact ⟨by rw [hm], rfl⟩
            · have hgb : (gn == wgen) = false := by simp [hgn]
              have hm : MB = false := by rw [← HMB.out]; simp [hgn]
              clear hgn
              go_wp2_with fail
              go_meet
              case rel => exact ⟨by rw [hm], rfl⟩
        case rest =>
        obtain ⟨rfl, hbe⟩ := hcut
        have hwe : wo = wc := hbe.symm
        subst hwe
        clear hbe
        go_upto_region 27 with fail
        go_cut [142] from 119 to 142 (fun s wx => s = .bool false ∧ Eqw wo wx)
        case first => as_aux_lemma =>
          cases MB with
          | false =>
            have htc : tc = 30 := by rw [HCODE.out, if_neg (of_decide_eq_false HMB.out)]
            subst htc
            go_wp2_with fail
            go_meet
            case rel => exact ⟨rfl, rfl⟩
          | true =>
            have htc := HCODE.out
            rw [if_pos (of_decide_eq_true HMB.out)] at htc
            by_cases h1 : 0 ≤ of
            · by_cases h2 : of ≤ 1099511627776
              · rw [if_pos ⟨h1, h2⟩] at htc
                subst htc
                go_wp2_with fail
                go_meet
                case rel => exact ⟨rfl, rfl⟩
              · rw [if_neg (fun h => h2 h.2)] at htc
                subst htc
                go_wp2_with fail
                go_meet
                case rel => exact ⟨rfl, rfl⟩
            · rw [if_neg (fun h => h1 h.1)] at htc
              subst htc
              go_wp2_with fail
              go_meet
              case rel => exact ⟨rfl, rfl⟩
        case rest =>
        obtain ⟨rfl, hbe⟩ := hcut
        have hwe : wo = wc := hbe.symm
        subst hwe
        clear hbe
        go_wp2_with fail
        go_loopw [19, 20, 21] (fun sp _ _ wx => ∃ p : Nat, p ≤ 4 ∧ sp = .int .i64 p ∧ Below W9.heap.size W9 wx) (fun sp _ _ _ => 4 - (intOf sp).toNat)
        case atStart => exact ⟨0, Nat.zero_le _, rfl, HBO.out⟩
        case round =>
          obtain ⟨p', hp4, rfl, hbp⟩ := hrel
          have HBP := Lib.hid hbp
          have HBP8 := Lib.hid (HB89.out.trans (hbp.mono HB89.out.size))
          clear hbp c0 c1 c2 c3 c4 c5 c6 c7 c8 c9 c10 c11 c12 c13 c14 c15
          obtain ⟨c0, c1, c2, c3, c4, c5, c6, c7, c8, c9, c10, c11, c12, c13, c14, c15⟩ := HCEL.out wr HBP.out
          by_cases hlt4 : p' < 4
          · have l1 : (p' : Int) < 4 := by omega
            have HOA := Lib.hid (HOFW.out wr (p' : Int) HBP8.out)
            obtain ⟨DW, hDW⟩ : ∃ x, Fk.offOf wpts (p' : Int) = x := ⟨_, rfl⟩
            obtain ⟨DN, hDN⟩ : ∃ x, Fk.offOf npts (p' : Int) = x := ⟨_, rfl⟩
            have HDO : Hid (DN = if tc = 0 ∧ (p' : Int) = pt then of else DW) := Lib.hid (by rw [← hDW, ← hDN]; exact HOFF.out (p' : Int))
            have hlk := HLK.out (p' : Int)
            rw [hDN] at hlk
            have HLKP := Lib.hid hlk
            have HDNN := Lib.hid hDN
            rw [hDW] at HOA
            clear hlk hDN hDW
            go_wp2_with fail
            refine HOA.out.mono ?_
            rintro e wa ⟨rfl, hba⟩
            have HBA := Lib.hid (HBP.out.trans (hba.mono HBP.out.size))
            have HBA8 := Lib.hid (HB89.out.trans (HBA.out.mono HB89.out.size))
            clear hba HOA c0 c1 c2 c3 c4 c5 c6 c7 c8 c9 c10 c11 c12 c13 c14 c15
            obtain ⟨c0, c1, c2, c3, c4, c5, c6, c7, c8, c9, c10, c11, c12, c13, c14, c15⟩ := HCEL.out wa HBA.out
            obtain ⟨CB, hCB⟩ : ∃ b, decide (tc = 0 ∧ (p' : Int) = pt) = b := ⟨_, rfl⟩
            have HCB := Lib.hid hCB
            clear hCB
            go_upto_region 33 with fail
            go_cut [158] from 150 to 158 (fun s wx => s = .bool CB ∧ Eqw wa wx)
            case first => as_aux_lemma =>
              by_cases htc : tc = 0
              · have hcb : (tc == 0) = true := by simp [htc]
                by_cases hpp : (p' : Int) = pt
                · have hd : CB = true := by rw [← HCB.out]; simp [htc, hpp]
                  have hpb : ((p' : Int) == pt) = true := by simp [hpp]
                  clear htc hpp
                  go_wp2_with fail
                  go_meet
                  case rel => exact ⟨by rw [hd], rfl⟩
                · have hd : CB = false := by rw [← HCB.out]; simp [hpp]
                  have hpb : ((p' : Int) == pt) = false := by simp [hpp]
                  clear htc hpp
                  go_wp2_with fail
                  go_meet
                  case rel => exact ⟨by rw [hd], rfl⟩
              · have hd : CB = false := by rw [← HCB.out]; simp [htc]
                have hcb : (tc == 0) = false := by simp [htc]
                clear htc
                go_wp2_with fail
                go_meet
                case rel => exact ⟨by rw [hd], rfl⟩
            case rest =>
            obtain ⟨rfl, hbe⟩ := hcut
            have hwe : wa = wc := hbe.symm
            subst hwe
            clear hbe
            go_upto_if 158 with fail
            go_cut [20] from 159 to 160 (fun s wx => s = .int .i64 DN ∧ Eqw wa wx)
            case first => as_aux_lemma =>
              cases CB with
              | true =>
                have hd : DN = of := by rw [HDO.out, if_pos (of_decide_eq_true HCB.out)]
                go_wp2_with fail
                go_meet
                case rel => exact ⟨by rw [hd], rfl⟩
              | false =>
                have hd : DN = DW := by rw [HDO.out, if_neg (of_decide_eq_false HCB.out)]
                go_wp2_with fail
                go_meet
                case rel => exact ⟨by rw [hd], rfl⟩
            case rest =>
            obtain ⟨rfl, hbe⟩ := hcut
            have hwe : wa = wc := hbe.symm
            subst hwe
            clear hbe
            have HLC := HLOOK.out wa (p' : Int) HBA8.out
            obtain ⟨tl, htl⟩ : ∃ t, Fk.look L' ⟨0, 0, 7, (p' : Int), 0, 0, 0, 0, N, ⟨#[]⟩⟩ = t := ⟨_, rfl⟩
            rw [htl] at HLC HLKP
            have HLC := Lib.hid HLC
            obtain ⟨lc, lo, lg, lp⟩ := tl
            clear htl
            go_wp2_with fail
            refine HLC.out.mono ?_
            rintro e wb ⟨pv2, rfl, hpv, hbb⟩
            obtain ⟨pva2, pvc2, rfl⟩ := hpv.form
            simp only at hpv hbb ⊢
            obtain ⟨WB, hWB⟩ : ∃ W, wb.alloc (.cells (rsp 0 0 lc lo lg (.slice pva2 lp.length pvc2)) 39) = W := ⟨_, rfl⟩
            have hbx : Below wb.heap.size wb WB := by rw [← hWB]; exact (Below.refl _ _).alloc (Nat.le_refl _) _
            have kr : Blk WB wb.heap.size (rsp 0 0 lc lo lg (.slice pva2 lp.length pvc2)) 39 := by rw [← hWB]; exact Blk.new _ _ _
            have hbab : Below wa.heap.size wa WB := hbb.trans (hbx.mono hbb.size)
            obtain ⟨bl, hbl⟩ : ∃ n, wb.heap.size = n := ⟨_, rfl⟩
            rw [hbl] at kr
            have HBB := Lib.hid (HBA.out.trans (hbab.mono HBA.out.size))
            have HBB8 := Lib.hid (HB89.out.trans (HBB.out.mono HB89.out.size))
            have HRL := Lib.hid kr
            have HWB := Lib.hid hWB
            have HON := HOFN.out WB (p' : Int) HBB8.out
            rw [HDNN.out] at HON
            have HON := Lib.hid HON
            clear hWB hbx kr hbab hbb hpv HLC c0 c1 c2 c3 c4 c5 c6 c7 c8 c9 c10 c11 c12 c13 c14 c15
            go_upto_region 36 with fail
            rw [HWB.out]
            clear HWB hbl
            obtain ⟨c0, c1, c2, c3, c4, c5, c6, c7, c8, c9, c10, c11, c12, c13, c14, c15⟩ := HCEL.out WB HBB.out
            go_wp2_with fail
            refine HON.out.mono ?_
            rintro e wd ⟨rfl, hbd⟩
            have HBD := Lib.hid (HBB.out.trans (hbd.mono HBB.out.size))
            have HRD := Lib.hid (HRL.out.below hbd)
            have r2 : wd.cell? ⟨bl, 2, none⟩ = some (.int .i64 lc) := HRD.out.cell rfl
            have r3 : wd.cell? ⟨bl, 3, none⟩ = some (.int .i64 lo) := HRD.out.cell rfl
            have hdd : (DN != DN) = false := by simp
            clear hbd HON c0 c1 c2 c3 c4 c5 c6 c7 c8 c9 c10 c11 c12 c13 c14 c15
            rcases HLKP.out with ⟨e1, e2⟩ | ⟨e1, e2⟩
            · injection e1 with e1 e3 e4 e5
              subst e1 e3
              go_wp2_with fail
              go_roundw
              case rel => exact ⟨p' + 1, by omega, by go_num, HBD.out⟩
              case measure => simp [intOf]; omega
            · injection e1 with e1 e3 e4 e5
              subst e1 e3
              have e6 : ¬ (0 ≤ DN) := by omega
              clear e2
              go_wp2_with fail
              go_roundw
              case rel => exact ⟨p' + 1, by omega, by go_num, HBD.out⟩
              case measure => simp [intOf]; omega
          · have l1 : ¬ ((p' : Int) < 4) := by omega
            have HLF := Lib.hid (HL8.out.below HBP8.out)
            have HBF := Lib.hid (HB8.out.trans (HBP8.out.mono HB8.out.size))
            clear c0 c1 c2 c3 c4 c5 c6 c7 c8 c9 c10 c11 c12 c13 c14 c15
            go_wp2_with fail
            go_roundw
            case rel => exact ⟨i + 1, L', by omega, by go_num, HLF.out, HGF.out, HBF.out⟩
            case measure => simp [intOf]; omega
      · have hk6 : (kd != 6) = true := by simp [k6]
        have hoff := HCF.out.other k6
        simp only at hoff
        have HOFF := Lib.hid hoff
        clear hoff k6
        go_wp2_with fail
        go_loopw [14] (fun sp wx => ∃ p : Nat, p ≤ 4 ∧ sp = .int .i64 p ∧ Below W8.heap.size W8 wx) (fun sp _ => 4 - (intOf sp).toNat)
        case atStart => exact ⟨0, Nat.zero_le _, rfl, HR8.out⟩
        case round =>
          clear d2
          obtain ⟨p', hp4, rfl, hbp⟩ := hrel
          have HBP := Lib.hid hbp
          obtain ⟨c0, c1, c2, c3, c4⟩ := (HWK8.out.below hbp).cells5
          obtain ⟨f0, f1, f2, f3, f4⟩ := (HNK8.out.below hbp).cells5
          clear hbp
          by_cases hlt4 : p' < 4
          · have l1 : (p' : Int) < 4 := by omega
            have HLP := Lib.hid fun d os => Calls.regrown_of (HOFW.out _ (p' : Int) (HBP.out.trans ((below_regrown wr d os).mono HBP.out.size)))
            have HLQ := Lib.hid fun d os => Calls.regrown_of (HOFN.out _ (p' : Int) (HBP.out.trans ((below_regrown wr d os).mono HBP.out.size)))
            rw [HOFF.out (p' : Int)] at HLQ
            obtain ⟨DW, hDW⟩ : ∃ x, Fk.offOf wpts (p' : Int) = x := ⟨_, rfl⟩
            rw [hDW] at HLP HLQ
            have hdd : (DW != DW) = false := by simp
            have kc0 := cell_regrown c0
            have kc1 := cell_regrown c1
            have kc2 := cell_regrown c2
            have kc3 := cell_regrown c3
            have kc4 := cell_regrown c4
            have kf0 := cell_regrown f0
            have kf1 := cell_regrown f1
            have kf2 := cell_regrown f2
            have kf3 := cell_regrown f3
            have kf4 := cell_regrown f4
            clear hDW
            go_upto_region 21 with fail
            clear c0 c1 c2 c3 c4 f0 f1 f2 f3 f4
            refine wp_region_quiet_below (by kernel_rfl) (by kernel_rfl) ?_
            repeat (go_big_quiet_step (first | (go_at_call 19; with_reducible exact HLQ.out _ _) | (go_at_call 19; with_reducible exact HLP.out _ _)))
            refine wpQuiet_nil ?_
            intro w9 hw9
            obtain ⟨⟨dq, osq⟩, hw9'⟩ := hw9
            have HB9 := Lib.hid (HBP.out.trans ((show Below wr.heap.size wr w9 by rw [hw9']; exact below_regrown wr dq osq).mono HBP.out.size))
            clear hw9' HLP HLQ kc0 kc1 kc2 kc3 kc4 kf0 kf1 kf2 kf3 kf4
            go_wp2_with fail
            go_roundw
            case rel => exact ⟨p' + 1, by omega, by go_num, HB9.out⟩
            case measure => simp [intOf]; omega
          · have l1 : ¬ ((p' : Int) < 4) := by omega
            have HLF := Lib.hid (HL8.out.below HBP.out)
            have HBF := Lib.hid (HB8.out.trans (HBP.out.mono HB8.out.size))
            clear c0 c1 c2 c3 c4 f0 f1 f2 f3 f4
            go_wp2_with fail
            go_roundw
            case rel => exact ⟨i + 1, L', by omega, by go_num, HLF.out, HGF.out, HBF.out⟩
            case measure => simp [intOf]; omega
    · go_wp2_with fail
      go_ret
      exact ⟨rfl, HBW.out⟩
end Go.Proofs.YtjccfilbihkfpaaGreatDoor
