import Derived.Test.YtjccfilbihkfpaaGreatDoorM23
import Derived.Test.YtjccfilbihkfpaaGreatDoorM21
import Derived.Deep.QuietTactic
import Derived.BigQuiet

/- WHAT A REQUEST DOES TO ITS GROUP, plainly. -/
namespace Go.Proofs.YtjccfilbihkfpaaGreatDoor
open Go.RowKit

theorem Fk.clamp_in {p : Int} (h0 : 0 ≤ p) (h4 : p ≤ 4) : Fk.clamp p = p := by unfold Fk.clamp; split <;> (try split) <;> omega
theorem Fk.hit_of {L : List ByteArray} (hg : Sh.goodB L = true) {M : ByteArray} : (Fk.hit (Fk.cS M) L).isSome = true ↔ M ∈ L := by
  constructor
  · intro h
    obtain ⟨x, hx⟩ := Option.isSome_iff_exists.1 h
    have h1 := (Fk.hit_some hx).2
    have h2 := Fk.hit_mem hx
    unfold Fk.cS at h1
    rw [Fk.cmp_eq] at h1
    exact h1 ▸ h2
  · intro h
    cases hf : Fk.hit (Fk.cS M) L with
    | some x => rfl
    | none => exact absurd (Fk.cmp_eq.2 rfl) (Fk.hit_none (Fk.mem_mono hg M) hf M h)
theorem Fk.hit_not {L : List ByteArray} (hg : Sh.goodB L = true) {M : ByteArray} : (Fk.hit (Fk.cS M) L).isSome = false ↔ M ∉ L := by
  rw [← Fk.hit_of hg]
  cases (Fk.hit (Fk.cS M) L).isSome <;> simp
/-- Without the place where it stands a list lacks it, and nothing else. -/
theorem Fk.without_mem {L : List ByteArray} (hg : Sh.goodB L = true) {M : ByteArray} (hM : M ∈ L) {x : ByteArray} : x ∈ L.take (Fk.low (Fk.cS M) L) ++ L.drop (Fk.low (Fk.cS M) L + 1) ↔ x ∈ L ∧ x ≠ M := by
  obtain ⟨y, hy⟩ := Option.isSome_iff_exists.1 ((Fk.hit_of hg).2 hM)
  obtain ⟨h1, h2⟩ := Fk.hit_some hy
  have e : y = M := by unfold Fk.cS at h2; rwa [Fk.cmp_eq] at h2
  subst e
  obtain ⟨hi, he⟩ := List.getElem?_eq_some_iff.1 h1
  generalize Fk.low (Fk.cS y) L = i at h1 hi he
  have hp := List.pairwise_iff_getElem.1 (Fk.good_rise hg)
  rw [List.mem_append]
  constructor
  · rintro (h | h)
    · obtain ⟨t, ht, hx⟩ := Fk.mem_take_at h
      obtain ⟨htl, rfl⟩ := List.getElem?_eq_some_iff.1 hx
      exact ⟨List.getElem_mem _, by rw [← he]; exact Fk.lt_ne (hp t i htl hi ht)⟩
    · obtain ⟨t, ht, hx⟩ := Fk.mem_drop_at h
      obtain ⟨htl, rfl⟩ := List.getElem?_eq_some_iff.1 hx
      exact ⟨List.getElem_mem _, by rw [← he]; exact (Fk.lt_ne (hp i t hi htl (by omega))).symm⟩
  · rintro ⟨h, hne⟩
    obtain ⟨t, htl, rfl⟩ := List.getElem_of_mem h
    rcases Nat.lt_trichotomy t i with k | k | k
    · exact .inl (List.mem_iff_getElem.2 ⟨t, by rw [List.length_take]; omega, by rw [List.getElem_take]⟩)
    · subst k; exact absurd he hne
    · exact .inr (List.mem_iff_getElem.2 ⟨t - (i + 1), by rw [List.length_drop]; omega, by rw [List.getElem_drop]; congr 1; omega⟩)
/-- What a request does to its group, and what it is told. -/
structure TurnF (parts : Int) (q : Fk.Q) (w n : Fk.G) (t : Fk.T) : Prop where
  gen : n.gen = w.gen ∨ n.gen = w.gen + 1
  turned : n.gen = w.gen + 1 ↔ (t.code = 0 ∧ (q.kind = 4 ∨ (q.kind = 3 ∧ q.member ∉ w.mem)))
  join : t.code = 0 → q.kind = 3 → q.member ∈ n.mem ∧ t.gen = n.gen
  leave : t.code = 0 → q.kind = 4 → q.member ∉ n.mem
  stay : ∀ m ∈ w.mem, m ≠ q.member → m ∈ n.mem
  p1 : n.gen = w.gen + 1 → n.parts = parts
  p0 : n.gen = w.gen → n.parts = w.parts
theorem Fk.fndD_of {L : List Fk.G} {n : ByteArray} {g : Fk.G} (h : Fk.fnd L n = some g) : Fk.fndD L n = g := by unfold Fk.fndD; rw [h]; rfl
/-- Groups that don't change. -/
theorem TurnF.same {parts : Int} {q : Fk.Q} {w : Fk.G} {t : Fk.T} (h1 : t.code = 0 → q.kind = 3 → q.member ∈ w.mem ∧ t.gen = w.gen) (h2 : t.code = 0 → q.kind ≠ 4) : TurnF parts q w w t :=
  ⟨.inl rfl, ⟨fun h => by omega, fun ⟨h3, h4⟩ => by
    rcases h4 with h4 | ⟨h4, h5⟩
    · exact absurd h4 (h2 h3)
    · exact absurd (h1 h3 h4).1 h5⟩, h1, fun h3 h4 => absurd h4 (h2 h3), fun m hm _ => hm, fun h => by omega, fun _ => rfl⟩
theorem Fk.next_no {L : List Fk.G} {parts : Int} {q : Fk.Q} {c : Int} (h : Fk.decide L parts q = .no c) : Fk.next L parts q = L := by unfold Fk.next; rw [h]; rfl
theorem Gk.next_turn {k : Int} {L : List Fk.G} (h : Gk k L) (hk : k ≤ 1000) (parts : Int) (q : Fk.Q) {p : Int} {ms : List ByteArray} (hl : Fk.fnd L q.group = none → L.length < 4) (hd : Fk.decide L parts q = .turn q.group ((Fk.fndD L q.group).gen + 1) p ms) :
    Fk.fnd (Fk.next L parts q) q.group = some ⟨q.group, (Fk.fndD L q.group).gen + 1, p, ms, (Fk.fndD L q.group).pts⟩ := by
  rw [h.next_same hk parts q hl, hd]
  unfold Fk.fndD
  cases hf : Fk.fnd L q.group with
  | none =>
    simp only [Fk.stepF, Option.getD_none]
    rw [if_pos (by rfl)]
    rfl
  | some o =>
    simp only [Fk.stepF, Option.getD_some]
    rw [if_pos trivial]
/-- THE FACTS OF A REQUEST. -/
theorem Gk.turnF {k : Int} {L : List Fk.G} (h : Gk k L) (hk : k ≤ 1000) (parts : Int) (hp0 : 0 ≤ parts) (hp4 : parts ≤ 4) (q : Fk.Q) :
    TurnF parts q (Fk.fndD L q.group) (Fk.fndD (Fk.next L parts q) q.group) (Fk.answer (Fk.next L parts q) (Fk.decide L parts q) q) := by
  have hg := h.gd (by omega) q.group
  have hno : ∀ c : Int, c ≠ 0 → Fk.decide L parts q = .no c → TurnF parts q (Fk.fndD L q.group) (Fk.fndD (Fk.next L parts q) q.group) (Fk.answer (Fk.next L parts q) (Fk.decide L parts q) q) := fun c hc hd => by
    rw [Fk.next_no hd, hd]
    have e : (Fk.answer L (.no c) q).code = c := by unfold Fk.answer; simp only; split <;> rfl
    exact TurnF.same (fun h => absurd (e.symm.trans h) hc) (fun h => absurd (e.symm.trans h) hc)
  by_cases k3 : q.kind = 3
  · have hd0 : Fk.decide L parts q = Fk.decJ L parts q := by unfold Fk.decide; rw [if_pos k3]
    unfold Fk.decJ at hd0
    split at hd0
    case isFalse => exact hno 1 (by decide) hd0
    case isTrue hn =>
      split at hd0
      case isTrue hh =>
        rw [Fk.next_no hd0, hd0]
        have ea : Fk.answer L (.no 0) q = ⟨0, 0, (Fk.fndD L q.group).gen, Fk.own (Fk.fndD L q.group) q.member⟩ := by simp [Fk.answer, k3]
        rw [ea]
        exact TurnF.same (fun _ _ => ⟨(Fk.hit_of hg.mem).1 hh, rfl⟩) (fun _ e => by omega)
      case isFalse hh =>
        split at hd0
        case isTrue => exact hno 32 (by decide) hd0
        case isFalse hm =>
          rw [Fk.clamp_in hp0 hp4] at hd0
          have hl : Fk.fnd L q.group = none → L.length < 4 := fun e => by
            rcases Nat.lt_or_ge L.length 4 with h1 | h1
            · exact h1
            · exact absurd (.inr ⟨by rw [e]; rfl, h1⟩) hm
          have hfn := h.next_turn hk parts q hl hd0
          have e := Fk.fndD_of hfn
          have hnot : q.member ∉ (Fk.fndD L q.group).mem := fun e => hh ((Fk.hit_of hg.mem).2 e)
          rw [hd0]
          have ea : Fk.answer (Fk.next L parts q) (.turn q.group ((Fk.fndD L q.group).gen + 1) parts (Fk.ins (Fk.fndD L q.group).mem (Fk.low (Fk.cS q.member) (Fk.fndD L q.group).mem) q.member)) q = ⟨0, 0, (Fk.fndD (Fk.next L parts q) q.group).gen, Fk.own (Fk.fndD (Fk.next L parts q) q.group) q.member⟩ := rfl
          rw [ea, e]
          exact ⟨.inr rfl, ⟨fun _ => ⟨rfl, .inr ⟨k3, hnot⟩⟩, fun _ => rfl⟩, fun _ _ => ⟨Fk.ins_mem.2 (.inl rfl), rfl⟩, fun _ e => by omega, fun m hm _ => Fk.ins_mem.2 (.inr hm), fun _ => rfl, fun e => by simp only at e; omega⟩
  · by_cases k4 : q.kind = 4
    · have hd0 : Fk.decide L parts q = Fk.decL L parts q := by unfold Fk.decide; rw [if_neg k3, if_pos k4]
      unfold Fk.decL at hd0
      split at hd0
      case isFalse => exact hno 1 (by decide) hd0
      case isTrue hn =>
        split at hd0
        case isTrue => exact hno 31 (by decide) hd0
        case isFalse hh =>
          rw [Fk.clamp_in hp0 hp4] at hd0
          have hin : q.member ∈ (Fk.fndD L q.group).mem := (Fk.hit_of hg.mem).1 (by
            cases e : (Fk.hit (Fk.cS q.member) (Fk.fndD L q.group).mem).isSome with
            | true => rfl
            | false => exact absurd e hh)
          have hl : Fk.fnd L q.group = none → L.length < 4 := fun e => by
            unfold Fk.fndD at hin
            rw [e] at hin
            simp [Fk.zeroG] at hin
          have hfn := h.next_turn hk parts q hl hd0
          have e := Fk.fndD_of hfn
          rw [hd0]
          have ea : Fk.answer (Fk.next L parts q) (.turn q.group ((Fk.fndD L q.group).gen + 1) parts ((Fk.fndD L q.group).mem.take (Fk.low (Fk.cS q.member) (Fk.fndD L q.group).mem) ++ (Fk.fndD L q.group).mem.drop (Fk.low (Fk.cS q.member) (Fk.fndD L q.group).mem + 1))) q = ⟨0, 0, (Fk.fndD (Fk.next L parts q) q.group).gen, Fk.own (Fk.fndD (Fk.next L parts q) q.group) q.member⟩ := rfl
          rw [ea, e]
          refine ⟨.inr rfl, ⟨fun _ => ⟨rfl, .inl k4⟩, fun _ => rfl⟩, fun _ e => by omega, fun _ _ hm => ?_, fun m hm hne => (Fk.without_mem hg.mem hin).2 ⟨hm, hne⟩, fun _ => rfl, fun e => by simp only at e; omega⟩
          exact ((Fk.without_mem hg.mem hin).1 hm).2 rfl
    · by_cases k6 : q.kind = 6
      · have hd0 : Fk.decide L parts q = Fk.decC L q := by unfold Fk.decide; rw [if_neg k3, if_neg k4, if_pos k6]
        unfold Fk.decC at hd0
        split at hd0
        case isFalse => exact hno 30 (by decide) hd0
        case isTrue ho =>
          split at hd0
          case isFalse => exact hno 1 (by decide) hd0
          case isTrue hof =>
            have hs : ∃ ps, Fk.fndD (Fk.next L parts q) q.group = { Fk.fndD L q.group with pts := ps } := by
              cases hf : Fk.fnd L q.group with
              | none =>
                have e1 : Fk.fnd (Fk.next L parts q) q.group = none := by
                  have : Fk.next L parts q = L := by
                    unfold Fk.next
                    rw [hd0]
                    simp only [Fk.step, hf]
                  rw [this, hf]
                exact ⟨[], by unfold Fk.fndD; rw [e1, hf]; rfl⟩
              | some o =>
                have e1 := h.next_same hk parts q (fun e => by rw [hf] at e; cases e)
                rw [hd0, hf] at e1
                simp only [Fk.stepF] at e1
                split at e1
                · exact ⟨_, by rw [Fk.fndD_of e1, Fk.fndD_of hf]⟩
                · exact ⟨o.pts, by rw [Fk.fndD_of e1, Fk.fndD_of hf]⟩
            obtain ⟨ps, hps⟩ := hs
            rw [hps]
            exact ⟨.inl rfl, ⟨fun e => by simp only at e; omega, fun ⟨_, e⟩ => by rcases e with e | ⟨e, -⟩ <;> omega⟩, fun _ e => by omega, fun _ e => by omega, fun m hm _ => hm, fun e => by simp only at e; omega, fun _ => rfl⟩
      · exact hno 1 (by decide) (by unfold Fk.decide; rw [if_neg k3, if_neg k4, if_neg k6])
/-- The others stay, and nobody goes. -/
theorem Gk.still {k : Int} {L : List Fk.G} (h : Gk k L) (hk : k ≤ 1000) (parts : Int) (q : Fk.Q) {g : Fk.G} (hg : g ∈ L) : ∃ f, Fk.fnd (Fk.next L parts q) g.name = some f ∧ (g.name ≠ q.group → f = g) := by
  have h1 := Fk.fnd_of_mem h.ok hg
  by_cases e : g.name = q.group
  · have h2 := h.next_same hk parts q (fun e2 => by rw [← e, h1] at e2; cases e2)
    rw [← e, h1] at h2
    cases hd : Fk.decide L parts q with
    | none => rw [hd] at h2; exact ⟨g, h2, fun _ => rfl⟩
    | no c => rw [hd] at h2; exact ⟨g, h2, fun _ => rfl⟩
    | turn n gn p ms =>
      rw [hd] at h2
      simp only [Fk.stepF] at h2
      split at h2
      · exact ⟨_, h2, fun e2 => absurd e e2⟩
      · exact ⟨_, h2, fun e2 => absurd e e2⟩
    | point n p o gn =>
      rw [hd] at h2
      simp only [Fk.stepF] at h2
      split at h2
      · exact ⟨_, h2, fun e2 => absurd e e2⟩
      · exact ⟨_, h2, fun e2 => absurd e e2⟩
  · exact ⟨g, by rw [h.next_other hk parts q e]; exact h1, fun _ => rfl⟩
/-- Each partition has an owner, a member. -/
theorem Fk.owned {parts p : Int} {L : List ByteArray} (hg : Sh.goodB L = true) (h4 : parts ≤ 4) (h1 : 1 ≤ p) (h2 : p < parts) (hl : 0 < L.length) : ∃ o, Sh.ownerOf (Sh.msOf parts L) p = some o ∧ o ∈ L := by
  have hlen : (p - 1).toNat < (Sh.msOf parts L).length := by
    unfold Sh.msOf
    rw [if_pos ⟨hg, by omega, h4⟩, Sh.msTo_len, Sh.cnt_all _ (by omega) _ (by have := Sh.good_len hg; omega) hl]
    omega
  refine ⟨(Sh.msOf parts L)[(p - 1).toNat], ?_, Sh.msOf_mem (List.getElem_mem hlen)⟩
  unfold Sh.ownerOf
  rw [if_pos h1, List.getElem?_eq_getElem hlen]
end Go.Proofs.YtjccfilbihkfpaaGreatDoor

/- THE CONTRACT of the document's Same, of two rows of the same groups. -/
namespace Go.Proofs.YtjccfilbihkfpaaGreatDoor
open Go.RowKit

def Dr (w wx : World) : Prop := ∃ n, wx = w.drewN n
theorem Dr.more {w : World} (a b : Nat) : Dr w ((w.drewN a).drewN b) := ⟨a + b, by simp⟩
def SmOut (w : World) (e : Ending) (w' : World) : Prop := e = .returned (.bool true) ∧ ∃ n, w' = w.drewN n
set_option maxHeartbeats 4000000 in
set_option maxRecDepth 100000 in
theorem same_any {A B : Nat → Prop} (u v : Value) (L : List Fk.G) (w : World) (hu : GsR A w u L) (hv : GsR B w v L) (hl : L.length ≤ 64) (hs : ∀ g ∈ L, g.mem.length ≤ 64 ∧ g.pts.length ≤ 64) :
    Calls Tryz.prog 12 #[u, v] w fun e w' => SmOut w e w' := by
  obtain ⟨a1, k1, rfl⟩ := hu.form
  obtain ⟨a2, k2, rfl⟩ := hv.form
  obtain ⟨m, hm⟩ : ∃ m, L.length = m := ⟨_, rfl⟩
  have HU := Lib.hid hu
  have HV := Lib.hid hv
  have HM := Lib.hid hm
  have HS := Lib.hid hs
  rw [hm] at HU HV hl ⊢
  clear hu hv hs hm
  go_enter Tryz.func12, Tryz.ntmps12
  go_wp2_with fail
  go_loopw [5, 6, 7] (fun s5 _ _ wr => ∃ (i : Nat), i ≤ m ∧ s5 = .int .i64 i ∧ Dr w wr) (fun s5 _ _ _ => m - (intOf s5).toNat)
  case atStart => exact ⟨0, Nat.zero_le _, rfl, 0, rfl⟩
  case round =>
    obtain ⟨i, hi, rfl, q, rfl⟩ := hrel
    by_cases hlt : i < m
    · obtain ⟨g, hx⟩ : ∃ g, L[i]? = some g := ⟨_, List.getElem?_eq_getElem (by rw [HM.out]; exact hlt)⟩
      have hgs := HS.out g (List.mem_of_getElem? hx)
      have hu := HU.out
      have hv := HV.out
      rw [← HM.out] at hu hv
      obtain ⟨b, p, cap, mv, pv, ev, -, hbl, hen, c0, c1, c2, c3, c4⟩ := hu.at hx
      obtain ⟨b', p', cap', mv', pv', ev', -, hbl', hen', d0, d1, d2, d3, d4⟩ := hv.at hx
      rw [HM.out] at ev ev'
      obtain rfl : a1 = some ⟨b, p, none⟩ := by injection ev
      obtain rfl : a2 = some ⟨b', p', none⟩ := by injection ev'
      clear ev ev' hu hv hx
      obtain ⟨nm, gn, pt, mem, pts⟩ := g
      simp only at c0 c1 c2 d0 d1 d2 hgs
      obtain ⟨ma, mc, rfl⟩ := hen.1.form
      obtain ⟨pa, pc, rfl⟩ := hen.2.form
      obtain ⟨ma', mc', rfl⟩ := hen'.1.form
      obtain ⟨pa', pc', rfl⟩ := hen'.2.form
      obtain ⟨mm, hmm⟩ : ∃ n, mem.length = n := ⟨_, rfl⟩
      obtain ⟨pp, hpp⟩ : ∃ n, pts.length = n := ⟨_, rfl⟩
      have HEN := Lib.hid hen
      have HEN' := Lib.hid hen'
      have HMM := Lib.hid hmm
      have HPP := Lib.hid hpp
      simp only [hmm, hpp] at HEN HEN' c3 c4 d3 d4 hgs
      clear hmm hpp hen hen'
      have i0 : (0 : Int) ≤ (i : Int) := by omega
      have i1 : (i : Int) < (m : Int) := by omega
      go_upto_region 6 with fail
      go_quiet (fail)
      go_wp2_with fail
      go_loopw [6] (fun s6 wx => ∃ (j : Nat), j ≤ mm ∧ s6 = .int .i64 j ∧ Dr w wx) (fun s6 _ => mm - (intOf s6).toNat)
      case atStart => exact ⟨0, Nat.zero_le _, rfl, by first | exact Dr.more _ _ | exact ⟨_, rfl⟩⟩
      case round =>
        obtain ⟨j, hj, rfl, n, rfl⟩ := hrel
        by_cases hjt : j < mm
        · obtain ⟨x, hx⟩ : ∃ x, mem[j]? = some x := ⟨_, List.getElem?_eq_getElem (by rw [HMM.out]; exact hjt)⟩
          have he := HEN.out.1
          have he' := HEN'.out.1
          simp only [← HMM.out] at he he'
          obtain ⟨f, o, z, ez, -, -, x0⟩ := Nms.at he hx
          obtain ⟨f', o', z', ez', -, -, y0⟩ := Nms.at he' hx
          rw [HMM.out] at ez ez'
          obtain rfl : ma = some ⟨f, o, none⟩ := by injection ez
          obtain rfl : ma' = some ⟨f', o', none⟩ := by injection ez'
          clear ez ez' he he' hx
          have j0 : (0 : Int) ≤ (j : Int) := by omega
          have j1 : (j : Int) < (mm : Int) := by omega
          go_wp2_with fail
          go_quiet (fail)
          go_wp2_with fail
          go_roundw
          case rel => exact ⟨j + 1, by omega, by go_num, by first | exact Dr.more _ _ | exact ⟨_, rfl⟩⟩
          case measure => simp [intOf]; omega
        · go_wp2_with fail
          go_loopw [7] (fun s7 wx => ∃ (j : Nat), j ≤ pp ∧ s7 = .int .i64 j ∧ Dr w wx) (fun s7 _ => pp - (intOf s7).toNat)
          case atStart => exact ⟨0, Nat.zero_le _, rfl, by first | exact Dr.more _ _ | exact ⟨_, rfl⟩⟩
          case round =>
            obtain ⟨h, hh, rfl, n, rfl⟩ := hrel
            by_cases hht : h < pp
            · obtain ⟨x, hx⟩ : ∃ x, pts[h]? = some x := ⟨_, List.getElem?_eq_getElem (by rw [HPP.out]; exact hht)⟩
              have he := HEN.out.2
              have he' := HEN'.out.2
              simp only [← HPP.out] at he he'
              obtain ⟨f, o, z, ez, -, -, x0, x1⟩ := Pts.at he hx
              obtain ⟨f', o', z', ez', -, -, y0, y1⟩ := Pts.at he' hx
              rw [HPP.out] at ez ez'
              obtain rfl : pa = some ⟨f, o, none⟩ := by injection ez
              obtain rfl : pa' = some ⟨f', o', none⟩ := by injection ez'
              clear ez ez' he he' hx
              have j0 : (0 : Int) ≤ (h : Int) := by omega
              have j1 : (h : Int) < (pp : Int) := by omega
              go_wp2_with fail
              go_quiet (fail)
              go_wp2_with fail
              go_roundw
              case rel => exact ⟨h + 1, by omega, by go_num, by first | exact Dr.more _ _ | exact ⟨_, rfl⟩⟩
              case measure => simp [intOf]; omega
            · go_wp2_with fail
              go_roundw
              case rel => exact ⟨i + 1, by omega, by go_num, by first | exact Dr.more _ _ | exact ⟨_, rfl⟩⟩
              case measure => simp [intOf]; omega
    · go_wp2_with fail
      go_ret
      exact ⟨rfl, _, rfl⟩
end Go.Proofs.YtjccfilbihkfpaaGreatDoor
