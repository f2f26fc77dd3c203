/- THE CONTRACTS OF tape's Names and Left. -/
import Derived.Test.YtnenpcbofbcllaaWalk1
import Derived.Test.YtnenpcbofbcllaaShelf
namespace Go.Proofs.Ytnenpcbofbcllaa
open Go.RowKit Go.Maps Go.Sort Go.Shelf

/-- slices.Sort's two contracts at this dump, at the fence that asks nothing. -/
theorem sorts (m : Nat) : AnyZ.SortsIn Try.prog Try.sorted28_ren Fence.wide m :=
  ⟨fun blk off cap ss W hH hblk hsz => callsIn_wide.2 (AnyM.slices_Sort_string Try.sort32 blk off cap ss W hH hblk hsz),
   fun p cap W => callsIn_wide.2 (AnyM.slices_Sort_string_none Try.sort32 p cap W)⟩
theorem keys_any (m : Nat) (w : World) : Calls Try.prog 29 #[.map (some m)] w fun e w' => e = .returned (.func (.func 33) #[] #[.pointer (some ⟨w.heap.size, 0, none⟩)]) ∧ w' = w.alloc (.cells #[.map (some m)] 48) :=
  callsIn_wide.1 (AnyZ.keys_in Try.keys29 Fence.wide 5 trivial rfl (some m) w)
theorem strKeys_pairs {l : List (Lit × DataW Unit)} {E : List (Key × Nat)} (hp : l.Perm (E.map pairOf)) : (strKeys (DataW.map l)).Perm (E.map (·.1)) := by
  have h := hp.map (fun p => strOf p.1)
  rw [List.map_map] at h
  exact h
set_option maxHeartbeats 1000000 in
theorem sorted_any (m : Nat) (E : List (Key × Nat)) (w : World) (h : FMap w m E) (hE : E.length ≤ 1048576) :
    Calls Try.prog 28 #[.func (.func 33) #[] #[.pointer (some ⟨w.heap.size, 0, none⟩)]] (w.alloc (.cells #[.map (some m)] 48)) fun e w' => ∃ (v : Value) (ss : List Key), e = .returned v ∧ ss.Perm (E.map (·.1)) ∧
      w'.ownsRow w.heap.size 9 1 v E.length (ss.map encStr) ∧ Below w.heap.size w w' := by
  obtain ⟨l, hown, hp⟩ := h
  have hbl := hown.lt
  have hsz : size (DataW.map l) ≤ 1048576 := by
    show l.length ≤ _
    rw [hp.length_eq, List.length_map]
    exact hE
  have hseq : SeqGives Fence.wide 2 Try.prog 33 #[.pointer (some ⟨w.heap.size, 0, none⟩)] encStr (fun ss => ss.Perm (strKeys (DataW.map l))) (size (DataW.map l)) (w.alloc (.cells #[.map (some m)] 48)) :=
    AnyZ.keys_gives (ρ := Try.keys29_ren) { Try.keys29 with } Fence.wide _ trivial rfl (by omega) w.heap.size m E.length (DataW.map l) _ (by simp) (by simp) (by
      obtain ⟨es, clock, hb, Ft, hs, hD⟩ := hown
      exact ⟨es, clock, (Below.heap_alloc _ _ m hbl).trans hb, Ft, hs, hD⟩)
  refine (callsIn_wide.1 (AnyZ.sorted_in Try.sorted28 Fence.wide 5 trivial trivial trivial trivial rfl (by omega) (sorts _) (enters_of Try.func32 (by kernel_rfl) rfl) 33 #[.pointer (some ⟨w.heap.size, 0, none⟩)] trivial (enters_of Try.func33 (by kernel_rfl) rfl) _ _ (by unfold maxLen; omega) (by omega) _ hseq)).mono ?_
  rintro e w' ⟨v, ss, rfl, hS, hrow, -, hb⟩
  have hp2 := hS.trans (strKeys_pairs hp)
  have hlen : ss.length = E.length := by rw [hp2.length_eq, List.length_map]
  have hms := List.mergeSort_perm ss (fun x y => decide (x ≤ y))
  refine ⟨v, ss.mergeSort (fun x y => decide (x ≤ y)), rfl, hms.trans hp2, ?_, ?_⟩
  · rw [hlen] at hrow
    refine ⟨hrow.1, ?_⟩
    rcases hrow.2 with h2 | ⟨g, cap, cur, h1, h2, h3⟩
    · exact .inl h2
    · exact .inr ⟨g, cap, cur, h1, by simp at h2; omega, h3⟩
  · exact ((Below.refl _ _).alloc (Nat.le_refl _) _).trans (hb.mono (by simp))

theorem names_nil (w : World) : Calls Try.prog 17 #[.pointer none] w fun e w' => e = .returned (.slice none 0 0) ∧ w = w' := by
  go_enter Try.func17, Try.ntmps17
  go_wp2_with fail
  go_ret
  exact ⟨rfl, rfl⟩
theorem names_any (w : World) (t m : Nat) (E : List Ent) (s : Sc) (h : Tp w t m E s) :
    Calls Try.prog 17 #[.pointer (some ⟨t, 0, none⟩)] w fun e w' => ∃ (v : Value) (ss : List Key), e = .returned v ∧ ss.Perm (E.map (·.key)) ∧ w'.ownsRow w.heap.size 9 1 v E.length (ss.map encStr) ∧ Below w.heap.size w w' := by
  have hs := sorted_any m (prs E) w h.map (by simp only [prs, List.length_map]; exact Nat.le_trans h.few (by decide))
  rw [prs_keys, show (prs E).length = E.length by simp [prs]] at hs
  have HS := Lib.hid hs
  have HK := Lib.hid (keys_any m)
  have c0 : w.cell? ⟨t, 0, none⟩ = some (.map (some m)) := Blk.cell h.head rfl
  clear hs h
  go_enter Try.func17, Try.ntmps17
  go_wp2_with fail
  refine (HK.out _).mono ?_
  rintro e w' ⟨rfl, rfl⟩
  go_wp2_with fail
  refine HS.out.mono ?_
  rintro e w' ⟨v, ss, rfl, h1, h2, h3⟩
  have H1 := Lib.hid h1
  have H2 := Lib.hid h2
  have H3 := Lib.hid h3
  clear h1 h2 h3
  go_wp2_with fail
  go_ret
  exact ⟨v, ss, rfl, H1.out, H2.out, H3.out⟩
/-- A slice that a call has made is its length's. -/
theorem ownsRow_make {w : World} {base n : Nat} {T : TypeId} {v : Value} {xs : List Value} (h : w.ownsRow base T 1 v n xs) : ∃ ao cap, v = .slice ao n cap := by
  rcases h.2 with ⟨rfl, rfl⟩ | ⟨g, cap, cur, rfl, _⟩
  · exact ⟨_, _, rfl⟩
  · exact ⟨_, _, rfl⟩

/-- How many bytes lie in the files that the loop has met. -/
def got (E : List Ent) (left : Lit → Bool) : Nat := total (E.filter fun e => !left (.string e.key))
theorem got_start {E : List Ent} {left : Lit → Bool} (h : ∀ e ∈ E, left (.string e.key) = true) : got E left = 0 := by
  have : (E.filter fun e => !left (.string e.key)) = [] := by
    rw [List.filter_eq_nil_iff]
    intro e he
    simp [h e he]
  unfold got
  rw [this]
  rfl
theorem got_end {E : List Ent} {left : Lit → Bool} (h : ∀ kl, left kl = false) : got E left = total E := by
  have : (E.filter fun e => !left (.string e.key)) = E := by
    rw [List.filter_eq_self]
    intro e _
    simp [h]
  unfold got
  rw [this]
theorem total_filter_le (E : List Ent) (p : Ent → Bool) : total (E.filter p) ≤ total E := by
  induction E with
  | nil => exact Nat.le_refl _
  | cons a E ih =>
    rw [List.filter_cons]
    split
    · simp only [total]; omega
    · simp only [total]; omega
theorem got_more {E : List Ent} {left : Lit → Bool} (hn : (E.map (·.key)).Nodup) {e : Ent} (he : e ∈ E) (hl : left (.string e.key) = true) :
    got E (fun z => left z && !z.sameKey (.string e.key)) = got E left + e.L.length := by
  induction E with
  | nil => cases he
  | cons a E ih =>
    simp only [List.map_cons, List.nodup_cons] at hn
    rcases List.mem_cons.1 he with rfl | h1
    · have e1 : ∀ x ∈ E, (!(left (.string x.key) && !(Lit.string x.key).sameKey (.string e.key))) = !left (.string x.key) := by
        intro x hx
        have hne : x.key ≠ e.key := fun h => hn.1 (List.mem_map.2 ⟨x, hx, h⟩)
        rw [same_key]
        have : (x.key == e.key) = false := by simpa using hne
        rw [this]
        simp
      unfold got
      rw [List.filter_cons, List.filter_cons]
      simp only [hl, same_key, beq_self_eq_true, Bool.not_true, Bool.and_false, Bool.not_false, if_true, Bool.false_eq_true, if_false, total]
      simp only [same_key] at e1
      rw [List.filter_congr e1]
      omega
    · have hne : a.key ≠ e.key := fun h => hn.1 (List.mem_map.2 ⟨e, h1, h.symm⟩)
      have := ih hn.2 h1
      unfold got at this ⊢
      dsimp only at this ⊢
      rw [List.filter_cons, List.filter_cons]
      have e2 : (!(left (.string a.key) && !(Lit.string a.key).sameKey (.string e.key))) = !left (.string a.key) := by
        rw [same_key]
        have : (a.key == e.key) = false := by simpa using hne
        rw [this]
        simp
      simp only [e2]
      split
      · simp only [total]; omega
      · exact this

theorem left_nil (w : World) : Calls Try.prog 18 #[.pointer none] w fun e w' => e = .returned (.int .i64 0) ∧ w = w' := by
  go_enter Try.func18, Try.ntmps18
  go_wp2_with fail
  go_ret
  exact ⟨rfl, rfl⟩
def mkV : Option Nat → Value
  | some j => .pointer (some ⟨j, 0, none⟩)
  | none => .pointer none
theorem ent_at {E : List Ent} (hn : (E.map (·.key)).Nodup) {k : Key} {l : List (Lit × DataW Unit)} (hp : l.Perm ((prs E).map pairOf)) {c : Option Nat} {y : DataW Unit × List MemPlace} (hy : RF (mkV c) = some y)
    (hat : ∀ zd, (DataW.map l).atKey (.string k) zd = y.1) : ∃ e ∈ E, e.key = k ∧ c = some e.j := by
  by_cases hk : k ∈ E.map (·.key)
  · obtain ⟨e, he, rfl⟩ := List.mem_map.1 hk
    refine ⟨e, he, rfl, ?_⟩
    have h1 := hat .nil
    rw [find_pair (E := prs E) (by rw [prs_keys]; exact hn) (j := e.j) (by unfold prs; exact List.mem_map.2 ⟨e, he, rfl⟩) hp] at h1
    cases c with
    | none => cases hy; cases h1
    | some j =>
      cases hy
      injection h1 with h1
      injection h1 with _ h1
      have : e.j = j := by omega
      rw [this]
  · exfalso
    have h1 := hat (.lit (.bool true))
    rw [find_none (by rw [prs_keys]; exact hk) hp] at h1
    cases c with
    | none => cases hy; cases h1
    | some j => cases hy; cases h1
set_option maxHeartbeats 1000000 in
theorem left_any (w : World) (t m : Nat) (E : List Ent) (s : Sc) (h : Tp w t m E s) :
    Calls Try.prog 18 #[.pointer (some ⟨t, 0, none⟩)] w fun e w' => e = .returned (.int .i64 ((s.room : Int) - (total E : Int))) ∧ Below w.heap.size w w' := by
  obtain ⟨l, hown, hp⟩ := h.map
  have c0 : w.cell? ⟨t, 0, none⟩ = some (.map (some m)) := Blk.cell h.head rfl
  have c1 : w.cell? ⟨t, 1, none⟩ = some (.int .i64 s.room) := Blk.cell h.head rfl
  have hroom := h.room
  have hfit := h.fit
  obtain ⟨q, hq⟩ : ∃ q, s.room = q := ⟨_, rfl⟩
  obtain ⟨T, hT⟩ : ∃ T, total E = T := ⟨_, rfl⟩
  rw [hq] at c1 hroom hfit ⊢
  rw [hT] at hfit ⊢
  have HT := Lib.hid hT
  have HP := Lib.hid hp
  have HO := Lib.hid hown
  have HH := Lib.hid h
  have hm := h.map.lt
  clear h hp hq hT hown
  go_enter Try.func18, Try.ntmps18
  go_wp2_with (first
    | (at_range; refine wpList_range_own _ rfl _ 48 rfl 9 52 lawK Try.underlying48 RF m _ _ rfl HO.out ?_; intro w0 hrg0 hg0 hs0)
    | go_in)
  go_frame
  have HG0 := Lib.hid hg0
  have HR0 := Lib.hid hrg0
  clear hg0 hrg0
  go_loopw [3] (fun v wr => ∃ (left : Lit → Bool) (cnt : Nat), v = .int .i64 ((q : Int) - (got E left : Int)) ∧ wr.ranges Try.prog 9 RF m w.heap.size (prs E).length (.map l) left cnt ∧ w.grownBy wr none)
    (fun _ wr => wr.rangeLeft m w.heap.size)
  case atStart =>
    refine ⟨_, _, ?_, HR0.out, HG0.out⟩
    rw [got_start]
    · simp
    · intro e he
      show l.any _ = true
      rw [List.any_eq_true]
      exact ⟨(.string e.key, .lit (.int .i64 e.j)), HP.out.mem_iff.2 (List.mem_map.2 ⟨(e.key, e.j), List.mem_map.2 ⟨e, he, rfl⟩, rfl⟩), by rw [same_key]; simp⟩
  case round =>
    obtain ⟨left, cnt, rfl, hrg, hgw⟩ := hrel
    have hgl := total_filter_le E (fun e => !left (.string e.key))
    rw [HT.out] at hgl
    have HGL := Lib.hid hgl
    have HRG := Lib.hid hrg
    have HGW := Lib.hid hgw
    clear hgl hrg hgw HR0 HG0
    go_wp2_with (first
      | (at_next; refine wpList_next_ranges _ rfl _ rfl 9 lawK RF Value.string mkV (fun key kl hkey => Maps.keyOf_string_inv Try.underlying9 hkey) (fun v y hv => by rcases RF_inv hv with ⟨j, rfl, _⟩ | ⟨rfl, _⟩; exact ⟨some j, rfl⟩; exact ⟨none, rfl⟩) m w.heap.size _ _ _ _ rfl HRG.out ?_ ?_)
      | go_in)
    · intro _ hl0
      have e0 := got_end (E := E) hl0
      rw [HT.out] at e0
      rw [e0]
      go_wp2_with fail
      go_ret
      exact ⟨rfl, ⟨HGW.out.os, HGW.out.tape, HGW.out.output, HGW.out.size, fun k hk => HGW.out.block k hk (by simp)⟩⟩
    · intro x c kl yd yp w1 cnt1 hkey hlk hv hat hrg1 hlt hg1 hs1 hen
      have hkl : kl = .string x.data.toList := by
        by_cases hx : x.size ≤ maxLen
        · rw [WideMaps.keyOf_string_mk Try.underlying9 hx] at hkey
          injection hkey with hkey
          exact hkey.symm
        · rw [keyOf_string Try.underlying9] at hkey
          simp [mapKey, Try.underlying9, hx] at hkey
      subst hkl
      obtain ⟨e, he, hek, rfl⟩ := ent_at HH.out.keys HP.out hv hat
      simp only [mkV] at hen
      have hmore := got_more HH.out.keys he (left := left) (by rw [hek]; exact hlk)
      have hgl2 := total_filter_le E (fun x => !(fun z : Lit => left z && !z.sameKey (.string e.key)) (.string x.key))
      obtain ⟨sv, hb, hrow, -⟩ := HH.out.files e he
      obtain ⟨ao, cap, rfl⟩ := ownsRow_make hrow
      have hb1 : Blk w1 e.j #[.slice ao e.L.length cap, .int .i64 e.safe] 55 := (hb.grown HGW.out (by simp)).grown hg1 (by have := hb.lt; simp; omega)
      have d0 : w1.cell? ⟨e.j, 0, none⟩ = some (.slice ao e.L.length cap) := hb1.cell rfl
      have hmore2 : total (E.filter fun x => !(fun z : Lit => left z && !z.sameKey (.string e.key)) (.string x.key)) = got E left + e.L.length := hmore
      rw [HT.out, hmore2] at hgl2
      rw [← hek] at hrg1
      have HM := Lib.hid hmore
      have HR1 := Lib.hid hrg1
      have HG1 := Lib.hid hg1
      have hgl := HGL.out
      have hgl' : got E left ≤ T := hgl
      obtain ⟨g, hg⟩ : ∃ g, got E left = g := ⟨_, rfl⟩
      obtain ⟨n, hn⟩ : ∃ n, e.L.length = n := ⟨_, rfl⟩
      obtain ⟨j, hj⟩ : ∃ j, e.j = j := ⟨_, rfl⟩
      rw [hg, hn] at hgl2
      rw [hg] at hgl'
      rw [hn, hj] at d0
      rw [hj] at hen
      simp only [mkV]
      rw [hg, hj]
      have HMM := Lib.hid (And.intro hg hn)
      clear hkey hlk hv hat hrg1 hg1 hs1 hek hmore hmore2 hb hrow hb1 hgl hg hn hj he
      go_wp2_with fail
      go_roundw
      case rel =>
        refine ⟨_, cnt1, ?_, HR1.out, HGW.out.andThen HG1.out (fun j hj => by cases hj; exact .inl (Nat.le_refl _))⟩
        rw [HM.out, HMM.out.1, HMM.out.2]
        go_num
      case measure => rw [HR1.out.left_eq, HRG.out.left_eq]; exact hlt
end Go.Proofs.Ytnenpcbofbcllaa
