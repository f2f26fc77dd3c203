/- WHAT maps.Values GIVES: the records of a map, each once, in some order. -/
import Derived.Test.YtfapigccdbpepaaWGo
import Derived.Test.YtfapigccdbpepaaWMap
import Derived.Test.YtfapigccdbpepaaDLast
import Derived.Shelf.AbstractIn
import Derived.RangeFuncMany
import Derived.RangeFuncLeaves
import Derived.Sort.MapsRangeIn
import Derived.OwnWalkIn
import Derived.TacticsInMore
import Derived.RegionIn
import Derived.LoopNIn
import Derived.LoopIn
import Derived.Shelf.Abstract
import Derived.Maps.AppendAt
namespace Go.Proofs.Ytfapigccdbpepaa
open Go.RowKit Go.Maps Go.Shelf

theorem values_any (b : Nat) (w : World) : Calls Try.prog 34 #[.map (some b)] w fun e w' => e = .returned (.func (.func 45) #[] #[.pointer (some ⟨w.heap.size, 0, none⟩)]) ∧ w.alloc (.cells #[.map (some b)] 52) = w' := by
  go_enter Try.func34, Try.ntmps34
  go_wp2_with fail
  go_ret
  exact ⟨rfl, rfl⟩
/-- Records that a map holds, with just its keys, are its records. -/
theorem perm_of_keys {S xs : List Pl.Rc} (hS : Wd.Srt S) (h1 : ∀ x ∈ xs, Wd.lk S x.key = some x) (h2 : (xs.map (·.key)).Perm (S.map (·.key))) : xs.Perm S := by
  have key : ∀ {T : List Pl.Rc}, (∀ x ∈ T, Wd.lk S x.key = some x) → (T.map (·.key)).filterMap (Wd.lk S) = T := fun {T} => by
    induction T with
    | nil => intro _; rfl
    | cons t T ih =>
      intro h
      rw [List.map_cons, List.filterMap_cons_some (h t List.mem_cons_self), ih fun x hx => h x (List.mem_cons_of_mem _ hx)]
  have := h2.filterMap (Wd.lk S)
  rwa [key h1, key fun x hx => Wd.lk_mem hS hx] at this

set_option maxRecDepth 100000 in
set_option maxHeartbeats 2000000 in
theorem vals_in (n : Nat) (hn : 1 ≤ n) (l Bm b : Nat) (S : List Pl.Rc) (hS : Wd.Srt S) (J Jx : List Pl.Rc → World → Prop)
    (hY : ∀ pre x W, J pre W → pre.length < S.length → YieldAt Fence.wide (n - 1) Try.prog l #[rv4 x] W fun e W' => (e = .returned (.bool true) ∧ J (pre ++ [x]) W' ∧ KeepsWalks W W') ∨ (e = .returned (.bool false) ∧ Jx (pre ++ [x]) W'))
    (W : World) (hJ : AbidesFrom W.heap.size J) (hm : W.cell? ⟨Bm, 0, none⟩ = some (.map (some b))) (hv : VMap W b S) (h0 : J [] W) :
    CallsIn Fence.wide n Try.prog 45 #[.func (.yield l) #[] #[], .pointer (some ⟨Bm, 0, none⟩)] W fun e W' => (∃ v, e = .returned v) ∧ ((∃ xs, xs.Perm S ∧ J xs W') ∨ ∃ pre, True ∧ Jx pre W') := by
  obtain ⟨es, hown, hp⟩ := hv
  obtain ⟨D0, hD0⟩ : ∃ D0, (DataW.map es : DataW Pl.Rc) = D0 := ⟨_, rfl⟩
  have hsz : Maps.size D0 = S.length := by rw [← hD0]; show es.length = _; rw [hp.length_eq, List.length_map]
  have hkeys : (strKeys D0).Perm (S.map (·.key)) := by
    rw [← hD0]
    have h := hp.map (fun p => strOf p.1)
    rw [List.map_map] at h
    exact h
  have hrec : ∀ (k : Wd.Key) (c : Pl.Rc), (∀ zd, D0.atKey (.string k) zd = .held c) → Wd.lk S k = some c := fun k c hat => by
    cases hlk : Wd.lk S k with
    | none =>
      have := hat .nil
      rw [← hD0, find_none hlk hp] at this
      cases this
    | some z =>
      have := hat .nil
      rw [← hD0, find_rec hS hlk hp] at this
      cases this
      rfl
  rw [hD0] at hown
  clear hD0 hp
  refine callsIn_of_wp Try.func45 rfl trivial ?_ rfl
  simp only [Try.ntmps45, List.size_toArray, List.length_cons, List.length_nil, Nat.reduceAdd, Nat.reduceSub, Array.replicate_succ, Array.replicate_zero, List.push_toArray, List.append_toArray, List.nil_append, List.cons_append]
  gi_wp2_with (first
    | (gi_at_range; refine wpListIn_range_own _ rfl _ 52 rfl 9 44 lawK Try.underlying52 _ b _ _ rfl hown ?_; intro w0 hrg0 hg0 hs0)
    | gi_in)
  go_frame
  gi_loopw [4] (fun _ wr => ∃ (left : Lit → Bool) (cnt : Nat) (xs : List Pl.Rc), wr.ranges Try.prog 9 RR b W.heap.size S.length D0 left cnt ∧ xs.length + cnt ≤ Maps.size D0 ∧ Collected D0 left (xs.map (·.key)) ∧ (∀ x ∈ xs, Wd.lk S x.key = some x) ∧ J xs wr)
    (fun _ wr => wr.rangeLeft b W.heap.size)
  case atStart =>
    exact ⟨_, _, [], hrg0, by simp, Collected.start D0, by simp, hJ [] W w0 none h0 hg0 (fun r e => by cases e)⟩
  case round =>
    obtain ⟨left, cnt, xs, hrg, hcs, hC, hV, hJs⟩ := hrel
    gi_wp2_with (first
      | (gi_at_next; refine wpListIn_next_ranges _ rfl _ rfl 9 lawK RR encStr rv4 (fun key kl hk => by obtain ⟨x, hx, _⟩ := Maps.keyOf_str Try.underlying9 hk; exact ⟨x, hx⟩) (fun v y hv => by obtain ⟨c, rfl, _⟩ := RR_inv hv; exact ⟨c, rfl⟩) b W.heap.size _ _ _ _ rfl hrg ?_ ?_)
      | gi_in)
    · intro hc0 hl0
      gi_wp2
      go_end0
      exact ⟨⟨_, rfl⟩, .inl ⟨xs, perm_of_keys hS hV ((hC.perm hown lawK Try.underlying9 hl0).trans hkeys), hJs⟩⟩
    · intro k c kl yd yp w2 cnt2 hkey hlk hv hat hrg2 hlt hg2 hs2 hen
      obtain ⟨k', ek, rfl, _⟩ := Maps.keyOf_str Try.underlying9 hkey
      obtain rfl : k = k' := encStr_inj ek
      have hyd : yd = .held c := by rw [RR_some] at hv; cases hv; rfl
      subst hyd
      have hlc := hrec k c hat
      obtain ⟨-, hck⟩ := Wd.lk_key hlc
      have hJ2 : J xs w2 := hJ _ wr w2 (some W.heap.size) hJs hg2 (fun r e => by cases e; exact ⟨Nat.le_refl _, hrg.iter_walk⟩)
      obtain ⟨W2, hW2⟩ : ∃ W2, w2.alloc (.cells #[.int .i64 c.off, .string ⟨c.key.toArray⟩, .string ⟨c.val.toArray⟩, .bool c.gone] 44) = W2 := ⟨_, rfl⟩
      have hg3 : w2.grownBy W2 none := by rw [← hW2]; exact ⟨rfl, rfl, rfl, by simp, fun k hk _ => Below.heap_alloc _ _ _ hk⟩
      have hJ3 : J xs W2 := hJ _ w2 W2 none hJ2 hg3 (fun r e => by cases e)
      have hrg3 := hrg2.of_walks (show KeepsWalks w2 W2 by rw [← hW2]; exact KeepsWalks.alloc _ _)
      have hbk : Blk W2 w2.heap.size #[.int .i64 c.off, .string ⟨c.key.toArray⟩, .string ⟨c.val.toArray⟩, .bool c.gone] 44 := by rw [← hW2]; exact Blk.new _ _ _
      have z0 : W2.cell? ⟨w2.heap.size, 0, none⟩ = some (.int .i64 c.off) := hbk.cell rfl
      have z1 : W2.cell? ⟨w2.heap.size, 1, none⟩ = some (.string ⟨c.key.toArray⟩) := hbk.cell rfl
      have z2 : W2.cell? ⟨w2.heap.size, 2, none⟩ = some (.string ⟨c.val.toArray⟩) := hbk.cell rfl
      have z3 : W2.cell? ⟨w2.heap.size, 3, none⟩ = some (.bool c.gone) := hbk.cell rfl
      obtain ⟨fn, tmps, assign, body, hy, hR⟩ := hY xs c W2 hJ3 (by omega)
      have HCK := Lib.hid hck
      clear hs2 hck
      gi_wp2
      refine hR.mono ?_
      have hC2 : Collected D0 (fun z => left z && !z.sameKey (.string k)) ((xs ++ [c]).map (·.key)) := by
        have := hC.step hlk hat
        rw [List.map_append]
        rw [← HCK.out] at this ⊢
        exact this
      have hV2 : ∀ x ∈ xs ++ [c], Wd.lk S x.key = some x := fun x hx => (List.mem_append.1 hx).elim (hV x) (fun e => by
        rw [List.mem_singleton.1 e, HCK.out]
        exact hlc)
      rintro e W3 (⟨rfl, hJ4, hk3⟩ | ⟨rfl, hJx4⟩)
      · gi_wp2
        have hrg4 := hrg3.of_walks hk3
        go_roundw
        case rel => exact ⟨_, cnt2, xs ++ [c], hrg4, by simp; omega, hC2, hV2, hJ4⟩
        case measure => rw [hrg4.left_eq, hrg.left_eq]; exact hlt
      · gi_wp2
        refine bodyPost_ret (results_none rfl _ _ _) rfl ?_
        exact ⟨⟨_, rfl⟩, .inr ⟨_, trivial, hJx4⟩⟩

/-- .. as a going over records. -/
theorem vals_gives (n : Nat) (hn : 1 ≤ n) (Bm b : Nat) (S : List Pl.Rc) (hS : Wd.Srt S) (w : World) (hBm : Bm < w.heap.size) (hm : w.cell? ⟨Bm, 0, none⟩ = some (.map (some b))) (hv : VMap w b S) :
    Gives Fence.wide n Try.prog 45 #[.pointer (some ⟨Bm, 0, none⟩)] (fun x : Pl.Rc => #[rv4 x]) KeepsWalks (fun pre _ _ => pre.length < S.length) (fun xs => xs.Perm S) (fun _ => True) w :=
  fun l J Jx W hW hJ _ hY h0 => vals_in n hn l Bm b S hS J Jx (fun pre x V h1 h2 => hY pre x V h1 h2) W hJ ((hW.cell (p := ⟨Bm, 0, none⟩) hBm).trans hm) (hv.below hW) h0
end Go.Proofs.Ytfapigccdbpepaa
