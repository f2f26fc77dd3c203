/- THE CONTRACTS OF Fold's closures, of maps.DeleteFunc over records, of strings.Compare. -/
import Derived.Test.YtfapigccdbpepaaWMap
import Derived.Test.YtfapigccdbpepaaDLast
import Derived.Lib.SlMapFilter
import Derived.Laws.IdiomRangeMap
import Derived.Deep.LoopGhost
import Derived.Maps.Ext
import Derived.Lib.Bytealg
import Derived.Lib.Slices
import Derived.Lib.Walk
import Derived.Deep.DeepHandedRow
namespace Go.Proofs.Ytfapigccdbpepaa
open Go.RowKit Go.Maps

theorem gone_any (k : Value) (x : Pl.Rc) (w : World) : Calls Try.prog 30 #[k, .agg #[.int .i64 x.off, .string ⟨x.key.toArray⟩, .string ⟨x.val.toArray⟩, .bool x.gone]] w fun e w' => e = .returned (.bool x.gone) ∧ w.alloc (oRc x) = w' := by
  obtain ⟨off, key, val, gone⟩ := x
  go_enter Try.func30, Try.ntmps30
  go_wp2_with fail
  go_ret
  exact ⟨rfl, rfl⟩
/-- Which records go. -/
def pdG (_ : Lit) : DataW Pl.Rc → Bool
  | .held x => x.gone
  | _ => false
theorem alloc_grown (w : World) (o : Obj) (r : Option Nat) : w.grownBy (w.alloc o) r := ⟨rfl, rfl, rfl, by simp, fun k hk _ => Below.heap_alloc _ _ _ hk⟩

set_option maxHeartbeats 4000000 in
set_option maxRecDepth 100000 in
theorem delM_any (b : Nat) (S : List Pl.Rc) (w : World) (hv : VMap w b S) :
    Calls Try.prog 29 #[.map (some b), .func (.func 30) #[] #[]] w fun e w' => e = .returned (.tuple #[]) ∧ VMap w' b (S.filter fun x => !x.gone) ∧ w.grownBy w' (some b) := by
  obtain ⟨l, hown, hp⟩ := hv
  have HP := Lib.hid hp
  obtain ⟨n, hn⟩ : ∃ n, S.length = n := ⟨_, rfl⟩
  rw [hn] at hown
  have HOUT : Hid (∀ w', w'.ownsMap Try.prog 9 RR b n (Lib.deleteFuncD pdG (.map l)) → VMap w' b (S.filter fun x => !x.gone)) := Lib.hid fun w' h => by
    have h2 := owns_tight (h : w'.ownsMap Try.prog 9 RR b n (.map (l.filter fun p => !pdG p.1 p.2)))
    have hp2 : (l.filter fun p => !pdG p.1 p.2).Perm ((S.filter fun x => !x.gone).map pr) := by
      have := hp.filter fun p => !pdG p.1 p.2
      rw [List.filter_map] at this
      exact this
    rw [hp2.length_eq, List.length_map] at h2
    exact ⟨_, h2, hp2⟩
  clear hp hn
  obtain ⟨es0, he, hap, hkeys⟩ := hown.entries lawK
  cases he
  go_enter Try.func29, Try.ntmps29
  go_wp2_with (first
    | (at_range; refine wpList_range_own _ rfl _ 52 rfl 9 44 lawK Try.underlying52 RR b n _ rfl hown ?_; intro w0 hrg0 hg0 hs0)
    | go_in)
  go_frame
  go_loopw [4] (fun _ wr => ∃ (left : Lit → Bool) (cnt : Nat), wr.ranges Try.prog 9 RR b w.heap.size n (Fk pdG l left) left cnt ∧ w.grownBy wr (some b))
    (fun _ wr => wr.rangeLeft b w.heap.size)
  case atStart => exact ⟨_, _, by rw [Fk_start hkeys]; exact hrg0, hg0.but _⟩
  case round =>
    obtain ⟨left, cnt, hrg, hgw⟩ := hrel
    go_wp2_with (first
      | (at_next; refine wpList_next_ranges _ rfl _ rfl 9 lawK RR id rv4 (fun key _ _ => ⟨key, rfl⟩) (fun v y hv => by obtain ⟨c, rfl, _⟩ := RR_inv hv; exact ⟨c, rfl⟩) b w.heap.size n _ _ _ rfl hrg ?_ ?_)
      | go_in)
    · intro _ hl0
      go_wp2
      go_end0
      exact ⟨rfl, HOUT.out _ (by rw [← Fk_end hl0]; exact hrg.owns), hgw⟩
    · intro x c kl yd yp w1 cnt1 hkey hlx hv hat hrg1 hlt hg1 hs1 hen
      have hyd : yd = .held c := by rw [RR_some] at hv; cases hv; rfl
      subst hyd
      obtain ⟨off, key, val, gone⟩ := c
      have hgw1 := hgw.andThen hg1 (fun j hj => by cases hj; exact Or.inl (Nat.le_refl _))
      obtain ⟨W2, hW2⟩ : ∃ W2, w1.alloc (.cells #[.int .i64 off, .string ⟨key.toArray⟩, .string ⟨val.toArray⟩, .bool gone] 44) = W2 := ⟨_, rfl⟩
      have hbk : Blk W2 w1.heap.size #[.int .i64 off, .string ⟨key.toArray⟩, .string ⟨val.toArray⟩, .bool gone] 44 := by rw [← hW2]; exact Blk.new _ _ _
      have z0 : W2.cell? ⟨w1.heap.size, 0, none⟩ = some (.int .i64 off) := hbk.cell rfl
      have z1 : W2.cell? ⟨w1.heap.size, 1, none⟩ = some (.string ⟨key.toArray⟩) := hbk.cell rfl
      have z2 : W2.cell? ⟨w1.heap.size, 2, none⟩ = some (.string ⟨val.toArray⟩) := hbk.cell rfl
      have z3 : W2.cell? ⟨w1.heap.size, 3, none⟩ = some (.bool gone) := hbk.cell rfl
      have hg2 : w1.grownBy W2 none := by rw [← hW2]; exact alloc_grown _ _ _
      have hrg2 := hrg1.kept hg2 (by simp) (by simp)
      have hg3 : W2.grownBy (W2.alloc (oRc ⟨off, key, val, gone⟩)) none := alloc_grown _ _ _
      have hrg3 := hrg2.kept hg3 (by simp) (by simp)
      have hgw3 := (hgw1.andThen hg2 (fun j hj => by cases hj)).andThen hg3 (fun j hj => by cases hj)
      have hc := gone_any x ⟨off, key, val, gone⟩ W2
      have hbl := hrg1.owns.lt
      have hrl := hrg1.lt
      simp only at hc
      have HW2 := Lib.hid hW2
      clear hs1 hW2
      go_upto_region 3 with fail
      rw [HW2.out]
      cases gone with
      | false =>
        go_wp2_with (first
          | (go_at_call 30; refine hc.mono ?_; rintro e w9 ⟨rfl, rfl⟩)
          | go_in)
        go_roundw
        case rel => exact ⟨_, cnt1, by rw [← Fk_stays hap (lawK.key hkey) hlx rfl hat]; exact hrg3, hgw3⟩
        case measure => rw [hrg3.left_eq, hrg.left_eq]; exact hlt
      | true =>
        go_wp2_with (first
          | (go_at_call 30; refine hc.mono ?_; rintro e w9 ⟨rfl, rfl⟩)
          | (at_delete; refine wpList_delete_ranges _ rfl _ _ 52 9 rfl 44 lawK Try.underlying52 RR b w.heap.size n _ _ _ rfl hrg3 _ _ rfl hkey ?_; intro w4 cnt4 hrg4 hle hturn; go_frame)
          | go_in)
        rw [strike_twice] at hrg4
        go_roundw
        case rel => exact ⟨_, cnt4, by rw [← Fk_struck hap (lawK.key hkey) hlx rfl hat]; exact hrg4, hgw3.andThen hturn.grown (fun j hj => by cases hj; exact Or.inr rfl)⟩
        case measure => rw [hrg4.left_eq, hrg.left_eq]; omega

/-- The runtime's comparison of two strings. -/
theorem cmps_any (a b : ByteArray) (w : World) : Calls Try.prog 42 #[.string a, .string b] w fun e w' => e = .returned (.int .i64 (Lib.compareBytes a.data.toList b.data.toList)) ∧ w = w' := by
  go_enter Try.func42, Try.ntmps42
  go_wp2
  rw [run_callFunc_extern Try.func51 (by kernel_rfl) (by kernel_rfl) (by kernel_rfl) (e := Extern.BytealgCompare.compare) (by kernel_rfl), Lib.run_compareString]
  simp only [Result.andThen]
  rw [Oper.upon_value]
  go_wp2
  go_ret
  exact ⟨rfl, rfl⟩
theorem compare_any (a b : ByteArray) (w : World) : Calls Try.prog 32 #[.string a, .string b] w fun e w' => e = .returned (.int .i64 (Lib.compareBytes a.data.toList b.data.toList)) ∧ w = w' := by
  go_enter Try.func32, Try.ntmps32
  go_wp2_with (go_at_call 42; refine (cmps_any _ _ _).mono ?_; rintro e w' ⟨rfl, rfl⟩)
  go_ret
  exact ⟨rfl, rfl⟩
/-- Fold's comparison. -/
theorem byKey_any (x y : Pl.Rc) (w : World) : Calls Try.prog 31 #[.agg #[.int .i64 x.off, .string ⟨x.key.toArray⟩, .string ⟨x.val.toArray⟩, .bool x.gone], .agg #[.int .i64 y.off, .string ⟨y.key.toArray⟩, .string ⟨y.val.toArray⟩, .bool y.gone]] w fun e w' => e = .returned (.int .i64 (Lib.compareBytes x.key y.key)) ∧ (w.alloc (oRc x)).alloc (oRc y) = w' := by
  obtain ⟨r, hr⟩ : ∃ r, Lib.compareBytes x.key y.key = r := ⟨_, rfl⟩
  have HC : Hid (∀ wx, Calls Try.prog 32 #[.string ⟨x.key.toArray⟩, .string ⟨y.key.toArray⟩] wx fun e w' => e = .returned (.int .i64 r) ∧ wx = w') := Lib.hid fun wx => by rw [← hr]; exact compare_any _ _ wx
  rw [hr]
  clear hr
  obtain ⟨off, key, val, gone⟩ := x
  obtain ⟨off2, key2, val2, gone2⟩ := y
  simp only at HC
  go_enter Try.func31, Try.ntmps31
  go_wp2_with (go_at_call 32; refine (HC.out _).mono ?_; rintro e w' ⟨rfl, rfl⟩)
  go_ret
  exact ⟨rfl, rfl⟩
end Go.Proofs.Ytfapigccdbpepaa
