/- THE CONTRACTS OF slices.SortFunc, slices.SortedFunc over records, and of the program's Fold. -/
import Derived.Test.YtfapigccdbpepaaTShelf
import Derived.Test.YtfapigccdbpepaaWColl
import Derived.Test.YtfapigccdbpepaaDMap
import Derived.Test.YtfapigccdbpepaaDClone
namespace Go.Proofs.Ytfapigccdbpepaa
open Go.RowKit Go.Shelf Go.Sort

/-- Fold's comparison, plain. -/
def cf (x y : Pl.Rc) : Int := Lib.compareBytes x.key y.key
theorem cmpB_lt : ∀ (a b : List UInt8), (Lib.compareBytes a b < 0) ↔ a < b
  | [], [] => by simp [Lib.compareBytes]
  | [], b :: t => by simp [Lib.compareBytes]
  | a :: s, [] => by simp [Lib.compareBytes]
  | a :: s, b :: t => by
    unfold Lib.compareBytes
    rw [List.cons_lt_cons_iff]
    by_cases h1 : a < b
    · simp [h1]
    · rw [if_neg h1]
      by_cases h2 : b < a
      · rw [if_pos h2]
        have h3 : a ≠ b := fun e => by rw [e] at h2; exact absurd h2 (by simp)
        simp [h1, h3]
      · rw [if_neg h2]
        have h3 : a = b := UInt8.le_antisymm (UInt8.not_lt.1 h2) (UInt8.not_lt.1 h1)
        rw [cmpB_lt s t]
        simp [h3]
theorem lt_cf (x y : Pl.Rc) : ltOf cf x y = decide (x.key < y.key) := by
  unfold ltOf cf
  rw [Bool.eq_iff_iff, decide_eq_true_iff, decide_eq_true_iff, cmpB_lt]
theorem swoK : SWO (ltOf cf) where
  irrefl x := by rw [lt_cf]; simp [List.lt_irrefl]
  trans x y z h1 h2 := by
    rw [lt_cf, decide_eq_true_iff] at *
    exact List.lt_trans h1 h2
  ntrans x y z h1 h2 := by
    rw [lt_cf, decide_eq_false_iff_not] at *
    exact fun h => h1 (by
      have h3 := List.not_lt.1 h1
      have h4 := List.not_lt.1 h2
      exact absurd h (List.not_lt.2 (List.le_trans h4 h3)))

instance : Inhabited Pl.Rc := ⟨⟨0, [], [], false⟩⟩
theorem aggR : ∀ w, (isAgg 44).run Try.prog w = .ok true w := fun w => by kernel_rfl
theorem sizeR : ∀ w, (Go.sizeOf 44).run Try.prog w = .ok 4 w := fun w => by kernel_rfl
theorem cmp_lays (blk off size : Nat) (w : World) : CmpLays Try.prog 31 #[] cells4 4 cf blk off size w :=
  fun m os dk _ x y => (byKey_any x y _).mono fun e w' ⟨h1, h2⟩ => by subst h2; exact ⟨h1, 0, _, by rw [alloc_eq_grow, alloc_eq_grow, grow_grow]; rfl⟩
theorem eg31 : ∀ args w, (callFunc 31 args).run Try.prog w = .ok (.enter 31 args) w := enters_of Try.func31 (by kernel_rfl) rfl
/-- The cells of records in a row. -/
theorem flat_get (d : Array Pl.Rc) (i c : Nat) (hi : i < d.size) (hc : c < 4) : (d.toList.flatMap cells4)[i * 4 + c]? = some (cells4 d[i]!)[c]! := by
  have h1 : d.toList[i]? = some d[i]! := by rw [Array.getElem?_toList, getElem!_pos d i hi, Array.getElem?_eq_getElem hi]
  rw [flat4 d.toList i _ h1 c hc]
  rw [getElem!_pos (cells4 d[i]!) c (by show c < 4; exact hc)]
  exact List.getElem?_eq_getElem _
theorem lenN (w : World) : Calls Try.prog 54 #[.int .u64 0] w fun e w' => e = .returned (.int .i64 (Lib.bitLen 0 : Nat)) ∧ w = w' :=
  (Any.bits_Len (SlLaysF0.n15.bits (P := Try.prog) (ρ := Try.sort44_ren) { Try.sort44 with }) 0 w (by omega) (by omega)).mono fun _ _ h => ⟨h.1, h.2.symm⟩
set_option maxHeartbeats 2000000 in
theorem insN (fv : Value) (w : World) : Calls Try.prog 56 #[.slice none 0 0, .int .i64 0, .int .i64 0, fv] w fun e w' => e = .returned (.tuple #[]) ∧ w = w' := by
  go_enter Try.func56, Try.ntmps56
  go_wp2
  refine wp_loop_rounds 1 ?_
  rw [rounds_succ]
  go_wp2
  go_end0
  exact ⟨rfl, rfl⟩
set_option maxHeartbeats 2000000 in
theorem pdqN (lim : Int) (fv : Value) (w : World) : Calls Try.prog 53 #[.slice none 0 0, .int .i64 0, .int .i64 0, .int .i64 lim, fv] w fun e w' => e = .returned (.tuple #[]) ∧ w = w' := by
  have hi := fun W => insN fv W
  go_enter Try.func53, Try.ntmps53
  go_wp2
  refine wp_loop_rounds 1 ?_
  rw [rounds_succ]
  go_wp2_with (go_at_call 56; refine (hi _).mono ?_; rintro e w' ⟨rfl, rfl⟩)
  (try simp only [Exit.inBlock, Exit.then])
  refine bodyPost_ret (results_none rfl _ _ _) rfl ?_
  exact ⟨rfl, rfl⟩
set_option maxHeartbeats 2000000 in
theorem sortN (fv : Value) (w : World) : Calls Try.prog 44 #[.slice none 0 0, fv] w fun e w' => e = .returned (.tuple #[]) ∧ w = w' := by
  have hp := fun lim W => pdqN lim fv W
  go_enter Try.func44, Try.ntmps44
  go_wp2_with (first | (go_at_call 54; refine (lenN _).mono ?_; rintro e w' ⟨rfl, rfl⟩) | (go_at_call 53; refine (hp _ _).mono ?_; rintro e w' ⟨rfl, rfl⟩))
  go_end0
  exact ⟨rfl, rfl⟩

/-- Records in a slice of the call's own, as the sort takes them. -/
theorem holds_sl {w : World} {g p cap : Nat} {d : Array Pl.Rc} (h : Sl w (.slice (some ⟨g, p, none⟩) d.size cap) (some g) 44 4 d.size (d.toList.flatMap cells4)) : HoldsK cells4 4 w g p d := by
  intro j hj
  rw [size_flatK] at hj
  have e := Nat.div_add_mod j 4
  have hi : j / 4 < d.size := by omega
  have hc : j % 4 < 4 := Nat.mod_lt _ (by decide)
  refine ⟨?_, h.frozen rfl _⟩
  rw [get_flatK _ _ _ _ hj]
  refine h.cell rfl j _ ?_
  have h1 := flat_get d (j / 4) (j % 4) hi hc
  rw [show j / 4 * 4 + j % 4 = j by omega] at h1
  exact h1
theorem rcin_holds {w : World} {g p cap z : Nat} {d : Array Pl.Rc} (h : HoldsK cells4 4 w g p d) (hg : g < w.heap.size) (hz : z ≤ g) : RcIn (fun b => z ≤ b) w (.slice (some ⟨g, p, none⟩) d.size cap) d.toList := by
  refine ⟨flat4_len _, .inr ⟨_, cap, by rw [Array.length_toList], fun _ => ⟨g, p, rfl, hz, hg, fun j x hj => ?_⟩⟩⟩
  have hjl := (List.getElem?_eq_some_iff.1 hj).1
  rw [flat4_len, Array.length_toList] at hjl
  have h1 := (h j (by rw [size_flatK]; exact hjl)).1
  rw [get_flatK _ _ _ _ hjl] at h1
  have h2 := flat_get d (j / 4) (j % 4) (by omega) (Nat.mod_lt _ (by decide))
  rw [show j / 4 * 4 + j % 4 = j by omega, hj] at h2
  rw [Option.some.inj h2]
  exact h1
theorem below_sorted {w : World} {z blk off n : Nat} {d : Array Pl.Rc} {os : Array Obj} (hz : z ≤ blk) (hw : z ≤ w.heap.size) : Go.RowKit.Below z w (sortWorldK cells4 4 w blk off n d os) := by
  have h1 : Go.RowKit.Below z w (putRowK cells4 4 (Sort.ahead w n) blk off d) := by
    refine ⟨rfl, rfl, rfl, by simp [putRowK], fun k hk => ?_⟩
    show (Array.modify w.heap blk _)[k]? = _
    rw [Array.getElem?_modify, if_neg (by omega)]
  refine ⟨h1.os, h1.tape, h1.output, Nat.le_trans h1.size (by simp [sortWorldK]), fun k hk => ?_⟩
  exact (Sort.heap_grow_old _ os (Nat.lt_of_lt_of_le hk (Nat.le_trans hw h1.size))).trans (h1.block k hk)
/-- Sorted and with other keys, they are by rising keys. -/
theorem srt_of {S : List Pl.Rc} (hS : Wd.Srt S) {d d' : Array Pl.Rc} (hp : d.toList.Perm S) (h1 : PermIn 0 d.size d d') (h2 : SortedIn (ltOf cf) 0 d.size d') : d'.toList = S ∧ d'.size = d.size := by
  obtain ⟨hs, -, hpm⟩ := h1
  have hp2 : d'.toList.Perm S := by
    have e1 : d'.extract 0 d.size = d' := by rw [← hs]; exact Array.extract_size
    have e2 : d.extract 0 d.size = d := Array.extract_size
    rw [e1, e2] at hpm
    exact hpm.trans hp
  refine ⟨?_, hs⟩
  have hnd : (d'.toList.map (·.key)).Nodup := by
    refine (hp2.map (·.key)).nodup_iff.2 ?_
    exact List.pairwise_map.2 (hS.imp fun h => Wd.key_ne h)
  have hsrt : Wd.Srt d'.toList := by
    refine List.pairwise_iff_getElem.2 fun i j hi hj hij => ?_
    rw [Array.length_toList] at hi hj
    have h3 := h2 i j (Nat.zero_le _) hij (by omega)
    rw [lt_cf, decide_eq_false_iff_not, getElem!_pos d' j hj, getElem!_pos d' i hi] at h3
    have hne : d'[i].key ≠ d'[j].key := fun e => by
      have := (List.nodup_iff_pairwise_ne.1 hnd)
      rw [List.pairwise_iff_getElem] at this
      exact this i j (by simpa using hi) (by simpa using hj) hij (by simpa using e)
    rw [Array.getElem_toList, Array.getElem_toList]
    rcases Wd.key_tri d'[i].key d'[j].key with h | h | h
    · exact h
    · exact absurd h hne
    · exact absurd h h3
  exact List.Perm.eq_of_pairwise (le := fun a b : Pl.Rc => a.key < b.key) (fun a b _ _ h1 h2 => absurd (List.lt_trans h1 h2) (List.lt_irrefl _)) hsrt hS hp2

theorem sortF_any {z : Nat} (v : Value) (gb : Option Nat) (xs S : List Pl.Rc) (w : World) (h : Wr z v gb xs w) (hl : xs.length ≤ 1048576) (hS : Wd.Srt S) (hp : xs.Perm S) (hz : z ≤ w.heap.size) :
    Calls Try.prog 44 #[v, .func (.func 31) #[] #[]] w fun e w' => e = .returned (.tuple #[]) ∧ RcIn (fun b => z ≤ b) w' v S ∧ Go.RowKit.Below z w w' := by
  have h0 := h.1
  rcases h0.2 with ⟨rfl, rfl, hn⟩ | ⟨g, p, cap, cur, rfl, rfl, hg, -⟩
  · have hx : xs = [] := List.eq_nil_of_length_eq_zero hn
    subst hx
    have : S = [] := hp.symm.eq_nil
    subst this
    refine (sortN _ w).mono ?_
    rintro e w' ⟨rfl, rfl⟩
    exact ⟨rfl, Rds.nil _ _ _, Go.RowKit.Below.refl _ _⟩
  · obtain ⟨d, rfl⟩ : ∃ d : Array Pl.Rc, xs = d.toList := ⟨xs.toArray, rfl⟩
    rw [Array.length_toList] at h0 hl ⊢
    have hgz := h.2 g rfl
    have hgl := h0.lt g rfl
    refine (AnyQ.slices_SortFunc Try.sort44 4 aggR sizeR cells4 (fun _ => rfl) (fun x u hu => cells4_one x u hu) cf swoK 31 #[] g p cap d w eg31 (cmp_lays g p d.size w) (holds_sl h0) hgl (by omega)).mono ?_
    rintro e w' ⟨rfl, d', n, os, hpm, hst, rfl⟩
    obtain ⟨rfl, hsz⟩ := srt_of hS hp hpm hst
    refine ⟨rfl, ?_, below_sorted hgz hz⟩
    rw [← hsz]
    exact rcin_holds (holdsK_sortWorldK cells4 4 w g p n d d' os hgl (holds_sl h0) hsz) (lt_sortWorldK cells4 4 w g p n d' os hgl) hgz
end Go.Proofs.Ytfapigccdbpepaa
