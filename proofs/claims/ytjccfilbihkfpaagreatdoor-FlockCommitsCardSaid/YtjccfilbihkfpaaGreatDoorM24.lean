import Derived.Test.YtjccfilbihkfpaaGreatDoorCards
import Derived.Test.YtjccfilbihkfpaaGreatDoorTie
import Derived.Test.YtjccfilbihkfpaaGreatDoorM00
import Derived.WalkKit
import Derived.ProofKit
import Derived.OpenShut
import Derived.Deep.DeepHandedRow
import Derived.Deep.DeepWitnessRowRef
import Derived.SizedLaws
import Derived.Lib.LaidTab
import Derived.Stop.LaidErr
import Derived.Test.YtjccfilbihkfpaaGreatDoorM22
import Derived.Deep.Slices
import Derived.Deep.Fields
import Derived.Carry
import Derived.ChangeArms

/- FROM A ROW's LISTED VARIABLES TO WHAT THE WALKS ASK ('Lb'); a world in which each listed variable holds what its initialiser lays. -/
namespace Go.Proofs.YtjccfilbihkfpaaGreatDoor
open Go.ChangeShapes Go.WideShapes Go.ChangeAt Go.RowKit

theorem own : ownKnob Tryz.prog.godebug = none := by kernel_rfl
theorem laidOut : laidOutB Tryz.prog = true := by kernel_rfl

def lst : List (String × DataW Unit) := [("math/bits.deBruijn32tab", Rows.laid_math_bits_deBruijn32tab), ("math/bits.deBruijn64tab", Rows.laid_math_bits_deBruijn64tab), ("internal/strconv.uint64pow10", Rows.laid_internal_strconv_uint64pow10), ("strconv.ErrRange", Rows.laid_strconv_ErrRange), ("strconv.ErrSyntax", Rows.laid_strconv_ErrSyntax)]

theorem gPowType : (Tryz.prog.globals[1]?).map (·.type) = some 164 := by kernel_rfl
theorem gSynType : (Tryz.prog.globals[2]?).map (·.type) = some 137 := by kernel_rfl
theorem gRngType : (Tryz.prog.globals[3]?).map (·.type) = some 137 := by kernel_rfl
theorem cellsPow : Tryz.prog.cellsOf 164 = 20 := by kernel_rfl
theorem cellsU64 : Tryz.prog.cellsOf 116 = 1 := by kernel_rfl
theorem cellsErr : Tryz.prog.cellsOf 179 = 1 := by kernel_rfl
theorem cellsStr : Tryz.prog.cellsOf 9 = 1 := by kernel_rfl
theorem star : "*" ++ "errors.errorString" = "*errors.errorString" := by decide
theorem rowErr (u : TypeId) (h : Tryz.prog.typeName? 3 u = some "*errors.errorString") : u = 177 :=
  typeName_ptr_named (nm := "errors.errorString") (by rw [star]; kernel_rfl) (by kernel_rfl) (by decide) u (by rw [star]; exact h)

theorem powTab : ([1, 10, 100, 1000, 10000, 100000, 1000000, 10000000, 100000000, 1000000000, 10000000000, 100000000000, 1000000000000, 10000000000000, 100000000000000, 1000000000000000, 10000000000000000, 100000000000000000, 1000000000000000000, 10000000000000000000] : List Int) = Lib.pow10Tab := by decide +kernel

theorem heap_of_var {W : World} {name : String} {g : Nat} {cs : Array Value} (hg : Tryz.prog.globalNamed name = some g) (h : W.var? Tryz.prog name = some cs) : g < W.heap.size := by
  unfold World.var? at h
  rw [hg] at h
  simp only [Option.bind_some] at h
  rcases Nat.lt_or_ge g W.heap.size with h' | h'
  · exact h'
  · rw [Array.getElem?_eq_none h'] at h; simp at h

theorem gLast : Tryz.prog.globalNamed "math/bits.deBruijn64tab" = some 5 := by kernel_rfl
theorem lb_of_laid {W : World} (h : laidMet Tryz.prog lst W) : Lb W := by
  have hs : 6 ≤ W.heap.size := by
    obtain ⟨ps, ⟨g, t, cs, fuel, p, q, hg, _, hvar, _⟩, _⟩ := h.tail
    have := heap_of_var hg hvar
    have e : g = 5 := Option.some.inj (hg.symm.trans gLast)
    omega
  have h3 := h.tail.tail
  have h4 := h3.tail
  have h5 := h4.tail
  obtain ⟨a4, s4, hv4, -, -, -⟩ := laid_sentinel h4 gRng gRngType Tryz.underlying137 rowErr Tryz.underlying177 Tryz.underlying179 rfl rfl Tryz.underlying9 cellsErr cellsStr
  obtain ⟨a5, s5, hv5, -, -, -⟩ := laid_sentinel h5 gSyn gSynType Tryz.underlying137 rowErr Tryz.underlying177 Tryz.underlying179 rfl rfl Tryz.underlying9 cellsErr cellsStr
  refine ⟨?_, ⟨_, _, hv5⟩, ⟨_, _, hv4⟩, hs⟩
  rw [← powTab]
  exact Lib.tabIs_of_head gPow gPowType Tryz.underlying164 Tryz.underlying116 cellsU64 cellsPow h3

/-- The settled world, the listed variables holding what their initialisers lay; two blocks more for the two errors. -/
noncomputable def laidWorld (os : Os) : World :=
  let N := (World.settled Tryz.prog os).heap.size
  let w0 := World.holding Tryz.prog os ⟨#[.cells #[.string ⟨#[105, 110, 118, 97, 108, 105, 100, 32, 115, 121, 110, 116, 97, 120]⟩] 179, .cells #[.string ⟨#[118, 97, 108, 117, 101, 32, 111, 117, 116, 32, 111, 102, 32, 114, 97, 110, 103, 101]⟩] 179], #[], []⟩
  let put (h : Array Obj) (g : Nat) (cs : Array Value) : Array Obj := h.modify g fun
    | .cells _ t frozen => .cells cs t frozen
    | o => o
  let h1 := put w0.heap 1 (Lib.pow10Tab.map fun z => Value.int .u64 z).toArray
  let h2 := put h1 2 #[.iface 177 (.pointer (some ⟨N, 0, none⟩))]
  let h3 := put h2 3 #[.iface 177 (.pointer (some ⟨N + 1, 0, none⟩))]
  let h4 := put h3 4 #[.int .u8 0, .int .u8 1, .int .u8 28, .int .u8 2, .int .u8 29, .int .u8 14, .int .u8 24, .int .u8 3, .int .u8 30, .int .u8 22, .int .u8 20, .int .u8 15, .int .u8 25, .int .u8 17, .int .u8 4, .int .u8 8, .int .u8 31, .int .u8 27, .int .u8 13, .int .u8 23, .int .u8 21, .int .u8 19, .int .u8 16, .int .u8 7, .int .u8 26, .int .u8 12, .int .u8 18, .int .u8 6, .int .u8 11, .int .u8 5, .int .u8 10, .int .u8 9]
  let h5 := put h4 5 #[.int .u8 0, .int .u8 1, .int .u8 56, .int .u8 2, .int .u8 57, .int .u8 49, .int .u8 28, .int .u8 3, .int .u8 61, .int .u8 58, .int .u8 42, .int .u8 50, .int .u8 38, .int .u8 29, .int .u8 17, .int .u8 4, .int .u8 62, .int .u8 47, .int .u8 59, .int .u8 36, .int .u8 45, .int .u8 43, .int .u8 51, .int .u8 22, .int .u8 53, .int .u8 39, .int .u8 33, .int .u8 30, .int .u8 24, .int .u8 18, .int .u8 12, .int .u8 5, .int .u8 63, .int .u8 55, .int .u8 48, .int .u8 27, .int .u8 60, .int .u8 41, .int .u8 37, .int .u8 16, .int .u8 46, .int .u8 35, .int .u8 44, .int .u8 21, .int .u8 52, .int .u8 32, .int .u8 23, .int .u8 11, .int .u8 54, .int .u8 26, .int .u8 40, .int .u8 15, .int .u8 34, .int .u8 20, .int .u8 31, .int .u8 10, .int .u8 25, .int .u8 14, .int .u8 19, .int .u8 9, .int .u8 13, .int .u8 8, .int .u8 7, .int .u8 6]
  { w0 with heap := h5 }
theorem laid_met (os : Os) (args : Array Value) : laidMet Tryz.prog lst ((laidWorld os).forCall (fun _ _ => 0) ⟨#[], args, []⟩).memory :=
  laidMet_of_run' 8 (by kernel_rfl) (by kernel_rfl)
end Go.Proofs.YtjccfilbihkfpaaGreatDoor

/- Arguments opened: a request, a record; rows of them. -/
namespace Go.Proofs.YtjccfilbihkfpaaGreatDoor
open Go.ChangeShapes Go.WideShapes Go.ChangeAt Go.RowKit

theorem cellsReq : Tryz.prog.cellsOf 34 = 11 := by kernel_rfl
set_option maxRecDepth 100000 in
/-- A slice whose elements are such that their cells are given by C. -/
theorem open_rows {H : Type} {enc : TypeId × Value → H} {W : World} {fuel : Nat} {T e : TypeId} {c : Value} {x : DataW H × List MemPlace} (hund : Tryz.prog.underlying T = some (.slice e)) {α : Type} [Inhabited α] (C : α → List Value) (k : Nat) (hk : 0 < k) (hC : ∀ z, (C z).length = k) (hsz : Tryz.prog.cellsOf e = k) (P : α → Prop)
    (hel : ∀ (n : Nat) (cs : List Value) (y : DataW H × List MemPlace), cs.length = k → DataW.trod enc Tryz.prog W 0 (fun _ => true) true n e cs = some y → ∃ z : α, cs = C z ∧ P z) (h : DataW.trod enc Tryz.prog W 0 (fun _ => true) true fuel T [c] = some x) :
    ∃ zs : List α, (∀ z ∈ zs, P z) ∧ Rds (fun b => b < W.heap.size) W c k zs.length (zs.flatMap C) := by
  rcases Deep.open_slice hund h with ⟨hcs, -⟩ | ⟨a, len, cap, m, n, D, PLS, hcs, -, hl, hm, hmm, hx, hi⟩
  · simp at hcs
    subst hcs
    exact ⟨[], fun z hz => (by cases hz), Rds.nil _ _ _⟩
  · simp at hcs
    subst hcs
    rw [hsz] at hi hx
    have pick : ∀ i, ∃ z : α, i < len → P z ∧ ∀ j u, j < k → (C z)[j]? = some u → W.cell? (a.add (i * k + j)) = some u := fun i => by
      by_cases hil : i < len
      · have him : i < m := by simp at hmm; omega
        obtain ⟨cs', hc, ht'⟩ := hi i him
        obtain ⟨-, hcl, hat⟩ := World.cells?_some hc
        obtain ⟨z, rfl, hp⟩ := hel _ _ _ hcl ht'
        refine ⟨z, fun _ => ⟨hp, fun j u hj hu => ?_⟩⟩
        have := hat j hj
        rw [Deep.add_add] at this
        rw [this]
        exact hu
      · exact ⟨default, fun h => absurd h hil⟩
    obtain ⟨F, hF⟩ := Classical.axiomOfChoice pick
    have hlen : ((List.range len).map F).length = len := by simp
    refine ⟨(List.range len).map F, fun z hz => ?_, ?_⟩
    · obtain ⟨i, hi', rfl⟩ := List.mem_map.1 hz
      exact (hF i (List.mem_range.1 hi')).1
    · refine ⟨by rw [flat_length C k hC], .inr ⟨a, cap, by rw [hlen], by rw [hlen]; exact hl, fun h0 => ?_⟩⟩
      rw [hlen] at h0
      obtain ⟨b, off, spot⟩ := a
      obtain ⟨u0, hu0⟩ : ∃ u, (C (F 0))[0]? = some u := ⟨_, List.getElem?_eq_getElem (by rw [hC]; exact hk)⟩
      have c0 := (hF 0 h0).2 0 u0 hk hu0
      have hspot : spot = none := by
        have := World.cell?_spot c0
        simpa [Addr.add] using this
      subst hspot
      have hadd : ∀ j, (⟨b, off, none⟩ : Addr).add j = ⟨b, off + j, none⟩ := fun j => by
        unfold Addr.add
        by_cases hj : j = 0 <;> simp [hj]
      rw [hadd] at c0
      refine ⟨b, off, rfl, block_lt_of_cell c0, block_lt_of_cell c0, fun j u hj => ?_⟩
      have hjl := (List.getElem?_eq_some_iff.1 hj).1
      rw [flat_length C k hC, hlen] at hjl
      have hq : j / k < len := Nat.div_lt_of_lt_mul (by rw [Nat.mul_comm]; exact hjl)
      have hr : j % k < k := Nat.mod_lt _ hk
      have hdm : j = j / k * k + j % k := by rw [Nat.mul_comm]; exact (Nat.div_add_mod j k).symm
      have hfl := flat_at C k hC ((List.range len).map F) (j / k) (F (j / k)) (by rw [List.getElem?_map, List.getElem?_range hq]; rfl) (j % k) hr
      rw [← hdm, hj] at hfl
      have := (hF (j / k) hq).2 (j % k) u hr hfl.symm
      rw [hadd, ← hdm] at this
      exact this
set_option maxRecDepth 100000 in
/-- A request's cells. -/
theorem req_of {H : Type} {enc : TypeId × Value → H} {W : World} {n : Nat} {cs : List Value} {y : DataW H × List MemPlace} (hlen : cs.length = 11) (h : DataW.trod enc Tryz.prog W 0 (fun _ => true) true n 34 cs = some y) :
    ∃ p : Fk.Q × Value, cs = rqCells p ∧ ∃ a n c, p.2 = .slice a n c := by
  obtain ⟨ys, n', -, -, -, hyl, hf⟩ := DataW.trod_struct Tryz.underlying34 h
  match cs, hlen with
  | [x0, x1, x2, x3, x4, x5, x6, x7, x8, x9, x10], _ =>
    have g0 : DataW.trod enc Tryz.prog W 0 (fun _ => true) true n' 3 [x0] = ys[0]? := hf 0 _ rfl
    have g1 : DataW.trod enc Tryz.prog W 0 (fun _ => true) true n' 3 [x1] = ys[1]? := hf 1 _ rfl
    have g2 : DataW.trod enc Tryz.prog W 0 (fun _ => true) true n' 3 [x2] = ys[2]? := hf 2 _ rfl
    have g3 : DataW.trod enc Tryz.prog W 0 (fun _ => true) true n' 3 [x3] = ys[3]? := hf 3 _ rfl
    have g4 : DataW.trod enc Tryz.prog W 0 (fun _ => true) true n' 3 [x4] = ys[4]? := hf 4 _ rfl
    have g5 : DataW.trod enc Tryz.prog W 0 (fun _ => true) true n' 3 [x5] = ys[5]? := hf 5 _ rfl
    have g6 : DataW.trod enc Tryz.prog W 0 (fun _ => true) true n' 3 [x6] = ys[6]? := hf 6 _ rfl
    have g7 : DataW.trod enc Tryz.prog W 0 (fun _ => true) true n' 3 [x7] = ys[7]? := hf 7 _ rfl
    have g8 : DataW.trod enc Tryz.prog W 0 (fun _ => true) true n' 9 [x8] = ys[8]? := hf 8 _ rfl
    have g9 : DataW.trod enc Tryz.prog W 0 (fun _ => true) true n' 9 [x9] = ys[9]? := hf 9 _ rfl
    have g10 : DataW.trod enc Tryz.prog W 0 (fun _ => true) true n' 22 [x10] = ys[10]? := hf 10 _ rfl
    have lk : ∀ i (hi : i < 11), ys[i]? = some (ys[i]'(by rw [hyl]; exact hi)) := fun i hi => List.getElem?_eq_getElem _
    obtain ⟨o0, e0, -, -⟩ := DataW.trod_int Tryz.underlying3 (g0.trans (lk 0 (by decide)))
    obtain ⟨o1, e1, -, -⟩ := DataW.trod_int Tryz.underlying3 (g1.trans (lk 1 (by decide)))
    obtain ⟨o2, e2, -, -⟩ := DataW.trod_int Tryz.underlying3 (g2.trans (lk 2 (by decide)))
    obtain ⟨o3, e3, -, -⟩ := DataW.trod_int Tryz.underlying3 (g3.trans (lk 3 (by decide)))
    obtain ⟨o4, e4, -, -⟩ := DataW.trod_int Tryz.underlying3 (g4.trans (lk 4 (by decide)))
    obtain ⟨o5, e5, -, -⟩ := DataW.trod_int Tryz.underlying3 (g5.trans (lk 5 (by decide)))
    obtain ⟨o6, e6, -, -⟩ := DataW.trod_int Tryz.underlying3 (g6.trans (lk 6 (by decide)))
    obtain ⟨o7, e7, -, -⟩ := DataW.trod_int Tryz.underlying3 (g7.trans (lk 7 (by decide)))
    obtain ⟨o8, e8, -, -⟩ := DataW.trod_string Tryz.underlying9 (g8.trans (lk 8 (by decide)))
    obtain ⟨o9, e9, -, -⟩ := DataW.trod_string Tryz.underlying9 (g9.trans (lk 9 (by decide)))
    have hsl : ∃ a n c, x10 = .slice a n c := by
      rcases Deep.open_slice Tryz.underlying22 (g10.trans (lk 10 (by decide))) with ⟨hcs, -⟩ | ⟨a, len, cap, m, n, D, PLS, hcs, -⟩
      · simp at hcs; exact ⟨_, _, _, hcs⟩
      · simp at hcs; exact ⟨_, _, _, hcs⟩
    simp at e0 e1 e2 e3 e4 e5 e6 e7 e8 e9
    exact ⟨(⟨o0, o1, o2, o3, o4, o5, o6, o7, o8, o9⟩, x10), by rw [e0, e1, e2, e3, e4, e5, e6, e7, e8, e9]; rfl, hsl⟩
set_option maxRecDepth 100000 in
theorem open_reqs {H : Type} {enc : TypeId × Value → H} {W : World} {fuel : Nat} {c : Value} {x : DataW H × List MemPlace} (h : DataW.trod enc Tryz.prog W 0 (fun _ => true) true fuel 31 [c] = some x) :
    ∃ l : List (Fk.Q × Value), Rqs (fun b => b < W.heap.size) W c l := by
  haveI : Inhabited (Fk.Q × Value) := ⟨(⟨0, 0, 0, 0, 0, 0, 0, 0, default, default⟩, .slice none 0 0)⟩
  obtain ⟨L, hp, hz⟩ := open_rows Tryz.underlying31 rqCells 11 (by decide) (fun _ => rfl) cellsReq (fun p => ∃ a n c, p.2 = .slice a n c) (fun n cs y hl ht => req_of hl ht) h
  exact ⟨L, hz, hp⟩
set_option maxRecDepth 100000 in
theorem open_req {H : Type} {enc : TypeId × Value → H} {W : World} {base : Nat} {v : Value} {d : DataW H} {p : List MemPlace} (hv : Value.okWide Tryz.prog W .any base 34 v) (h : DataW.Trod enc Tryz.prog W 0 (fun _ => true) true 34 v d p) :
    ∃ (q : Fk.Q) (rv : Value), v = qval q rv := by
  simp only [Value.okWide, Tryz.underlying34] at hv
  obtain ⟨cs, rfl, hsz, -⟩ := hv
  rw [cellsReq] at hsz
  obtain ⟨fuel, hf⟩ := h
  have hf' : DataW.trod enc Tryz.prog W 0 (fun _ => true) true fuel 34 cs.toList = some (d, p) := hf
  obtain ⟨⟨q, rv⟩, e, -⟩ := req_of (by rw [Array.length_toList]; exact hsz) hf'
  refine ⟨q, rv, ?_⟩
  obtain ⟨l⟩ := cs
  simp only at e
  subst e
  rfl
end Go.Proofs.YtjccfilbihkfpaaGreatDoor
