/- The document's row as it lies in memory: pairs of numbers, two cells each. -/
import Derived.Test.YtdkngocinimjdaaRef1
import Derived.Deep.AppendLies
namespace Go.Proofs.Ytdkngocinimjdaa
open Go.RowKit

def two (p : P2) : List Value := [.int .i64 p.1, .int .i64 p.2]
theorem two_len (L : List P2) : (L.flatMap two).length = L.length * 2 := by
  induction L with
  | nil => rfl
  | cons p L ih => rw [List.flatMap_cons, List.length_append, ih]; simp [two]; omega
theorem two_at {L : List P2} {j : Nat} {p : P2} (h : L[j]? = some p) : (L.flatMap two)[j * 2]? = some (.int .i64 p.1) ∧ (L.flatMap two)[j * 2 + 1]? = some (.int .i64 p.2) := by
  induction L generalizing j with
  | nil => simp at h
  | cons q L ih =>
    cases j with
    | zero => simp at h; subst h; exact ⟨rfl, rfl⟩
    | succ j =>
      have := ih (j := j) (by simpa using h)
      rw [List.flatMap_cons, show (j + 1) * 2 = j * 2 + 2 by omega]
      exact ⟨this.1, this.2⟩

/-- The document's row in block g, its sizes' block gb: the pairs L. -/
structure Ru (w : World) (g : Nat) (gb : Option Nat) (L : List P2) : Prop where
  ne : some g ≠ gb
  lies : ∃ v, Blk w g #[v] 29 ∧ Sl w v gb 39 2 L.length (L.flatMap two)
theorem Ru.lt {w : World} {g : Nat} {gb : Option Nat} {L : List P2} (h : Ru w g gb L) : g < w.heap.size := let ⟨_, hb, _⟩ := h.lies; hb.lt
theorem Ru.ltb {w : World} {g : Nat} {gb : Option Nat} {L : List P2} (h : Ru w g gb L) : ∀ k, gb = some k → k < w.heap.size := let ⟨_, _, hs⟩ := h.lies; hs.lt
theorem Ru.same {w w' : World} {g : Nat} {gb : Option Nat} {L : List P2} (h : Ru w g gb L) (hg : w'.heap[g]? = w.heap[g]?) (hb : ∀ k, gb = some k → w'.heap[k]? = w.heap[k]?) : Ru w' g gb L := by
  obtain ⟨v, h1, h2⟩ := h.lies
  exact ⟨h.ne, v, by unfold Blk at h1 ⊢; rw [hg]; exact h1, h2.same hb⟩
theorem Ru.below {w w' : World} {g : Nat} {gb : Option Nat} {L : List P2} (h : Ru w g gb L) (hb : Below w.heap.size w w') : Ru w' g gb L :=
  h.same (hb.block g h.lt) (fun k hk => hb.block k (h.ltb k hk))
theorem Ru.kb {a c : Option Nat} {w w' : World} {g : Nat} {gb : Option Nat} {L : List P2} (h : Ru w g gb L) (hk : Kb2 a c w w') (h1 : some g ≠ a) (h2 : some g ≠ c) (h3 : ∀ k, gb = some k → some k ≠ a ∧ some k ≠ c) : Ru w' g gb L :=
  h.same (hk.block g h.lt h1 h2) (fun k e => hk.block k (h.ltb k e) (h3 k e).1 (h3 k e).2)

theorem infoS' : (Try.prog.info? 39).map (fun i => (i.zero, i.size, i.bytes)) = some (some (.agg #[.int .i64 0, .int .i64 0]), 2, 16) := by kernel_rfl
theorem infoS : ∃ i, Try.prog.info? 39 = some i ∧ i.zero = some (.agg #[.int .i64 0, .int .i64 0]) ∧ i.size = 2 ∧ i.bytes = 16 := by
  obtain ⟨i, h⟩ := info_parts infoS'
  exact ⟨i, h⟩

theorem from_ok {x y m n : Nat} (hx : Fl.part x = some m) (hy : Fl.part y = some n) (w : World) :
    Calls Try.prog 20 #[.complex .f64 x y] w fun e w' => e = .returned (.tuple #[.agg #[.int .i64 m, .int .i64 n], .bool true]) ∧ Below w.heap.size w w' :=
  (from_any x y w).mono fun _ _ ⟨⟨_, _, _, he, hok, hmn⟩, hb⟩ => by
    obtain ⟨rfl, rfl⟩ := hmn m n hx hy
    rw [hx, hy] at hok
    exact ⟨by rw [he, hok]; rfl, hb⟩
theorem from_no {x y : Nat} (h : ((Fl.part x).isSome && (Fl.part y).isSome) = false) (w : World) :
    Calls Try.prog 20 #[.complex .f64 x y] w fun e w' => (∃ a b : Int, e = .returned (.tuple #[.agg #[.int .i64 a, .int .i64 b], .bool false])) ∧ Below w.heap.size w w' :=
  (from_any x y w).mono fun _ _ ⟨⟨a, b, _, he, hok, _⟩, hb⟩ => ⟨⟨a, b, by rw [he, hok, h]⟩, hb⟩

section
variable {P : Program} (w : World)
/-- An append to such a slice, at a step of a region that draws its order. -/
theorem step_append_sl {ops : Array Oper} {o : Oper} {a : Act} {K : Act → World → Prop} {Q : Exit → Act → World → Prop} {E : Prop} (hgd : o.guard = none) (s x : Operand) (t : TypeId)
    (ho : o.op = .call { callee := .builtin .append, args := #[s, x], argTypes := #[t, t] })
    (e : TypeId) (i : TypeInfo) (z : Value) (size bytes : Nat) (ht : P.underlying t = some (.slice e)) (hi : P.info? e = some i) (hz : i.zero = some z)
    (hsize : i.size = size) (hby : i.bytes = bytes) (hzs : z.cells.size = size)
    (v : Value) (gb : Option Nat) (n : Nat) (xs : List Value) (hs : a.eval s = v) (hown : Sl w v gb e size n xs)
    (ad : Addr) (m c : Nat) (news : List Value) (hx : a.eval x = .slice (some ad) m c) (hl : news.length = m * size) (hnews : ∀ j u, news[j]? = some u → w.cell? (ad.add j) = some u) (h1 : ∀ u ∈ news, u.oneCell' = true)
    (h0 : 0 < m) (hbytes : (n + m) * bytes ≤ 140737488355328) (hsmall : n + m ≤ 9223372036854775807)
    (h : ∀ g p cap w' gb', Sl w' (.slice (some ⟨g, p, none⟩) (n + m) cap) gb' e size (n + m) (xs ++ news) → w.grownBy w' gb → gb' = some g → (gb' = gb ∨ w.heap.size ≤ g) → K (a.put o.dst (.slice (some ⟨g, p, none⟩) (n + m) cap)) w') :
    if Region.wanted o (yielded ops a.tmps) = true then Oper.wp P o a w K Q else E := by
  have hw : Region.wanted o (yielded ops a.tmps) = true := by simp [Region.wanted, hgd]
  rw [if_pos hw]
  obtain ⟨g, p, cap, w', gb', hr, h2, h3, h4, h5⟩ := run_append_sl (P := P) w t o.type e i z size bytes ht hi hz hsize hby hzs v gb n xs hown ad m c news hl hnews h1 h0 hbytes hsmall
  unfold Oper.wp execOp
  simp only [ho, resolve, invoke, builtin, Sem.run_bind, Sem.run_pure, Result.andThen_ok, List.map_toArray, List.map_cons, List.map_nil, hs, hx, hr]
  exact h g p cap w' gb' h2 h3 h4 h5
end
end Go.Proofs.Ytdkngocinimjdaa
