/- A RANGE OVER A FUNCTION WHOSE ELEMENTS LIE IN MEMORY: of each element something is known (R) in the world in which it comes. -/
import Derived.RangeFuncNested
import Derived.RangeFuncLeaves
import Derived.OwnWalkIn
import Derived.TacticsInMore
import Derived.LoopNIn
import Derived.LoopIn
import Derived.Test.YtfapigccdbpepaaCBlk
import Derived.Test.YtfapigccdbpepaaSl
namespace Go.Proofs.Ytfapigccdbpepaa
open Go.RowKit

theorem turn_block {W W' : World} {row : Option Nat} {b : Nat} {o : Obj} (h : W.heap[b]? = some o) (hc : o.isCells = true) (hg : W.grownBy W' row) (hr : ∀ r, row = some r → ∃ o : Obj, W.heap[r]? = some o ∧ o.isCells = false) : W'.heap[b]? = W.heap[b]? :=
  hg.block b (lt_of_block h) fun e => by
    obtain ⟨o', ho', hc'⟩ := hr b e.symm
    rw [h] at ho'
    cases ho'
    rw [hc] at hc'
    cases hc'
theorem Sl.cells {W : World} {gb : Option Nat} {e size n : Nat} {v : Value} {xs : List Value} (h : Sl W v gb e size n xs) {b : Nat} (hb : gb = some b) : ∃ o : Obj, W.heap[b]? = some o ∧ o.isCells = true := by
  rcases h.2 with ⟨-, e, -⟩ | ⟨k, p, cap, cur, e, -, h4, -⟩
  · rw [e] at hb; cases hb
  · rw [e] at hb; cases hb
    exact ⟨_, h4, rfl⟩
section
variable {F : Fence} {n : Nat} {P : Program} {α : Type}
/-- The function goes over elements, of each of which R holds when it comes; all of them make S, those that came ahead of a stop Sp. -/
def Gives (F : Fence) (n : Nat) (P : Program) (g : Nat) (lb : Array Value) (encs : α → Array Value) (Kp : World → World → Prop) (R : List α → α → World → Prop) (S Sp : List α → Prop) (w : World) : Prop :=
  ∀ (l : Nat) (J Jx : List α → World → Prop) (W : World), Below w.heap.size w W → AbidesFrom W.heap.size J → AbidesFrom W.heap.size Jx →
    (∀ pre x V, J pre V → R pre x V → YieldAt F (n - 1) P l (encs x) V fun e V' => (e = .returned (.bool true) ∧ J (pre ++ [x]) V' ∧ Kp V V') ∨ (e = .returned (.bool false) ∧ Jx (pre ++ [x]) V')) → J [] W →
    CallsIn F n P g (#[.func (.yield l) #[] #[]] ++ lb) W fun e W' => (∃ v, e = .returned v) ∧ ((∃ xs, S xs ∧ J xs W') ∨ (∃ pre, Sp pre ∧ Jx pre W'))

/-- The two blocks of a loop's own: its record, and the one of its deferred calls. -/
def Two (d : Nat) (r : Loop) (W : World) : Prop := W.heap[d + 1]? = some (.loop r) ∧ W.heap[d]? = some (.deferred (some []))
theorem Two.grown {d : Nat} {r : Loop} {A B : World} {row : Option Nat} (h : Two d r A) (hg : A.grownBy B row) (hr : ∀ k, row = some k → d + 1 < k) : Two d r B :=
  ⟨(hg.block _ (lt_of_block h.1) (fun e => by have := hr _ e.symm; omega)).trans h.1, (hg.block _ (lt_of_block h.2) (fun e => by have := hr _ e.symm; omega)).trans h.2⟩
theorem Two.keeps {d : Nat} {r : Loop} {A B : World} (h : Two d r A) (k : KeepsFrom d A B) : Two d r B := ⟨k.same _ _ (by omega) h.1 rfl, k.same _ _ (Nat.le_refl _) h.2 rfl⟩
theorem Two.put {d : Nat} {r : Loop} {A : World} (h : Two d r A) (r' : Loop) : Two d r' (A.putObj (d + 1) (.loop r')) := ⟨World.putObj_heap_same (lt_of_block h.1), (World.putObj_heap_other (by omega)).trans h.2⟩

theorem wpIn_gives {g : Operand} {ps : Array Tmp} {assign body : Code} {Q : Exit → Act → World → Prop} {a : Act} {w : World} (hro : F.round = none) (h1 : 1 ≤ n)
    {gf : Nat} {lb : Array Value} (hg : a.eval g = .func (.func gf) #[] lb) (hF : F.fn gf) (eg : ∀ args w, (callFunc gf args).run P w = .ok (.enter gf args) w)
    {encs : α → Array Value} {Kp : World → World → Prop} {R : List α → α → World → Prop} {S Sp : List α → Prop} {w0 : World} (hs : Gives F (n - 1) P gf lb encs Kp R S Sp w0) (hw0 : Below w0.heap.size w0 w) (hps : ∀ x, (encs x).size = ps.size)
    (hKt : ∀ {A B C : World}, Kp A B → Kp B C → Kp A C) (hKb : ∀ (W : World) (l : Nat) (o o' : Obj), w.heap.size ≤ l → W.heap[l]? = some o → o.isCells = false → o.isWalk = false → Kp W (W.putObj l o'))
    (I : List α → World → Prop) (Ix : Code → List α → World → Prop) (Ax : α → Act → World → Prop) (hI : OwnFrom w.heap.size I) (hIx : ∀ c, OwnFrom w.heap.size (Ix c)) (hR : ∀ pre, OwnFrom w.heap.size (R pre)) (hAx : ∀ a', OwnFrom w.heap.size fun x => Ax x a') (h0 : I [] w)
    (hassign : ∀ (l : Nat) (pre : List α) (x : α) (W : World) (K : Act → World → Prop), I pre W → R pre x W → (∀ a' W', KeepsFrom w.heap.size W W' → Kp W W' → I pre W' → R pre x W' → Ax x a' W' → K a' W') →
      assign.wpIn (F.inRound l) (n - 1 - 1) P (Exit.then K (fun _ _ _ => False)) { tmps := (ps.zip (encs x)).foldl (fun t (p, v) => t.setIfInBounds p v) a.tmps, defers := [] } W)
    (hbody : ∀ (l : Nat) (pre : List α) (x : α) (a' : Act) (W : World), w.heap.size ≤ l → I pre W → R pre x W → Ax x a' W → body.wpIn (F.inRound l) (n - 1 - 1) P (ownPostG w.heap.size Kp I Ix (pre ++ [x]) W) a' W)
    (hdone : ∀ (D : Nat) (xs : List α) (W : World), w.heap.size ≤ D → S xs → I xs W → W.heap[D]? = some (.deferred (some [])) → Q .normal { a with defers := { target := .collected D, args := #[] } :: a.defers } W)
    (hstop : ∀ (D : Nat) (c : Code) (pre : List α) (W : World), w.heap.size ≤ D → Sp pre → Ix c pre W → W.heap[D]? = some (.deferred (some [])) → c.wpIn F n P Q { a with defers := { target := .collected D, args := #[] } :: a.defers } W) :
    (Code.rangeFunc g ps assign body).wpIn F n P Q a w := by
  refine wpIn_rangeFunc ?_
  intro fn hfn
  rw [hro]
  obtain ⟨d, hd⟩ : ∃ d, w.heap.size = d := ⟨_, rfl⟩
  rw [hd] at hKb hI hIx hR hAx hassign hbody hdone hstop
  obtain ⟨rec, hrec⟩ : ∃ rec : LoopState → Option Code → Loop, rec = fun st pe => { state := st, pending := pe, fn, tmps := a.tmps, params := ps, assign, body, defers := d } := ⟨_, rfl⟩
  obtain ⟨V, hV⟩ : ∃ V, (w.alloc (.deferred (some []))).alloc (.loop (rec .ready none)) = V := ⟨_, rfl⟩
  have hVs : V.heap.size = d + 2 := by rw [← hV, World.size_alloc, World.size_alloc, hd]
  have htwo : Two d (rec .ready none) V := by
    constructor
    · rw [← hV, ← hd]; have := World.alloc_heap_new (w.alloc (.deferred (some []))) (.loop (rec .ready none)); rwa [World.size_alloc] at this
    · rw [← hV, ← hd]; exact (Below.heap_alloc _ _ _ (by simp)).trans (World.alloc_heap_new w _)
  have hIV : I [] V := by rw [← hV]; exact hI.alloc _ (hI.alloc _ h0)
  have hbV : Below w0.heap.size w0 V := by
    rw [← hV]; exact hw0.trans ((((Below.refl _ w).alloc (Nat.le_refl _) _).alloc (by simp) _).mono hw0.size)
  refine ⟨d + 1, [{ target := .collected d, args := #[] }], V, { target := .fn (.func gf) lb, args := #[.func (.yield (d + 1)) #[] #[]] }, V, gf, #[.func (.yield (d + 1)) #[] #[]] ++ lb, V, ?_, ?_, ?_, ?_, fun _ => h1, ?_⟩
  · rw [← hV, hrec, ← hd]; exact run_enterLoop_outer _ _ _ _ _
  · simp only [resolve, hg]
    simp [go_sem]
  · intro f' hf'; simp [Target.leads] at hf'; subst hf'; exact hF
  · simp [invoke, go_sem, eg]
  · have hfar : ∀ {A B : World} {row : Option Nat}, (∀ r, row = some r → V.heap.size ≤ r ∧ ∃ o : Obj, A.heap[r]? = some o ∧ o.isWalk = true) → (∀ r, row = some r → d ≤ r ∧ ∃ o : Obj, A.heap[r]? = some o ∧ o.isCells = false) ∧ (∀ r, row = some r → d + 1 < r) :=
      fun hr => ⟨fun r e => by obtain ⟨hB, o, ho, hw⟩ := hr r e; exact ⟨by omega, o, ho, Obj.not_cells_of_walk hw⟩, fun r e => by have := (hr r e).1; omega⟩
    refine (hs (d + 1) (fun pre W => I pre W ∧ Two d (rec .ready none) W) (fun pre W => ∃ c, Ix c pre W ∧ Two d (rec .done (some c)) W) V hbV
      (fun s A B row h hg' hr => ⟨hI s A B row h.1 hg' (hfar (B := B) hr).1, h.2.grown hg' (hfar (B := B) hr).2⟩)
      (fun s A B row h hg' hr => let ⟨c, hc, ht⟩ := h; ⟨c, hIx c s A B row hc hg' (hfar (B := B) hr).1, ht.grown hg' (hfar (B := B) hr).2⟩) ?_ ⟨hIV, htwo⟩).mono ?_
    · rintro pre x W ⟨hi, ht⟩ hr
      have hy := run_yield (P := P) (args := encs x) ht.1 (by rw [hrec]; exact hps x)
      rw [hrec] at hy
      refine ⟨fn, _, assign, body, hy, roundIn_of_wpIn hfn (hassign _ pre x W _ hi hr ?_)⟩
      clear hy
      intro a' Wa k1 k2 hia hra hax
      have hta := ht.keeps k1
      refine ⟨_, run_beginRound hta.1 (by rw [hrec]), ?_⟩
      have htb := hta.put { rec .ready none with state := .busy }
      have hkb : Kp Wa (Wa.putObj (d + 1) (.loop { rec .ready none with state := .busy })) := hKb _ _ _ _ (by omega) hta.1 rfl rfl
      refine wpIn_mono (hbody _ pre x a' _ (by omega) (hI.putObj _ hia (by omega) hta.1 rfl) ((hR pre).putObj _ hra (by omega) hta.1 rfl) ((hAx a').putObj _ hax (by omega) hta.1 rfl)) ?_
      have fin : ∀ (jump : Option Code) (W3 : World), Two d { rec .ready none with state := .busy } W3 →
          (Instr.endRound (d + 1) jump).run P W3 = .ok (.bool jump.isNone) (W3.putObj (d + 1) (.loop (rec (if jump.isNone then .ready else .done) jump))) := fun jump W3 h3 => by
        have hl3 := h3.1
        rw [hrec] at hl3
        have := run_endRound (P := P) jump hl3
        rw [hrec]
        exact this
      rintro e a3 W3 hp
      cases e with
      | normal =>
        obtain ⟨k3, k4, hi3⟩ := hp
        have ht3 := htb.keeps k3
        exact ⟨_, _, fin none W3 ht3, .inl ⟨rfl, ⟨hI.putObj _ hi3 (by omega) ht3.1 rfl, ht3.put _⟩, hKt k2 (hKt (hKt hkb k4) (hKb _ _ _ _ (by omega) ht3.1 rfl rfl))⟩⟩
      | ret =>
        have ht3 := htb.keeps hp.1
        exact ⟨_, _, fin (some .ret) W3 ht3, .inr ⟨rfl, .ret, (hIx _).putObj _ hp.2 (by omega) ht3.1 rfl, ht3.put _⟩⟩
      | exit id =>
        have ht3 := htb.keeps hp.1
        exact ⟨_, _, fin (some (.exit id)) W3 ht3, .inr ⟨rfl, .exit id, (hIx _).putObj _ hp.2 (by omega) ht3.1 rfl, ht3.put _⟩⟩
      | goto t =>
        have ht3 := htb.keeps hp.1
        exact ⟨_, _, fin (some (.goto t)) W3 ht3, .inr ⟨rfl, .goto t, (hIx _).putObj _ hp.2 (by omega) ht3.1 rfl, ht3.put _⟩⟩
      | panic ch => exact hp.elim
      | outgrown => exact hp.elim
    · rintro e W2 ⟨⟨v, rfl⟩, (⟨xs, hS, hi, ht⟩ | ⟨pre, hSp, c, hi, ht⟩)⟩
      · have hend := run_endLoop (P := P) ht.1 (by rw [hrec]; simp)
        rw [hrec] at hend
        exact ⟨none, _, hend, hdone _ xs _ (Nat.le_refl _) hS (hI.putObj _ hi (by omega) ht.1 rfl) ((World.putObj_heap_other (by omega)).trans ht.2)⟩
      · have hend := run_endLoop (P := P) ht.1 (by rw [hrec]; simp)
        rw [hrec] at hend
        exact ⟨some c, _, hend, hstop _ c pre _ (Nat.le_refl _) hSp ((hIx c).putObj _ hi (by omega) ht.1 rfl) ((World.putObj_heap_other (by omega)).trans ht.2)⟩
end
theorem wpListIn_append_sl {F : Fence} {d : Nat} {P : Program} {w : World} {ops : Array Oper} {rest : List Oper} {o : Oper} {a : Act} {Q : Exit → Act → World → Prop} (hgd : o.guard = none) (s x : Operand) (t : TypeId)
    (ho : o.op = .call { callee := .builtin .append, args := #[s, x], argTypes := #[t, t] })
    (e : TypeId) (i : TypeInfo) (z : Value) (size bytes : Nat) (ht : P.underlying t = some (.slice e)) (hi : P.info? e = some i) (hz : i.zero = some z)
    (hsize : i.size = size) (hby : i.bytes = bytes) (hzs : z.cells.size = size)
    (v : Value) (gb : Option Nat) (n : Nat) (xs : List Value) (hs : a.eval s = v) (hown : Sl w v gb e size n xs)
    (ad : Addr) (m c : Nat) (news : List Value) (hx : a.eval x = .slice (some ad) m c) (hl : news.length = m * size) (hnews : ∀ j u, news[j]? = some u → w.cell? (ad.add j) = some u) (h1 : ∀ u ∈ news, u.oneCell' = true)
    (h0 : 0 < m) (hbytes : (n + m) * bytes ≤ 140737488355328) (hsmall : n + m ≤ 9223372036854775807)
    (h : ∀ g p cap w' gb', Sl w' (.slice (some ⟨g, p, none⟩) (n + m) cap) gb' e size (n + m) (xs ++ news) → w.grownBy w' gb → gb' = some g → (gb' = gb ∨ w.heap.size ≤ g) → wpListIn F d P ops Q rest (a.put o.dst (.slice (some ⟨g, p, none⟩) (n + m) cap)) w') : wpListIn F d P ops Q (o :: rest) a w := by
  refine wpListIn_plain hgd fun K hK => ?_
  obtain ⟨g, p, cap, w', gb', hr, h2, h3, h4, h5⟩ := run_append_sl (P := P) w t o.type e i z size bytes ht hi hz hsize hby hzs v gb n xs hown ad m c news hl hnews h1 h0 hbytes hsmall
  unfold Oper.wpIn
  refine ⟨by simp [Oper.about, ho, resolve, Target.leads, Sem.run_pure], ?_⟩
  rw [Oper.semAt_plain F _ _ (by rw [ho]; intro c hc'; cases hc')]
  simp [execOp, ho, resolve, invoke, builtin, hs, hx, hr, Result.andThen]
  exact hK _ _ (h g p cap w' gb' h2 h3 h4 h5)
end Go.Proofs.Ytfapigccdbpepaa
