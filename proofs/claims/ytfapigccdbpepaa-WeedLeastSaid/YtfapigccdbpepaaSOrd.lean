/- A REGION THAT DRAWS ITS ORDER, WHERE THE CALLS STAND IN ONE FORCED ORDER, and all that may come up beside them only copies, picks or reslices: ONE WALK IN ONE ORDER, as of a plain region, serves every order, whatever the callees do to memory. -/
import Derived.StillTail
import Derived.Deep.RegionHeld3
namespace Go.Proofs.Ytfapigccdbpepaa
open Go

/-- Where it returns a value, it leaves the world as it is, and returns it in every world. -/
def Steady {α : Type} (x : Sem α) : Prop := ∀ (P : Program) (w : World) (v : α) (w1 : World), x.run P w = .ok v w1 → w1 = w ∧ ∀ w', x.run P w' = .ok v w'
theorem Steady.pure {α : Type} (v : α) : Steady (Pure.pure v : Sem α) := fun P w u w1 h => by
  have h : (Result.ok v w : Result α) = .ok u w1 := h
  injection h with h1 h2
  subst h1 h2
  exact ⟨rfl, fun _ => rfl⟩
theorem Steady.halt {α : Type} (x : Halt) : Steady (Sem.halt x : Sem α) := fun P w u w1 h => by
  have h : (Result.halt x w : Result α) = .ok u w1 := h
  cases h
theorem Steady.program {α : Type} {k : Program → Sem α} (h : ∀ p, Steady (k p)) : Steady (Sem.program k) := fun P w v w1 e => h P P w v w1 e
theorem Steady.bind {α β : Type} {x : Sem α} {f : α → Sem β} (hx : Steady x) (hf : ∀ a, Steady (f a)) : Steady (x >>= f) := fun P w v w1 h => by
  rw [Sem.run_bind] at h
  cases hr : x.run P w with
  | ok u w2 =>
    rw [hr] at h
    obtain ⟨rfl, h2⟩ := hx P w u w2 hr
    obtain ⟨h3, h4⟩ := hf u P w2 v w1 h
    refine ⟨h3, fun w' => ?_⟩
    rw [Sem.run_bind, h2 w']
    exact h4 w'
  | halt y w2 => rw [hr] at h; cases h
theorem Steady.never {α : Type} {x : Sem α} (h : ∀ P w v w1, x.run P w ≠ .ok v w1) : Steady x := fun P w v w1 e => absurd e (h P w v w1)
theorem never_bind {α β : Type} {x : Sem α} {f : α → Sem β} (hf : ∀ a P w v w1, (f a).run P w ≠ .ok v w1) (P : Program) (w : World) (v : β) (w1 : World) : (x >>= f).run P w ≠ .ok v w1 := fun h => by
  rw [Sem.run_bind] at h
  cases hr : x.run P w with
  | ok u w2 => rw [hr] at h; exact hf u P w2 v w1 h
  | halt y w2 => rw [hr] at h; cases h
theorem bounds_never {α : Type} (x y : Int) (s : Bool) (c : BoundsCode) (P : Program) (w : World) (v : α) (w1 : World) : (runtimePanic (.bounds x y s c) : Sem α).run P w ≠ .ok v w1 := fun h => by
  unfold runtimePanic at h
  cases h
theorem nil_never {α : Type} (P : Program) (w : World) (v : α) (w1 : World) : (runtimePanic .nilDeref : Sem α).run P w ≠ .ok v w1 := fun h => by
  unfold runtimePanic at h
  cases h
theorem boundsPanic_never {α : Type} (k : IntKind) (x y : Int) (c : BoundsCode) (P : Program) (w : World) (v : α) (w1 : World) : (boundsPanic k x y c : Sem α).run P w ≠ .ok v w1 := by
  unfold boundsPanic
  split
  · exact never_bind (fun _ => bounds_never _ _ _ _) P w v w1
  · exact never_bind (fun _ => bounds_never _ _ _ _) P w v w1
theorem steady_underlying (t : TypeId) : Steady (underlying t) := by
  unfold underlying
  refine Steady.bind (Steady.program fun p => Steady.pure p) fun p => ?_
  split
  · exact Steady.pure _
  · exact Steady.halt _
theorem steady_sizeOf (t : TypeId) : Steady (sizeOf t) := by
  unfold sizeOf typeInfo
  refine Steady.bind (Steady.bind (Steady.program fun p => Steady.pure p) fun p => ?_) fun _ => Steady.pure _
  split
  · exact Steady.pure _
  · exact Steady.halt _
theorem steady_asIntOf (v : Value) : Steady (asIntOf v) := by
  unfold asIntOf
  split <;> first | exact Steady.pure _ | exact Steady.halt _
theorem steady_sliceBound (x : Value) (y : Nat) (c : BoundsCode) : Steady (Instr.sliceBound x y c) := by
  unfold Instr.sliceBound
  refine Steady.bind (steady_asIntOf x) fun p => ?_
  split
  split
  · exact Steady.pure _
  · exact Steady.never (boundsPanic_never _ _ _ _)
theorem steady_sliceBounds (s : Bool) (len cap : Nat) (l h m : Option Value) : Steady (Instr.sliceBounds s len cap l h m) := by
  unfold Instr.sliceBounds
  cases m <;> cases h <;> cases l <;> dsimp only <;> repeat (first | exact steady_sliceBound _ _ _ | with_reducible exact Steady.pure _ | exact Steady.halt _ | refine Steady.bind ?_ fun _ => ?_)
theorem steady_asAddr (v : Value) : Steady (asAddr v) := by
  unfold asAddr
  split <;> first | exact Steady.pure _ | exact Steady.never nil_never | exact Steady.halt _
theorem steady_sureAddr (v : Value) : Steady (Instr.sureAddr v) := by
  unfold Instr.sureAddr
  split <;> first | exact Steady.pure _ | exact Steady.halt _
theorem steady_slice (t : TypeId) (x : Value) (l h m : Option Value) : Steady (Instr.slice t x l h m) := by
  unfold Instr.slice
  refine Steady.bind (steady_underlying t) fun d => ?_
  split
  · split
    · exact Steady.bind (Steady.halt _) fun _ => Steady.bind (steady_sliceBounds _ _ _ _ _ _) fun _ => Steady.pure _
    · exact Steady.bind (steady_sliceBounds _ _ _ _ _ _) fun _ => Steady.pure _
  · exact Steady.bind (steady_sliceBounds _ _ _ _ _ _) fun _ => Steady.bind (steady_sizeOf _) fun _ => Steady.pure _
  · refine Steady.bind (steady_asAddr _) fun a => Steady.bind (steady_underlying _) fun d => ?_
    split
    · exact Steady.bind (steady_sliceBounds _ _ _ _ _ _) fun _ => Steady.bind (steady_sizeOf _) fun _ => Steady.pure _
    · exact Steady.halt _
  · exact Steady.halt _
theorem steady_sliceAt (t : TypeId) (x : Value) (l h m : Option Value) : Steady (Instr.sliceAt t x l h m) := by
  unfold Instr.sliceAt
  refine Steady.bind (steady_underlying t) fun d => ?_
  split
  · exact Steady.bind (steady_sureAddr _) fun a => Steady.bind (steady_sliceBounds _ _ _ _ _ _) fun _ => Steady.bind (steady_sizeOf _) fun _ => Steady.pure _
  · exact steady_slice _ _ _ _ _
theorem steady_asBool (v : Value) : Steady (asBool v) := by
  unfold asBool
  split <;> first | exact Steady.pure _ | exact Steady.halt _
/-- It copies, picks or reslices. -/
def Oper.inert (o : Oper) : Bool := match o.op with
  | .move _ | .assign _ | .pick _ _ _ | .slice _ _ _ _ _ => true
  | _ => false
theorem inert_ok {o : Oper} (h : Oper.inert o = true) (ρ : Operand → Value) (P : Program) (w : World) (n : Next) (w1 : World) (hr : (execOp ρ o).run P w = .ok n w1) :
    w1 = w ∧ ∃ v, n = .value v ∧ ∀ w', (execOp ρ o).run P w' = .ok (.value v) w' := by
  have key : ∀ (s : Sem Value), Steady s → (do pure (.value (← s)) : Sem Next).run P w = .ok n w1 → w1 = w ∧ ∃ v, n = .value v ∧ ∀ w', (do pure (.value (← s)) : Sem Next).run P w' = .ok (.value v) w' := fun s hs e => by
    obtain ⟨h1, h2⟩ := Steady.bind hs (fun v => Steady.pure (Next.value v)) P w n w1 e
    rw [Sem.run_bind] at e
    cases hq : s.run P w with
    | ok u w2 =>
      rw [hq] at e
      have e : (Result.ok (Next.value u) w2 : Result Next) = .ok n w1 := e
      injection e with e1 e2
      exact ⟨h1, u, e1.symm, e1 ▸ h2⟩
    | halt y w2 => rw [hq] at e; cases e
  obtain ⟨dst, op, ty, pos, after, guard⟩ := o
  cases op <;> first | (cases h; done) | skip
  case move x =>
    have e : (Result.ok (Next.value (ρ x)) w : Result Next) = .ok n w1 := hr
    injection e with e1 e2
    exact ⟨e2.symm, ρ x, e1.symm, fun _ => rfl⟩
  case assign x =>
    have e : (Result.ok (Next.value (ρ x)) w : Result Next) = .ok n w1 := hr
    injection e with e1 e2
    exact ⟨e2.symm, ρ x, e1.symm, fun _ => rfl⟩
  case pick c a b =>
    have hs : Steady (execOp ρ ⟨dst, .pick c a b, ty, pos, after, guard⟩) := Steady.bind (steady_asBool _) fun _ => Steady.pure _
    obtain ⟨h1, h2⟩ := hs P w n w1 hr
    have e : ((asBool (ρ c)) >>= fun q => (Pure.pure (Next.value (if q = true then ρ a else ρ b)) : Sem Next)).run P w = .ok n w1 := hr
    rw [Sem.run_bind] at e
    cases hq : (asBool (ρ c)).run P w with
    | ok u w2 =>
      rw [hq] at e
      have e : (Result.ok (Next.value (if u = true then ρ a else ρ b)) w2 : Result Next) = .ok n w1 := e
      injection e with e1 e2
      exact ⟨h1, _, e1.symm, e1 ▸ h2⟩
    | halt y w2 => rw [hq] at e; cases e
  case slice t x lo hi mx => exact key _ (steady_sliceAt t (ρ x) (lo.map ρ) (hi.map ρ) (mx.map ρ)) hr
/-- It goes on; nothing else. -/
def Calm (Q : Exit → Act → World → Prop) : Exit → Act → World → Prop
  | .normal, a, w => Q .normal a w
  | _, _, _ => False
theorem Calm.imp {Q : Exit → Act → World → Prop} (e : Exit) (a : Act) (w : World) (h : Calm Q e a w) : Q e a w := by
  cases e <;> first | exact h | exact (h : False).elim
/-- The order is one that may come up; whatever may come up beside its next operation is told by that operation, or that operation is inert and free. -/
def orderB (md : Region.Mode) (ops : Array Oper) : List Nat → Array Bool → Bool
  | [], listed => (Region.ready md ops listed).isEmpty
  | k :: l, listed => (decide (Region.ready md ops listed = [k]) || ((Region.ready md ops listed).contains k && Region.free md ops listed k && (match ops[k]? with | some o => Oper.inert o | none => false))) && orderB md ops l (listed.setIfInBounds k true)
theorem any_of_order {P : Program} {md : Region.Mode} {ops : Array Oper} {Q : Exit → Act → World → Prop} (hsel : Region.noSelect ops = true) : ∀ (l : List Nat) (listed : Array Bool) (a : Act) (w : World), orderB md ops l listed = true →
    wpList P ops (Calm Q) (l.filterMap (ops[·]?)) a w → wpAny P md ops (Calm Q) l.length listed a w
  | [], listed, a, w, hB, h => ⟨by simpa [orderB] using hB, h⟩
  | k :: l, listed, a, w, hB, h => by
    simp only [orderB, Bool.and_eq_true, Bool.or_eq_true, decide_eq_true_eq] at hB
    obtain ⟨hB1, hB2⟩ := hB
    have hkr : k ∈ Region.ready md ops listed := by
      rcases hB1 with h1 | h1
      · rw [h1]; exact List.mem_singleton.2 rfl
      · simpa using h1.1.1
    obtain ⟨hun, o, ho, -⟩ := mem_ready.1 hkr
    have hl : (k :: l).filterMap (ops[·]?) = o :: l.filterMap (ops[·]?) := by rw [List.filterMap_cons]; simp only [ho]
    rw [hl] at h
    rcases hB1 with h1 | ⟨⟨-, h2⟩, h3⟩
    · refine ⟨fun h0 => (by rw [h0] at h1; cases h1), fun i hi => ?_⟩
      rw [h1] at hi
      obtain rfl : i = k := by simpa using hi
      have hw : wpOp P ops (Calm Q) i (wpList P ops (Calm Q) (l.filterMap (ops[·]?))) a w := by unfold wpOp; simp only [ho]; exact h
      exact wpOp_mono (fun a' w' h' => any_of_order hsel l _ a' w' hB2 h') hw
    · simp only [ho] at h3
      have hy : ∃ v, Yields P ops o v a ∧ wpList P ops (Calm Q) (l.filterMap (ops[·]?)) (a.put o.dst v) w := by
        unfold wpList at h
        split at h
        · rename_i hwt
          rcases h with h | ⟨-, x, y, h⟩
          · unfold Oper.wp at h
            cases hr : (execOp a.eval o).run P w with
            | ok n w1 =>
              obtain ⟨rfl, v, rfl, hall⟩ := inert_ok h3 a.eval P w n w1 hr
              rw [hr] at h
              exact ⟨v, .inl ⟨hwt, hall⟩, h⟩
            | halt x w1 =>
              rw [hr] at h
              cases x <;> exact (h : False).elim
          · exact (h : False).elim
        · rename_i hwt
          exact ⟨undef, .inr ⟨by simpa using hwt, rfl⟩, h⟩
      obtain ⟨v, hy, hrest⟩ := hy
      exact wpAny_first ho (Region.noSelect_spec hsel) (fun _ _ _ h => h) l.length listed a w (Region.free_spec ho h2) hkr hy (any_of_order hsel l _ _ w hB2 hrest)
/-- The law. -/
theorem wp_region_order {P : Program} {id : Nat} {ops : Array Oper} {Q : Exit → Act → World → Prop} {a : Act} {w : World} (l : List Nat) (hm : P.follows .mixedOrders = true) (hB : (Region.noSelect ops && orderB .any ops l (Array.replicate ops.size false) && decide (l.length = ops.size)) = true)
    (h : wpList P ops (Calm Q) (l.filterMap (ops[·]?)) a w.drew) : (Code.region id ops true).wp P Q a w := by
  simp only [Bool.and_eq_true, decide_eq_true_eq] at hB
  obtain ⟨⟨h1, h2⟩, h3⟩ := hB
  refine Code.wp_mono Calm.imp (wp_region_any hm ?_)
  have := any_of_order (md := .any) h1 l _ a w.drew h2 h
  rw [h3] at this
  exact this
end Go.Proofs.Ytfapigccdbpepaa
