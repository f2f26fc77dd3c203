/- A REGION THAT DRAWS ITS ORDER: A LOAD MAY GO AHEAD OF A CALL THAT DOES NOT WAIT FOR IT, though the region's last store hits its cell: what the cell holds need be kept only till the operation comes up that waits for the load. -/
import Derived.StillTail
import Derived.Deep.RegionHeld3
namespace Go.Proofs.YtmkinnheoejphaaGreatDoor
open Go

section
variable {P : Program} {ops : Array Oper} {Q : Exit → Act → World → Prop} {md : Region.Mode} {S : World → Prop} {k : Nat}
/-- Whatever order is picked; S is kept till number k has come up. -/
def wpTill (P : Program) (md : Region.Mode) (ops : Array Oper) (Q : Exit → Act → World → Prop) (S : World → Prop) (k : Nat) : Nat → Array Bool → Act → World → Prop
  | 0, listed, a, w => wpAny P md ops Q 0 listed a w
  | f + 1, listed, a, w => (Region.ready md ops listed = [] → Q .normal a w) ∧
    ∀ i ∈ Region.ready md ops listed, wpOp P ops Q i (fun a' w' => ((listed.setIfInBounds i true).getD k true = true ∨ S w') ∧ wpTill P md ops Q S k f (listed.setIfInBounds i true) a' w') a w
theorem any_of_till : ∀ (f : Nat) (listed : Array Bool) (a : Act) (w : World), wpTill P md ops Q S k f listed a w → wpAny P md ops Q f listed a w
  | 0, _, _, _, h => h
  | f + 1, _, _, _, h => ⟨h.1, fun i hi => wpOp_mono (fun a' w' h' => any_of_till f _ a' w' h'.2) (h.2 i hi)⟩
theorem getD_stays {listed : Array Bool} {i j : Nat} (h : listed.getD j true = true) : (listed.setIfInBounds i true).getD j true = true := by
  by_cases hij : i = j
  · subst hij
    by_cases hlt : i < listed.size
    · simp [hlt]
    · simp
  · rw [getD_set_ne true hij]
    exact h
theorem till_of_any : ∀ (f : Nat) (listed : Array Bool) (a : Act) (w : World), listed.getD k true = true → wpAny P md ops Q f listed a w → wpTill P md ops Q S k f listed a w
  | 0, _, _, _, _, h => h
  | f + 1, _, _, _, hk, h => ⟨h.1, fun i hi => wpOp_mono (fun a' w' h' => ⟨.inl (getD_stays hk), till_of_any f _ a' w' (getD_stays hk) h'⟩) (h.2 i hi)⟩
/-- Number k waits for number i. -/
def waitsB (md : Region.Mode) (ops : Array Oper) (k i : Nat) : Bool := match ops[k]? with
  | some o => o.after.any fun e => Region.binds md e && e.on == i
  | none => false
/-- By some steps. -/
def reachB (md : Region.Mode) (ops : Array Oper) : Nat → Nat → Nat → Bool
  | 0, m, i => waitsB md ops m i
  | n + 1, m, i => waitsB md ops m i || (List.range ops.size).any fun x => waitsB md ops m x && reachB md ops n x i
def Closed (md : Region.Mode) (ops : Array Oper) (listed : Array Bool) : Prop := ∀ j o, ops[j]? = some o → listed.getD j false = true → ∀ e ∈ o.after, Region.binds md e = true → listed.getD e.on false = true
def closedB (md : Region.Mode) (ops : Array Oper) (listed : Array Bool) : Bool := (List.range ops.size).all fun j => match ops[j]? with
  | some o => !listed.getD j false || o.after.all fun e => !Region.binds md e || listed.getD e.on false
  | none => true
theorem closedB_spec {listed : Array Bool} (h : closedB md ops listed = true) : Closed md ops listed := fun j o ho hl e he hb => by
  unfold closedB at h
  rw [List.all_eq_true] at h
  have h1 := h j (List.mem_range.2 (Array.getElem?_eq_some_iff.1 ho).1)
  rw [ho] at h1
  simp only [hl, Bool.not_true, Bool.false_or] at h1
  obtain ⟨x, hx, rfl⟩ := Array.getElem_of_mem he
  have h2 := Array.all_eq_true.1 h1 x hx
  simp only [hb, Bool.not_true, Bool.false_or] at h2
  exact h2
theorem Closed.set {listed : Array Bool} {j : Nat} (h : Closed md ops listed) (hj : j ∈ Region.ready md ops listed) : Closed md ops (listed.setIfInBounds j true) := fun x o ho hl e he hb => by
  by_cases hxj : j = x
  · subst hxj
    obtain ⟨-, o', ho', hall⟩ := mem_ready.1 hj
    rw [ho] at ho'
    injection ho' with ho'
    subst ho'
    exact getD_set_true (hall e he hb)
  · rw [getD_set_ne false hxj] at hl
    exact getD_set_true (h x o ho hl e he hb)
theorem waits_un {m x : Nat} {listed : Array Bool} (hc : Closed md ops listed) (hw : waitsB md ops m x = true) (hun : listed.getD x false = false) : listed.getD m false = false ∧ m ∉ Region.ready md ops listed := by
  unfold waitsB at hw
  cases ho : ops[m]? with
  | none => rw [ho] at hw; cases hw
  | some o =>
    rw [ho] at hw
    obtain ⟨y, hy, hb⟩ := Array.any_eq_true.1 hw
    simp only [Bool.and_eq_true, beq_iff_eq] at hb
    constructor
    · cases hl : listed.getD m false with
      | false => rfl
      | true =>
        have h1 := hc m o ho hl _ (Array.getElem_mem hy) hb.1
        rw [hb.2, hun] at h1
        cases h1
    · intro hr
      obtain ⟨-, o', ho', hall⟩ := mem_ready.1 hr
      rw [ho] at ho'
      injection ho' with ho'
      subst ho'
      have h1 := hall _ (Array.getElem_mem hy) hb.1
      rw [hb.2, hun] at h1
      cases h1
theorem reach_un {i : Nat} {listed : Array Bool} (hc : Closed md ops listed) (hun : listed.getD i false = false) : ∀ (n m : Nat), reachB md ops n m i = true → listed.getD m false = false ∧ m ∉ Region.ready md ops listed
  | 0, _, h => waits_un hc h hun
  | n + 1, m, h => by
    unfold reachB at h
    rw [Bool.or_eq_true] at h
    rcases h with h | h
    · exact waits_un hc h hun
    · obtain ⟨x, -, hx⟩ := List.any_eq_true.1 h
      rw [Bool.and_eq_true] at hx
      exact waits_un hc hx.1 (reach_un hc hun n x hx.2).1
theorem till_first {i n : Nat} {oi : Oper} {v : Value} (hi : ops[i]? = some oi) (hsel : ∀ (j : Nat) (o : Oper) cs b, ops[j]? = some o → o.op ≠ .select cs b) (hw : reachB md ops n k i = true)
    (hQ : ∀ c a w, Q (.panic c) (a.put oi.dst v) w → Q (.panic c) a w) :
    ∀ (f : Nat) (listed : Array Bool) (a : Act) (w : World),
      (∀ j oj, ops[j]? = some oj → j ≠ i → listed.getD j true = false → (∀ e ∈ oj.after, Region.binds md e = true → e.on ≠ i) → oi.apart ops oj = true) →
      i ∈ Region.ready md ops listed → listed.getD k true = false → Closed md ops listed → YieldsIf P ops S oi v a → S w →
      wpTill P md ops Q S k f (listed.setIfInBounds i true) (a.put oi.dst v) w → wpTill P md ops Q S k (f + 1) listed a w := by
  intro f
  induction f with
  | zero =>
    intro listed a w _ hr _ _ hy hS H
    refine ⟨fun h => (by rw [h] at hr; cases hr), fun j hj => ?_⟩
    by_cases hji : j = i
    · subst hji
      exact hy.wpOp hi hS ⟨.inr hS, H⟩
    · have h1 := ready_mono hj hji
      have h2 : Region.ready md ops (listed.setIfInBounds i true) = [] := H.1
      rw [h2] at h1
      cases h1
  | succ f ih =>
    intro listed a w hfree hr hk hcl hy hS H
    refine ⟨fun h => (by rw [h] at hr; cases hr), fun j hj => ?_⟩
    by_cases hji : j = i
    · subst hji
      exact hy.wpOp hi hS ⟨.inr hS, H⟩
    · have h1 := H.2 j (ready_mono hj hji)
      obtain ⟨hjun, oj, hoj, hall⟩ := mem_ready.1 hj
      have hiun := getD_both (mem_ready.1 hr).1
      have hnot : ∀ e ∈ oj.after, Region.binds md e = true → e.on ≠ i := fun e he hb heq => by
        have h1 := hall e he hb
        rw [heq, hiun] at h1
        cases h1
      have hjk : j ≠ k := fun e => (reach_un hcl hiun n k hw).2 (e ▸ hj)
      have h2 := wpOp_putIf hoj (hfree j oj hoj hji hjun hnot) (fun cs b => hsel i oi cs b hi) (fun cs b => hsel j oj cs b hoj) hQ hy h1
      have hfree' : ∀ x ox, ops[x]? = some ox → x ≠ i → (listed.setIfInBounds j true).getD x true = false →
          (∀ e ∈ ox.after, Region.binds md e = true → e.on ≠ i) → oi.apart ops ox = true := fun x ox hx hxi hun hno => by
        refine hfree x ox hx hxi ?_ hno
        by_cases hjx : j = x
        · subst hjx; exact hjun
        · rw [getD_set_ne true hjx] at hun; exact hun
      have hkj : (listed.setIfInBounds j true).getD k true = false := by rw [getD_set_ne true hjk]; exact hk
      refine wpOp_mono (fun a' w' h3 => ?_) h2
      obtain ⟨hy', hc, hrest⟩ := h3
      have hS' : S w' := by
        rcases hc with hc | hc
        · have hik : i ≠ k := fun e => (reach_un hcl hiun n k hw).2 (e ▸ hr)
          rw [getD_set_ne true hjk, getD_set_ne true hik, hk] at hc
          cases hc
        · exact hc
      refine ⟨.inr hS', ih (listed.setIfInBounds j true) a' w' hfree' (ready_mono hr (Ne.symm hji)) hkj (hcl.set hj) hy' hS' ?_⟩
      rw [Array.setIfInBounds_comm _ _ hji]
      exact hrest
/-- Number i is taken first. -/
theorem till_take {i : Nat} (n : Nat) {oi : Oper} {v : Value} {f : Nat} {listed : Array Bool} {a : Act} {w : World} (hi : ops[i]? = some oi) (hs : Region.noSelect ops = true) (hf : Region.free md ops listed i = true) (hr : (Region.ready md ops listed).contains i = true)
    (hw : (reachB md ops n k i && !listed.getD k true && closedB md ops listed) = true) (hQ : ∀ c a w, Q (.panic c) (a.put oi.dst v) w → Q (.panic c) a w) (hy : YieldsIf P ops S oi v a) (hS : S w)
    (h : wpTill P md ops Q S k f (listed.setIfInBounds i true) (a.put oi.dst v) w) : wpTill P md ops Q S k (f + 1) listed a w := by
  simp only [Bool.and_eq_true, Bool.not_eq_true'] at hw
  exact till_first hi (Region.noSelect_spec hs) hw.1.1 hQ f listed a w (Region.free_spec hi hf) (by simpa using hr) hw.1.2 (closedB_spec hw.2) hy hS h
/-- Number i alone may come up. -/
theorem till_one {i : Nat} {o : Oper} {f : Nat} {listed : Array Bool} {a : Act} {w : World} (ho : ops[i]? = some o) (hr : Region.ready md ops listed = [i])
    (h : ∀ K' : Act → World → Prop, Shut (∀ a w, ((listed.setIfInBounds i true).getD k true = true ∨ S w) ∧ wpTill P md ops Q S k f (listed.setIfInBounds i true) a w → K' a w) → if Region.wanted o (yielded ops a.tmps) = true then Oper.wp P o a w K' Q else K' (a.put o.dst undef) w) :
    wpTill P md ops Q S k (f + 1) listed a w := by
  refine ⟨fun h0 => (by rw [hr] at h0; cases h0), fun j hj => ?_⟩
  rw [hr] at hj
  obtain rfl : j = i := by simpa using hj
  exact wpOp_step ho fun K' hK => h K' hK
/-- What is left stands in the text's order. -/
theorem till_list {l : List Oper} (n : Nat) {f : Nat} {listed : Array Bool} {a : Act} {w : World} (hk : listed.getD k true = true) (hl : (l.drop n).length = f) (hB : Region.seqB md l.toArray (l.drop n).length n listed = true) (h : wpList P l.toArray Q (l.drop n) a w) : wpTill P md l.toArray Q S k f listed a w := by
  subst hl
  exact till_of_any _ _ _ _ hk (wpAny_of_seq (l.drop n) n listed a w (fun j => by simp [List.getElem?_drop]) hB h)
end
end Go.Proofs.YtmkinnheoejphaaGreatDoor
