/- A file's bytes: as a text, with more behind them, cloned. -/
import Derived.Test.YtnenpcbofbcllaaWalk1
import Derived.Laws.BytesString
import Derived.Deep.Slices
namespace Go.Proofs.Ytnenpcbofbcllaa
open Go.RowKit

theorem infoB' : (Try.prog.info? 5).map (fun i => (i.zero, i.size, i.bytes)) = some (some (.int .u8 0), 1, 1) := by kernel_rfl
theorem infoB : ∃ i, Try.prog.info? 5 = some i ∧ i.zero = some (.int .u8 0) ∧ i.size = 1 ∧ i.bytes = 1 := by
  obtain ⟨i, h⟩ := info_parts infoB'
  exact ⟨i, h⟩
theorem bcells_ints (L : List UInt8) : bcells L = (L.map fun b => (b.toNat : Int)).map (Value.int .u8) := by
  rw [bcells, List.map_map]
  rfl
theorem push_all (L : List UInt8) : ∀ s : ByteArray, (L.map fun b => (b.toNat : Int)).foldl (fun r n => r.push (UInt8.ofNat n.toNat)) s = ⟨s.data ++ L.toArray⟩ := by
  induction L with
  | nil => intro s; simp
  | cons b L ih =>
    intro s
    rw [List.map_cons, List.foldl_cons, ih]
    have : UInt8.ofNat ((b.toNat : Int)).toNat = b := by simp
    rw [this]
    congr 1
    show s.data.push b ++ L.toArray = _
    apply Array.ext'
    simp
/-- 'string(bytes)'. -/
theorem conv_bytes {w : World} {base : Nat} {v : Value} {L : List UInt8} (h : w.ownsRow base 5 1 v L.length (bcells L)) : (convert 45 9 v).run Try.prog w = .ok (.string ⟨L.toArray⟩) w := by
  have hc := @World.ownsRow.cells _ _ _ _ _ _ _ h
  rcases h.2 with ⟨rfl, h0⟩ | ⟨g, cap, cur, rfl, rest⟩
  · rw [run_convert_bytes_string w _ _ 5 _ _ _ Try.underlying45 Try.underlying5 Try.underlying9]
    have : L = [] := List.length_eq_zero_iff.1 h0
    subst this
    simp [Conv.bytesToString, Sem.run_pure]
    rfl
  · have hl := run_loadCells_list (P := Try.prog) w ⟨g, 0, none⟩ (bcells L) (fun j u hj => hc (g := g) rfl j u hj)
    rw [bcells_length, bcells_ints] at hl
    rw [run_convert_bytes_string w _ _ 5 _ _ _ Try.underlying45 Try.underlying5 Try.underlying9, run_bytesToString w ⟨g, 0, none⟩ L.length cap _ hl, push_all]
    simp [ByteArray.empty, ByteArray.emptyWithCapacity]
    rfl

/-- 'append(bytes, s...)', and where the bytes lie then. -/
theorem run_append_text (w : World) (ty : TypeId) (v : Value) (L : List UInt8) (hown : w.ownsRow 0 5 1 v L.length (bcells L)) (M : List UInt8) (hb : L.length + M.length ≤ 1099511627776) :
    ∃ v' w', (Builtin.append_ #[45, 9] ty #[v, .string ⟨M.toArray⟩]).run Try.prog w = .ok v' w' ∧ w'.ownsRow 0 5 1 v' (L ++ M).length (bcells (L ++ M)) ∧ w.grownBy w' v.ownBlock ∧ (v'.ownBlock = v.ownBlock ∨ v'.ownBlock = some w.heap.size) := by
  obtain ⟨i, hi, hz, hs, hby⟩ := infoB
  have hsz : (⟨M.toArray⟩ : ByteArray).size = M.length := size_list M
  obtain ⟨v', w', hr, h1, h2, h3⟩ := Lib.run_append_own_string (P := Try.prog) w 0 45 9 ty 5 i Try.underlying45 Try.underlying9 hi hz hs hby v L.length (bcells L) hown ⟨M.toArray⟩ (by rw [hsz]; unfold maxLen; omega) (by rw [hsz]; omega) (Nat.zero_le _)
  rw [hsz, strCells_list, ← bcells_append, ← List.length_append] at h1
  refine ⟨v', w', hr, h1, h2, ?_⟩
  rcases hown.2 with ⟨rfl, hn⟩ | ⟨g, cap, cur, rfl, hbg, hg, hnc, hcm, hcs, htake⟩
  · by_cases hm : M.length = 0
    · rw [h3.2 ⟨rfl, by rw [hsz, hm]⟩]
      exact .inl rfl
    · have e := run_append_nil_string (P := Try.prog) w 45 9 ty 5 i (.int .u8 0) Try.underlying45 Try.underlying9 hi hz ⟨M.toArray⟩ (by rw [hsz]; omega) (by rw [hsz]; omega) (by rw [hby, hsz]; omega)
      rw [e] at hr
      injection hr with hr _
      rw [← hr]
      exact .inr rfl
  · by_cases hroom : L.length + (⟨M.toArray⟩ : ByteArray).size ≤ cap
    · have e := Lib.run_append_room_string (P := Try.prog) w 45 9 ty 5 i Try.underlying45 Try.underlying9 hi hs g L.length cap cur hg ⟨M.toArray⟩ hroom (by omega)
      rw [e] at hr
      injection hr with hr _
      rw [← hr]
      exact .inl rfl
    · have e := Lib.run_append_grow_string (P := Try.prog) w 45 9 ty 5 i (.int .u8 0) Try.underlying45 Try.underlying9 hi hz ⟨g, 0, none⟩ L.length cap (bcells L) (by rw [hs, bcells_length, Nat.mul_one]) (hown.cells (g := g) rfl) ⟨M.toArray⟩ (by omega) (by rw [hsz]; omega) (by rw [hby]; exact growslice_fits (by omega) (by rw [hsz]; omega))
      rw [e] at hr
      injection hr with hr _
      rw [← hr]
      exact .inr rfl
theorem wpList_append_text {w : World} {ops : Array Oper} {rest : List Oper} {o : Oper} {a : Act} {Q : Exit → Act → World → Prop} (hgd : o.guard = none) (s x : Operand)
    (ho : o.op = .call { callee := .builtin .append, args := #[s, x], argTypes := #[45, 9] })
    (v : Value) (L : List UInt8) (hs : a.eval s = v) (hown : w.ownsRow 0 5 1 v L.length (bcells L)) (M : List UInt8) (hx : a.eval x = .string ⟨M.toArray⟩) (hb : L.length + M.length ≤ 1099511627776)
    (h : ∀ v' w', w'.ownsRow 0 5 1 v' (L ++ M).length (bcells (L ++ M)) → w.grownBy w' v.ownBlock → (v'.ownBlock = v.ownBlock ∨ v'.ownBlock = some w.heap.size) → wpList Try.prog ops Q rest (a.put o.dst v') w') : wpList Try.prog ops Q (o :: rest) a w := by
  refine wpList_plain hgd fun K hK => ?_
  obtain ⟨v', w', hr, h2, h3, h4⟩ := run_append_text w o.type v L hown M hb
  unfold Oper.wp execOp
  simp only [ho, resolve, invoke, builtin, Sem.run_bind, Sem.run_pure, Result.andThen_ok, List.map_toArray, List.map_cons, List.map_nil, hs, hx, hr]
  exact hK _ _ (h v' w' h2 h3 h4)

theorem eql_nil (w : World) (a : Addr) (l c : Nat) : (binOp .eql 45 (.slice (some a) l c) (.slice none 0 0)).run Try.prog w = .ok (.bool false) w := by
  simp only [binOp]
  simp [run_equal_slice_nil w 45 5 (some a) l c Try.underlying45]
/-- bytes.Clone of the first bytes of a row. -/
theorem clone_any (w : World) (g n cap : Nat) (L : List UInt8) (hn : L.length = n) (hc : ∀ j u, (bcells L)[j]? = some u → w.cell? ((⟨g, 0, none⟩ : Addr).add j) = some u) (hg : ∀ k, g = k → k < w.heap.size) (hb : n ≤ 1099511627776) :
    Calls Try.prog 30 #[.slice (some ⟨g, 0, none⟩) n cap] w fun e w' => ∃ v, e = .returned v ∧ w'.ownsRow w.heap.size 5 1 v n (bcells L) ∧ Below w.heap.size w w' := by
  obtain ⟨i0, hi, hz0, hz1, hz2⟩ := infoB
  have hnil := eql_nil
  have hnews : ∀ j u, (bcells L)[j]? = some u → (w.alloc (.cells #[] 5)).cell? ((⟨g, 0, none⟩ : Addr).add j) = some u := fun j u hj => by
    rw [← hc j u hj, Addr.add_lit]
    exact World.cell?_of_block (Below.heap_alloc _ _ _ (hg g rfl))
  have hnew : (w.alloc (.cells #[] 5)).ownsRow w.heap.size 5 1 (.slice (some ⟨w.heap.size, 0, none⟩) 0 0) 0 [] := World.ownsRow_made w #[] 0 (Nat.le_refl _) (Nat.zero_le _) rfl
  have HN := Lib.hid hn
  have HNEWS := Lib.hid hnews
  have HNEW := Lib.hid hnew
  clear hc hg hn hnews hnew
  go_enter Try.func30, Try.ntmps30
  go_wp2_with (at_builtin; refine wpList_append_own _ rfl _ _ 45 rfl w.heap.size 5 i0 (.int .u8 0) 1 1 Try.underlying45 hi hz0 hz1 hz2 rfl (by decide) _ 0 [] rfl HNEW.out ⟨g, 0, none⟩ n cap (bcells L) rfl (by rw [bcells_length, HN.out, Nat.mul_one]) HNEWS.out (bcells_one L) (by unfold maxLen; omega) (by omega) (by simp) ?_)
  intro v' w1 hown hgrow _
  have HO := Lib.hid hown
  have HG := Lib.hid hgrow
  clear hown hgrow
  go_wp2_with fail
  go_ret
  refine ⟨v', rfl, by simpa using HO.out, ((Below.refl _ w).alloc (Nat.le_refl _) _).grown HG.out (by simp) (fun k e => by cases e; exact Nat.le_refl _)⟩
end Go.Proofs.Ytnenpcbofbcllaa
