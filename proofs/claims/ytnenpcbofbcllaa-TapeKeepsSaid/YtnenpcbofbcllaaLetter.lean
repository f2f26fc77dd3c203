/- A name of one letter; what a name holds. -/
import Derived.Test.YtnenpcbofbcllaaPrts
namespace Go.Proofs.Ytnenpcbofbcllaa
open Go.RowKit Go.Maps

/-- The name of the letter K behind a. -/
def nm (K : Nat) : Key := [UInt8.ofNat (97 + K)]
theorem nm_len (K : Nat) : (nm K).length = 1 := rfl
theorem nm_ok (K : Nat) : okName (nm K) = true := rfl
theorem nm_inj {J K : Nat} (hJ : J < 4) (hK : K < 4) (h : nm J = nm K) : J = K := by
  have h1 : (UInt8.ofNat (97 + J)).toNat = (UInt8.ofNat (97 + K)).toNat := by
    unfold nm at h
    injection h with h
    rw [h]
  rw [UInt8.toNat_ofNat', UInt8.toNat_ofNat'] at h1
  omega
/-- 'string([]byte{'a' + K})'. -/
theorem name_conv (K : Nat) (hK : K < 4) (w : World) : (convert 45 9 (.slice (some ⟨w.heap.size, 0, none⟩) 1 1)).run Try.prog (w.alloc (.cells #[.int .u8 (97 + (K : Int))] 5)) = .ok (.string ⟨(nm K).toArray⟩) (w.alloc (.cells #[.int .u8 (97 + (K : Int))] 5)) := by
  have e : ((UInt8.ofNat (97 + K)).toNat : Int) = 97 + (K : Int) := by
    rw [UInt8.toNat_ofNat']
    omega
  refine conv_bytes (base := 0) (L := nm K) ⟨rfl, .inr ⟨w.heap.size, 1, #[.int .u8 (97 + (K : Int))], rfl, Nat.zero_le _, heap_alloc_new w _, Nat.le_refl _, by decide, rfl, ?_⟩⟩
  show [Value.int .u8 (97 + (K : Int))] = [Value.int .u8 ((UInt8.ofNat (97 + K)).toNat : Int)]
  rw [e]
/-- .. wherever the one byte lies. -/
theorem name_conv_at (K : Nat) (hK : K < 4) (w : World) (j : Nat) (h : Blk w j #[.int .u8 (97 + (K : Int))] 5) : (convert 45 9 (.slice (some ⟨j, 0, none⟩) 1 1)).run Try.prog w = .ok (.string ⟨(nm K).toArray⟩) w := by
  have e : ((UInt8.ofNat (97 + K)).toNat : Int) = 97 + (K : Int) := by
    rw [UInt8.toNat_ofNat']
    omega
  refine conv_bytes (base := 0) (L := nm K) ⟨rfl, .inr ⟨j, 1, #[.int .u8 (97 + (K : Int))], rfl, Nat.zero_le _, h, Nat.le_refl _, by decide, rfl, ?_⟩⟩
  show [Value.int .u8 (97 + (K : Int))] = [Value.int .u8 ((UInt8.ofNat (97 + K)).toNat : Int)]
  rw [e]
theorem wrap_letter (K : Nat) (hK : K < 4) : IntKind.u8.wrap (IntKind.u64.wrap (97 + (K : Int))) = 97 + (K : Int) := by
  rw [IntKind.wrap_u64, IntKind.wrap_u8]
  omega
/-- What a name holds: nothing, if it isn't there. -/
def cur (f : View) (k : Key) : List UInt8 := match f k with
  | none => []
  | some (L, _) => L
theorem s_read_cur {w : World} {t : Nat} {B : Nat → Prop} {f : View} {tot n : Nat} {s : Sc} (h : St w t B f tot n s) (hd : s.down = false) (k : Key) (hk : k.length ≤ 1048576) :
    ∃ e : Int, Calls Try.prog 15 #[.pointer (some ⟨t, 0, none⟩), .string ⟨k.toArray⟩] w fun x w' => x = .returned (.tuple #[.string ⟨(cur f k).toArray⟩, .int .i64 e]) ∧ w = w' := by
  unfold cur
  rcases hf : f k with _ | ⟨L, sf⟩
  · exact ⟨_, s_read_none h hd k hk hf⟩
  · exact ⟨_, s_read h hd k L sf hf⟩
theorem cur_more (f : View) (k : Key) (M : List UInt8) : cur (upd f k (some (more (f k) M))) k = cur f k ++ M := by
  unfold cur
  rw [upd_same]
  rcases hf : f k with _ | ⟨L, sf⟩
  · simp [more]
  · simp [more]
theorem cur_sized {w : World} {t : Nat} {B : Nat → Prop} {f : View} {tot n : Nat} {s : Sc} (h : St w t B f tot n s) (k : Key) : (cur f k).length ≤ tot := by
  unfold cur
  rcases hf : f k with _ | ⟨L, sf⟩
  · exact Nat.zero_le _
  · exact h.sized hf
theorem bytes_append (a b : List UInt8) : (⟨a.toArray⟩ ++ ⟨b.toArray⟩ : ByteArray) = ⟨(a ++ b).toArray⟩ := by
  apply ByteArray.ext
  rw [ByteArray.data_append]
  simp
theorem small_of (room acts : Nat) (h : acts ≤ 1099511627776) : Small ⟨room, false, 0, acts, 0⟩ := ⟨rfl, h, by show 0 ≤ _; omega, by show (0 : Int) ≤ 0 ∧ (0 : Int) ≤ _; omega⟩
/-- A cell of the arguments is there as long as only the call's own has changed. -/
theorem Own.cell {w0 w : World} {B : Nat → Prop} (h : Own w0 w B) {p : Addr} (hp : p.block < w0.heap.size) {v : Value} (hv : w0.cell? p = some v) : w.cell? p = some v := (h.low.cell (p := p) hp).trans hv
theorem nums_at {w0 w : World} {B : Nat → Prop} {v : Value} {zs : List Int} (h : Nums w0 v zs) (o : Own w0 w B) (hb : 0 < zs.length → ∀ a c d, v = .slice (some a) c d → a.block < w0.heap.size) : Nums w v zs :=
  h.keep fun h0 k _ hx ⟨a, c, d, hv⟩ => o.cell (p := k) (hb h0 ⟨k.block, a, none⟩ c d hv : k.block < w0.heap.size) hx
theorem own_no {w0 w : World} {B : Nat → Prop} {v : Value} {zs : List Int} (o : Own w0 w B) (hb : 0 < zs.length → ∀ a c d, v = .slice (some a) c d → a.block < w0.heap.size) : 0 < zs.length → ∀ a c d, v = .slice (some a) c d → ¬ B a.block :=
  fun h0 a c d hv hB => by have h1 := hb h0 a c d hv; have h2 := o.own _ hB; omega
/-- Four texts in an array. -/
def arr4 (V : Nat → List UInt8) : Array Value := #[.string ⟨(V 0).toArray⟩, .string ⟨(V 1).toArray⟩, .string ⟨(V 2).toArray⟩, .string ⟨(V 3).toArray⟩]
theorem arr4_cell {w : World} {b : Nat} {V : Nat → List UInt8} {T : TypeId} (h : Blk w b (arr4 V) T) {k : Nat} (hk : k < 4) : w.cell? ⟨b, k, none⟩ = some (.string ⟨(V k).toArray⟩) := by
  match k, hk with
  | 0, _ => exact h.cell rfl
  | 1, _ => exact h.cell rfl
  | 2, _ => exact h.cell rfl
  | 3, _ => exact h.cell rfl
theorem arr4_set {w : World} {b : Nat} {V : Nat → List UInt8} {T : TypeId} (h : Blk w b (arr4 V) T) {k : Nat} (hk : k < 4) (x : List UInt8) : Blk (w.setCell ⟨b, k, none⟩ (.string ⟨x.toArray⟩)) b (arr4 fun j => if j = k then x else V j) T := by
  have := h.set (i := k) (.string ⟨x.toArray⟩)
  match k, hk, this with
  | 0, _, h => exact h
  | 1, _, h => exact h
  | 2, _, h => exact h
  | 3, _, h => exact h
theorem arr4_congr {V U : Nat → List UInt8} (h : ∀ k, k < 4 → V k = U k) : arr4 V = arr4 U := by
  unfold arr4
  rw [h 0 (by decide), h 1 (by decide), h 2 (by decide), h 3 (by decide)]
/-- A block beside the tape is written. -/
theorem Own.beside {w0 w : World} {B : Nat → Prop} (h : Own w0 w B) {b : Nat} (hb : w0.heap.size ≤ b) (i : Nat) (v : Value) : Own w0 (w.setCell ⟨b, i, none⟩ v) B := ⟨h.low.setCell (p := ⟨b, i, none⟩) hb v, h.own⟩
theorem St.new_no {w : World} {t : Nat} {B : Nat → Prop} {f : View} {tot n : Nat} {s : Sc} (h : St w t B f tot n s) {b : Nat} (hb : w.heap.size ≤ b) : ¬ B b := fun hB => by have := h.lt b hB; omega
end Go.Proofs.Ytnenpcbofbcllaa
