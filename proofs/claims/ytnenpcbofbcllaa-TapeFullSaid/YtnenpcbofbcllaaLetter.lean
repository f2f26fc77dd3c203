/- A name of one letter; what a name holds. -/
import Derived.Test.YtnenpcbofbcllaaPrts
namespace Go.Proofs.Ytnenpcbofbcllaa
open Go.RowKit Go.Maps

/-- The name of the letter K behind a. -/
def nm (K : Nat) : Key := [UInt8.ofNat (97 + K)]
theorem nm_len (K : Nat) : (nm K).length = 1 := rfl
theorem nm_ok (K : Nat) : okName (nm K) = true := rfl
theorem nm_inj {J K : Nat} (hJ : J < 4) (hK : K < 4) (h : nm J = nm K) : J = K := by
  have h1 : (UInt8.ofNat (97 + J)).toNat = (UInt8.ofNat (97 + K)).toNat := by
    unfold nm at h
    injection h with h
    rw [h]
  rw [UInt8.toNat_ofNat', UInt8.toNat_ofNat'] at h1
  omega
/-- 'string([]byte{'a' + K})'. -/
theorem name_conv (K : Nat) (hK : K < 4) (w : World) : (convert 45 9 (.slice (some ⟨w.heap.size, 0, none⟩) 1 1)).run Try.prog (w.alloc (.cells #[.int .u8 (97 + (K : Int))] 5)) = .ok (.string ⟨(nm K).toArray⟩) (w.alloc (.cells #[.int .u8 (97 + (K : Int))] 5)) := by
  have e : ((UInt8.ofNat (97 + K)).toNat : Int) = 97 + (K : Int) := by
    rw [UInt8.toNat_ofNat']
    omega
  refine conv_bytes (base := 0) (L := nm K) ⟨rfl, .inr ⟨w.heap.size, 1, #[.int .u8 (97 + (K : Int))], rfl, Nat.zero_le _, heap_alloc_new w _, Nat.le_refl _, by decide, rfl, ?_⟩⟩
  show [Value.int .u8 (97 + (K : Int))] = [Value.int .u8 ((UInt8.ofNat (97 + K)).toNat : Int)]
  rw [e]
/-- What a name holds: nothing, if it isn't there. -/
def cur (f : View) (k : Key) : List UInt8 := match f k with
  | none => []
  | some (L, _) => L
theorem s_read_cur {w : World} {t : Nat} {B : Nat → Prop} {f : View} {tot n : Nat} {s : Sc} (h : St w t B f tot n s) (hd : s.down = false) (k : Key) (hk : k.length ≤ 1048576) :
    ∃ e : Int, Calls Try.prog 15 #[.pointer (some ⟨t, 0, none⟩), .string ⟨k.toArray⟩] w fun x w' => x = .returned (.tuple #[.string ⟨(cur f k).toArray⟩, .int .i64 e]) ∧ w = w' := by
  unfold cur
  rcases hf : f k with _ | ⟨L, sf⟩
  · exact ⟨_, s_read_none h hd k hk hf⟩
  · exact ⟨_, s_read h hd k L sf hf⟩
theorem cur_more (f : View) (k : Key) (M : List UInt8) : cur (upd f k (some (more (f k) M))) k = cur f k ++ M := by
  unfold cur
  rw [upd_same]
  rcases hf : f k with _ | ⟨L, sf⟩
  · simp [more]
  · simp [more]
theorem cur_sized {w : World} {t : Nat} {B : Nat → Prop} {f : View} {tot n : Nat} {s : Sc} (h : St w t B f tot n s) (k : Key) : (cur f k).length ≤ tot := by
  unfold cur
  rcases hf : f k with _ | ⟨L, sf⟩
  · exact Nat.zero_le _
  · exact h.sized hf
theorem bytes_append (a b : List UInt8) : (⟨a.toArray⟩ ++ ⟨b.toArray⟩ : ByteArray) = ⟨(a ++ b).toArray⟩ := by
  apply ByteArray.ext
  rw [ByteArray.data_append]
  simp
theorem small_of (room acts : Nat) (h : acts ≤ 1099511627776) : Small ⟨room, false, 0, acts, 0⟩ := ⟨rfl, h, by show 0 ≤ _; omega, by show (0 : Int) ≤ 0 ∧ (0 : Int) ≤ _; omega⟩
/-- A cell of the arguments is there as long as only the call's own has changed. -/
theorem Own.cell {w0 w : World} {B : Nat → Prop} (h : Own w0 w B) {p : Addr} (hp : p.block < w0.heap.size) {v : Value} (hv : w0.cell? p = some v) : w.cell? p = some v := (h.low.cell (p := p) hp).trans hv
end Go.Proofs.Ytnenpcbofbcllaa
