/- A slice of parts, as it came in; small things that the laws share. -/
import Derived.Test.YtnenpcbofbcllaaAwake
namespace Go.Proofs.Ytnenpcbofbcllaa
open Go.RowKit Go.Maps

structure Pt where
  n : Int
  S : List UInt8
  sync : Bool
def Prts (w : World) (B : Nat) (sv : Value) (ps : List Pt) : Prop :=
  ∃ a cap, sv = .slice a ps.length cap ∧ ∀ j x, ps[j]? = some x → ∃ b off, a = some ⟨b, off, none⟩ ∧ b < B ∧
    w.cell? ⟨b, off + j * 3, none⟩ = some (.int .i64 x.n) ∧ w.cell? ⟨b, off + j * 3 + 1, none⟩ = some (.string ⟨x.S.toArray⟩) ∧ w.cell? ⟨b, off + j * 3 + 2, none⟩ = some (.bool x.sync)
/-- 'int(uint(n) % uint(q))'. -/
theorem mod_nat (n q : Int) (hq : 0 < q) (hb : q ≤ 1099511627776) : ∃ K : Nat, wrap64 ((IntKind.u64.wrap n).tmod q) = K ∧ (K : Int) < q ∧ (IntKind.u64.wrap n).tmod q = K := by
  have h0 : 0 ≤ IntKind.u64.wrap n := by rw [IntKind.wrap_u64]; omega
  have h1 : (IntKind.u64.wrap n).tmod q = (IntKind.u64.wrap n) % q := Int.tmod_eq_emod_of_nonneg h0
  have h2 : 0 ≤ (IntKind.u64.wrap n) % q := Int.emod_nonneg _ (by omega)
  have h3 : (IntKind.u64.wrap n) % q < q := Int.emod_lt_of_pos _ hq
  rw [h1]
  refine ⟨((IntKind.u64.wrap n) % q).toNat, ?_, by omega, by omega⟩
  generalize (IntKind.u64.wrap n) % q = r at h2 h3
  unfold wrap64
  omega
theorem s_read_any {w : World} {t : Nat} {B : Nat → Prop} {f : View} {tot n : Nat} {s : Sc} (h : St w t B f tot n s) (hd : s.down = false) (k : Key) (hk : k.length ≤ 1048576) :
    ∃ (S : ByteArray) (e : Int), Calls Try.prog 15 #[.pointer (some ⟨t, 0, none⟩), .string ⟨k.toArray⟩] w fun x w' => x = .returned (.tuple #[.string S, .int .i64 e]) ∧ w = w' := by
  rcases hf : f k with _ | ⟨L, sf⟩
  · exact ⟨_, _, s_read_none h hd k hk hf⟩
  · exact ⟨_, _, s_read h hd k L sf hf⟩
end Go.Proofs.Ytnenpcbofbcllaa
