/- Decoding, said plainly: what a loop's steps come to; what Decode answers in the program's own values. -/
import Derived.Test.YthhlegfmikidpaaDoorCDec
import Derived.Test.YthhlegfmikidpaaDoorCBlk
namespace Go.Proofs.YthhlegfmikidpaaDoor
open Go.RowKit

theorem rdR_of {u q0 q1 q2 q3 q4 : St} {o g : Int} {ky vl : List UInt8} (h0 : St.byte 108 u = q0) (h1 : St.int q0 = (o, q1)) (h2 : St.text 16 q1 = (ky, q2)) (h3 : St.text 64 q2 = (vl, q3)) (h4 : St.int q3 = (g, q4)) : rdR u = (⟨o, ky, vl, g == 1⟩, g, St.byte 101 q4) := by
  subst h0
  simp [rdR, h1, h2, h3, h4]
theorem loop_step {n : Nat} {u q : St} {acc : List Pl.Rc} {R : Option (List Pl.Rc × St)} {x : Pl.Rc} {g : Int} (h : loopR (9 - n) u acc = R) (hn : n < 9) (hm : u.more = true) (hr : rdR u = (x, g, q)) : (if g < 0 ∨ 1 < g then none else loopR (9 - (n + 1)) q (acc ++ [x])) = R := by
  obtain ⟨m, e⟩ : ∃ m, 9 - n = m + 1 := ⟨8 - n, by omega⟩
  have e2 : 9 - (n + 1) = m := by omega
  rw [e] at h
  rw [e2, ← h]
  simp only [loopR, hm, hr, if_true]
theorem loop_over {n : Nat} {u : St} {acc : List Pl.Rc} {R : Option (List Pl.Rc × St)} (h : loopR (9 - n) u acc = R) (hn : ¬ n < 9 ∨ u.more = false) : R = some (acc, u) := by
  rw [← h]
  cases e : 9 - n with
  | zero => rfl
  | succ m => rcases hn with hn | hn; · omega
              · simp [loopR, hn]
theorem dec_of {s : List UInt8} {u0 u1 u2 u3 u4 u5 : St} {x0 x1 x2 x3 x4 : Int} (h : St.byte 108 ⟨s, false⟩ = u0) (h0 : St.int u0 = (x0, u1)) (h1 : St.int u1 = (x1, u2)) (h2 : St.int u2 = (x2, u3)) (h3 : St.int u3 = (x3, u4)) (h4 : St.int u4 = (x4, u5)) :
    decB s = match loopR 9 u5 [] with | none => none | some (rs, u) => if (St.byte 101 u).done = 0 ∧ Pl.goodB ⟨x0, x1, x2, x3, x4, rs⟩ = true then some ⟨x0, x1, x2, x3, x4, rs⟩ else none := by
  have e : rdH ⟨s, false⟩ = ((x0, x1, x2, x3, x4), u5) := by
    subst h
    simp [rdH, h0, h1, h2, h3, h4]
  unfold decB
  rw [e]
  rfl
theorem int_64 (u : St) : Pl.I64 (St.int u).1 := by
  obtain ⟨l, bad⟩ := u
  cases bad with
  | true => exact ⟨by simp [St.int], by simp [St.int]⟩
  | false =>
    cases hr : Pl.rInt l with
    | none => simp [St.int, hr]; exact ⟨by omega, by omega⟩
    | some p => simp [St.int, hr]; exact (Pl.rInt_some hr).2
theorem int_64' {u u' : St} {x : Int} (h : St.int u = (x, u')) : Pl.I64 x := by have := int_64 u; rw [h] at this; exact this
/-- What Decode answers, in the program's own values. -/
def DecOut (r : Option Pl.Bt) (e : Ending) (w' : World) : Prop :=
  match r with
  | none => e = .returned (.tuple #[.agg #[.int .i64 0, .int .i64 0, .int .i64 0, .int .i64 0, .int .i64 0, .slice none 0 0], .int .i64 3])
  | some b => ∃ v, Recs v b.recs w' ∧ e = .returned (.tuple #[.agg #[.int .i64 b.base, .int .i64 b.count, .int .i64 b.prod, .int .i64 b.seq, .int .i64 b.time, v], .int .i64 0])
end Go.Proofs.YthhlegfmikidpaaDoor
