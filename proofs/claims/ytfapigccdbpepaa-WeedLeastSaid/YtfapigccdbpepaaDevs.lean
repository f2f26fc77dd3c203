/- WHAT THE PROGRAM'S Thin, Fold AND Old MUST ANSWER, as the laws' walks take it. -/
import Derived.Test.YtfapigccdbpepaaDFew
import Derived.Test.YtfapigccdbpepaaROld
import Derived.Test.YtfapigccdbpepaaRThin
import Derived.Test.YtfapigccdbpepaaRFold
namespace Go.Proofs.Ytfapigccdbpepaa
open Go.RowKit

/-- The program's three functions answer as the document says. -/
structure Devs : Prop where
  thin : ∀ {A : Nat → Prop} (v : Value) (L : List (Pl.Bt × Value)) (high now hor : Int) (w : World), BtIn A w v L → Few (L.map (·.1)) →
    Calls Try.prog 13 #[v, .int .i64 high, .int .i64 now, .int .i64 hor] w (ThinOut w (L.map (·.1)) high now hor)
  fold : ∀ {A : Nat → Prop} (v : Value) (L : List (Pl.Bt × Value)) (upto : Int) (w : World), BtIn A w v L → Few (L.map (·.1)) →
    Calls Try.prog 16 #[v, .int .i64 upto] w (FoldOut w (L.map (·.1)) upto)
  old : ∀ {A A' : Nat → Prop} (ev bv : Value) (ends bytes : List Int) (high keep : Int) (w : World), Nm A w ev ends → Nm A' w bv bytes → ends.length ≤ 5000 → bytes.length ≤ 5000 →
    Calls Try.prog 18 #[ev, bv, .int .i64 high, .int .i64 keep] w fun e w' => ∃ k : Nat, e = .returned (.int .i64 k) ∧ OldSays ends bytes high keep k ∧ Below w.heap.size w w'
end Go.Proofs.Ytfapigccdbpepaa
