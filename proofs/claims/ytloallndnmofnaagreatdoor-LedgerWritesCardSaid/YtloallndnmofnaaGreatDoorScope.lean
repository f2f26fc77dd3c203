/- A SCOPE WITH ONE LABEL AHEAD. -/
import Derived.Test.YtloallndnmofnaaGreatDoorSlots
import Derived.ScopeJumps
import Derived.WalkMore
namespace Go.Proofs.YtloallndnmofnaaGreatDoor
open Go.RowKit
/-- A scope out of which the run jumps forward to one label: what stands behind the label is walked at the jump. -/
theorem fwd6 {P : Program} {a : Act} {w : World} {Q : Exit → Act → World → Prop} {c rest : Code} (l : Nat) (hf : findLabel c l = some rest)
    (first : c.wp P (Exit.jump l (fun a w => rest.wp P (Exit.noGoto Q) a w) Q) a w) : (Code.scope c).wp P Q a w :=
  wp_scope_jumps l _ (fun _ _ => 0) hf first (fun a w h => wp_mono h (by intro e a w hq; cases e <;> first | exact hq | exact hq.elim))
theorem jump_ret6 {l : Nat} {J : Act → World → Prop} {Q : Exit → Act → World → Prop} {a : Act} {w : World} : Exit.jump l J Q .ret a w = Q .ret a w := rfl
end Go.Proofs.YtloallndnmofnaaGreatDoor
