/-
  No cell of these rows narrows 'for every input' (looked for: loops, veiled, ifaces, maps, wideKeys, modest, calm, conditions, laid).
  DERIVED. THE GIVEN ROWS OF THIS SEAT. 3 by the template 'for every input the law returns true; each argument reads behind the call as it read before'; 0 by the template 'total and deterministic' (their statements: YtaefcbgmljaleaaTotals.lean).
  GIVEN WITH THE SEED: the statements are not yours to turn. If you find one false, say at which input.
  Laid BY PROGRAM, IN A SANDBOX (cutbox-rows.mjs): the forced cells as the released guide's own fill.sh prints them over the translation 6dde5fd398d60cc9… (all of the seat's roots in one cut). By AI agents, Wed Nov 11 2026. No macro, syntax, notation, axiom, sorry.
-/
import Derived.Test.YtaefcbgmljaleaaChecked
import GoSem.Claim
import GoSem.ClaimJoined
import GoSem.ClaimMapViews
import Derived.JoinedTies
import Derived.KernelRfl
namespace Go.Proofs.Ytaefcbgmljaleaa
/- THE CELL 'sum', in the pinned program and in every row, IS THE sha256 OF THE DUMP (.gsa) THAT YtaefcbgmljaleaaProg.lean LOADS. Nothing in Lean hashes anything: it is a label: what it is worth is what the hold of that sum in a sandbox is worth. -/
noncomputable def Try.pinned : Pinned := { name := "ytaefcbgmljaleaa", sum := "6dde5fd398d60cc9549181ed5ec0c3c30228d724e42233c46cbb13498b6579d1", checked := Try.checked }
namespace Rows
def none {H : Type} : Left H := { results := [], args := [] }

/-- 'heliographlaw10.ShareFair': WHATEVER THE INPUT: true; the input reads as it did. -/
def shareFairSpec : ChangeSpec := { name := "shareFair", fn := fun _ => fun
  | [d1, d2] => { results := [.lit (.bool true)], args := [d1, d2] }
  | _ => none }
def shareFairRow : OpenClaim := { program := "ytaefcbgmljaleaa", sum := "6dde5fd398d60cc9549181ed5ec0c3c30228d724e42233c46cbb13498b6579d1", func := "heliograph/heliographlaw10.ShareFair", spec := "shareFair", apart := false }
def ShareFairSaid : Prop := shareFairRow.holds Try.pinned (OpenSpec.ofChange shareFairSpec)

/-- ITS FALSE NEIGHBOUR: 'it returns false'. Refute it at one input. -/
def shareFairWrong : ChangeSpec := { name := "shareFair", fn := fun _ => fun
  | [d1, d2] => { results := [.lit (.bool false)], args := [d1, d2] }
  | _ => none }
def ShareFairWrongFalsely : Prop := shareFairRow.holds Try.pinned (OpenSpec.ofChange shareFairWrong)

/-- 'heliographlaw10.ShareNobody': WHATEVER THE INPUT: true; the input reads as it did. -/
def shareNobodySpec : ChangeSpec := { name := "shareNobody", fn := fun _ => fun
  | [d1, d2, d3] => { results := [.lit (.bool true)], args := [d1, d2, d3] }
  | _ => none }
def shareNobodyRow : OpenClaim := { program := "ytaefcbgmljaleaa", sum := "6dde5fd398d60cc9549181ed5ec0c3c30228d724e42233c46cbb13498b6579d1", func := "heliograph/heliographlaw10.ShareNobody", spec := "shareNobody", apart := false }
def ShareNobodySaid : Prop := shareNobodyRow.holds Try.pinned (OpenSpec.ofChange shareNobodySpec)

/-- ITS FALSE NEIGHBOUR: 'it returns false'. Refute it at one input. -/
def shareNobodyWrong : ChangeSpec := { name := "shareNobody", fn := fun _ => fun
  | [d1, d2, d3] => { results := [.lit (.bool false)], args := [d1, d2, d3] }
  | _ => none }
def ShareNobodyWrongFalsely : Prop := shareNobodyRow.holds Try.pinned (OpenSpec.ofChange shareNobodyWrong)

/-- 'heliographlaw10.ShareComes': WHATEVER THE INPUT: true; the input reads as it did. -/
def shareComesSpec : ChangeSpec := { name := "shareComes", fn := fun _ => fun
  | [d1, d2, d3] => { results := [.lit (.bool true)], args := [d1, d2, d3] }
  | _ => none }
def shareComesRow : OpenClaim := { program := "ytaefcbgmljaleaa", sum := "6dde5fd398d60cc9549181ed5ec0c3c30228d724e42233c46cbb13498b6579d1", func := "heliograph/heliographlaw10.ShareComes", spec := "shareComes", apart := false }
def ShareComesSaid : Prop := shareComesRow.holds Try.pinned (OpenSpec.ofChange shareComesSpec)

/-- ITS FALSE NEIGHBOUR: 'it returns false'. Refute it at one input. -/
def shareComesWrong : ChangeSpec := { name := "shareComes", fn := fun _ => fun
  | [d1, d2, d3] => { results := [.lit (.bool false)], args := [d1, d2, d3] }
  | _ => none }
def ShareComesWrongFalsely : Prop := shareComesRow.holds Try.pinned (OpenSpec.ofChange shareComesWrong)

/- THE SECOND FORM. 'bulk': how many values and letters a reading holds, each counted each time it is reached (what is shared counts as often as it is met; a slice's spare places count too). A statement '..UptoSaid' is the law's where the arguments, and the package variables that the reading takes, are together of bulk at most 1048576: NARROWER than '..Said'. Prove '..Said' where nothing that the law and all that it calls make is longer than what came in: it says more and counts as full. Else prove '..UptoSaid'. A law counts once. -/
mutual
def uptoBulk {H : Type} : DataW H → Nat
  | .lit (.string bytes) => bytes.length + 1
  | .lit _ => 1
  | .nil => 1
  | .ptr d => uptoBulk d + 1
  | .slice elems spare => uptoBulkAll elems + uptoBulkAll spare + 1
  | .agg parts => uptoBulkAll parts + 1
  | .iface _ d => uptoBulk d + 1
  | .map entries => uptoBulkEntries entries + 1
  | .held _ => 1
def uptoBulkAll {H : Type} : List (DataW H) → Nat
  | [] => 0
  | d :: r => uptoBulk d + uptoBulkAll r
def uptoBulkEntries {H : Type} : List (Lit × DataW H) → Nat
  | [] => 0
  | x :: r => uptoBulkEntry x + uptoBulkEntries r
def uptoBulkEntry {H : Type} : Lit × DataW H → Nat
  | (.string bytes, d) => bytes.length + uptoBulk d + 1
  | (_, d) => uptoBulk d + 1
 end
def uptoSmall : (H : Type) → List (DataW H) → Bool := fun _ ds => decide (uptoBulkAll ds ≤ 1048576)
def OpenSpec.upto (s : _root_.Go.ChangeSpec) : _root_.Go.OpenSpec := { _root_.Go.OpenSpec.ofChange s with cond := some uptoSmall }

/-- 'heliographlaw10.ShareFair', WHERE WHAT IT READS IS OF BULK AT MOST 1048576: true; the input reads as it did. -/
def shareFairUptoRow : OpenClaim := { program := "ytaefcbgmljaleaa", sum := "6dde5fd398d60cc9549181ed5ec0c3c30228d724e42233c46cbb13498b6579d1", func := "heliograph/heliographlaw10.ShareFair", spec := "shareFair", apart := false, narrowed := true }
def ShareFairUptoSaid : Prop := shareFairUptoRow.holds Try.pinned (OpenSpec.upto shareFairSpec)

/-- 'heliographlaw10.ShareNobody', WHERE WHAT IT READS IS OF BULK AT MOST 1048576: true; the input reads as it did. -/
def shareNobodyUptoRow : OpenClaim := { program := "ytaefcbgmljaleaa", sum := "6dde5fd398d60cc9549181ed5ec0c3c30228d724e42233c46cbb13498b6579d1", func := "heliograph/heliographlaw10.ShareNobody", spec := "shareNobody", apart := false, narrowed := true }
def ShareNobodyUptoSaid : Prop := shareNobodyUptoRow.holds Try.pinned (OpenSpec.upto shareNobodySpec)

/-- 'heliographlaw10.ShareComes', WHERE WHAT IT READS IS OF BULK AT MOST 1048576: true; the input reads as it did. -/
def shareComesUptoRow : OpenClaim := { program := "ytaefcbgmljaleaa", sum := "6dde5fd398d60cc9549181ed5ec0c3c30228d724e42233c46cbb13498b6579d1", func := "heliograph/heliographlaw10.ShareComes", spec := "shareComes", apart := false, narrowed := true }
def ShareComesUptoSaid : Prop := shareComesUptoRow.holds Try.pinned (OpenSpec.upto shareComesSpec)

end Rows
end Go.Proofs.Ytaefcbgmljaleaa
