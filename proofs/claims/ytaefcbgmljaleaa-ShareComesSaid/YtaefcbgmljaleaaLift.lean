/- What each law's last text takes from the library. -/
import Derived.Test.YtaefcbgmljaleaaRows
import Derived.Test.YtaefcbgmljaleaaProg
import Derived.WalkKit
import Derived.ProofKit
import Derived.OpenShut
import Derived.Below
import Derived.Deep.DeepHandedRow
import Derived.Deep.DeepWitnessRowRef
import Derived.SizedLaws
import Derived.Stop.Joined
namespace Go.Proofs.Ytaefcbgmljaleaa
theorem own : ownKnob Try.prog.godebug = none := by kernel_rfl
theorem laidOut : laidOutB Try.prog = true := by kernel_rfl
end Go.Proofs.Ytaefcbgmljaleaa
