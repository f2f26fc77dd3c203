/- THE CONTRACTS OF strings.Cut at one byte and of bead.decimal, at every string. -/
import Derived.Test.YtdkngocinimjdaaDoorBase
import Derived.Test.YtdkngocinimjdaaDoorPlain
import Derived.Test.YtdkngocinimjdaaDoorShelf
import Derived.WalkKit
import Derived.WalkSpells
import Derived.WalkLawsBesides
import Derived.Handy
import Derived.Outline
import Derived.Lib.IndexBytes
import Derived.Lib.ItoaLen
import Derived.Lib.CutLaws
import Derived.ScopeJumps
namespace Go.Proofs.YtdkngocinimjdaaDoor
open Go.RowKit

/-- strconv.Itoa. -/
theorem itoa_any (n : Int) (hn : Pl.I64 n) (w : World) (hl : Lb w) :
    Calls Tryd.prog 32 #[.int .i64 n] w fun e w' => e = .returned (.string ⟨(Lib.itoa n).toArray⟩) ∧ Below w.heap.size w w' :=
  (Tryd.strconv_Itoa n hn.1 hn.2 w hl.pow).mono fun _ _ ⟨he, k, os, hw⟩ => ⟨he, hw ▸ below_grow k os⟩

theorem ofList_eq (s : ByteArray) (l : List UInt8) (h : l = s.data.toList) : s = ⟨l.toArray⟩ := by
  obtain ⟨⟨k⟩⟩ := s
  simp at h
  rw [h]

theorem app_mk (a b : List UInt8) : (⟨a.toArray⟩ : ByteArray) ++ ⟨b.toArray⟩ = ⟨(a ++ b).toArray⟩ := by
  apply ByteArray.ext
  simp
end Go.Proofs.YtdkngocinimjdaaDoor
