/-
  NARROWER THAN 'FOR EVERY INPUT', by the rows' own cells (each row's printed sentence says how): StrandReads: laid · StrandPower: laid · StrandCleans: laid · StrandReadsOn: laid · StrandCuts: laid · StrandDrops: laid · StrandResets: laid · StrandPuts: laid.
  DERIVED. THE GIVEN ROWS OF THIS SEAT. 8 by the template 'for every input the law returns true; each argument reads behind the call as it read before'; 0 by the template 'total and deterministic' (their statements: YtdaoeplblkfapaaGreatDoorTotals.lean).
  GIVEN WITH THE SEED: the statements are not yours to turn. If you find one false, say at which input.
  Laid BY PROGRAM, IN A SANDBOX (cutbox-rows.mjs): the forced cells as the released guide's own fill.sh prints them over the translation 615c344826d50ca9… (all of the seat's roots in one cut). By AI agents, Wed Nov 11 2026. No macro, syntax, notation, axiom, sorry.
-/
import Derived.Test.YtdaoeplblkfapaaGreatDoorChecked
import GoSem.Claim
import GoSem.ClaimJoined
import GoSem.ClaimMapViews
import Derived.JoinedTies
import Derived.KernelRfl
namespace Go.Proofs.YtdaoeplblkfapaaGreatDoor
/- THE CELL 'sum', in the pinned program and in every row, IS THE sha256 OF THE DUMP (.gsa) THAT YtdaoeplblkfapaaGreatDoorProg.lean LOADS. Nothing in Lean hashes anything: it is a label: what it is worth is what the hold of that sum in a sandbox is worth. -/
noncomputable def Tryz.pinned : Pinned := { name := "ytdaoeplblkfapaagreatdoor", sum := "615c344826d50ca9717f1f70d5a5fb20fe30318f41267a2ea461f0b9d41eac17", checked := Tryz.checked }
namespace Rows
def none {H : Type} : Left H := { results := [], args := [] }

/- WHAT THE LISTED PACKAGE-LEVEL VARIABLES READ AS WHEN THE CALL BEGINS. Each datum BY PROGRAM (the guide's laid-datum.mjs) off the statement by which the dump's own 'gosem.cut.vars' lays the variable. In a bare row this is a premise. The card (YtdaoeplblkfapaaGreatDoorCards.lean) ties it to the program's text. -/
def laid_math_bits_deBruijn32tab {H : Type} : DataW H := .agg [.lit (.int .u8 0), .lit (.int .u8 1), .lit (.int .u8 28), .lit (.int .u8 2), .lit (.int .u8 29), .lit (.int .u8 14), .lit (.int .u8 24), .lit (.int .u8 3), .lit (.int .u8 30), .lit (.int .u8 22), .lit (.int .u8 20), .lit (.int .u8 15), .lit (.int .u8 25), .lit (.int .u8 17), .lit (.int .u8 4), .lit (.int .u8 8), .lit (.int .u8 31), .lit (.int .u8 27), .lit (.int .u8 13), .lit (.int .u8 23), .lit (.int .u8 21), .lit (.int .u8 19), .lit (.int .u8 16), .lit (.int .u8 7), .lit (.int .u8 26), .lit (.int .u8 12), .lit (.int .u8 18), .lit (.int .u8 6), .lit (.int .u8 11), .lit (.int .u8 5), .lit (.int .u8 10), .lit (.int .u8 9)]
def laid_math_bits_deBruijn64tab {H : Type} : DataW H := .agg [.lit (.int .u8 0), .lit (.int .u8 1), .lit (.int .u8 56), .lit (.int .u8 2), .lit (.int .u8 57), .lit (.int .u8 49), .lit (.int .u8 28), .lit (.int .u8 3), .lit (.int .u8 61), .lit (.int .u8 58), .lit (.int .u8 42), .lit (.int .u8 50), .lit (.int .u8 38), .lit (.int .u8 29), .lit (.int .u8 17), .lit (.int .u8 4), .lit (.int .u8 62), .lit (.int .u8 47), .lit (.int .u8 59), .lit (.int .u8 36), .lit (.int .u8 45), .lit (.int .u8 43), .lit (.int .u8 51), .lit (.int .u8 22), .lit (.int .u8 53), .lit (.int .u8 39), .lit (.int .u8 33), .lit (.int .u8 30), .lit (.int .u8 24), .lit (.int .u8 18), .lit (.int .u8 12), .lit (.int .u8 5), .lit (.int .u8 63), .lit (.int .u8 55), .lit (.int .u8 48), .lit (.int .u8 27), .lit (.int .u8 60), .lit (.int .u8 41), .lit (.int .u8 37), .lit (.int .u8 16), .lit (.int .u8 46), .lit (.int .u8 35), .lit (.int .u8 44), .lit (.int .u8 21), .lit (.int .u8 52), .lit (.int .u8 32), .lit (.int .u8 23), .lit (.int .u8 11), .lit (.int .u8 54), .lit (.int .u8 26), .lit (.int .u8 40), .lit (.int .u8 15), .lit (.int .u8 34), .lit (.int .u8 20), .lit (.int .u8 31), .lit (.int .u8 10), .lit (.int .u8 25), .lit (.int .u8 14), .lit (.int .u8 19), .lit (.int .u8 9), .lit (.int .u8 13), .lit (.int .u8 8), .lit (.int .u8 7), .lit (.int .u8 6)]
def laid_internal_strconv_uint64pow10 {H : Type} : DataW H := .agg [.lit (.int .u64 1), .lit (.int .u64 10), .lit (.int .u64 100), .lit (.int .u64 1000), .lit (.int .u64 10000), .lit (.int .u64 100000), .lit (.int .u64 1000000), .lit (.int .u64 10000000), .lit (.int .u64 100000000), .lit (.int .u64 1000000000), .lit (.int .u64 10000000000), .lit (.int .u64 100000000000), .lit (.int .u64 1000000000000), .lit (.int .u64 10000000000000), .lit (.int .u64 100000000000000), .lit (.int .u64 1000000000000000), .lit (.int .u64 10000000000000000), .lit (.int .u64 100000000000000000), .lit (.int .u64 1000000000000000000), .lit (.int .u64 10000000000000000000)]
def laid_strconv_ErrRange {H : Type} : DataW H := .iface "*errors.errorString" (.ptr (.agg [.lit (.string [118, 97, 108, 117, 101, 32, 111, 117, 116, 32, 111, 102, 32, 114, 97, 110, 103, 101])]))
def laid_strconv_ErrSyntax {H : Type} : DataW H := .iface "*errors.errorString" (.ptr (.agg [.lit (.string [105, 110, 118, 97, 108, 105, 100, 32, 115, 121, 110, 116, 97, 120])]))
def laid_heliograph_crate_least {H : Type} : DataW H := .agg [.lit (.int .i64 0), .lit (.int .i64 1), .lit (.int .i64 0), .lit (.int .i64 0), .lit (.int .i64 0)]
def laid_heliograph_crate_greatest {H : Type} : DataW H := .agg [.lit (.int .i64 1099511627776), .lit (.int .i64 8), .lit (.int .i64 1099511627776), .lit (.int .i64 1099511627776), .lit (.int .i64 1099511627776)]

/-- 'heliographlaw07.StrandReads': WHATEVER THE INPUT: true; the input reads as it did. -/
def strandReadsSpec : ChangeSpec := { name := "strandReads", fn := fun _ => fun
  | [d1, d2] => { results := [.lit (.bool true)], args := [d1, d2] }
  | _ => none }
def strandReadsRow : OpenClaim := { program := "ytdaoeplblkfapaagreatdoor", sum := "615c344826d50ca9717f1f70d5a5fb20fe30318f41267a2ea461f0b9d41eac17", func := "heliograph/heliographlaw07.StrandReads", spec := "strandReads", inPlace := ["internal/abi.NoEscape", "internal/bytealg.MakeNoZero", "internal/bytealg.IndexByteString", "internal/bytealg.IndexString"], unfollowed := true, recurses := true, named := ["strconv.ErrSyntax", "strconv.ErrRange", "internal/strconv.uint64pow10", "math/bits.deBruijn32tab", "math/bits.deBruijn64tab", "internal/bytealg.MaxLen", "heliograph/crate.least", "heliograph/crate.greatest"], apart := false, laid := [("math/bits.deBruijn32tab", laid_math_bits_deBruijn32tab), ("math/bits.deBruijn64tab", laid_math_bits_deBruijn64tab), ("internal/strconv.uint64pow10", laid_internal_strconv_uint64pow10), ("strconv.ErrRange", laid_strconv_ErrRange), ("strconv.ErrSyntax", laid_strconv_ErrSyntax), ("heliograph/crate.least", laid_heliograph_crate_least), ("heliograph/crate.greatest", laid_heliograph_crate_greatest)] }
def StrandReadsSaid : Prop := strandReadsRow.holds Tryz.pinned (OpenSpec.ofChange strandReadsSpec)

/-- ITS FALSE NEIGHBOUR: 'it returns false'. Refute it at one input. -/
def strandReadsWrong : ChangeSpec := { name := "strandReads", fn := fun _ => fun
  | [d1, d2] => { results := [.lit (.bool false)], args := [d1, d2] }
  | _ => none }
def StrandReadsWrongFalsely : Prop := strandReadsRow.holds Tryz.pinned (OpenSpec.ofChange strandReadsWrong)

/-- 'heliographlaw07.StrandPower': WHATEVER THE INPUT: true; the input reads as it did. -/
def strandPowerSpec : ChangeSpec := { name := "strandPower", fn := fun _ => fun
  | [d1, d2, d3] => { results := [.lit (.bool true)], args := [d1, d2, d3] }
  | _ => none }
def strandPowerRow : OpenClaim := { program := "ytdaoeplblkfapaagreatdoor", sum := "615c344826d50ca9717f1f70d5a5fb20fe30318f41267a2ea461f0b9d41eac17", func := "heliograph/heliographlaw07.StrandPower", spec := "strandPower", inPlace := ["internal/abi.NoEscape", "internal/bytealg.MakeNoZero", "internal/bytealg.IndexByteString", "internal/bytealg.IndexString"], unfollowed := true, recurses := true, named := ["strconv.ErrSyntax", "strconv.ErrRange", "internal/strconv.uint64pow10", "math/bits.deBruijn32tab", "math/bits.deBruijn64tab", "internal/bytealg.MaxLen", "heliograph/crate.least", "heliograph/crate.greatest"], apart := false, laid := [("math/bits.deBruijn32tab", laid_math_bits_deBruijn32tab), ("math/bits.deBruijn64tab", laid_math_bits_deBruijn64tab), ("internal/strconv.uint64pow10", laid_internal_strconv_uint64pow10), ("strconv.ErrRange", laid_strconv_ErrRange), ("strconv.ErrSyntax", laid_strconv_ErrSyntax), ("heliograph/crate.least", laid_heliograph_crate_least), ("heliograph/crate.greatest", laid_heliograph_crate_greatest)] }
def StrandPowerSaid : Prop := strandPowerRow.holds Tryz.pinned (OpenSpec.ofChange strandPowerSpec)

/-- ITS FALSE NEIGHBOUR: 'it returns false'. Refute it at one input. -/
def strandPowerWrong : ChangeSpec := { name := "strandPower", fn := fun _ => fun
  | [d1, d2, d3] => { results := [.lit (.bool false)], args := [d1, d2, d3] }
  | _ => none }
def StrandPowerWrongFalsely : Prop := strandPowerRow.holds Tryz.pinned (OpenSpec.ofChange strandPowerWrong)

/-- 'heliographlaw07.StrandCleans': WHATEVER THE INPUT: true; the input reads as it did. -/
def strandCleansSpec : ChangeSpec := { name := "strandCleans", fn := fun _ => fun
  | [d1, d2, d3] => { results := [.lit (.bool true)], args := [d1, d2, d3] }
  | _ => none }
def strandCleansRow : OpenClaim := { program := "ytdaoeplblkfapaagreatdoor", sum := "615c344826d50ca9717f1f70d5a5fb20fe30318f41267a2ea461f0b9d41eac17", func := "heliograph/heliographlaw07.StrandCleans", spec := "strandCleans", inPlace := ["internal/abi.NoEscape", "internal/bytealg.MakeNoZero", "internal/bytealg.IndexByteString", "internal/bytealg.IndexString"], unfollowed := true, recurses := true, named := ["strconv.ErrSyntax", "strconv.ErrRange", "internal/strconv.uint64pow10", "math/bits.deBruijn32tab", "math/bits.deBruijn64tab", "internal/bytealg.MaxLen", "heliograph/crate.least", "heliograph/crate.greatest"], apart := false, laid := [("math/bits.deBruijn32tab", laid_math_bits_deBruijn32tab), ("math/bits.deBruijn64tab", laid_math_bits_deBruijn64tab), ("internal/strconv.uint64pow10", laid_internal_strconv_uint64pow10), ("strconv.ErrRange", laid_strconv_ErrRange), ("strconv.ErrSyntax", laid_strconv_ErrSyntax), ("heliograph/crate.least", laid_heliograph_crate_least), ("heliograph/crate.greatest", laid_heliograph_crate_greatest)] }
def StrandCleansSaid : Prop := strandCleansRow.holds Tryz.pinned (OpenSpec.ofChange strandCleansSpec)

/-- ITS FALSE NEIGHBOUR: 'it returns false'. Refute it at one input. -/
def strandCleansWrong : ChangeSpec := { name := "strandCleans", fn := fun _ => fun
  | [d1, d2, d3] => { results := [.lit (.bool false)], args := [d1, d2, d3] }
  | _ => none }
def StrandCleansWrongFalsely : Prop := strandCleansRow.holds Tryz.pinned (OpenSpec.ofChange strandCleansWrong)

/-- 'heliographlaw07.StrandReadsOn': WHATEVER THE INPUT: true; the input reads as it did. -/
def strandReadsOnSpec : ChangeSpec := { name := "strandReadsOn", fn := fun _ => fun
  | [d1, d2, d3] => { results := [.lit (.bool true)], args := [d1, d2, d3] }
  | _ => none }
def strandReadsOnRow : OpenClaim := { program := "ytdaoeplblkfapaagreatdoor", sum := "615c344826d50ca9717f1f70d5a5fb20fe30318f41267a2ea461f0b9d41eac17", func := "heliograph/heliographlaw07.StrandReadsOn", spec := "strandReadsOn", inPlace := ["internal/abi.NoEscape", "internal/bytealg.MakeNoZero", "internal/bytealg.IndexByteString", "internal/bytealg.IndexString"], unfollowed := true, recurses := true, named := ["strconv.ErrSyntax", "strconv.ErrRange", "internal/strconv.uint64pow10", "math/bits.deBruijn32tab", "math/bits.deBruijn64tab", "internal/bytealg.MaxLen", "heliograph/crate.least", "heliograph/crate.greatest"], apart := false, laid := [("math/bits.deBruijn32tab", laid_math_bits_deBruijn32tab), ("math/bits.deBruijn64tab", laid_math_bits_deBruijn64tab), ("internal/strconv.uint64pow10", laid_internal_strconv_uint64pow10), ("strconv.ErrRange", laid_strconv_ErrRange), ("strconv.ErrSyntax", laid_strconv_ErrSyntax), ("heliograph/crate.least", laid_heliograph_crate_least), ("heliograph/crate.greatest", laid_heliograph_crate_greatest)] }
def StrandReadsOnSaid : Prop := strandReadsOnRow.holds Tryz.pinned (OpenSpec.ofChange strandReadsOnSpec)

/-- ITS FALSE NEIGHBOUR: 'it returns false'. Refute it at one input. -/
def strandReadsOnWrong : ChangeSpec := { name := "strandReadsOn", fn := fun _ => fun
  | [d1, d2, d3] => { results := [.lit (.bool false)], args := [d1, d2, d3] }
  | _ => none }
def StrandReadsOnWrongFalsely : Prop := strandReadsOnRow.holds Tryz.pinned (OpenSpec.ofChange strandReadsOnWrong)

/-- 'heliographlaw07.StrandCuts': WHATEVER THE INPUT: true; the input reads as it did. -/
def strandCutsSpec : ChangeSpec := { name := "strandCuts", fn := fun _ => fun
  | [d1, d2, d3] => { results := [.lit (.bool true)], args := [d1, d2, d3] }
  | _ => none }
def strandCutsRow : OpenClaim := { program := "ytdaoeplblkfapaagreatdoor", sum := "615c344826d50ca9717f1f70d5a5fb20fe30318f41267a2ea461f0b9d41eac17", func := "heliograph/heliographlaw07.StrandCuts", spec := "strandCuts", inPlace := ["internal/abi.NoEscape", "internal/bytealg.MakeNoZero", "internal/bytealg.IndexByteString", "internal/bytealg.IndexString"], unfollowed := true, recurses := true, named := ["strconv.ErrSyntax", "strconv.ErrRange", "internal/strconv.uint64pow10", "math/bits.deBruijn32tab", "math/bits.deBruijn64tab", "internal/bytealg.MaxLen", "heliograph/crate.least", "heliograph/crate.greatest"], apart := false, laid := [("math/bits.deBruijn32tab", laid_math_bits_deBruijn32tab), ("math/bits.deBruijn64tab", laid_math_bits_deBruijn64tab), ("internal/strconv.uint64pow10", laid_internal_strconv_uint64pow10), ("strconv.ErrRange", laid_strconv_ErrRange), ("strconv.ErrSyntax", laid_strconv_ErrSyntax), ("heliograph/crate.least", laid_heliograph_crate_least), ("heliograph/crate.greatest", laid_heliograph_crate_greatest)] }
def StrandCutsSaid : Prop := strandCutsRow.holds Tryz.pinned (OpenSpec.ofChange strandCutsSpec)

/-- ITS FALSE NEIGHBOUR: 'it returns false'. Refute it at one input. -/
def strandCutsWrong : ChangeSpec := { name := "strandCuts", fn := fun _ => fun
  | [d1, d2, d3] => { results := [.lit (.bool false)], args := [d1, d2, d3] }
  | _ => none }
def StrandCutsWrongFalsely : Prop := strandCutsRow.holds Tryz.pinned (OpenSpec.ofChange strandCutsWrong)

/-- 'heliographlaw07.StrandDrops': WHATEVER THE INPUT: true; the input reads as it did. -/
def strandDropsSpec : ChangeSpec := { name := "strandDrops", fn := fun _ => fun
  | [d1, d2, d3] => { results := [.lit (.bool true)], args := [d1, d2, d3] }
  | _ => none }
def strandDropsRow : OpenClaim := { program := "ytdaoeplblkfapaagreatdoor", sum := "615c344826d50ca9717f1f70d5a5fb20fe30318f41267a2ea461f0b9d41eac17", func := "heliograph/heliographlaw07.StrandDrops", spec := "strandDrops", inPlace := ["internal/abi.NoEscape", "internal/bytealg.MakeNoZero", "internal/bytealg.IndexByteString", "internal/bytealg.IndexString"], unfollowed := true, recurses := true, named := ["strconv.ErrSyntax", "strconv.ErrRange", "internal/strconv.uint64pow10", "math/bits.deBruijn32tab", "math/bits.deBruijn64tab", "internal/bytealg.MaxLen", "heliograph/crate.least", "heliograph/crate.greatest"], apart := false, laid := [("math/bits.deBruijn32tab", laid_math_bits_deBruijn32tab), ("math/bits.deBruijn64tab", laid_math_bits_deBruijn64tab), ("internal/strconv.uint64pow10", laid_internal_strconv_uint64pow10), ("strconv.ErrRange", laid_strconv_ErrRange), ("strconv.ErrSyntax", laid_strconv_ErrSyntax), ("heliograph/crate.least", laid_heliograph_crate_least), ("heliograph/crate.greatest", laid_heliograph_crate_greatest)] }
def StrandDropsSaid : Prop := strandDropsRow.holds Tryz.pinned (OpenSpec.ofChange strandDropsSpec)

/-- ITS FALSE NEIGHBOUR: 'it returns false'. Refute it at one input. -/
def strandDropsWrong : ChangeSpec := { name := "strandDrops", fn := fun _ => fun
  | [d1, d2, d3] => { results := [.lit (.bool false)], args := [d1, d2, d3] }
  | _ => none }
def StrandDropsWrongFalsely : Prop := strandDropsRow.holds Tryz.pinned (OpenSpec.ofChange strandDropsWrong)

/-- 'heliographlaw07.StrandResets': WHATEVER THE INPUT: true; the input reads as it did. -/
def strandResetsSpec : ChangeSpec := { name := "strandResets", fn := fun _ => fun
  | [d1, d2, d3] => { results := [.lit (.bool true)], args := [d1, d2, d3] }
  | _ => none }
def strandResetsRow : OpenClaim := { program := "ytdaoeplblkfapaagreatdoor", sum := "615c344826d50ca9717f1f70d5a5fb20fe30318f41267a2ea461f0b9d41eac17", func := "heliograph/heliographlaw07.StrandResets", spec := "strandResets", inPlace := ["internal/abi.NoEscape", "internal/bytealg.MakeNoZero", "internal/bytealg.IndexByteString", "internal/bytealg.IndexString"], unfollowed := true, recurses := true, named := ["strconv.ErrSyntax", "strconv.ErrRange", "internal/strconv.uint64pow10", "math/bits.deBruijn32tab", "math/bits.deBruijn64tab", "internal/bytealg.MaxLen", "heliograph/crate.least", "heliograph/crate.greatest"], apart := false, laid := [("math/bits.deBruijn32tab", laid_math_bits_deBruijn32tab), ("math/bits.deBruijn64tab", laid_math_bits_deBruijn64tab), ("internal/strconv.uint64pow10", laid_internal_strconv_uint64pow10), ("strconv.ErrRange", laid_strconv_ErrRange), ("strconv.ErrSyntax", laid_strconv_ErrSyntax), ("heliograph/crate.least", laid_heliograph_crate_least), ("heliograph/crate.greatest", laid_heliograph_crate_greatest)] }
def StrandResetsSaid : Prop := strandResetsRow.holds Tryz.pinned (OpenSpec.ofChange strandResetsSpec)

/-- ITS FALSE NEIGHBOUR: 'it returns false'. Refute it at one input. -/
def strandResetsWrong : ChangeSpec := { name := "strandResets", fn := fun _ => fun
  | [d1, d2, d3] => { results := [.lit (.bool false)], args := [d1, d2, d3] }
  | _ => none }
def StrandResetsWrongFalsely : Prop := strandResetsRow.holds Tryz.pinned (OpenSpec.ofChange strandResetsWrong)

/-- 'heliographlaw07.StrandPuts': WHATEVER THE INPUT: true; the input reads as it did. -/
def strandPutsSpec : ChangeSpec := { name := "strandPuts", fn := fun _ => fun
  | [d1, d2, d3] => { results := [.lit (.bool true)], args := [d1, d2, d3] }
  | _ => none }
def strandPutsRow : OpenClaim := { program := "ytdaoeplblkfapaagreatdoor", sum := "615c344826d50ca9717f1f70d5a5fb20fe30318f41267a2ea461f0b9d41eac17", func := "heliograph/heliographlaw07.StrandPuts", spec := "strandPuts", inPlace := ["internal/abi.NoEscape", "internal/bytealg.MakeNoZero", "internal/bytealg.IndexByteString", "internal/bytealg.IndexString"], unfollowed := true, recurses := true, named := ["strconv.ErrSyntax", "strconv.ErrRange", "internal/strconv.uint64pow10", "math/bits.deBruijn32tab", "math/bits.deBruijn64tab", "internal/bytealg.MaxLen", "heliograph/crate.least", "heliograph/crate.greatest"], apart := false, laid := [("math/bits.deBruijn32tab", laid_math_bits_deBruijn32tab), ("math/bits.deBruijn64tab", laid_math_bits_deBruijn64tab), ("internal/strconv.uint64pow10", laid_internal_strconv_uint64pow10), ("strconv.ErrRange", laid_strconv_ErrRange), ("strconv.ErrSyntax", laid_strconv_ErrSyntax), ("heliograph/crate.least", laid_heliograph_crate_least), ("heliograph/crate.greatest", laid_heliograph_crate_greatest)] }
def StrandPutsSaid : Prop := strandPutsRow.holds Tryz.pinned (OpenSpec.ofChange strandPutsSpec)

/-- ITS FALSE NEIGHBOUR: 'it returns false'. Refute it at one input. -/
def strandPutsWrong : ChangeSpec := { name := "strandPuts", fn := fun _ => fun
  | [d1, d2, d3] => { results := [.lit (.bool false)], args := [d1, d2, d3] }
  | _ => none }
def StrandPutsWrongFalsely : Prop := strandPutsRow.holds Tryz.pinned (OpenSpec.ofChange strandPutsWrong)

/- THE SECOND FORM. 'bulk': how many values and letters a reading holds, each counted each time it is reached (what is shared counts as often as it is met; a slice's spare places count too). A statement '..UptoSaid' is the law's where the arguments, and the package variables that the reading takes, are together of bulk at most 1048576: NARROWER than '..Said'. Prove '..Said' where nothing that the law and all that it calls make is longer than what came in: it says more and counts as full. Else prove '..UptoSaid'. A law counts once. -/
mutual
def uptoBulk {H : Type} : DataW H → Nat
  | .lit (.string bytes) => bytes.length + 1
  | .lit _ => 1
  | .nil => 1
  | .ptr d => uptoBulk d + 1
  | .slice elems spare => uptoBulkAll elems + uptoBulkAll spare + 1
  | .agg parts => uptoBulkAll parts + 1
  | .iface _ d => uptoBulk d + 1
  | .map entries => uptoBulkEntries entries + 1
  | .held _ => 1
def uptoBulkAll {H : Type} : List (DataW H) → Nat
  | [] => 0
  | d :: r => uptoBulk d + uptoBulkAll r
def uptoBulkEntries {H : Type} : List (Lit × DataW H) → Nat
  | [] => 0
  | x :: r => uptoBulkEntry x + uptoBulkEntries r
def uptoBulkEntry {H : Type} : Lit × DataW H → Nat
  | (.string bytes, d) => bytes.length + uptoBulk d + 1
  | (_, d) => uptoBulk d + 1
 end
def uptoSmall : (H : Type) → List (DataW H) → Bool := fun _ ds => decide (uptoBulkAll ds ≤ 1048576)
def OpenSpec.upto (s : _root_.Go.ChangeSpec) : _root_.Go.OpenSpec := { _root_.Go.OpenSpec.ofChange s with cond := some uptoSmall }

/-- 'heliographlaw07.StrandReads', WHERE WHAT IT READS IS OF BULK AT MOST 1048576: true; the input reads as it did. -/
def strandReadsUptoRow : OpenClaim := { program := "ytdaoeplblkfapaagreatdoor", sum := "615c344826d50ca9717f1f70d5a5fb20fe30318f41267a2ea461f0b9d41eac17", func := "heliograph/heliographlaw07.StrandReads", spec := "strandReads", inPlace := ["internal/abi.NoEscape", "internal/bytealg.MakeNoZero", "internal/bytealg.IndexByteString", "internal/bytealg.IndexString"], unfollowed := true, recurses := true, named := ["strconv.ErrSyntax", "strconv.ErrRange", "internal/strconv.uint64pow10", "math/bits.deBruijn32tab", "math/bits.deBruijn64tab", "internal/bytealg.MaxLen", "heliograph/crate.least", "heliograph/crate.greatest"], apart := false, laid := [("math/bits.deBruijn32tab", laid_math_bits_deBruijn32tab), ("math/bits.deBruijn64tab", laid_math_bits_deBruijn64tab), ("internal/strconv.uint64pow10", laid_internal_strconv_uint64pow10), ("strconv.ErrRange", laid_strconv_ErrRange), ("strconv.ErrSyntax", laid_strconv_ErrSyntax), ("heliograph/crate.least", laid_heliograph_crate_least), ("heliograph/crate.greatest", laid_heliograph_crate_greatest)], narrowed := true }
def StrandReadsUptoSaid : Prop := strandReadsUptoRow.holds Tryz.pinned (OpenSpec.upto strandReadsSpec)

/-- 'heliographlaw07.StrandPower', WHERE WHAT IT READS IS OF BULK AT MOST 1048576: true; the input reads as it did. -/
def strandPowerUptoRow : OpenClaim := { program := "ytdaoeplblkfapaagreatdoor", sum := "615c344826d50ca9717f1f70d5a5fb20fe30318f41267a2ea461f0b9d41eac17", func := "heliograph/heliographlaw07.StrandPower", spec := "strandPower", inPlace := ["internal/abi.NoEscape", "internal/bytealg.MakeNoZero", "internal/bytealg.IndexByteString", "internal/bytealg.IndexString"], unfollowed := true, recurses := true, named := ["strconv.ErrSyntax", "strconv.ErrRange", "internal/strconv.uint64pow10", "math/bits.deBruijn32tab", "math/bits.deBruijn64tab", "internal/bytealg.MaxLen", "heliograph/crate.least", "heliograph/crate.greatest"], apart := false, laid := [("math/bits.deBruijn32tab", laid_math_bits_deBruijn32tab), ("math/bits.deBruijn64tab", laid_math_bits_deBruijn64tab), ("internal/strconv.uint64pow10", laid_internal_strconv_uint64pow10), ("strconv.ErrRange", laid_strconv_ErrRange), ("strconv.ErrSyntax", laid_strconv_ErrSyntax), ("heliograph/crate.least", laid_heliograph_crate_least), ("heliograph/crate.greatest", laid_heliograph_crate_greatest)], narrowed := true }
def StrandPowerUptoSaid : Prop := strandPowerUptoRow.holds Tryz.pinned (OpenSpec.upto strandPowerSpec)

/-- 'heliographlaw07.StrandCleans', WHERE WHAT IT READS IS OF BULK AT MOST 1048576: true; the input reads as it did. -/
def strandCleansUptoRow : OpenClaim := { program := "ytdaoeplblkfapaagreatdoor", sum := "615c344826d50ca9717f1f70d5a5fb20fe30318f41267a2ea461f0b9d41eac17", func := "heliograph/heliographlaw07.StrandCleans", spec := "strandCleans", inPlace := ["internal/abi.NoEscape", "internal/bytealg.MakeNoZero", "internal/bytealg.IndexByteString", "internal/bytealg.IndexString"], unfollowed := true, recurses := true, named := ["strconv.ErrSyntax", "strconv.ErrRange", "internal/strconv.uint64pow10", "math/bits.deBruijn32tab", "math/bits.deBruijn64tab", "internal/bytealg.MaxLen", "heliograph/crate.least", "heliograph/crate.greatest"], apart := false, laid := [("math/bits.deBruijn32tab", laid_math_bits_deBruijn32tab), ("math/bits.deBruijn64tab", laid_math_bits_deBruijn64tab), ("internal/strconv.uint64pow10", laid_internal_strconv_uint64pow10), ("strconv.ErrRange", laid_strconv_ErrRange), ("strconv.ErrSyntax", laid_strconv_ErrSyntax), ("heliograph/crate.least", laid_heliograph_crate_least), ("heliograph/crate.greatest", laid_heliograph_crate_greatest)], narrowed := true }
def StrandCleansUptoSaid : Prop := strandCleansUptoRow.holds Tryz.pinned (OpenSpec.upto strandCleansSpec)

/-- 'heliographlaw07.StrandReadsOn', WHERE WHAT IT READS IS OF BULK AT MOST 1048576: true; the input reads as it did. -/
def strandReadsOnUptoRow : OpenClaim := { program := "ytdaoeplblkfapaagreatdoor", sum := "615c344826d50ca9717f1f70d5a5fb20fe30318f41267a2ea461f0b9d41eac17", func := "heliograph/heliographlaw07.StrandReadsOn", spec := "strandReadsOn", inPlace := ["internal/abi.NoEscape", "internal/bytealg.MakeNoZero", "internal/bytealg.IndexByteString", "internal/bytealg.IndexString"], unfollowed := true, recurses := true, named := ["strconv.ErrSyntax", "strconv.ErrRange", "internal/strconv.uint64pow10", "math/bits.deBruijn32tab", "math/bits.deBruijn64tab", "internal/bytealg.MaxLen", "heliograph/crate.least", "heliograph/crate.greatest"], apart := false, laid := [("math/bits.deBruijn32tab", laid_math_bits_deBruijn32tab), ("math/bits.deBruijn64tab", laid_math_bits_deBruijn64tab), ("internal/strconv.uint64pow10", laid_internal_strconv_uint64pow10), ("strconv.ErrRange", laid_strconv_ErrRange), ("strconv.ErrSyntax", laid_strconv_ErrSyntax), ("heliograph/crate.least", laid_heliograph_crate_least), ("heliograph/crate.greatest", laid_heliograph_crate_greatest)], narrowed := true }
def StrandReadsOnUptoSaid : Prop := strandReadsOnUptoRow.holds Tryz.pinned (OpenSpec.upto strandReadsOnSpec)

/-- 'heliographlaw07.StrandCuts', WHERE WHAT IT READS IS OF BULK AT MOST 1048576: true; the input reads as it did. -/
def strandCutsUptoRow : OpenClaim := { program := "ytdaoeplblkfapaagreatdoor", sum := "615c344826d50ca9717f1f70d5a5fb20fe30318f41267a2ea461f0b9d41eac17", func := "heliograph/heliographlaw07.StrandCuts", spec := "strandCuts", inPlace := ["internal/abi.NoEscape", "internal/bytealg.MakeNoZero", "internal/bytealg.IndexByteString", "internal/bytealg.IndexString"], unfollowed := true, recurses := true, named := ["strconv.ErrSyntax", "strconv.ErrRange", "internal/strconv.uint64pow10", "math/bits.deBruijn32tab", "math/bits.deBruijn64tab", "internal/bytealg.MaxLen", "heliograph/crate.least", "heliograph/crate.greatest"], apart := false, laid := [("math/bits.deBruijn32tab", laid_math_bits_deBruijn32tab), ("math/bits.deBruijn64tab", laid_math_bits_deBruijn64tab), ("internal/strconv.uint64pow10", laid_internal_strconv_uint64pow10), ("strconv.ErrRange", laid_strconv_ErrRange), ("strconv.ErrSyntax", laid_strconv_ErrSyntax), ("heliograph/crate.least", laid_heliograph_crate_least), ("heliograph/crate.greatest", laid_heliograph_crate_greatest)], narrowed := true }
def StrandCutsUptoSaid : Prop := strandCutsUptoRow.holds Tryz.pinned (OpenSpec.upto strandCutsSpec)

/-- 'heliographlaw07.StrandDrops', WHERE WHAT IT READS IS OF BULK AT MOST 1048576: true; the input reads as it did. -/
def strandDropsUptoRow : OpenClaim := { program := "ytdaoeplblkfapaagreatdoor", sum := "615c344826d50ca9717f1f70d5a5fb20fe30318f41267a2ea461f0b9d41eac17", func := "heliograph/heliographlaw07.StrandDrops", spec := "strandDrops", inPlace := ["internal/abi.NoEscape", "internal/bytealg.MakeNoZero", "internal/bytealg.IndexByteString", "internal/bytealg.IndexString"], unfollowed := true, recurses := true, named := ["strconv.ErrSyntax", "strconv.ErrRange", "internal/strconv.uint64pow10", "math/bits.deBruijn32tab", "math/bits.deBruijn64tab", "internal/bytealg.MaxLen", "heliograph/crate.least", "heliograph/crate.greatest"], apart := false, laid := [("math/bits.deBruijn32tab", laid_math_bits_deBruijn32tab), ("math/bits.deBruijn64tab", laid_math_bits_deBruijn64tab), ("internal/strconv.uint64pow10", laid_internal_strconv_uint64pow10), ("strconv.ErrRange", laid_strconv_ErrRange), ("strconv.ErrSyntax", laid_strconv_ErrSyntax), ("heliograph/crate.least", laid_heliograph_crate_least), ("heliograph/crate.greatest", laid_heliograph_crate_greatest)], narrowed := true }
def StrandDropsUptoSaid : Prop := strandDropsUptoRow.holds Tryz.pinned (OpenSpec.upto strandDropsSpec)

/-- 'heliographlaw07.StrandResets', WHERE WHAT IT READS IS OF BULK AT MOST 1048576: true; the input reads as it did. -/
def strandResetsUptoRow : OpenClaim := { program := "ytdaoeplblkfapaagreatdoor", sum := "615c344826d50ca9717f1f70d5a5fb20fe30318f41267a2ea461f0b9d41eac17", func := "heliograph/heliographlaw07.StrandResets", spec := "strandResets", inPlace := ["internal/abi.NoEscape", "internal/bytealg.MakeNoZero", "internal/bytealg.IndexByteString", "internal/bytealg.IndexString"], unfollowed := true, recurses := true, named := ["strconv.ErrSyntax", "strconv.ErrRange", "internal/strconv.uint64pow10", "math/bits.deBruijn32tab", "math/bits.deBruijn64tab", "internal/bytealg.MaxLen", "heliograph/crate.least", "heliograph/crate.greatest"], apart := false, laid := [("math/bits.deBruijn32tab", laid_math_bits_deBruijn32tab), ("math/bits.deBruijn64tab", laid_math_bits_deBruijn64tab), ("internal/strconv.uint64pow10", laid_internal_strconv_uint64pow10), ("strconv.ErrRange", laid_strconv_ErrRange), ("strconv.ErrSyntax", laid_strconv_ErrSyntax), ("heliograph/crate.least", laid_heliograph_crate_least), ("heliograph/crate.greatest", laid_heliograph_crate_greatest)], narrowed := true }
def StrandResetsUptoSaid : Prop := strandResetsUptoRow.holds Tryz.pinned (OpenSpec.upto strandResetsSpec)

/-- 'heliographlaw07.StrandPuts', WHERE WHAT IT READS IS OF BULK AT MOST 1048576: true; the input reads as it did. -/
def strandPutsUptoRow : OpenClaim := { program := "ytdaoeplblkfapaagreatdoor", sum := "615c344826d50ca9717f1f70d5a5fb20fe30318f41267a2ea461f0b9d41eac17", func := "heliograph/heliographlaw07.StrandPuts", spec := "strandPuts", inPlace := ["internal/abi.NoEscape", "internal/bytealg.MakeNoZero", "internal/bytealg.IndexByteString", "internal/bytealg.IndexString"], unfollowed := true, recurses := true, named := ["strconv.ErrSyntax", "strconv.ErrRange", "internal/strconv.uint64pow10", "math/bits.deBruijn32tab", "math/bits.deBruijn64tab", "internal/bytealg.MaxLen", "heliograph/crate.least", "heliograph/crate.greatest"], apart := false, laid := [("math/bits.deBruijn32tab", laid_math_bits_deBruijn32tab), ("math/bits.deBruijn64tab", laid_math_bits_deBruijn64tab), ("internal/strconv.uint64pow10", laid_internal_strconv_uint64pow10), ("strconv.ErrRange", laid_strconv_ErrRange), ("strconv.ErrSyntax", laid_strconv_ErrSyntax), ("heliograph/crate.least", laid_heliograph_crate_least), ("heliograph/crate.greatest", laid_heliograph_crate_greatest)], narrowed := true }
def StrandPutsUptoSaid : Prop := strandPutsUptoRow.holds Tryz.pinned (OpenSpec.upto strandPutsSpec)

end Rows
end Go.Proofs.YtdaoeplblkfapaaGreatDoor
