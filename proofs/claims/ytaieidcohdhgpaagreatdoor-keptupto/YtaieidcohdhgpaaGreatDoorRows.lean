/-
  NARROWER THAN 'FOR EVERY INPUT', by the rows' own cells (each row's printed sentence says how): Files: laid · Kept: laid · Dumps: laid · Plays: laid · Unmade: laid · All: laid · Long: laid · Failed: laid · Spoilt: laid · Cleaned: laid · Told: laid.
  DERIVED. THE GIVEN ROWS OF THIS SEAT. 11 by the template 'for every input the law returns true; each argument reads behind the call as it read before'; 0 by the template 'total and deterministic' (their statements: YtaieidcohdhgpaaGreatDoorTotals.lean).
  GIVEN WITH THE SEED: the statements are not yours to turn. If you find one false, say at which input.
  Laid BY PROGRAM, IN A SANDBOX (cutbox-rows.mjs): the forced cells as the released guide's own fill.sh prints them over the translation d8750487951a0875… (all of the seat's roots in one cut). By AI agents, Wed Nov 11 2026. No macro, syntax, notation, axiom, sorry.
-/
import Derived.Test.YtaieidcohdhgpaaGreatDoorChecked
import GoSem.PinnedTables
import GoSem.Claim
import GoSem.ClaimJoined
import GoSem.ClaimMapViews
import Derived.JoinedTies
import Derived.KernelRfl
namespace Go.Proofs.YtaieidcohdhgpaaGreatDoor
/- THE CELL 'sum', in the pinned program and in every row, IS THE sha256 OF THE DUMP (.gsa) THAT YtaieidcohdhgpaaGreatDoorProg.lean LOADS. Nothing in Lean hashes anything: it is a label: what it is worth is what the hold of that sum in a sandbox is worth. -/
noncomputable def Tryz.pinned : Pinned := { name := "ytaieidcohdhgpaagreatdoor", sum := "d8750487951a0875c9a44bb545f60231e0be8a070c1af76f922bf4338e39c47c", checked := Tryz.checked }
namespace Rows
def none {H : Type} : Left H := { results := [], args := [] }

/- WHAT THE LISTED PACKAGE-LEVEL VARIABLES READ AS WHEN THE CALL BEGINS. Each datum BY PROGRAM (the guide's laid-datum.mjs) off the statement by which the dump's own 'gosem.cut.vars' lays the variable. In a bare row this is a premise. The card (YtaieidcohdhgpaaGreatDoorCards.lean) ties it to the program's text. -/
def laid_math_bits_deBruijn32tab {H : Type} : DataW H := .agg [.lit (.int .u8 0), .lit (.int .u8 1), .lit (.int .u8 28), .lit (.int .u8 2), .lit (.int .u8 29), .lit (.int .u8 14), .lit (.int .u8 24), .lit (.int .u8 3), .lit (.int .u8 30), .lit (.int .u8 22), .lit (.int .u8 20), .lit (.int .u8 15), .lit (.int .u8 25), .lit (.int .u8 17), .lit (.int .u8 4), .lit (.int .u8 8), .lit (.int .u8 31), .lit (.int .u8 27), .lit (.int .u8 13), .lit (.int .u8 23), .lit (.int .u8 21), .lit (.int .u8 19), .lit (.int .u8 16), .lit (.int .u8 7), .lit (.int .u8 26), .lit (.int .u8 12), .lit (.int .u8 18), .lit (.int .u8 6), .lit (.int .u8 11), .lit (.int .u8 5), .lit (.int .u8 10), .lit (.int .u8 9)]
def laid_math_bits_deBruijn64tab {H : Type} : DataW H := .agg [.lit (.int .u8 0), .lit (.int .u8 1), .lit (.int .u8 56), .lit (.int .u8 2), .lit (.int .u8 57), .lit (.int .u8 49), .lit (.int .u8 28), .lit (.int .u8 3), .lit (.int .u8 61), .lit (.int .u8 58), .lit (.int .u8 42), .lit (.int .u8 50), .lit (.int .u8 38), .lit (.int .u8 29), .lit (.int .u8 17), .lit (.int .u8 4), .lit (.int .u8 62), .lit (.int .u8 47), .lit (.int .u8 59), .lit (.int .u8 36), .lit (.int .u8 45), .lit (.int .u8 43), .lit (.int .u8 51), .lit (.int .u8 22), .lit (.int .u8 53), .lit (.int .u8 39), .lit (.int .u8 33), .lit (.int .u8 30), .lit (.int .u8 24), .lit (.int .u8 18), .lit (.int .u8 12), .lit (.int .u8 5), .lit (.int .u8 63), .lit (.int .u8 55), .lit (.int .u8 48), .lit (.int .u8 27), .lit (.int .u8 60), .lit (.int .u8 41), .lit (.int .u8 37), .lit (.int .u8 16), .lit (.int .u8 46), .lit (.int .u8 35), .lit (.int .u8 44), .lit (.int .u8 21), .lit (.int .u8 52), .lit (.int .u8 32), .lit (.int .u8 23), .lit (.int .u8 11), .lit (.int .u8 54), .lit (.int .u8 26), .lit (.int .u8 40), .lit (.int .u8 15), .lit (.int .u8 34), .lit (.int .u8 20), .lit (.int .u8 31), .lit (.int .u8 10), .lit (.int .u8 25), .lit (.int .u8 14), .lit (.int .u8 19), .lit (.int .u8 9), .lit (.int .u8 13), .lit (.int .u8 8), .lit (.int .u8 7), .lit (.int .u8 6)]
def laid_internal_strconv_uint64pow10 {H : Type} : DataW H := .agg [.lit (.int .u64 1), .lit (.int .u64 10), .lit (.int .u64 100), .lit (.int .u64 1000), .lit (.int .u64 10000), .lit (.int .u64 100000), .lit (.int .u64 1000000), .lit (.int .u64 10000000), .lit (.int .u64 100000000), .lit (.int .u64 1000000000), .lit (.int .u64 10000000000), .lit (.int .u64 100000000000), .lit (.int .u64 1000000000000), .lit (.int .u64 10000000000000), .lit (.int .u64 100000000000000), .lit (.int .u64 1000000000000000), .lit (.int .u64 10000000000000000), .lit (.int .u64 100000000000000000), .lit (.int .u64 1000000000000000000), .lit (.int .u64 10000000000000000000)]
def laid_unicode_utf8_acceptRanges {H : Type} : DataW H := .agg [.agg [.lit (.int .u8 128), .lit (.int .u8 191)], .agg [.lit (.int .u8 160), .lit (.int .u8 191)], .agg [.lit (.int .u8 128), .lit (.int .u8 159)], .agg [.lit (.int .u8 144), .lit (.int .u8 191)], .agg [.lit (.int .u8 128), .lit (.int .u8 143)], .agg [.lit (.int .u8 0), .lit (.int .u8 0)], .agg [.lit (.int .u8 0), .lit (.int .u8 0)], .agg [.lit (.int .u8 0), .lit (.int .u8 0)], .agg [.lit (.int .u8 0), .lit (.int .u8 0)], .agg [.lit (.int .u8 0), .lit (.int .u8 0)], .agg [.lit (.int .u8 0), .lit (.int .u8 0)], .agg [.lit (.int .u8 0), .lit (.int .u8 0)], .agg [.lit (.int .u8 0), .lit (.int .u8 0)], .agg [.lit (.int .u8 0), .lit (.int .u8 0)], .agg [.lit (.int .u8 0), .lit (.int .u8 0)], .agg [.lit (.int .u8 0), .lit (.int .u8 0)]]
def laid_strconv_ErrRange {H : Type} : DataW H := .iface "*errors.errorString" (.ptr (.agg [.lit (.string [118, 97, 108, 117, 101, 32, 111, 117, 116, 32, 111, 102, 32, 114, 97, 110, 103, 101])]))
def laid_strconv_ErrSyntax {H : Type} : DataW H := .iface "*errors.errorString" (.ptr (.agg [.lit (.string [105, 110, 118, 97, 108, 105, 100, 32, 115, 121, 110, 116, 97, 120])]))
/-- One of Go's own tables, pinned by name: the form's constant. -/
def laid_unicode_utf8_first : DataW Unit := Go.Pinned.utf8First

/-- 'siltlaw.Files': WHATEVER THE INPUT: true; the input reads as it did. -/
def filesSpec : ChangeSpec := { name := "files", fn := fun _ => fun
  | [d] => { results := [.lit (.bool true)], args := [d] }
  | _ => none }
def filesRow : OpenClaim := { program := "ytaieidcohdhgpaagreatdoor", sum := "d8750487951a0875c9a44bb545f60231e0be8a070c1af76f922bf4338e39c47c", func := "silt/siltlaw.Files", spec := "files", inPlace := ["slices.overlaps[silt/ordered.pair[silt/store.role, int]]", "internal/bytealg.CountString", "internal/bytealg.IndexByteString", "internal/bytealg.IndexString", "slices.overlaps[silt/ordered.pair[string, silt/tree.entry]]", "slices.overlaps[silt/ordered.pair[int, silt/tree.file]]", "internal/abi.NoEscape", "internal/bytealg.MakeNoZero"], unfollowed := true, recurses := true, named := ["unicode/utf8.first", "unicode/utf8.acceptRanges", "internal/bytealg.MaxLen", "internal/strconv.uint64pow10", "math/bits.deBruijn32tab", "math/bits.deBruijn64tab", "strconv.ErrSyntax", "strconv.ErrRange"], apart := false, laid := [("math/bits.deBruijn32tab", laid_math_bits_deBruijn32tab), ("math/bits.deBruijn64tab", laid_math_bits_deBruijn64tab), ("internal/strconv.uint64pow10", laid_internal_strconv_uint64pow10), ("unicode/utf8.acceptRanges", laid_unicode_utf8_acceptRanges), ("strconv.ErrRange", laid_strconv_ErrRange), ("strconv.ErrSyntax", laid_strconv_ErrSyntax), ("unicode/utf8.first", laid_unicode_utf8_first)] }
def FilesSaid : Prop := filesRow.holds Tryz.pinned (OpenSpec.ofChange filesSpec)

/-- ITS FALSE NEIGHBOUR: 'it returns false'. Refute it at one input. -/
def filesWrong : ChangeSpec := { name := "files", fn := fun _ => fun
  | [d] => { results := [.lit (.bool false)], args := [d] }
  | _ => none }
def FilesWrongFalsely : Prop := filesRow.holds Tryz.pinned (OpenSpec.ofChange filesWrong)

/-- 'siltlaw.Kept': WHATEVER THE INPUT: true; the input reads as it did. -/
def keptSpec : ChangeSpec := { name := "kept", fn := fun _ => fun
  | [d] => { results := [.lit (.bool true)], args := [d] }
  | _ => none }
def keptRow : OpenClaim := { program := "ytaieidcohdhgpaagreatdoor", sum := "d8750487951a0875c9a44bb545f60231e0be8a070c1af76f922bf4338e39c47c", func := "silt/siltlaw.Kept", spec := "kept", inPlace := ["slices.overlaps[silt/ordered.pair[silt/store.role, int]]", "internal/bytealg.CountString", "internal/bytealg.IndexByteString", "internal/bytealg.IndexString", "slices.overlaps[silt/ordered.pair[string, silt/tree.entry]]", "slices.overlaps[silt/ordered.pair[int, silt/tree.file]]", "internal/abi.NoEscape", "internal/bytealg.MakeNoZero"], unfollowed := true, recurses := true, named := ["unicode/utf8.first", "unicode/utf8.acceptRanges", "internal/bytealg.MaxLen", "internal/strconv.uint64pow10", "math/bits.deBruijn32tab", "math/bits.deBruijn64tab", "strconv.ErrSyntax", "strconv.ErrRange"], apart := false, laid := [("math/bits.deBruijn32tab", laid_math_bits_deBruijn32tab), ("math/bits.deBruijn64tab", laid_math_bits_deBruijn64tab), ("internal/strconv.uint64pow10", laid_internal_strconv_uint64pow10), ("unicode/utf8.acceptRanges", laid_unicode_utf8_acceptRanges), ("strconv.ErrRange", laid_strconv_ErrRange), ("strconv.ErrSyntax", laid_strconv_ErrSyntax), ("unicode/utf8.first", laid_unicode_utf8_first)] }
def KeptSaid : Prop := keptRow.holds Tryz.pinned (OpenSpec.ofChange keptSpec)

/-- ITS FALSE NEIGHBOUR: 'it returns false'. Refute it at one input. -/
def keptWrong : ChangeSpec := { name := "kept", fn := fun _ => fun
  | [d] => { results := [.lit (.bool false)], args := [d] }
  | _ => none }
def KeptWrongFalsely : Prop := keptRow.holds Tryz.pinned (OpenSpec.ofChange keptWrong)

/-- 'siltlaw.Dumps': WHATEVER THE INPUT: true; the input reads as it did. -/
def dumpsSpec : ChangeSpec := { name := "dumps", fn := fun _ => fun
  | [d] => { results := [.lit (.bool true)], args := [d] }
  | _ => none }
def dumpsRow : OpenClaim := { program := "ytaieidcohdhgpaagreatdoor", sum := "d8750487951a0875c9a44bb545f60231e0be8a070c1af76f922bf4338e39c47c", func := "silt/siltlaw.Dumps", spec := "dumps", inPlace := ["internal/bytealg.IndexByteString", "internal/bytealg.IndexString", "internal/bytealg.CountString", "slices.overlaps[silt/ordered.pair[string, silt/tree.entry]]", "slices.overlaps[silt/ordered.pair[int, silt/tree.file]]", "internal/abi.NoEscape", "internal/bytealg.MakeNoZero", "slices.overlaps[silt/ordered.pair[silt/store.role, int]]"], unfollowed := true, recurses := true, named := ["internal/bytealg.MaxLen", "strconv.ErrSyntax", "strconv.ErrRange", "internal/strconv.uint64pow10", "math/bits.deBruijn32tab", "math/bits.deBruijn64tab", "unicode/utf8.first", "unicode/utf8.acceptRanges"], apart := false, laid := [("math/bits.deBruijn32tab", laid_math_bits_deBruijn32tab), ("math/bits.deBruijn64tab", laid_math_bits_deBruijn64tab), ("internal/strconv.uint64pow10", laid_internal_strconv_uint64pow10), ("unicode/utf8.acceptRanges", laid_unicode_utf8_acceptRanges), ("strconv.ErrRange", laid_strconv_ErrRange), ("strconv.ErrSyntax", laid_strconv_ErrSyntax), ("unicode/utf8.first", laid_unicode_utf8_first)] }
def DumpsSaid : Prop := dumpsRow.holds Tryz.pinned (OpenSpec.ofChange dumpsSpec)

/-- ITS FALSE NEIGHBOUR: 'it returns false'. Refute it at one input. -/
def dumpsWrong : ChangeSpec := { name := "dumps", fn := fun _ => fun
  | [d] => { results := [.lit (.bool false)], args := [d] }
  | _ => none }
def DumpsWrongFalsely : Prop := dumpsRow.holds Tryz.pinned (OpenSpec.ofChange dumpsWrong)

/-- 'siltlaw.Plays': WHATEVER THE INPUT: true; the input reads as it did. -/
def playsSpec : ChangeSpec := { name := "plays", fn := fun _ => fun
  | [d] => { results := [.lit (.bool true)], args := [d] }
  | _ => none }
def playsRow : OpenClaim := { program := "ytaieidcohdhgpaagreatdoor", sum := "d8750487951a0875c9a44bb545f60231e0be8a070c1af76f922bf4338e39c47c", func := "silt/siltlaw.Plays", spec := "plays", inPlace := ["slices.overlaps[silt/ordered.pair[silt/store.role, int]]", "internal/bytealg.CountString", "internal/bytealg.IndexByteString", "internal/bytealg.IndexString", "slices.overlaps[silt/ordered.pair[string, silt/tree.entry]]", "slices.overlaps[silt/ordered.pair[int, silt/tree.file]]", "internal/abi.NoEscape", "internal/bytealg.MakeNoZero"], unfollowed := true, recurses := true, named := ["unicode/utf8.first", "unicode/utf8.acceptRanges", "internal/bytealg.MaxLen", "internal/strconv.uint64pow10", "math/bits.deBruijn32tab", "math/bits.deBruijn64tab", "strconv.ErrSyntax", "strconv.ErrRange"], apart := false, laid := [("math/bits.deBruijn32tab", laid_math_bits_deBruijn32tab), ("math/bits.deBruijn64tab", laid_math_bits_deBruijn64tab), ("internal/strconv.uint64pow10", laid_internal_strconv_uint64pow10), ("unicode/utf8.acceptRanges", laid_unicode_utf8_acceptRanges), ("strconv.ErrRange", laid_strconv_ErrRange), ("strconv.ErrSyntax", laid_strconv_ErrSyntax), ("unicode/utf8.first", laid_unicode_utf8_first)] }
def PlaysSaid : Prop := playsRow.holds Tryz.pinned (OpenSpec.ofChange playsSpec)

/-- ITS FALSE NEIGHBOUR: 'it returns false'. Refute it at one input. -/
def playsWrong : ChangeSpec := { name := "plays", fn := fun _ => fun
  | [d] => { results := [.lit (.bool false)], args := [d] }
  | _ => none }
def PlaysWrongFalsely : Prop := playsRow.holds Tryz.pinned (OpenSpec.ofChange playsWrong)

/-- 'siltlaw.Unmade': WHATEVER THE INPUT: true; the input reads as it did. -/
def unmadeSpec : ChangeSpec := { name := "unmade", fn := fun _ => fun
  | [] => { results := [.lit (.bool true)], args := [] }
  | _ => none }
def unmadeRow : OpenClaim := { program := "ytaieidcohdhgpaagreatdoor", sum := "d8750487951a0875c9a44bb545f60231e0be8a070c1af76f922bf4338e39c47c", func := "silt/siltlaw.Unmade", spec := "unmade", inPlace := ["internal/bytealg.CountString", "internal/bytealg.IndexByteString", "internal/bytealg.IndexString", "slices.overlaps[silt/ordered.pair[string, silt/tree.entry]]", "slices.overlaps[silt/ordered.pair[int, silt/tree.file]]", "slices.overlaps[silt/ordered.pair[silt/store.role, int]]", "internal/abi.NoEscape", "internal/bytealg.MakeNoZero"], unfollowed := true, recurses := true, named := ["unicode/utf8.first", "unicode/utf8.acceptRanges", "internal/bytealg.MaxLen", "internal/strconv.uint64pow10", "math/bits.deBruijn32tab", "math/bits.deBruijn64tab"], apart := false, laid := [("math/bits.deBruijn32tab", laid_math_bits_deBruijn32tab), ("math/bits.deBruijn64tab", laid_math_bits_deBruijn64tab), ("internal/strconv.uint64pow10", laid_internal_strconv_uint64pow10), ("unicode/utf8.acceptRanges", laid_unicode_utf8_acceptRanges), ("unicode/utf8.first", laid_unicode_utf8_first)] }
def UnmadeSaid : Prop := unmadeRow.holds Tryz.pinned (OpenSpec.ofChange unmadeSpec)

/-- ITS FALSE NEIGHBOUR: 'it returns false'. Refute it at one input. -/
def unmadeWrong : ChangeSpec := { name := "unmade", fn := fun _ => fun
  | [] => { results := [.lit (.bool false)], args := [] }
  | _ => none }
def UnmadeWrongFalsely : Prop := unmadeRow.holds Tryz.pinned (OpenSpec.ofChange unmadeWrong)

/-- 'siltlaw.All': WHATEVER THE INPUT: true; the input reads as it did. -/
def allSpec : ChangeSpec := { name := "all", fn := fun _ => fun
  | [d] => { results := [.lit (.bool true)], args := [d] }
  | _ => none }
def allRow : OpenClaim := { program := "ytaieidcohdhgpaagreatdoor", sum := "d8750487951a0875c9a44bb545f60231e0be8a070c1af76f922bf4338e39c47c", func := "silt/siltlaw.All", spec := "all", inPlace := ["slices.overlaps[silt/ordered.pair[silt/store.role, int]]", "internal/bytealg.CountString", "internal/bytealg.IndexByteString", "internal/bytealg.IndexString", "slices.overlaps[silt/ordered.pair[string, silt/tree.entry]]", "slices.overlaps[silt/ordered.pair[int, silt/tree.file]]", "internal/abi.NoEscape", "internal/bytealg.MakeNoZero"], unfollowed := true, recurses := true, named := ["unicode/utf8.first", "unicode/utf8.acceptRanges", "internal/bytealg.MaxLen", "internal/strconv.uint64pow10", "math/bits.deBruijn32tab", "math/bits.deBruijn64tab", "strconv.ErrSyntax", "strconv.ErrRange"], apart := false, laid := [("math/bits.deBruijn32tab", laid_math_bits_deBruijn32tab), ("math/bits.deBruijn64tab", laid_math_bits_deBruijn64tab), ("internal/strconv.uint64pow10", laid_internal_strconv_uint64pow10), ("unicode/utf8.acceptRanges", laid_unicode_utf8_acceptRanges), ("strconv.ErrRange", laid_strconv_ErrRange), ("strconv.ErrSyntax", laid_strconv_ErrSyntax), ("unicode/utf8.first", laid_unicode_utf8_first)] }
def AllSaid : Prop := allRow.holds Tryz.pinned (OpenSpec.ofChange allSpec)

/-- ITS FALSE NEIGHBOUR: 'it returns false'. Refute it at one input. -/
def allWrong : ChangeSpec := { name := "all", fn := fun _ => fun
  | [d] => { results := [.lit (.bool false)], args := [d] }
  | _ => none }
def AllWrongFalsely : Prop := allRow.holds Tryz.pinned (OpenSpec.ofChange allWrong)

/-- 'siltkeep.Long': WHATEVER THE INPUT: true; the input reads as it did. -/
def longSpec : ChangeSpec := { name := "long", fn := fun _ => fun
  | [d1, d2, d3] => { results := [.lit (.bool true)], args := [d1, d2, d3] }
  | _ => none }
def longRow : OpenClaim := { program := "ytaieidcohdhgpaagreatdoor", sum := "d8750487951a0875c9a44bb545f60231e0be8a070c1af76f922bf4338e39c47c", func := "silt/siltkeep.Long", spec := "long", inPlace := ["slices.overlaps[silt/ordered.pair[silt/store.role, int]]", "internal/bytealg.CountString", "internal/bytealg.IndexByteString", "internal/bytealg.IndexString", "slices.overlaps[silt/ordered.pair[string, silt/tree.entry]]", "slices.overlaps[silt/ordered.pair[int, silt/tree.file]]"], unfollowed := true, recurses := true, named := ["unicode/utf8.first", "unicode/utf8.acceptRanges", "internal/bytealg.MaxLen"], apart := false, laid := [("unicode/utf8.acceptRanges", laid_unicode_utf8_acceptRanges), ("unicode/utf8.first", laid_unicode_utf8_first)] }
def LongSaid : Prop := longRow.holds Tryz.pinned (OpenSpec.ofChange longSpec)

/-- ITS FALSE NEIGHBOUR: 'it returns false'. Refute it at one input. -/
def longWrong : ChangeSpec := { name := "long", fn := fun _ => fun
  | [d1, d2, d3] => { results := [.lit (.bool false)], args := [d1, d2, d3] }
  | _ => none }
def LongWrongFalsely : Prop := longRow.holds Tryz.pinned (OpenSpec.ofChange longWrong)

/-- 'siltkeep.Failed': WHATEVER THE INPUT: true; the input reads as it did. -/
def failedSpec : ChangeSpec := { name := "failed", fn := fun _ => fun
  | [d1, d2, d3, d4] => { results := [.lit (.bool true)], args := [d1, d2, d3, d4] }
  | _ => none }
def failedRow : OpenClaim := { program := "ytaieidcohdhgpaagreatdoor", sum := "d8750487951a0875c9a44bb545f60231e0be8a070c1af76f922bf4338e39c47c", func := "silt/siltkeep.Failed", spec := "failed", inPlace := ["slices.overlaps[silt/ordered.pair[silt/store.role, int]]", "internal/bytealg.CountString", "internal/bytealg.IndexByteString", "internal/bytealg.IndexString", "slices.overlaps[silt/ordered.pair[string, silt/tree.entry]]", "slices.overlaps[silt/ordered.pair[int, silt/tree.file]]"], unfollowed := true, recurses := true, named := ["unicode/utf8.first", "unicode/utf8.acceptRanges", "internal/bytealg.MaxLen"], apart := false, laid := [("unicode/utf8.acceptRanges", laid_unicode_utf8_acceptRanges), ("unicode/utf8.first", laid_unicode_utf8_first)] }
def FailedSaid : Prop := failedRow.holds Tryz.pinned (OpenSpec.ofChange failedSpec)

/-- ITS FALSE NEIGHBOUR: 'it returns false'. Refute it at one input. -/
def failedWrong : ChangeSpec := { name := "failed", fn := fun _ => fun
  | [d1, d2, d3, d4] => { results := [.lit (.bool false)], args := [d1, d2, d3, d4] }
  | _ => none }
def FailedWrongFalsely : Prop := failedRow.holds Tryz.pinned (OpenSpec.ofChange failedWrong)

/-- 'siltkeep.Spoilt': WHATEVER THE INPUT: true; the input reads as it did. -/
def spoiltSpec : ChangeSpec := { name := "spoilt", fn := fun _ => fun
  | [d1, d2, d3] => { results := [.lit (.bool true)], args := [d1, d2, d3] }
  | _ => none }
def spoiltRow : OpenClaim := { program := "ytaieidcohdhgpaagreatdoor", sum := "d8750487951a0875c9a44bb545f60231e0be8a070c1af76f922bf4338e39c47c", func := "silt/siltkeep.Spoilt", spec := "spoilt", inPlace := ["slices.overlaps[silt/ordered.pair[silt/store.role, int]]", "internal/bytealg.CountString", "internal/bytealg.IndexByteString", "internal/bytealg.IndexString", "slices.overlaps[silt/ordered.pair[string, silt/tree.entry]]", "slices.overlaps[silt/ordered.pair[int, silt/tree.file]]"], unfollowed := true, recurses := true, named := ["unicode/utf8.first", "unicode/utf8.acceptRanges", "internal/bytealg.MaxLen"], apart := false, laid := [("unicode/utf8.acceptRanges", laid_unicode_utf8_acceptRanges), ("unicode/utf8.first", laid_unicode_utf8_first)] }
def SpoiltSaid : Prop := spoiltRow.holds Tryz.pinned (OpenSpec.ofChange spoiltSpec)

/-- ITS FALSE NEIGHBOUR: 'it returns false'. Refute it at one input. -/
def spoiltWrong : ChangeSpec := { name := "spoilt", fn := fun _ => fun
  | [d1, d2, d3] => { results := [.lit (.bool false)], args := [d1, d2, d3] }
  | _ => none }
def SpoiltWrongFalsely : Prop := spoiltRow.holds Tryz.pinned (OpenSpec.ofChange spoiltWrong)

/-- 'siltkeep.Cleaned': WHATEVER THE INPUT: true; the input reads as it did. -/
def cleanedSpec : ChangeSpec := { name := "cleaned", fn := fun _ => fun
  | [d] => { results := [.lit (.bool true)], args := [d] }
  | _ => none }
def cleanedRow : OpenClaim := { program := "ytaieidcohdhgpaagreatdoor", sum := "d8750487951a0875c9a44bb545f60231e0be8a070c1af76f922bf4338e39c47c", func := "silt/siltkeep.Cleaned", spec := "cleaned", inPlace := ["slices.overlaps[silt/ordered.pair[silt/store.role, int]]", "internal/bytealg.CountString", "internal/bytealg.IndexByteString", "internal/bytealg.IndexString", "slices.overlaps[silt/ordered.pair[string, silt/tree.entry]]", "slices.overlaps[silt/ordered.pair[int, silt/tree.file]]"], unfollowed := true, recurses := true, named := ["unicode/utf8.first", "unicode/utf8.acceptRanges", "internal/bytealg.MaxLen"], apart := false, laid := [("unicode/utf8.acceptRanges", laid_unicode_utf8_acceptRanges), ("unicode/utf8.first", laid_unicode_utf8_first)] }
def CleanedSaid : Prop := cleanedRow.holds Tryz.pinned (OpenSpec.ofChange cleanedSpec)

/-- ITS FALSE NEIGHBOUR: 'it returns false'. Refute it at one input. -/
def cleanedWrong : ChangeSpec := { name := "cleaned", fn := fun _ => fun
  | [d] => { results := [.lit (.bool false)], args := [d] }
  | _ => none }
def CleanedWrongFalsely : Prop := cleanedRow.holds Tryz.pinned (OpenSpec.ofChange cleanedWrong)

/-- 'siltkeep.Told': WHATEVER THE INPUT: true; the input reads as it did. -/
def toldSpec : ChangeSpec := { name := "told", fn := fun _ => fun
  | [d] => { results := [.lit (.bool true)], args := [d] }
  | _ => none }
def toldRow : OpenClaim := { program := "ytaieidcohdhgpaagreatdoor", sum := "d8750487951a0875c9a44bb545f60231e0be8a070c1af76f922bf4338e39c47c", func := "silt/siltkeep.Told", spec := "told", inPlace := ["slices.overlaps[silt/ordered.pair[silt/store.role, int]]", "internal/bytealg.CountString", "internal/bytealg.IndexByteString", "internal/bytealg.IndexString", "slices.overlaps[silt/ordered.pair[string, silt/tree.entry]]", "slices.overlaps[silt/ordered.pair[int, silt/tree.file]]", "internal/abi.NoEscape", "internal/bytealg.MakeNoZero"], unfollowed := true, recurses := true, named := ["unicode/utf8.first", "unicode/utf8.acceptRanges", "internal/bytealg.MaxLen", "internal/strconv.uint64pow10", "math/bits.deBruijn32tab", "math/bits.deBruijn64tab", "strconv.ErrSyntax", "strconv.ErrRange"], apart := false, laid := [("math/bits.deBruijn32tab", laid_math_bits_deBruijn32tab), ("math/bits.deBruijn64tab", laid_math_bits_deBruijn64tab), ("internal/strconv.uint64pow10", laid_internal_strconv_uint64pow10), ("unicode/utf8.acceptRanges", laid_unicode_utf8_acceptRanges), ("strconv.ErrRange", laid_strconv_ErrRange), ("strconv.ErrSyntax", laid_strconv_ErrSyntax), ("unicode/utf8.first", laid_unicode_utf8_first)] }
def ToldSaid : Prop := toldRow.holds Tryz.pinned (OpenSpec.ofChange toldSpec)

/-- ITS FALSE NEIGHBOUR: 'it returns false'. Refute it at one input. -/
def toldWrong : ChangeSpec := { name := "told", fn := fun _ => fun
  | [d] => { results := [.lit (.bool false)], args := [d] }
  | _ => none }
def ToldWrongFalsely : Prop := toldRow.holds Tryz.pinned (OpenSpec.ofChange toldWrong)

/- THE SECOND FORM. 'bulk': how many values and letters a reading holds, each counted each time it is reached (what is shared counts as often as it is met; a slice's spare places count too). A statement '..UptoSaid' is the law's where the arguments, and the package variables that the reading takes, are together of bulk at most 1048576: NARROWER than '..Said'. Prove '..Said' where nothing that the law and all that it calls make is longer than what came in: it says more and counts as full. Else prove '..UptoSaid'. A law counts once. -/
mutual
def uptoBulk {H : Type} : DataW H → Nat
  | .lit (.string bytes) => bytes.length + 1
  | .lit _ => 1
  | .nil => 1
  | .ptr d => uptoBulk d + 1
  | .slice elems spare => uptoBulkAll elems + uptoBulkAll spare + 1
  | .agg parts => uptoBulkAll parts + 1
  | .iface _ d => uptoBulk d + 1
  | .map entries => uptoBulkEntries entries + 1
  | .held _ => 1
def uptoBulkAll {H : Type} : List (DataW H) → Nat
  | [] => 0
  | d :: r => uptoBulk d + uptoBulkAll r
def uptoBulkEntries {H : Type} : List (Lit × DataW H) → Nat
  | [] => 0
  | x :: r => uptoBulkEntry x + uptoBulkEntries r
def uptoBulkEntry {H : Type} : Lit × DataW H → Nat
  | (.string bytes, d) => bytes.length + uptoBulk d + 1
  | (_, d) => uptoBulk d + 1
 end
def uptoSmall : (H : Type) → List (DataW H) → Bool := fun _ ds => decide (uptoBulkAll ds ≤ 1048576)
def OpenSpec.upto (s : _root_.Go.ChangeSpec) : _root_.Go.OpenSpec := { _root_.Go.OpenSpec.ofChange s with cond := some uptoSmall }

/-- 'siltlaw.Files', WHERE WHAT IT READS IS OF BULK AT MOST 1048576: true; the input reads as it did. -/
def filesUptoRow : OpenClaim := { program := "ytaieidcohdhgpaagreatdoor", sum := "d8750487951a0875c9a44bb545f60231e0be8a070c1af76f922bf4338e39c47c", func := "silt/siltlaw.Files", spec := "files", inPlace := ["slices.overlaps[silt/ordered.pair[silt/store.role, int]]", "internal/bytealg.CountString", "internal/bytealg.IndexByteString", "internal/bytealg.IndexString", "slices.overlaps[silt/ordered.pair[string, silt/tree.entry]]", "slices.overlaps[silt/ordered.pair[int, silt/tree.file]]", "internal/abi.NoEscape", "internal/bytealg.MakeNoZero"], unfollowed := true, recurses := true, named := ["unicode/utf8.first", "unicode/utf8.acceptRanges", "internal/bytealg.MaxLen", "internal/strconv.uint64pow10", "math/bits.deBruijn32tab", "math/bits.deBruijn64tab", "strconv.ErrSyntax", "strconv.ErrRange"], apart := false, laid := [("math/bits.deBruijn32tab", laid_math_bits_deBruijn32tab), ("math/bits.deBruijn64tab", laid_math_bits_deBruijn64tab), ("internal/strconv.uint64pow10", laid_internal_strconv_uint64pow10), ("unicode/utf8.acceptRanges", laid_unicode_utf8_acceptRanges), ("strconv.ErrRange", laid_strconv_ErrRange), ("strconv.ErrSyntax", laid_strconv_ErrSyntax), ("unicode/utf8.first", laid_unicode_utf8_first)], narrowed := true }
def FilesUptoSaid : Prop := filesUptoRow.holds Tryz.pinned (OpenSpec.upto filesSpec)

/-- 'siltlaw.Kept', WHERE WHAT IT READS IS OF BULK AT MOST 1048576: true; the input reads as it did. -/
def keptUptoRow : OpenClaim := { program := "ytaieidcohdhgpaagreatdoor", sum := "d8750487951a0875c9a44bb545f60231e0be8a070c1af76f922bf4338e39c47c", func := "silt/siltlaw.Kept", spec := "kept", inPlace := ["slices.overlaps[silt/ordered.pair[silt/store.role, int]]", "internal/bytealg.CountString", "internal/bytealg.IndexByteString", "internal/bytealg.IndexString", "slices.overlaps[silt/ordered.pair[string, silt/tree.entry]]", "slices.overlaps[silt/ordered.pair[int, silt/tree.file]]", "internal/abi.NoEscape", "internal/bytealg.MakeNoZero"], unfollowed := true, recurses := true, named := ["unicode/utf8.first", "unicode/utf8.acceptRanges", "internal/bytealg.MaxLen", "internal/strconv.uint64pow10", "math/bits.deBruijn32tab", "math/bits.deBruijn64tab", "strconv.ErrSyntax", "strconv.ErrRange"], apart := false, laid := [("math/bits.deBruijn32tab", laid_math_bits_deBruijn32tab), ("math/bits.deBruijn64tab", laid_math_bits_deBruijn64tab), ("internal/strconv.uint64pow10", laid_internal_strconv_uint64pow10), ("unicode/utf8.acceptRanges", laid_unicode_utf8_acceptRanges), ("strconv.ErrRange", laid_strconv_ErrRange), ("strconv.ErrSyntax", laid_strconv_ErrSyntax), ("unicode/utf8.first", laid_unicode_utf8_first)], narrowed := true }
def KeptUptoSaid : Prop := keptUptoRow.holds Tryz.pinned (OpenSpec.upto keptSpec)

/-- 'siltlaw.Dumps', WHERE WHAT IT READS IS OF BULK AT MOST 1048576: true; the input reads as it did. -/
def dumpsUptoRow : OpenClaim := { program := "ytaieidcohdhgpaagreatdoor", sum := "d8750487951a0875c9a44bb545f60231e0be8a070c1af76f922bf4338e39c47c", func := "silt/siltlaw.Dumps", spec := "dumps", inPlace := ["internal/bytealg.IndexByteString", "internal/bytealg.IndexString", "internal/bytealg.CountString", "slices.overlaps[silt/ordered.pair[string, silt/tree.entry]]", "slices.overlaps[silt/ordered.pair[int, silt/tree.file]]", "internal/abi.NoEscape", "internal/bytealg.MakeNoZero", "slices.overlaps[silt/ordered.pair[silt/store.role, int]]"], unfollowed := true, recurses := true, named := ["internal/bytealg.MaxLen", "strconv.ErrSyntax", "strconv.ErrRange", "internal/strconv.uint64pow10", "math/bits.deBruijn32tab", "math/bits.deBruijn64tab", "unicode/utf8.first", "unicode/utf8.acceptRanges"], apart := false, laid := [("math/bits.deBruijn32tab", laid_math_bits_deBruijn32tab), ("math/bits.deBruijn64tab", laid_math_bits_deBruijn64tab), ("internal/strconv.uint64pow10", laid_internal_strconv_uint64pow10), ("unicode/utf8.acceptRanges", laid_unicode_utf8_acceptRanges), ("strconv.ErrRange", laid_strconv_ErrRange), ("strconv.ErrSyntax", laid_strconv_ErrSyntax), ("unicode/utf8.first", laid_unicode_utf8_first)], narrowed := true }
def DumpsUptoSaid : Prop := dumpsUptoRow.holds Tryz.pinned (OpenSpec.upto dumpsSpec)

/-- 'siltlaw.Plays', WHERE WHAT IT READS IS OF BULK AT MOST 1048576: true; the input reads as it did. -/
def playsUptoRow : OpenClaim := { program := "ytaieidcohdhgpaagreatdoor", sum := "d8750487951a0875c9a44bb545f60231e0be8a070c1af76f922bf4338e39c47c", func := "silt/siltlaw.Plays", spec := "plays", inPlace := ["slices.overlaps[silt/ordered.pair[silt/store.role, int]]", "internal/bytealg.CountString", "internal/bytealg.IndexByteString", "internal/bytealg.IndexString", "slices.overlaps[silt/ordered.pair[string, silt/tree.entry]]", "slices.overlaps[silt/ordered.pair[int, silt/tree.file]]", "internal/abi.NoEscape", "internal/bytealg.MakeNoZero"], unfollowed := true, recurses := true, named := ["unicode/utf8.first", "unicode/utf8.acceptRanges", "internal/bytealg.MaxLen", "internal/strconv.uint64pow10", "math/bits.deBruijn32tab", "math/bits.deBruijn64tab", "strconv.ErrSyntax", "strconv.ErrRange"], apart := false, laid := [("math/bits.deBruijn32tab", laid_math_bits_deBruijn32tab), ("math/bits.deBruijn64tab", laid_math_bits_deBruijn64tab), ("internal/strconv.uint64pow10", laid_internal_strconv_uint64pow10), ("unicode/utf8.acceptRanges", laid_unicode_utf8_acceptRanges), ("strconv.ErrRange", laid_strconv_ErrRange), ("strconv.ErrSyntax", laid_strconv_ErrSyntax), ("unicode/utf8.first", laid_unicode_utf8_first)], narrowed := true }
def PlaysUptoSaid : Prop := playsUptoRow.holds Tryz.pinned (OpenSpec.upto playsSpec)

/-- 'siltlaw.Unmade', WHERE WHAT IT READS IS OF BULK AT MOST 1048576: true; the input reads as it did. -/
def unmadeUptoRow : OpenClaim := { program := "ytaieidcohdhgpaagreatdoor", sum := "d8750487951a0875c9a44bb545f60231e0be8a070c1af76f922bf4338e39c47c", func := "silt/siltlaw.Unmade", spec := "unmade", inPlace := ["internal/bytealg.CountString", "internal/bytealg.IndexByteString", "internal/bytealg.IndexString", "slices.overlaps[silt/ordered.pair[string, silt/tree.entry]]", "slices.overlaps[silt/ordered.pair[int, silt/tree.file]]", "slices.overlaps[silt/ordered.pair[silt/store.role, int]]", "internal/abi.NoEscape", "internal/bytealg.MakeNoZero"], unfollowed := true, recurses := true, named := ["unicode/utf8.first", "unicode/utf8.acceptRanges", "internal/bytealg.MaxLen", "internal/strconv.uint64pow10", "math/bits.deBruijn32tab", "math/bits.deBruijn64tab"], apart := false, laid := [("math/bits.deBruijn32tab", laid_math_bits_deBruijn32tab), ("math/bits.deBruijn64tab", laid_math_bits_deBruijn64tab), ("internal/strconv.uint64pow10", laid_internal_strconv_uint64pow10), ("unicode/utf8.acceptRanges", laid_unicode_utf8_acceptRanges), ("unicode/utf8.first", laid_unicode_utf8_first)], narrowed := true }
def UnmadeUptoSaid : Prop := unmadeUptoRow.holds Tryz.pinned (OpenSpec.upto unmadeSpec)

/-- 'siltlaw.All', WHERE WHAT IT READS IS OF BULK AT MOST 1048576: true; the input reads as it did. -/
def allUptoRow : OpenClaim := { program := "ytaieidcohdhgpaagreatdoor", sum := "d8750487951a0875c9a44bb545f60231e0be8a070c1af76f922bf4338e39c47c", func := "silt/siltlaw.All", spec := "all", inPlace := ["slices.overlaps[silt/ordered.pair[silt/store.role, int]]", "internal/bytealg.CountString", "internal/bytealg.IndexByteString", "internal/bytealg.IndexString", "slices.overlaps[silt/ordered.pair[string, silt/tree.entry]]", "slices.overlaps[silt/ordered.pair[int, silt/tree.file]]", "internal/abi.NoEscape", "internal/bytealg.MakeNoZero"], unfollowed := true, recurses := true, named := ["unicode/utf8.first", "unicode/utf8.acceptRanges", "internal/bytealg.MaxLen", "internal/strconv.uint64pow10", "math/bits.deBruijn32tab", "math/bits.deBruijn64tab", "strconv.ErrSyntax", "strconv.ErrRange"], apart := false, laid := [("math/bits.deBruijn32tab", laid_math_bits_deBruijn32tab), ("math/bits.deBruijn64tab", laid_math_bits_deBruijn64tab), ("internal/strconv.uint64pow10", laid_internal_strconv_uint64pow10), ("unicode/utf8.acceptRanges", laid_unicode_utf8_acceptRanges), ("strconv.ErrRange", laid_strconv_ErrRange), ("strconv.ErrSyntax", laid_strconv_ErrSyntax), ("unicode/utf8.first", laid_unicode_utf8_first)], narrowed := true }
def AllUptoSaid : Prop := allUptoRow.holds Tryz.pinned (OpenSpec.upto allSpec)

/-- 'siltkeep.Long', WHERE WHAT IT READS IS OF BULK AT MOST 1048576: true; the input reads as it did. -/
def longUptoRow : OpenClaim := { program := "ytaieidcohdhgpaagreatdoor", sum := "d8750487951a0875c9a44bb545f60231e0be8a070c1af76f922bf4338e39c47c", func := "silt/siltkeep.Long", spec := "long", inPlace := ["slices.overlaps[silt/ordered.pair[silt/store.role, int]]", "internal/bytealg.CountString", "internal/bytealg.IndexByteString", "internal/bytealg.IndexString", "slices.overlaps[silt/ordered.pair[string, silt/tree.entry]]", "slices.overlaps[silt/ordered.pair[int, silt/tree.file]]"], unfollowed := true, recurses := true, named := ["unicode/utf8.first", "unicode/utf8.acceptRanges", "internal/bytealg.MaxLen"], apart := false, laid := [("unicode/utf8.acceptRanges", laid_unicode_utf8_acceptRanges), ("unicode/utf8.first", laid_unicode_utf8_first)], narrowed := true }
def LongUptoSaid : Prop := longUptoRow.holds Tryz.pinned (OpenSpec.upto longSpec)

/-- 'siltkeep.Failed', WHERE WHAT IT READS IS OF BULK AT MOST 1048576: true; the input reads as it did. -/
def failedUptoRow : OpenClaim := { program := "ytaieidcohdhgpaagreatdoor", sum := "d8750487951a0875c9a44bb545f60231e0be8a070c1af76f922bf4338e39c47c", func := "silt/siltkeep.Failed", spec := "failed", inPlace := ["slices.overlaps[silt/ordered.pair[silt/store.role, int]]", "internal/bytealg.CountString", "internal/bytealg.IndexByteString", "internal/bytealg.IndexString", "slices.overlaps[silt/ordered.pair[string, silt/tree.entry]]", "slices.overlaps[silt/ordered.pair[int, silt/tree.file]]"], unfollowed := true, recurses := true, named := ["unicode/utf8.first", "unicode/utf8.acceptRanges", "internal/bytealg.MaxLen"], apart := false, laid := [("unicode/utf8.acceptRanges", laid_unicode_utf8_acceptRanges), ("unicode/utf8.first", laid_unicode_utf8_first)], narrowed := true }
def FailedUptoSaid : Prop := failedUptoRow.holds Tryz.pinned (OpenSpec.upto failedSpec)

/-- 'siltkeep.Spoilt', WHERE WHAT IT READS IS OF BULK AT MOST 1048576: true; the input reads as it did. -/
def spoiltUptoRow : OpenClaim := { program := "ytaieidcohdhgpaagreatdoor", sum := "d8750487951a0875c9a44bb545f60231e0be8a070c1af76f922bf4338e39c47c", func := "silt/siltkeep.Spoilt", spec := "spoilt", inPlace := ["slices.overlaps[silt/ordered.pair[silt/store.role, int]]", "internal/bytealg.CountString", "internal/bytealg.IndexByteString", "internal/bytealg.IndexString", "slices.overlaps[silt/ordered.pair[string, silt/tree.entry]]", "slices.overlaps[silt/ordered.pair[int, silt/tree.file]]"], unfollowed := true, recurses := true, named := ["unicode/utf8.first", "unicode/utf8.acceptRanges", "internal/bytealg.MaxLen"], apart := false, laid := [("unicode/utf8.acceptRanges", laid_unicode_utf8_acceptRanges), ("unicode/utf8.first", laid_unicode_utf8_first)], narrowed := true }
def SpoiltUptoSaid : Prop := spoiltUptoRow.holds Tryz.pinned (OpenSpec.upto spoiltSpec)

/-- 'siltkeep.Cleaned', WHERE WHAT IT READS IS OF BULK AT MOST 1048576: true; the input reads as it did. -/
def cleanedUptoRow : OpenClaim := { program := "ytaieidcohdhgpaagreatdoor", sum := "d8750487951a0875c9a44bb545f60231e0be8a070c1af76f922bf4338e39c47c", func := "silt/siltkeep.Cleaned", spec := "cleaned", inPlace := ["slices.overlaps[silt/ordered.pair[silt/store.role, int]]", "internal/bytealg.CountString", "internal/bytealg.IndexByteString", "internal/bytealg.IndexString", "slices.overlaps[silt/ordered.pair[string, silt/tree.entry]]", "slices.overlaps[silt/ordered.pair[int, silt/tree.file]]"], unfollowed := true, recurses := true, named := ["unicode/utf8.first", "unicode/utf8.acceptRanges", "internal/bytealg.MaxLen"], apart := false, laid := [("unicode/utf8.acceptRanges", laid_unicode_utf8_acceptRanges), ("unicode/utf8.first", laid_unicode_utf8_first)], narrowed := true }
def CleanedUptoSaid : Prop := cleanedUptoRow.holds Tryz.pinned (OpenSpec.upto cleanedSpec)

/-- 'siltkeep.Told', WHERE WHAT IT READS IS OF BULK AT MOST 1048576: true; the input reads as it did. -/
def toldUptoRow : OpenClaim := { program := "ytaieidcohdhgpaagreatdoor", sum := "d8750487951a0875c9a44bb545f60231e0be8a070c1af76f922bf4338e39c47c", func := "silt/siltkeep.Told", spec := "told", inPlace := ["slices.overlaps[silt/ordered.pair[silt/store.role, int]]", "internal/bytealg.CountString", "internal/bytealg.IndexByteString", "internal/bytealg.IndexString", "slices.overlaps[silt/ordered.pair[string, silt/tree.entry]]", "slices.overlaps[silt/ordered.pair[int, silt/tree.file]]", "internal/abi.NoEscape", "internal/bytealg.MakeNoZero"], unfollowed := true, recurses := true, named := ["unicode/utf8.first", "unicode/utf8.acceptRanges", "internal/bytealg.MaxLen", "internal/strconv.uint64pow10", "math/bits.deBruijn32tab", "math/bits.deBruijn64tab", "strconv.ErrSyntax", "strconv.ErrRange"], apart := false, laid := [("math/bits.deBruijn32tab", laid_math_bits_deBruijn32tab), ("math/bits.deBruijn64tab", laid_math_bits_deBruijn64tab), ("internal/strconv.uint64pow10", laid_internal_strconv_uint64pow10), ("unicode/utf8.acceptRanges", laid_unicode_utf8_acceptRanges), ("strconv.ErrRange", laid_strconv_ErrRange), ("strconv.ErrSyntax", laid_strconv_ErrSyntax), ("unicode/utf8.first", laid_unicode_utf8_first)], narrowed := true }
def ToldUptoSaid : Prop := toldUptoRow.holds Tryz.pinned (OpenSpec.upto toldSpec)

end Rows
end Go.Proofs.YtaieidcohdhgpaaGreatDoor
