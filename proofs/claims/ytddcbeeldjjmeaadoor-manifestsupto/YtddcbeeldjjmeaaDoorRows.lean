/-
  NARROWER THAN 'FOR EVERY INPUT', by the rows' own cells (each row's printed sentence says how): Nodes: laid · Manifests: laid.
  DERIVED. THE GIVEN ROWS OF THIS SEAT. 2 by the template 'for every input the law returns true; each argument reads behind the call as it read before'; 0 by the template 'total and deterministic' (their statements: YtddcbeeldjjmeaaDoorTotals.lean).
  GIVEN WITH THE SEED: the statements are not yours to turn. If you find one false, say at which input.
  Laid BY PROGRAM, IN A SANDBOX (cutbox-rows.mjs): the forced cells as the released guide's own fill.sh prints them over the translation ddfe7dbffde54440… (all of the seat's roots in one cut). By AI agents, Wed Nov 11 2026. No macro, syntax, notation, axiom, sorry.
-/
import Derived.Test.YtddcbeeldjjmeaaDoorChecked
import GoSem.PinnedTables
import GoSem.Claim
import GoSem.ClaimJoined
import GoSem.ClaimMapViews
import Derived.JoinedTies
import Derived.KernelRfl
namespace Go.Proofs.YtddcbeeldjjmeaaDoor
/- THE CELL 'sum', in the pinned program and in every row, IS THE sha256 OF THE DUMP (.gsa) THAT YtddcbeeldjjmeaaDoorProg.lean LOADS. Nothing in Lean hashes anything: it is a label: what it is worth is what the hold of that sum in a sandbox is worth. -/
noncomputable def Tryd.pinned : Pinned := { name := "ytddcbeeldjjmeaadoor", sum := "ddfe7dbffde54440136d307bf37f2d928bb853cb63a57e9c2d36d834c704663b", checked := Tryd.checked }
namespace Rows
def none {H : Type} : Left H := { results := [], args := [] }

/- WHAT THE LISTED PACKAGE-LEVEL VARIABLES READ AS WHEN THE CALL BEGINS. Each datum BY PROGRAM (the guide's laid-datum.mjs) off the statement by which the dump's own 'gosem.cut.vars' lays the variable. In a bare row this is a premise. The card (YtddcbeeldjjmeaaDoorCards.lean) ties it to the program's text. -/
def laid_unicode_utf8_acceptRanges {H : Type} : DataW H := .agg [.agg [.lit (.int .u8 128), .lit (.int .u8 191)], .agg [.lit (.int .u8 160), .lit (.int .u8 191)], .agg [.lit (.int .u8 128), .lit (.int .u8 159)], .agg [.lit (.int .u8 144), .lit (.int .u8 191)], .agg [.lit (.int .u8 128), .lit (.int .u8 143)], .agg [.lit (.int .u8 0), .lit (.int .u8 0)], .agg [.lit (.int .u8 0), .lit (.int .u8 0)], .agg [.lit (.int .u8 0), .lit (.int .u8 0)], .agg [.lit (.int .u8 0), .lit (.int .u8 0)], .agg [.lit (.int .u8 0), .lit (.int .u8 0)], .agg [.lit (.int .u8 0), .lit (.int .u8 0)], .agg [.lit (.int .u8 0), .lit (.int .u8 0)], .agg [.lit (.int .u8 0), .lit (.int .u8 0)], .agg [.lit (.int .u8 0), .lit (.int .u8 0)], .agg [.lit (.int .u8 0), .lit (.int .u8 0)], .agg [.lit (.int .u8 0), .lit (.int .u8 0)]]
def laid_twig_wire_ErrShort {H : Type} : DataW H := .iface "*errors.errorString" (.ptr (.agg [.lit (.string [116, 104, 101, 32, 98, 121, 116, 101, 115, 32, 101, 110, 100, 32, 116, 111, 111, 32, 101, 97, 114, 108, 121])]))
def laid_twig_wire_ErrOver {H : Type} : DataW H := .iface "*errors.errorString" (.ptr (.agg [.lit (.string [98, 121, 116, 101, 115, 32, 97, 114, 101, 32, 108, 101, 102, 116, 32, 111, 118, 101, 114])]))
def laid_twig_wire_ErrLong {H : Type} : DataW H := .iface "*errors.errorString" (.ptr (.agg [.lit (.string [97, 32, 110, 117, 109, 98, 101, 114, 32, 116, 104, 97, 116, 32, 105, 115, 32, 110, 111, 116, 32, 116, 104, 101, 32, 115, 104, 111, 114, 116, 101, 115, 116])]))
def laid_twig_wire_ErrBig {H : Type} : DataW H := .iface "*errors.errorString" (.ptr (.agg [.lit (.string [97, 32, 110, 117, 109, 98, 101, 114, 32, 111, 102, 32, 116, 111, 111, 32, 109, 97, 110, 121, 32, 98, 121, 116, 101, 115])]))
def laid_twig_wire_ErrPadding {H : Type} : DataW H := .iface "*errors.errorString" (.ptr (.agg [.lit (.string [98, 105, 116, 115, 32, 108, 101, 102, 116, 32, 111, 118, 101, 114, 32, 97, 114, 101, 32, 110, 111, 116, 32, 48])]))
def laid_twig_wire_ErrKind {H : Type} : DataW H := .iface "*errors.errorString" (.ptr (.agg [.lit (.string [110, 111, 32, 107, 105, 110, 100, 32, 111, 102, 32, 110, 111, 100, 101])]))
def laid_twig_wire_ErrBits {H : Type} : DataW H := .iface "*errors.errorString" (.ptr (.agg [.lit (.string [97, 32, 112, 97, 116, 104, 32, 111, 102, 32, 116, 111, 111, 32, 109, 97, 110, 121, 32, 98, 105, 116, 115])]))
def laid_twig_wire_ErrValue {H : Type} : DataW H := .iface "*errors.errorString" (.ptr (.agg [.lit (.string [97, 32, 118, 97, 108, 117, 101, 32, 111, 102, 32, 116, 111, 111, 32, 109, 97, 110, 121, 32, 98, 121, 116, 101, 115])]))
def laid_twig_wire_ErrSteps {H : Type} : DataW H := .iface "*errors.errorString" (.ptr (.agg [.lit (.string [116, 111, 111, 32, 109, 97, 110, 121, 32, 115, 116, 101, 112, 115])]))
def laid_twig_wire_ErrSide {H : Type} : DataW H := .iface "*errors.errorString" (.ptr (.agg [.lit (.string [110, 111, 32, 115, 105, 100, 101, 32, 111, 102, 32, 97, 32, 98, 114, 97, 110, 99, 104])]))
def laid_twig_wire_ErrWidth {H : Type} : DataW H := .iface "*errors.errorString" (.ptr (.agg [.lit (.string [110, 111, 32, 119, 105, 100, 116, 104, 32, 111, 102, 32, 100, 105, 103, 101, 115, 116, 115])]))
def laid_twig_wire_ErrSize {H : Type} : DataW H := .iface "*errors.errorString" (.ptr (.agg [.lit (.string [110, 111, 32, 115, 105, 122, 101, 32, 111, 102, 32, 99, 104, 117, 110, 107, 115])]))
def laid_twig_wire_ErrTotal {H : Type} : DataW H := .iface "*errors.errorString" (.ptr (.agg [.lit (.string [110, 111, 32, 110, 117, 109, 98, 101, 114, 32, 111, 102, 32, 98, 121, 116, 101, 115, 32, 111, 102, 32, 97, 108, 108, 32, 99, 104, 117, 110, 107, 115])]))
def laid_twig_wire_ErrDigest {H : Type} : DataW H := .iface "*errors.errorString" (.ptr (.agg [.lit (.string [97, 32, 100, 105, 103, 101, 115, 116, 32, 111, 102, 32, 116, 111, 111, 32, 109, 97, 110, 121, 32, 98, 105, 116, 115])]))
def laid_twig_wire_ErrNoBytes {H : Type} : DataW H := .iface "*errors.errorString" (.ptr (.agg [.lit (.string [105, 116, 32, 104, 97, 115, 32, 110, 111, 32, 98, 121, 116, 101, 115])]))
/-- One of Go's own tables, pinned by name: the form's constant. -/
def laid_unicode_utf8_first : DataW Unit := Go.Pinned.utf8First
def laid_math_bits_deBruijn32tab {H : Type} : DataW H := .agg [.lit (.int .u8 0), .lit (.int .u8 1), .lit (.int .u8 28), .lit (.int .u8 2), .lit (.int .u8 29), .lit (.int .u8 14), .lit (.int .u8 24), .lit (.int .u8 3), .lit (.int .u8 30), .lit (.int .u8 22), .lit (.int .u8 20), .lit (.int .u8 15), .lit (.int .u8 25), .lit (.int .u8 17), .lit (.int .u8 4), .lit (.int .u8 8), .lit (.int .u8 31), .lit (.int .u8 27), .lit (.int .u8 13), .lit (.int .u8 23), .lit (.int .u8 21), .lit (.int .u8 19), .lit (.int .u8 16), .lit (.int .u8 7), .lit (.int .u8 26), .lit (.int .u8 12), .lit (.int .u8 18), .lit (.int .u8 6), .lit (.int .u8 11), .lit (.int .u8 5), .lit (.int .u8 10), .lit (.int .u8 9)]
def laid_math_bits_deBruijn64tab {H : Type} : DataW H := .agg [.lit (.int .u8 0), .lit (.int .u8 1), .lit (.int .u8 56), .lit (.int .u8 2), .lit (.int .u8 57), .lit (.int .u8 49), .lit (.int .u8 28), .lit (.int .u8 3), .lit (.int .u8 61), .lit (.int .u8 58), .lit (.int .u8 42), .lit (.int .u8 50), .lit (.int .u8 38), .lit (.int .u8 29), .lit (.int .u8 17), .lit (.int .u8 4), .lit (.int .u8 62), .lit (.int .u8 47), .lit (.int .u8 59), .lit (.int .u8 36), .lit (.int .u8 45), .lit (.int .u8 43), .lit (.int .u8 51), .lit (.int .u8 22), .lit (.int .u8 53), .lit (.int .u8 39), .lit (.int .u8 33), .lit (.int .u8 30), .lit (.int .u8 24), .lit (.int .u8 18), .lit (.int .u8 12), .lit (.int .u8 5), .lit (.int .u8 63), .lit (.int .u8 55), .lit (.int .u8 48), .lit (.int .u8 27), .lit (.int .u8 60), .lit (.int .u8 41), .lit (.int .u8 37), .lit (.int .u8 16), .lit (.int .u8 46), .lit (.int .u8 35), .lit (.int .u8 44), .lit (.int .u8 21), .lit (.int .u8 52), .lit (.int .u8 32), .lit (.int .u8 23), .lit (.int .u8 11), .lit (.int .u8 54), .lit (.int .u8 26), .lit (.int .u8 40), .lit (.int .u8 15), .lit (.int .u8 34), .lit (.int .u8 20), .lit (.int .u8 31), .lit (.int .u8 10), .lit (.int .u8 25), .lit (.int .u8 14), .lit (.int .u8 19), .lit (.int .u8 9), .lit (.int .u8 13), .lit (.int .u8 8), .lit (.int .u8 7), .lit (.int .u8 6)]
def laid_internal_strconv_uint64pow10 {H : Type} : DataW H := .agg [.lit (.int .u64 1), .lit (.int .u64 10), .lit (.int .u64 100), .lit (.int .u64 1000), .lit (.int .u64 10000), .lit (.int .u64 100000), .lit (.int .u64 1000000), .lit (.int .u64 10000000), .lit (.int .u64 100000000), .lit (.int .u64 1000000000), .lit (.int .u64 10000000000), .lit (.int .u64 100000000000), .lit (.int .u64 1000000000000), .lit (.int .u64 10000000000000), .lit (.int .u64 100000000000000), .lit (.int .u64 1000000000000000), .lit (.int .u64 10000000000000000), .lit (.int .u64 100000000000000000), .lit (.int .u64 1000000000000000000), .lit (.int .u64 10000000000000000000)]

/-- 'twiglaw.Nodes': WHATEVER THE INPUT: true; the input reads as it did. -/
def nodesSpec : ChangeSpec := { name := "nodes", fn := fun _ => fun
  | [d1, d2] => { results := [.lit (.bool true)], args := [d1, d2] }
  | _ => none }
def nodesRow : OpenClaim := { program := "ytddcbeeldjjmeaadoor", sum := "ddfe7dbffde54440136d307bf37f2d928bb853cb63a57e9c2d36d834c704663b", func := "twig/twiglaw.Nodes", spec := "nodes", inPlace := ["internal/bytealg.IndexByteString", "internal/bytealg.IndexString", "internal/reflectlite.TypeOf"], unfollowed := true, recurses := true, named := ["twig/wire.ErrNoBytes", "unicode/utf8.first", "unicode/utf8.acceptRanges", "twig/wire.ErrShort", "twig/wire.ErrOver", "twig/wire.ErrLong", "twig/wire.ErrBig", "twig/wire.ErrPadding", "twig/wire.ErrKind", "twig/wire.ErrBits", "twig/wire.ErrValue", "twig/wire.ErrSteps", "twig/wire.ErrSide", "twig/wire.ErrWidth", "twig/wire.ErrSize", "twig/wire.ErrTotal", "twig/wire.ErrDigest", "internal/bytealg.MaxLen"], apart := false, laid := [("unicode/utf8.acceptRanges", laid_unicode_utf8_acceptRanges), ("twig/wire.ErrShort", laid_twig_wire_ErrShort), ("twig/wire.ErrOver", laid_twig_wire_ErrOver), ("twig/wire.ErrLong", laid_twig_wire_ErrLong), ("twig/wire.ErrBig", laid_twig_wire_ErrBig), ("twig/wire.ErrPadding", laid_twig_wire_ErrPadding), ("twig/wire.ErrKind", laid_twig_wire_ErrKind), ("twig/wire.ErrBits", laid_twig_wire_ErrBits), ("twig/wire.ErrValue", laid_twig_wire_ErrValue), ("twig/wire.ErrSteps", laid_twig_wire_ErrSteps), ("twig/wire.ErrSide", laid_twig_wire_ErrSide), ("twig/wire.ErrWidth", laid_twig_wire_ErrWidth), ("twig/wire.ErrSize", laid_twig_wire_ErrSize), ("twig/wire.ErrTotal", laid_twig_wire_ErrTotal), ("twig/wire.ErrDigest", laid_twig_wire_ErrDigest), ("twig/wire.ErrNoBytes", laid_twig_wire_ErrNoBytes), ("unicode/utf8.first", laid_unicode_utf8_first)] }
def NodesSaid : Prop := nodesRow.holds Tryd.pinned (OpenSpec.ofChange nodesSpec)

/-- ITS FALSE NEIGHBOUR: 'it returns false'. Refute it at one input. -/
def nodesWrong : ChangeSpec := { name := "nodes", fn := fun _ => fun
  | [d1, d2] => { results := [.lit (.bool false)], args := [d1, d2] }
  | _ => none }
def NodesWrongFalsely : Prop := nodesRow.holds Tryd.pinned (OpenSpec.ofChange nodesWrong)

/-- 'twiglaw.Manifests': WHATEVER THE INPUT: true; the input reads as it did. -/
def manifestsSpec : ChangeSpec := { name := "manifests", fn := fun _ => fun
  | [d1, d2] => { results := [.lit (.bool true)], args := [d1, d2] }
  | _ => none }
def manifestsRow : OpenClaim := { program := "ytddcbeeldjjmeaadoor", sum := "ddfe7dbffde54440136d307bf37f2d928bb853cb63a57e9c2d36d834c704663b", func := "twig/twiglaw.Manifests", spec := "manifests", inPlace := ["internal/reflectlite.TypeOf"], unfollowed := true, recurses := true, named := ["twig/wire.ErrNoBytes", "internal/strconv.uint64pow10", "math/bits.deBruijn32tab", "math/bits.deBruijn64tab", "twig/wire.ErrShort", "twig/wire.ErrOver", "twig/wire.ErrLong", "twig/wire.ErrBig", "twig/wire.ErrPadding", "twig/wire.ErrKind", "twig/wire.ErrBits", "twig/wire.ErrValue", "twig/wire.ErrSteps", "twig/wire.ErrSide", "twig/wire.ErrWidth", "twig/wire.ErrSize", "twig/wire.ErrTotal", "twig/wire.ErrDigest"], apart := false, laid := [("math/bits.deBruijn32tab", laid_math_bits_deBruijn32tab), ("math/bits.deBruijn64tab", laid_math_bits_deBruijn64tab), ("internal/strconv.uint64pow10", laid_internal_strconv_uint64pow10), ("twig/wire.ErrShort", laid_twig_wire_ErrShort), ("twig/wire.ErrOver", laid_twig_wire_ErrOver), ("twig/wire.ErrLong", laid_twig_wire_ErrLong), ("twig/wire.ErrBig", laid_twig_wire_ErrBig), ("twig/wire.ErrPadding", laid_twig_wire_ErrPadding), ("twig/wire.ErrKind", laid_twig_wire_ErrKind), ("twig/wire.ErrBits", laid_twig_wire_ErrBits), ("twig/wire.ErrValue", laid_twig_wire_ErrValue), ("twig/wire.ErrSteps", laid_twig_wire_ErrSteps), ("twig/wire.ErrSide", laid_twig_wire_ErrSide), ("twig/wire.ErrWidth", laid_twig_wire_ErrWidth), ("twig/wire.ErrSize", laid_twig_wire_ErrSize), ("twig/wire.ErrTotal", laid_twig_wire_ErrTotal), ("twig/wire.ErrDigest", laid_twig_wire_ErrDigest), ("twig/wire.ErrNoBytes", laid_twig_wire_ErrNoBytes)] }
def ManifestsSaid : Prop := manifestsRow.holds Tryd.pinned (OpenSpec.ofChange manifestsSpec)

/-- ITS FALSE NEIGHBOUR: 'it returns false'. Refute it at one input. -/
def manifestsWrong : ChangeSpec := { name := "manifests", fn := fun _ => fun
  | [d1, d2] => { results := [.lit (.bool false)], args := [d1, d2] }
  | _ => none }
def ManifestsWrongFalsely : Prop := manifestsRow.holds Tryd.pinned (OpenSpec.ofChange manifestsWrong)

/- THE SECOND FORM. 'bulk': how many values and letters a reading holds, each counted each time it is reached (what is shared counts as often as it is met; a slice's spare places count too). A statement '..UptoSaid' is the law's where the arguments, and the package variables that the reading takes, are together of bulk at most 1048576: NARROWER than '..Said'. Prove '..Said' where nothing that the law and all that it calls make is longer than what came in: it says more and counts as full. Else prove '..UptoSaid'. A law counts once. -/
mutual
def uptoBulk {H : Type} : DataW H → Nat
  | .lit (.string bytes) => bytes.length + 1
  | .lit _ => 1
  | .nil => 1
  | .ptr d => uptoBulk d + 1
  | .slice elems spare => uptoBulkAll elems + uptoBulkAll spare + 1
  | .agg parts => uptoBulkAll parts + 1
  | .iface _ d => uptoBulk d + 1
  | .map entries => uptoBulkEntries entries + 1
  | .held _ => 1
def uptoBulkAll {H : Type} : List (DataW H) → Nat
  | [] => 0
  | d :: r => uptoBulk d + uptoBulkAll r
def uptoBulkEntries {H : Type} : List (Lit × DataW H) → Nat
  | [] => 0
  | x :: r => uptoBulkEntry x + uptoBulkEntries r
def uptoBulkEntry {H : Type} : Lit × DataW H → Nat
  | (.string bytes, d) => bytes.length + uptoBulk d + 1
  | (_, d) => uptoBulk d + 1
 end
def uptoSmall : (H : Type) → List (DataW H) → Bool := fun _ ds => decide (uptoBulkAll ds ≤ 1048576)
def OpenSpec.upto (s : _root_.Go.ChangeSpec) : _root_.Go.OpenSpec := { _root_.Go.OpenSpec.ofChange s with cond := some uptoSmall }

/-- 'twiglaw.Nodes', WHERE WHAT IT READS IS OF BULK AT MOST 1048576: true; the input reads as it did. -/
def nodesUptoRow : OpenClaim := { program := "ytddcbeeldjjmeaadoor", sum := "ddfe7dbffde54440136d307bf37f2d928bb853cb63a57e9c2d36d834c704663b", func := "twig/twiglaw.Nodes", spec := "nodes", inPlace := ["internal/bytealg.IndexByteString", "internal/bytealg.IndexString", "internal/reflectlite.TypeOf"], unfollowed := true, recurses := true, named := ["twig/wire.ErrNoBytes", "unicode/utf8.first", "unicode/utf8.acceptRanges", "twig/wire.ErrShort", "twig/wire.ErrOver", "twig/wire.ErrLong", "twig/wire.ErrBig", "twig/wire.ErrPadding", "twig/wire.ErrKind", "twig/wire.ErrBits", "twig/wire.ErrValue", "twig/wire.ErrSteps", "twig/wire.ErrSide", "twig/wire.ErrWidth", "twig/wire.ErrSize", "twig/wire.ErrTotal", "twig/wire.ErrDigest", "internal/bytealg.MaxLen"], apart := false, laid := [("unicode/utf8.acceptRanges", laid_unicode_utf8_acceptRanges), ("twig/wire.ErrShort", laid_twig_wire_ErrShort), ("twig/wire.ErrOver", laid_twig_wire_ErrOver), ("twig/wire.ErrLong", laid_twig_wire_ErrLong), ("twig/wire.ErrBig", laid_twig_wire_ErrBig), ("twig/wire.ErrPadding", laid_twig_wire_ErrPadding), ("twig/wire.ErrKind", laid_twig_wire_ErrKind), ("twig/wire.ErrBits", laid_twig_wire_ErrBits), ("twig/wire.ErrValue", laid_twig_wire_ErrValue), ("twig/wire.ErrSteps", laid_twig_wire_ErrSteps), ("twig/wire.ErrSide", laid_twig_wire_ErrSide), ("twig/wire.ErrWidth", laid_twig_wire_ErrWidth), ("twig/wire.ErrSize", laid_twig_wire_ErrSize), ("twig/wire.ErrTotal", laid_twig_wire_ErrTotal), ("twig/wire.ErrDigest", laid_twig_wire_ErrDigest), ("twig/wire.ErrNoBytes", laid_twig_wire_ErrNoBytes), ("unicode/utf8.first", laid_unicode_utf8_first)], narrowed := true }
def NodesUptoSaid : Prop := nodesUptoRow.holds Tryd.pinned (OpenSpec.upto nodesSpec)

/-- 'twiglaw.Manifests', WHERE WHAT IT READS IS OF BULK AT MOST 1048576: true; the input reads as it did. -/
def manifestsUptoRow : OpenClaim := { program := "ytddcbeeldjjmeaadoor", sum := "ddfe7dbffde54440136d307bf37f2d928bb853cb63a57e9c2d36d834c704663b", func := "twig/twiglaw.Manifests", spec := "manifests", inPlace := ["internal/reflectlite.TypeOf"], unfollowed := true, recurses := true, named := ["twig/wire.ErrNoBytes", "internal/strconv.uint64pow10", "math/bits.deBruijn32tab", "math/bits.deBruijn64tab", "twig/wire.ErrShort", "twig/wire.ErrOver", "twig/wire.ErrLong", "twig/wire.ErrBig", "twig/wire.ErrPadding", "twig/wire.ErrKind", "twig/wire.ErrBits", "twig/wire.ErrValue", "twig/wire.ErrSteps", "twig/wire.ErrSide", "twig/wire.ErrWidth", "twig/wire.ErrSize", "twig/wire.ErrTotal", "twig/wire.ErrDigest"], apart := false, laid := [("math/bits.deBruijn32tab", laid_math_bits_deBruijn32tab), ("math/bits.deBruijn64tab", laid_math_bits_deBruijn64tab), ("internal/strconv.uint64pow10", laid_internal_strconv_uint64pow10), ("twig/wire.ErrShort", laid_twig_wire_ErrShort), ("twig/wire.ErrOver", laid_twig_wire_ErrOver), ("twig/wire.ErrLong", laid_twig_wire_ErrLong), ("twig/wire.ErrBig", laid_twig_wire_ErrBig), ("twig/wire.ErrPadding", laid_twig_wire_ErrPadding), ("twig/wire.ErrKind", laid_twig_wire_ErrKind), ("twig/wire.ErrBits", laid_twig_wire_ErrBits), ("twig/wire.ErrValue", laid_twig_wire_ErrValue), ("twig/wire.ErrSteps", laid_twig_wire_ErrSteps), ("twig/wire.ErrSide", laid_twig_wire_ErrSide), ("twig/wire.ErrWidth", laid_twig_wire_ErrWidth), ("twig/wire.ErrSize", laid_twig_wire_ErrSize), ("twig/wire.ErrTotal", laid_twig_wire_ErrTotal), ("twig/wire.ErrDigest", laid_twig_wire_ErrDigest), ("twig/wire.ErrNoBytes", laid_twig_wire_ErrNoBytes)], narrowed := true }
def ManifestsUptoSaid : Prop := manifestsUptoRow.holds Tryd.pinned (OpenSpec.upto manifestsSpec)

end Rows
end Go.Proofs.YtddcbeeldjjmeaaDoor
