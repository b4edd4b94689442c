/-
  DERIVED. GIVEN WITH THE SEED: THE PROGRAM's TIES (one call each: nine closed facts by the kernel) AND EACH ROW's TIE, after the 31st guide's Derived/Test/Toyas{Tie, Card}.lean. No idea stands in it: it is a product of the set-up. Laid BY PROGRAM, IN A SANDBOX (cutbox-door.mjs). By AI agents, Wed Nov 11 2026. No macro, syntax, notation, axiom, sorry.
-/
import Derived.Test.YtddcbeeldjjmeaaDoorRows
import Derived.LaidByTextLater
import Derived.SevenTiedAt
import Derived.LaidSub
import Derived.LaidOnce
namespace Go.Proofs.YtddcbeeldjjmeaaDoor
open Go
set_option maxRecDepth 100000
theorem seatTie1 : Tryd.prog.laidByTextLater [("math/bits.deBruijn32tab", Rows.laid_math_bits_deBruijn32tab), ("math/bits.deBruijn64tab", Rows.laid_math_bits_deBruijn64tab), ("internal/strconv.uint64pow10", Rows.laid_internal_strconv_uint64pow10), ("unicode/utf8.acceptRanges", Rows.laid_unicode_utf8_acceptRanges), ("twig/wire.ErrShort", Rows.laid_twig_wire_ErrShort), ("twig/wire.ErrOver", Rows.laid_twig_wire_ErrOver), ("twig/wire.ErrLong", Rows.laid_twig_wire_ErrLong), ("twig/wire.ErrBig", Rows.laid_twig_wire_ErrBig), ("twig/wire.ErrPadding", Rows.laid_twig_wire_ErrPadding), ("twig/wire.ErrKind", Rows.laid_twig_wire_ErrKind), ("twig/wire.ErrBits", Rows.laid_twig_wire_ErrBits), ("twig/wire.ErrValue", Rows.laid_twig_wire_ErrValue), ("twig/wire.ErrSteps", Rows.laid_twig_wire_ErrSteps), ("twig/wire.ErrSide", Rows.laid_twig_wire_ErrSide), ("twig/wire.ErrWidth", Rows.laid_twig_wire_ErrWidth), ("twig/wire.ErrSize", Rows.laid_twig_wire_ErrSize), ("twig/wire.ErrTotal", Rows.laid_twig_wire_ErrTotal), ("twig/wire.ErrDigest", Rows.laid_twig_wire_ErrDigest), ("twig/wire.ErrNoBytes", Rows.laid_twig_wire_ErrNoBytes)] [.data, .data, .data, .data, .sentinel, .sentinel, .sentinel, .sentinel, .sentinel, .sentinel, .sentinel, .sentinel, .sentinel, .sentinel, .sentinel, .sentinel, .sentinel, .sentinel, .sentinel] true :=
  Program.laidByTextLater_by_one 319 8 65 (by kernel_rfl) (by kernel_rfl) (by kernel_rfl) (by kernel_rfl) (by kernel_rfl) (by kernel_rfl) (fun _ _ => by kernel_rfl)
theorem pin_laid_unicode_utf8_first : Tryd.pinned.checked.prog.pinnedFits "unicode/utf8.first" = true := by kernel_rfl
theorem noOwnUnsafe : Tryd.pinned.checked.prog.headLifts.contains "ownunsafe" = false := by kernel_rfl
theorem fits1 : Tryd.pinned.checked.prog.listedFits [("unicode/utf8.acceptRanges", Rows.laid_unicode_utf8_acceptRanges), ("twig/wire.ErrShort", Rows.laid_twig_wire_ErrShort), ("twig/wire.ErrOver", Rows.laid_twig_wire_ErrOver), ("twig/wire.ErrLong", Rows.laid_twig_wire_ErrLong), ("twig/wire.ErrBig", Rows.laid_twig_wire_ErrBig), ("twig/wire.ErrPadding", Rows.laid_twig_wire_ErrPadding), ("twig/wire.ErrKind", Rows.laid_twig_wire_ErrKind), ("twig/wire.ErrBits", Rows.laid_twig_wire_ErrBits), ("twig/wire.ErrValue", Rows.laid_twig_wire_ErrValue), ("twig/wire.ErrSteps", Rows.laid_twig_wire_ErrSteps), ("twig/wire.ErrSide", Rows.laid_twig_wire_ErrSide), ("twig/wire.ErrWidth", Rows.laid_twig_wire_ErrWidth), ("twig/wire.ErrSize", Rows.laid_twig_wire_ErrSize), ("twig/wire.ErrTotal", Rows.laid_twig_wire_ErrTotal), ("twig/wire.ErrDigest", Rows.laid_twig_wire_ErrDigest), ("twig/wire.ErrNoBytes", Rows.laid_twig_wire_ErrNoBytes), ("unicode/utf8.first", Rows.laid_unicode_utf8_first)] = true := by
  unfold Program.listedFits
  rw [noOwnUnsafe]
  kernel_rfl
theorem tie : Tryd.prog.laidByTextLater [("unicode/utf8.acceptRanges", Rows.laid_unicode_utf8_acceptRanges), ("twig/wire.ErrShort", Rows.laid_twig_wire_ErrShort), ("twig/wire.ErrOver", Rows.laid_twig_wire_ErrOver), ("twig/wire.ErrLong", Rows.laid_twig_wire_ErrLong), ("twig/wire.ErrBig", Rows.laid_twig_wire_ErrBig), ("twig/wire.ErrPadding", Rows.laid_twig_wire_ErrPadding), ("twig/wire.ErrKind", Rows.laid_twig_wire_ErrKind), ("twig/wire.ErrBits", Rows.laid_twig_wire_ErrBits), ("twig/wire.ErrValue", Rows.laid_twig_wire_ErrValue), ("twig/wire.ErrSteps", Rows.laid_twig_wire_ErrSteps), ("twig/wire.ErrSide", Rows.laid_twig_wire_ErrSide), ("twig/wire.ErrWidth", Rows.laid_twig_wire_ErrWidth), ("twig/wire.ErrSize", Rows.laid_twig_wire_ErrSize), ("twig/wire.ErrTotal", Rows.laid_twig_wire_ErrTotal), ("twig/wire.ErrDigest", Rows.laid_twig_wire_ErrDigest), ("twig/wire.ErrNoBytes", Rows.laid_twig_wire_ErrNoBytes)] [.data, .sentinel, .sentinel, .sentinel, .sentinel, .sentinel, .sentinel, .sentinel, .sentinel, .sentinel, .sentinel, .sentinel, .sentinel, .sentinel, .sentinel, .sentinel] true :=
  Program.laidByTextLater.sub seatTie1 ["unicode/utf8.acceptRanges", "twig/wire.ErrShort", "twig/wire.ErrOver", "twig/wire.ErrLong", "twig/wire.ErrBig", "twig/wire.ErrPadding", "twig/wire.ErrKind", "twig/wire.ErrBits", "twig/wire.ErrValue", "twig/wire.ErrSteps", "twig/wire.ErrSide", "twig/wire.ErrWidth", "twig/wire.ErrSize", "twig/wire.ErrTotal", "twig/wire.ErrDigest", "twig/wire.ErrNoBytes"] (by kernel_rfl) (by kernel_rfl)
theorem nodes_row_tie : Rows.nodesRow.laidByTextAt .later Tryd.pinned [.data, .sentinel, .sentinel, .sentinel, .sentinel, .sentinel, .sentinel, .sentinel, .sentinel, .sentinel, .sentinel, .sentinel, .sentinel, .sentinel, .sentinel, .sentinel, .pinned] true :=
  OpenClaim.laidByTextAt_pinned rfl rfl tie rfl rfl rfl rfl (fun y hy _e => by
    simp only [Rows.nodesRow, List.zip_cons_cons, List.zip_nil_right, List.mem_cons, List.mem_nil_iff, or_false] at hy
    rcases hy with rfl | rfl | rfl | rfl | rfl | rfl | rfl | rfl | rfl | rfl | rfl | rfl | rfl | rfl | rfl | rfl | rfl
    · cases _e
    · cases _e
    · cases _e
    · cases _e
    · cases _e
    · cases _e
    · cases _e
    · cases _e
    · cases _e
    · cases _e
    · cases _e
    · cases _e
    · cases _e
    · cases _e
    · cases _e
    · cases _e
    · exact ⟨pin_laid_unicode_utf8_first, by kernel_rfl⟩) fits1
theorem tie2 : Tryd.prog.laidByTextLater [("math/bits.deBruijn32tab", Rows.laid_math_bits_deBruijn32tab), ("math/bits.deBruijn64tab", Rows.laid_math_bits_deBruijn64tab), ("internal/strconv.uint64pow10", Rows.laid_internal_strconv_uint64pow10), ("twig/wire.ErrShort", Rows.laid_twig_wire_ErrShort), ("twig/wire.ErrOver", Rows.laid_twig_wire_ErrOver), ("twig/wire.ErrLong", Rows.laid_twig_wire_ErrLong), ("twig/wire.ErrBig", Rows.laid_twig_wire_ErrBig), ("twig/wire.ErrPadding", Rows.laid_twig_wire_ErrPadding), ("twig/wire.ErrKind", Rows.laid_twig_wire_ErrKind), ("twig/wire.ErrBits", Rows.laid_twig_wire_ErrBits), ("twig/wire.ErrValue", Rows.laid_twig_wire_ErrValue), ("twig/wire.ErrSteps", Rows.laid_twig_wire_ErrSteps), ("twig/wire.ErrSide", Rows.laid_twig_wire_ErrSide), ("twig/wire.ErrWidth", Rows.laid_twig_wire_ErrWidth), ("twig/wire.ErrSize", Rows.laid_twig_wire_ErrSize), ("twig/wire.ErrTotal", Rows.laid_twig_wire_ErrTotal), ("twig/wire.ErrDigest", Rows.laid_twig_wire_ErrDigest), ("twig/wire.ErrNoBytes", Rows.laid_twig_wire_ErrNoBytes)] [.data, .data, .data, .sentinel, .sentinel, .sentinel, .sentinel, .sentinel, .sentinel, .sentinel, .sentinel, .sentinel, .sentinel, .sentinel, .sentinel, .sentinel, .sentinel, .sentinel] true :=
  Program.laidByTextLater.sub seatTie1 ["math/bits.deBruijn32tab", "math/bits.deBruijn64tab", "internal/strconv.uint64pow10", "twig/wire.ErrShort", "twig/wire.ErrOver", "twig/wire.ErrLong", "twig/wire.ErrBig", "twig/wire.ErrPadding", "twig/wire.ErrKind", "twig/wire.ErrBits", "twig/wire.ErrValue", "twig/wire.ErrSteps", "twig/wire.ErrSide", "twig/wire.ErrWidth", "twig/wire.ErrSize", "twig/wire.ErrTotal", "twig/wire.ErrDigest", "twig/wire.ErrNoBytes"] (by kernel_rfl) (by kernel_rfl)
theorem manifests_row_tie : Rows.manifestsRow.laidByTextAt .later Tryd.pinned [.data, .data, .data, .sentinel, .sentinel, .sentinel, .sentinel, .sentinel, .sentinel, .sentinel, .sentinel, .sentinel, .sentinel, .sentinel, .sentinel, .sentinel, .sentinel, .sentinel] true :=
  OpenClaim.laidByTextAt_later rfl rfl tie2 noOwnUnsafe
theorem nodesUpto_row_tie : Rows.nodesUptoRow.laidByTextAt .later Tryd.pinned [.data, .sentinel, .sentinel, .sentinel, .sentinel, .sentinel, .sentinel, .sentinel, .sentinel, .sentinel, .sentinel, .sentinel, .sentinel, .sentinel, .sentinel, .sentinel, .pinned] true :=
  OpenClaim.laidByTextAt_pinned rfl rfl tie rfl rfl rfl rfl (fun y hy _e => by
    simp only [Rows.nodesUptoRow, List.zip_cons_cons, List.zip_nil_right, List.mem_cons, List.mem_nil_iff, or_false] at hy
    rcases hy with rfl | rfl | rfl | rfl | rfl | rfl | rfl | rfl | rfl | rfl | rfl | rfl | rfl | rfl | rfl | rfl | rfl
    · cases _e
    · cases _e
    · cases _e
    · cases _e
    · cases _e
    · cases _e
    · cases _e
    · cases _e
    · cases _e
    · cases _e
    · cases _e
    · cases _e
    · cases _e
    · cases _e
    · cases _e
    · cases _e
    · exact ⟨pin_laid_unicode_utf8_first, by kernel_rfl⟩) fits1
theorem manifestsUpto_row_tie : Rows.manifestsUptoRow.laidByTextAt .later Tryd.pinned [.data, .data, .data, .sentinel, .sentinel, .sentinel, .sentinel, .sentinel, .sentinel, .sentinel, .sentinel, .sentinel, .sentinel, .sentinel, .sentinel, .sentinel, .sentinel, .sentinel] true :=
  OpenClaim.laidByTextAt_later rfl rfl tie2 noOwnUnsafe
end Go.Proofs.YtddcbeeldjjmeaaDoor
