/-
  DERIVED. GIVEN WITH THE SEED: THE PROGRAM's TIES (one call each: nine closed facts by the kernel) AND EACH ROW's TIE, after the 31st guide's Derived/Test/Toyas{Tie, Card}.lean. No idea stands in it: it is a product of the set-up. Laid BY PROGRAM, IN A SANDBOX (cutbox-door.mjs). By AI agents, Wed Nov 11 2026. No macro, syntax, notation, axiom, sorry.
-/
import Derived.Test.YtddcbeeldjjmeaaGreatDoorRows
import Derived.LaidByTextLater
import Derived.SevenTiedAt
import Derived.LaidSub
import Derived.LaidOnce
namespace Go.Proofs.YtddcbeeldjjmeaaGreatDoor
open Go
set_option maxRecDepth 100000
theorem seatTie1 : Tryz.prog.laidByTextLater [("math/bits.deBruijn32tab", Rows.laid_math_bits_deBruijn32tab), ("math/bits.deBruijn64tab", Rows.laid_math_bits_deBruijn64tab), ("internal/strconv.uint64pow10", Rows.laid_internal_strconv_uint64pow10), ("unicode/utf8.acceptRanges", Rows.laid_unicode_utf8_acceptRanges), ("twig/wire.ErrShort", Rows.laid_twig_wire_ErrShort), ("twig/wire.ErrOver", Rows.laid_twig_wire_ErrOver), ("twig/wire.ErrLong", Rows.laid_twig_wire_ErrLong), ("twig/wire.ErrBig", Rows.laid_twig_wire_ErrBig), ("twig/wire.ErrPadding", Rows.laid_twig_wire_ErrPadding), ("twig/wire.ErrKind", Rows.laid_twig_wire_ErrKind), ("twig/wire.ErrBits", Rows.laid_twig_wire_ErrBits), ("twig/wire.ErrValue", Rows.laid_twig_wire_ErrValue), ("twig/wire.ErrSteps", Rows.laid_twig_wire_ErrSteps), ("twig/wire.ErrSide", Rows.laid_twig_wire_ErrSide), ("twig/wire.ErrWidth", Rows.laid_twig_wire_ErrWidth), ("twig/wire.ErrSize", Rows.laid_twig_wire_ErrSize), ("twig/wire.ErrTotal", Rows.laid_twig_wire_ErrTotal), ("twig/wire.ErrDigest", Rows.laid_twig_wire_ErrDigest), ("twig/wire.ErrNoBytes", Rows.laid_twig_wire_ErrNoBytes), ("twig/proof.ErrWay", Rows.laid_twig_proof_ErrWay), ("twig/proof.ErrBottom", Rows.laid_twig_proof_ErrBottom), ("twig/proof.ErrRoot", Rows.laid_twig_proof_ErrRoot)] [.data, .data, .data, .data, .sentinel, .sentinel, .sentinel, .sentinel, .sentinel, .sentinel, .sentinel, .sentinel, .sentinel, .sentinel, .sentinel, .sentinel, .sentinel, .sentinel, .sentinel, .sentinel, .sentinel, .sentinel] true :=
  Program.laidByTextLater_by_one 566 8 65 (by kernel_rfl) (by kernel_rfl) (by kernel_rfl) (by kernel_rfl) (by kernel_rfl) (by kernel_rfl) (fun _ _ => by kernel_rfl)
theorem seatTie2 : Tryz.prog.laidByTextLater [("math/bits.deBruijn32tab", Rows.laid_math_bits_deBruijn32tab), ("math/bits.deBruijn64tab", Rows.laid_math_bits_deBruijn64tab), ("internal/strconv.uint64pow10", Rows.laid_internal_strconv_uint64pow10), ("twig/wire.ErrShort", Rows.laid_twig_wire_ErrShort), ("twig/wire.ErrOver", Rows.laid_twig_wire_ErrOver), ("twig/wire.ErrLong", Rows.laid_twig_wire_ErrLong), ("twig/wire.ErrBig", Rows.laid_twig_wire_ErrBig), ("twig/wire.ErrPadding", Rows.laid_twig_wire_ErrPadding), ("twig/wire.ErrKind", Rows.laid_twig_wire_ErrKind), ("twig/wire.ErrBits", Rows.laid_twig_wire_ErrBits), ("twig/wire.ErrValue", Rows.laid_twig_wire_ErrValue), ("twig/wire.ErrSteps", Rows.laid_twig_wire_ErrSteps), ("twig/wire.ErrSide", Rows.laid_twig_wire_ErrSide), ("twig/wire.ErrWidth", Rows.laid_twig_wire_ErrWidth), ("twig/wire.ErrSize", Rows.laid_twig_wire_ErrSize), ("twig/wire.ErrTotal", Rows.laid_twig_wire_ErrTotal), ("twig/wire.ErrDigest", Rows.laid_twig_wire_ErrDigest), ("twig/wire.ErrNoBytes", Rows.laid_twig_wire_ErrNoBytes), ("twig/tree.ErrMissing", Rows.laid_twig_tree_ErrMissing), ("twig/tree.ErrOver", Rows.laid_twig_tree_ErrOver), ("twig/tree.ErrEmpty", Rows.laid_twig_tree_ErrEmpty), ("twig/tree.ErrPath", Rows.laid_twig_tree_ErrPath), ("twig/tree.ErrDigest", Rows.laid_twig_tree_ErrDigest), ("twig/chunks.ErrIndex", Rows.laid_twig_chunks_ErrIndex), ("twig/chunks.ErrLength", Rows.laid_twig_chunks_ErrLength), ("twig/chunks.ErrDigest", Rows.laid_twig_chunks_ErrDigest), ("twig/chunks.ErrMissing", Rows.laid_twig_chunks_ErrMissing), ("twig/chunks.ErrRoot", Rows.laid_twig_chunks_ErrRoot), ("twig/proof.ErrWay", Rows.laid_twig_proof_ErrWay), ("twig/proof.ErrBottom", Rows.laid_twig_proof_ErrBottom), ("twig/proof.ErrRoot", Rows.laid_twig_proof_ErrRoot)] [.data, .data, .data, .sentinel, .sentinel, .sentinel, .sentinel, .sentinel, .sentinel, .sentinel, .sentinel, .sentinel, .sentinel, .sentinel, .sentinel, .sentinel, .sentinel, .sentinel, .sentinel, .sentinel, .sentinel, .sentinel, .sentinel, .sentinel, .sentinel, .sentinel, .sentinel, .sentinel, .sentinel, .sentinel, .sentinel] true :=
  Program.laidByTextLater_by_one 566 8 65 (by kernel_rfl) (by kernel_rfl) (by kernel_rfl) (by kernel_rfl) (by kernel_rfl) (by kernel_rfl) (fun _ _ => by kernel_rfl)
theorem pin_laid_unicode_utf8_first : Tryz.pinned.checked.prog.pinnedFits "unicode/utf8.first" = true := by kernel_rfl
theorem noOwnUnsafe : Tryz.pinned.checked.prog.headLifts.contains "ownunsafe" = false := by kernel_rfl
theorem fits1 : Tryz.pinned.checked.prog.listedFits [("math/bits.deBruijn32tab", Rows.laid_math_bits_deBruijn32tab), ("math/bits.deBruijn64tab", Rows.laid_math_bits_deBruijn64tab), ("internal/strconv.uint64pow10", Rows.laid_internal_strconv_uint64pow10), ("unicode/utf8.acceptRanges", Rows.laid_unicode_utf8_acceptRanges), ("twig/wire.ErrShort", Rows.laid_twig_wire_ErrShort), ("twig/wire.ErrOver", Rows.laid_twig_wire_ErrOver), ("twig/wire.ErrLong", Rows.laid_twig_wire_ErrLong), ("twig/wire.ErrBig", Rows.laid_twig_wire_ErrBig), ("twig/wire.ErrPadding", Rows.laid_twig_wire_ErrPadding), ("twig/wire.ErrKind", Rows.laid_twig_wire_ErrKind), ("twig/wire.ErrBits", Rows.laid_twig_wire_ErrBits), ("twig/wire.ErrValue", Rows.laid_twig_wire_ErrValue), ("twig/wire.ErrSteps", Rows.laid_twig_wire_ErrSteps), ("twig/wire.ErrSide", Rows.laid_twig_wire_ErrSide), ("twig/wire.ErrWidth", Rows.laid_twig_wire_ErrWidth), ("twig/wire.ErrSize", Rows.laid_twig_wire_ErrSize), ("twig/wire.ErrTotal", Rows.laid_twig_wire_ErrTotal), ("twig/wire.ErrDigest", Rows.laid_twig_wire_ErrDigest), ("twig/wire.ErrNoBytes", Rows.laid_twig_wire_ErrNoBytes), ("unicode/utf8.first", Rows.laid_unicode_utf8_first)] = true := by
  unfold Program.listedFits
  rw [noOwnUnsafe]
  kernel_rfl
theorem tie : Tryz.prog.laidByTextLater [("math/bits.deBruijn32tab", Rows.laid_math_bits_deBruijn32tab), ("math/bits.deBruijn64tab", Rows.laid_math_bits_deBruijn64tab), ("internal/strconv.uint64pow10", Rows.laid_internal_strconv_uint64pow10), ("unicode/utf8.acceptRanges", Rows.laid_unicode_utf8_acceptRanges), ("twig/wire.ErrShort", Rows.laid_twig_wire_ErrShort), ("twig/wire.ErrOver", Rows.laid_twig_wire_ErrOver), ("twig/wire.ErrLong", Rows.laid_twig_wire_ErrLong), ("twig/wire.ErrBig", Rows.laid_twig_wire_ErrBig), ("twig/wire.ErrPadding", Rows.laid_twig_wire_ErrPadding), ("twig/wire.ErrKind", Rows.laid_twig_wire_ErrKind), ("twig/wire.ErrBits", Rows.laid_twig_wire_ErrBits), ("twig/wire.ErrValue", Rows.laid_twig_wire_ErrValue), ("twig/wire.ErrSteps", Rows.laid_twig_wire_ErrSteps), ("twig/wire.ErrSide", Rows.laid_twig_wire_ErrSide), ("twig/wire.ErrWidth", Rows.laid_twig_wire_ErrWidth), ("twig/wire.ErrSize", Rows.laid_twig_wire_ErrSize), ("twig/wire.ErrTotal", Rows.laid_twig_wire_ErrTotal), ("twig/wire.ErrDigest", Rows.laid_twig_wire_ErrDigest), ("twig/wire.ErrNoBytes", Rows.laid_twig_wire_ErrNoBytes)] [.data, .data, .data, .data, .sentinel, .sentinel, .sentinel, .sentinel, .sentinel, .sentinel, .sentinel, .sentinel, .sentinel, .sentinel, .sentinel, .sentinel, .sentinel, .sentinel, .sentinel] true :=
  Program.laidByTextLater.sub seatTie1 ["math/bits.deBruijn32tab", "math/bits.deBruijn64tab", "internal/strconv.uint64pow10", "unicode/utf8.acceptRanges", "twig/wire.ErrShort", "twig/wire.ErrOver", "twig/wire.ErrLong", "twig/wire.ErrBig", "twig/wire.ErrPadding", "twig/wire.ErrKind", "twig/wire.ErrBits", "twig/wire.ErrValue", "twig/wire.ErrSteps", "twig/wire.ErrSide", "twig/wire.ErrWidth", "twig/wire.ErrSize", "twig/wire.ErrTotal", "twig/wire.ErrDigest", "twig/wire.ErrNoBytes"] (by kernel_rfl) (by kernel_rfl)
theorem proofs_row_tie : Rows.proofsRow.laidByTextAt .later Tryz.pinned [.data, .data, .data, .data, .sentinel, .sentinel, .sentinel, .sentinel, .sentinel, .sentinel, .sentinel, .sentinel, .sentinel, .sentinel, .sentinel, .sentinel, .sentinel, .sentinel, .sentinel, .pinned] true :=
  OpenClaim.laidByTextAt_pinned rfl rfl tie rfl rfl rfl rfl (fun y hy _e => by
    simp only [Rows.proofsRow, List.zip_cons_cons, List.zip_nil_right, List.mem_cons, List.mem_nil_iff, or_false] at hy
    rcases hy with rfl | rfl | rfl | rfl | rfl | rfl | rfl | rfl | rfl | rfl | rfl | rfl | rfl | rfl | rfl | rfl | rfl | rfl | rfl | rfl
    · cases _e
    · cases _e
    · cases _e
    · cases _e
    · cases _e
    · cases _e
    · cases _e
    · cases _e
    · cases _e
    · cases _e
    · cases _e
    · cases _e
    · cases _e
    · cases _e
    · cases _e
    · cases _e
    · cases _e
    · cases _e
    · cases _e
    · exact ⟨pin_laid_unicode_utf8_first, by kernel_rfl⟩) fits1
theorem back_row_tie : Rows.backRow.laidByTextAt .later Tryz.pinned [.data, .data, .data, .data, .sentinel, .sentinel, .sentinel, .sentinel, .sentinel, .sentinel, .sentinel, .sentinel, .sentinel, .sentinel, .sentinel, .sentinel, .sentinel, .sentinel, .sentinel, .pinned] true :=
  OpenClaim.laidByTextAt_pinned rfl rfl tie rfl rfl rfl rfl (fun y hy _e => by
    simp only [Rows.backRow, List.zip_cons_cons, List.zip_nil_right, List.mem_cons, List.mem_nil_iff, or_false] at hy
    rcases hy with rfl | rfl | rfl | rfl | rfl | rfl | rfl | rfl | rfl | rfl | rfl | rfl | rfl | rfl | rfl | rfl | rfl | rfl | rfl | rfl
    · cases _e
    · cases _e
    · cases _e
    · cases _e
    · cases _e
    · cases _e
    · cases _e
    · cases _e
    · cases _e
    · cases _e
    · cases _e
    · cases _e
    · cases _e
    · cases _e
    · cases _e
    · cases _e
    · cases _e
    · cases _e
    · cases _e
    · exact ⟨pin_laid_unicode_utf8_first, by kernel_rfl⟩) fits1
theorem strict_row_tie : Rows.strictRow.laidByTextAt .later Tryz.pinned [.data, .data, .data, .data, .sentinel, .sentinel, .sentinel, .sentinel, .sentinel, .sentinel, .sentinel, .sentinel, .sentinel, .sentinel, .sentinel, .sentinel, .sentinel, .sentinel, .sentinel, .pinned] true :=
  OpenClaim.laidByTextAt_pinned rfl rfl tie rfl rfl rfl rfl (fun y hy _e => by
    simp only [Rows.strictRow, List.zip_cons_cons, List.zip_nil_right, List.mem_cons, List.mem_nil_iff, or_false] at hy
    rcases hy with rfl | rfl | rfl | rfl | rfl | rfl | rfl | rfl | rfl | rfl | rfl | rfl | rfl | rfl | rfl | rfl | rfl | rfl | rfl | rfl
    · cases _e
    · cases _e
    · cases _e
    · cases _e
    · cases _e
    · cases _e
    · cases _e
    · cases _e
    · cases _e
    · cases _e
    · cases _e
    · cases _e
    · cases _e
    · cases _e
    · cases _e
    · cases _e
    · cases _e
    · cases _e
    · cases _e
    · exact ⟨pin_laid_unicode_utf8_first, by kernel_rfl⟩) fits1
theorem tie2 : Tryz.prog.laidByTextLater [("math/bits.deBruijn32tab", Rows.laid_math_bits_deBruijn32tab), ("math/bits.deBruijn64tab", Rows.laid_math_bits_deBruijn64tab), ("internal/strconv.uint64pow10", Rows.laid_internal_strconv_uint64pow10), ("twig/wire.ErrShort", Rows.laid_twig_wire_ErrShort), ("twig/wire.ErrOver", Rows.laid_twig_wire_ErrOver), ("twig/wire.ErrLong", Rows.laid_twig_wire_ErrLong), ("twig/wire.ErrBig", Rows.laid_twig_wire_ErrBig), ("twig/wire.ErrPadding", Rows.laid_twig_wire_ErrPadding), ("twig/wire.ErrKind", Rows.laid_twig_wire_ErrKind), ("twig/wire.ErrBits", Rows.laid_twig_wire_ErrBits), ("twig/wire.ErrValue", Rows.laid_twig_wire_ErrValue), ("twig/wire.ErrSteps", Rows.laid_twig_wire_ErrSteps), ("twig/wire.ErrSide", Rows.laid_twig_wire_ErrSide), ("twig/wire.ErrWidth", Rows.laid_twig_wire_ErrWidth), ("twig/wire.ErrSize", Rows.laid_twig_wire_ErrSize), ("twig/wire.ErrTotal", Rows.laid_twig_wire_ErrTotal), ("twig/wire.ErrDigest", Rows.laid_twig_wire_ErrDigest), ("twig/wire.ErrNoBytes", Rows.laid_twig_wire_ErrNoBytes), ("twig/tree.ErrMissing", Rows.laid_twig_tree_ErrMissing), ("twig/tree.ErrOver", Rows.laid_twig_tree_ErrOver), ("twig/tree.ErrEmpty", Rows.laid_twig_tree_ErrEmpty), ("twig/tree.ErrPath", Rows.laid_twig_tree_ErrPath), ("twig/tree.ErrDigest", Rows.laid_twig_tree_ErrDigest), ("twig/chunks.ErrIndex", Rows.laid_twig_chunks_ErrIndex), ("twig/chunks.ErrLength", Rows.laid_twig_chunks_ErrLength), ("twig/chunks.ErrDigest", Rows.laid_twig_chunks_ErrDigest), ("twig/chunks.ErrMissing", Rows.laid_twig_chunks_ErrMissing), ("twig/chunks.ErrRoot", Rows.laid_twig_chunks_ErrRoot), ("twig/proof.ErrWay", Rows.laid_twig_proof_ErrWay), ("twig/proof.ErrBottom", Rows.laid_twig_proof_ErrBottom), ("twig/proof.ErrRoot", Rows.laid_twig_proof_ErrRoot)] [.data, .data, .data, .sentinel, .sentinel, .sentinel, .sentinel, .sentinel, .sentinel, .sentinel, .sentinel, .sentinel, .sentinel, .sentinel, .sentinel, .sentinel, .sentinel, .sentinel, .sentinel, .sentinel, .sentinel, .sentinel, .sentinel, .sentinel, .sentinel, .sentinel, .sentinel, .sentinel, .sentinel, .sentinel, .sentinel] true :=
  Program.laidByTextLater.sub seatTie2 ["math/bits.deBruijn32tab", "math/bits.deBruijn64tab", "internal/strconv.uint64pow10", "twig/wire.ErrShort", "twig/wire.ErrOver", "twig/wire.ErrLong", "twig/wire.ErrBig", "twig/wire.ErrPadding", "twig/wire.ErrKind", "twig/wire.ErrBits", "twig/wire.ErrValue", "twig/wire.ErrSteps", "twig/wire.ErrSide", "twig/wire.ErrWidth", "twig/wire.ErrSize", "twig/wire.ErrTotal", "twig/wire.ErrDigest", "twig/wire.ErrNoBytes", "twig/tree.ErrMissing", "twig/tree.ErrOver", "twig/tree.ErrEmpty", "twig/tree.ErrPath", "twig/tree.ErrDigest", "twig/chunks.ErrIndex", "twig/chunks.ErrLength", "twig/chunks.ErrDigest", "twig/chunks.ErrMissing", "twig/chunks.ErrRoot", "twig/proof.ErrWay", "twig/proof.ErrBottom", "twig/proof.ErrRoot"] (by kernel_rfl) (by kernel_rfl)
theorem stores_row_tie : Rows.storesRow.laidByTextAt .later Tryz.pinned [.data, .data, .data, .sentinel, .sentinel, .sentinel, .sentinel, .sentinel, .sentinel, .sentinel, .sentinel, .sentinel, .sentinel, .sentinel, .sentinel, .sentinel, .sentinel, .sentinel, .sentinel, .sentinel, .sentinel, .sentinel, .sentinel, .sentinel, .sentinel, .sentinel, .sentinel, .sentinel, .sentinel, .sentinel, .sentinel] true :=
  OpenClaim.laidByTextAt_later rfl rfl tie2 noOwnUnsafe
theorem shown_row_tie : Rows.shownRow.laidByTextAt .later Tryz.pinned [.data, .data, .data, .sentinel, .sentinel, .sentinel, .sentinel, .sentinel, .sentinel, .sentinel, .sentinel, .sentinel, .sentinel, .sentinel, .sentinel, .sentinel, .sentinel, .sentinel, .sentinel, .sentinel, .sentinel, .sentinel, .sentinel, .sentinel, .sentinel, .sentinel, .sentinel, .sentinel, .sentinel, .sentinel, .sentinel] true :=
  OpenClaim.laidByTextAt_later rfl rfl tie2 noOwnUnsafe
theorem tie3 : Tryz.prog.laidByTextLater [("math/bits.deBruijn32tab", Rows.laid_math_bits_deBruijn32tab), ("math/bits.deBruijn64tab", Rows.laid_math_bits_deBruijn64tab), ("internal/strconv.uint64pow10", Rows.laid_internal_strconv_uint64pow10), ("twig/wire.ErrShort", Rows.laid_twig_wire_ErrShort), ("twig/wire.ErrOver", Rows.laid_twig_wire_ErrOver), ("twig/wire.ErrLong", Rows.laid_twig_wire_ErrLong), ("twig/wire.ErrBig", Rows.laid_twig_wire_ErrBig), ("twig/wire.ErrPadding", Rows.laid_twig_wire_ErrPadding), ("twig/wire.ErrKind", Rows.laid_twig_wire_ErrKind), ("twig/wire.ErrBits", Rows.laid_twig_wire_ErrBits), ("twig/wire.ErrValue", Rows.laid_twig_wire_ErrValue), ("twig/wire.ErrSteps", Rows.laid_twig_wire_ErrSteps), ("twig/wire.ErrSide", Rows.laid_twig_wire_ErrSide), ("twig/proof.ErrWay", Rows.laid_twig_proof_ErrWay), ("twig/proof.ErrBottom", Rows.laid_twig_proof_ErrBottom), ("twig/proof.ErrRoot", Rows.laid_twig_proof_ErrRoot)] [.data, .data, .data, .sentinel, .sentinel, .sentinel, .sentinel, .sentinel, .sentinel, .sentinel, .sentinel, .sentinel, .sentinel, .sentinel, .sentinel, .sentinel] true :=
  Program.laidByTextLater.sub seatTie1 ["math/bits.deBruijn32tab", "math/bits.deBruijn64tab", "internal/strconv.uint64pow10", "twig/wire.ErrShort", "twig/wire.ErrOver", "twig/wire.ErrLong", "twig/wire.ErrBig", "twig/wire.ErrPadding", "twig/wire.ErrKind", "twig/wire.ErrBits", "twig/wire.ErrValue", "twig/wire.ErrSteps", "twig/wire.ErrSide", "twig/proof.ErrWay", "twig/proof.ErrBottom", "twig/proof.ErrRoot"] (by kernel_rfl) (by kernel_rfl)
theorem proved_row_tie : Rows.provedRow.laidByTextAt .later Tryz.pinned [.data, .data, .data, .sentinel, .sentinel, .sentinel, .sentinel, .sentinel, .sentinel, .sentinel, .sentinel, .sentinel, .sentinel, .sentinel, .sentinel, .sentinel] true :=
  OpenClaim.laidByTextAt_later rfl rfl tie3 noOwnUnsafe
theorem tie4 : Tryz.prog.laidByTextLater [("math/bits.deBruijn32tab", Rows.laid_math_bits_deBruijn32tab), ("math/bits.deBruijn64tab", Rows.laid_math_bits_deBruijn64tab), ("internal/strconv.uint64pow10", Rows.laid_internal_strconv_uint64pow10), ("twig/wire.ErrShort", Rows.laid_twig_wire_ErrShort), ("twig/wire.ErrOver", Rows.laid_twig_wire_ErrOver), ("twig/wire.ErrLong", Rows.laid_twig_wire_ErrLong), ("twig/wire.ErrBig", Rows.laid_twig_wire_ErrBig), ("twig/wire.ErrPadding", Rows.laid_twig_wire_ErrPadding), ("twig/wire.ErrKind", Rows.laid_twig_wire_ErrKind), ("twig/wire.ErrBits", Rows.laid_twig_wire_ErrBits), ("twig/wire.ErrValue", Rows.laid_twig_wire_ErrValue), ("twig/wire.ErrSteps", Rows.laid_twig_wire_ErrSteps), ("twig/wire.ErrSide", Rows.laid_twig_wire_ErrSide), ("twig/wire.ErrWidth", Rows.laid_twig_wire_ErrWidth), ("twig/wire.ErrSize", Rows.laid_twig_wire_ErrSize), ("twig/wire.ErrTotal", Rows.laid_twig_wire_ErrTotal), ("twig/wire.ErrDigest", Rows.laid_twig_wire_ErrDigest), ("twig/proof.ErrWay", Rows.laid_twig_proof_ErrWay), ("twig/proof.ErrBottom", Rows.laid_twig_proof_ErrBottom), ("twig/proof.ErrRoot", Rows.laid_twig_proof_ErrRoot)] [.data, .data, .data, .sentinel, .sentinel, .sentinel, .sentinel, .sentinel, .sentinel, .sentinel, .sentinel, .sentinel, .sentinel, .sentinel, .sentinel, .sentinel, .sentinel, .sentinel, .sentinel, .sentinel] true :=
  Program.laidByTextLater.sub seatTie1 ["math/bits.deBruijn32tab", "math/bits.deBruijn64tab", "internal/strconv.uint64pow10", "twig/wire.ErrShort", "twig/wire.ErrOver", "twig/wire.ErrLong", "twig/wire.ErrBig", "twig/wire.ErrPadding", "twig/wire.ErrKind", "twig/wire.ErrBits", "twig/wire.ErrValue", "twig/wire.ErrSteps", "twig/wire.ErrSide", "twig/wire.ErrWidth", "twig/wire.ErrSize", "twig/wire.ErrTotal", "twig/wire.ErrDigest", "twig/proof.ErrWay", "twig/proof.ErrBottom", "twig/proof.ErrRoot"] (by kernel_rfl) (by kernel_rfl)
theorem forged_row_tie : Rows.forgedRow.laidByTextAt .later Tryz.pinned [.data, .data, .data, .sentinel, .sentinel, .sentinel, .sentinel, .sentinel, .sentinel, .sentinel, .sentinel, .sentinel, .sentinel, .sentinel, .sentinel, .sentinel, .sentinel, .sentinel, .sentinel, .sentinel] true :=
  OpenClaim.laidByTextAt_later rfl rfl tie4 noOwnUnsafe
theorem tie5 : Tryz.prog.laidByTextLater [("twig/wire.ErrNoBytes", Rows.laid_twig_wire_ErrNoBytes)] [.sentinel] true :=
  Program.laidByTextLater.sub seatTie1 ["twig/wire.ErrNoBytes"] (by kernel_rfl) (by kernel_rfl)
theorem turned_row_tie : Rows.turnedRow.laidByTextAt .later Tryz.pinned [.sentinel] true :=
  OpenClaim.laidByTextAt_later rfl rfl tie5 noOwnUnsafe
theorem proofsUpto_row_tie : Rows.proofsUptoRow.laidByTextAt .later Tryz.pinned [.data, .data, .data, .data, .sentinel, .sentinel, .sentinel, .sentinel, .sentinel, .sentinel, .sentinel, .sentinel, .sentinel, .sentinel, .sentinel, .sentinel, .sentinel, .sentinel, .sentinel, .pinned] true :=
  OpenClaim.laidByTextAt_pinned rfl rfl tie rfl rfl rfl rfl (fun y hy _e => by
    simp only [Rows.proofsUptoRow, List.zip_cons_cons, List.zip_nil_right, List.mem_cons, List.mem_nil_iff, or_false] at hy
    rcases hy with rfl | rfl | rfl | rfl | rfl | rfl | rfl | rfl | rfl | rfl | rfl | rfl | rfl | rfl | rfl | rfl | rfl | rfl | rfl | rfl
    · cases _e
    · cases _e
    · cases _e
    · cases _e
    · cases _e
    · cases _e
    · cases _e
    · cases _e
    · cases _e
    · cases _e
    · cases _e
    · cases _e
    · cases _e
    · cases _e
    · cases _e
    · cases _e
    · cases _e
    · cases _e
    · cases _e
    · exact ⟨pin_laid_unicode_utf8_first, by kernel_rfl⟩) fits1
theorem backUpto_row_tie : Rows.backUptoRow.laidByTextAt .later Tryz.pinned [.data, .data, .data, .data, .sentinel, .sentinel, .sentinel, .sentinel, .sentinel, .sentinel, .sentinel, .sentinel, .sentinel, .sentinel, .sentinel, .sentinel, .sentinel, .sentinel, .sentinel, .pinned] true :=
  OpenClaim.laidByTextAt_pinned rfl rfl tie rfl rfl rfl rfl (fun y hy _e => by
    simp only [Rows.backUptoRow, List.zip_cons_cons, List.zip_nil_right, List.mem_cons, List.mem_nil_iff, or_false] at hy
    rcases hy with rfl | rfl | rfl | rfl | rfl | rfl | rfl | rfl | rfl | rfl | rfl | rfl | rfl | rfl | rfl | rfl | rfl | rfl | rfl | rfl
    · cases _e
    · cases _e
    · cases _e
    · cases _e
    · cases _e
    · cases _e
    · cases _e
    · cases _e
    · cases _e
    · cases _e
    · cases _e
    · cases _e
    · cases _e
    · cases _e
    · cases _e
    · cases _e
    · cases _e
    · cases _e
    · cases _e
    · exact ⟨pin_laid_unicode_utf8_first, by kernel_rfl⟩) fits1
theorem strictUpto_row_tie : Rows.strictUptoRow.laidByTextAt .later Tryz.pinned [.data, .data, .data, .data, .sentinel, .sentinel, .sentinel, .sentinel, .sentinel, .sentinel, .sentinel, .sentinel, .sentinel, .sentinel, .sentinel, .sentinel, .sentinel, .sentinel, .sentinel, .pinned] true :=
  OpenClaim.laidByTextAt_pinned rfl rfl tie rfl rfl rfl rfl (fun y hy _e => by
    simp only [Rows.strictUptoRow, List.zip_cons_cons, List.zip_nil_right, List.mem_cons, List.mem_nil_iff, or_false] at hy
    rcases hy with rfl | rfl | rfl | rfl | rfl | rfl | rfl | rfl | rfl | rfl | rfl | rfl | rfl | rfl | rfl | rfl | rfl | rfl | rfl | rfl
    · cases _e
    · cases _e
    · cases _e
    · cases _e
    · cases _e
    · cases _e
    · cases _e
    · cases _e
    · cases _e
    · cases _e
    · cases _e
    · cases _e
    · cases _e
    · cases _e
    · cases _e
    · cases _e
    · cases _e
    · cases _e
    · cases _e
    · exact ⟨pin_laid_unicode_utf8_first, by kernel_rfl⟩) fits1
theorem storesUpto_row_tie : Rows.storesUptoRow.laidByTextAt .later Tryz.pinned [.data, .data, .data, .sentinel, .sentinel, .sentinel, .sentinel, .sentinel, .sentinel, .sentinel, .sentinel, .sentinel, .sentinel, .sentinel, .sentinel, .sentinel, .sentinel, .sentinel, .sentinel, .sentinel, .sentinel, .sentinel, .sentinel, .sentinel, .sentinel, .sentinel, .sentinel, .sentinel, .sentinel, .sentinel, .sentinel] true :=
  OpenClaim.laidByTextAt_later rfl rfl tie2 noOwnUnsafe
theorem shownUpto_row_tie : Rows.shownUptoRow.laidByTextAt .later Tryz.pinned [.data, .data, .data, .sentinel, .sentinel, .sentinel, .sentinel, .sentinel, .sentinel, .sentinel, .sentinel, .sentinel, .sentinel, .sentinel, .sentinel, .sentinel, .sentinel, .sentinel, .sentinel, .sentinel, .sentinel, .sentinel, .sentinel, .sentinel, .sentinel, .sentinel, .sentinel, .sentinel, .sentinel, .sentinel, .sentinel] true :=
  OpenClaim.laidByTextAt_later rfl rfl tie2 noOwnUnsafe
theorem provedUpto_row_tie : Rows.provedUptoRow.laidByTextAt .later Tryz.pinned [.data, .data, .data, .sentinel, .sentinel, .sentinel, .sentinel, .sentinel, .sentinel, .sentinel, .sentinel, .sentinel, .sentinel, .sentinel, .sentinel, .sentinel] true :=
  OpenClaim.laidByTextAt_later rfl rfl tie3 noOwnUnsafe
theorem forgedUpto_row_tie : Rows.forgedUptoRow.laidByTextAt .later Tryz.pinned [.data, .data, .data, .sentinel, .sentinel, .sentinel, .sentinel, .sentinel, .sentinel, .sentinel, .sentinel, .sentinel, .sentinel, .sentinel, .sentinel, .sentinel, .sentinel, .sentinel, .sentinel, .sentinel] true :=
  OpenClaim.laidByTextAt_later rfl rfl tie4 noOwnUnsafe
theorem turnedUpto_row_tie : Rows.turnedUptoRow.laidByTextAt .later Tryz.pinned [.sentinel] true :=
  OpenClaim.laidByTextAt_later rfl rfl tie5 noOwnUnsafe
end Go.Proofs.YtddcbeeldjjmeaaGreatDoor
