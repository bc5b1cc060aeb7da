/-
  What comes in to the laws of package json that list seven tables.
-/
import Derived.Test.YtfcplpejifmohaaGreatDoorJArgs
import Derived.Test.YtfcplpejifmohaaGreatDoorJNum
namespace Go.Proofs.YtfcplpejifmohaaGreatDoor
open Go.ChangeShapes Go.WideShapes Go.ChangeAt Go.RowKit Go.Deep Go.Joins Go.Lib
set_option linter.unusedVariables false
/-- the variables that the rows list -/
abbrev laids : List (String × DataW Unit) := [("math/bits.deBruijn32tab", Rows.laid_math_bits_deBruijn32tab), ("math/bits.deBruijn64tab", Rows.laid_math_bits_deBruijn64tab), ("internal/strconv.uint64pow10", Rows.laid_internal_strconv_uint64pow10), ("unicode/utf8.acceptRanges", Rows.laid_unicode_utf8_acceptRanges), ("strconv.ErrRange", Rows.laid_strconv_ErrRange), ("strconv.ErrSyntax", Rows.laid_strconv_ErrSyntax), ("unicode/utf8.first", Rows.laid_unicode_utf8_first)]
theorem tb_of {W : World} (h : laidMetH Tryz.prog laids W) : Tb W := tb_reads (l := laids) h (by simp) (by simp)
theorem gPowTypeJ : (Tryz.prog.globals[4]?).map (·.type) = some 159 := by kernel_rfl
theorem cellsArr20J : Tryz.prog.cellsOf 159 = 20 := by kernel_rfl
theorem cellsU64J : Tryz.prog.cellsOf 131 = 1 := by kernel_rfl
theorem powJ_of {W : World} (h : laidMetH Tryz.prog laids W) : PowJ W := by
  have h1 : laidMet Tryz.prog laids W := h
  exact Lib.tabIs_of_head gPowJ gPowTypeJ Tryz.underlying159 Tryz.underlying131 cellsU64J cellsArr20J h1.tail.tail

abbrev synS : ByteArray := ⟨#[105, 110, 118, 97, 108, 105, 100, 32, 115, 121, 110, 116, 97, 120]⟩
abbrev rngS : ByteArray := ⟨#[118, 97, 108, 117, 101, 32, 111, 117, 116, 32, 111, 102, 32, 114, 97, 110, 103, 101]⟩
noncomputable def low : Nat := (World.holding Tryz.prog default ⟨#[], #[], []⟩).heap.size
noncomputable def laidWorld (os : Os) : World :=
  let w0 := World.holding Tryz.prog os ⟨#[.cells #[.string synS] 156, .cells #[.string rngS] 156], #[], []⟩
  { w0 with heap := ((((((w0.heap.modify 2 (layV (cellsV Rows.laid_unicode_utf8_first))).modify 3 (layV (cellsV Rows.laid_unicode_utf8_acceptRanges))).modify 4 (layV (cellsV Rows.laid_internal_strconv_uint64pow10))).modify 6 (layV (cellsV Rows.laid_math_bits_deBruijn32tab))).modify 7 (layV (cellsV Rows.laid_math_bits_deBruijn64tab))).modify 0 (layV #[.iface 154 (.pointer (some ⟨low, 0, none⟩))])).modify 1 (layV #[.iface 154 (.pointer (some ⟨low + 1, 0, none⟩))]) }
end Go.Proofs.YtfcplpejifmohaaGreatDoor
