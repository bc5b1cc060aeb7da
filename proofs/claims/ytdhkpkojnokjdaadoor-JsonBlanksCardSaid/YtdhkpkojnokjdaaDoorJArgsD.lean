/-
  What comes in to the laws of package json that list two tables.
-/
import Derived.Test.YtdhkpkojnokjdaaDoorJArgs
namespace Go.Proofs.YtdhkpkojnokjdaaDoor
open Go.ChangeShapes Go.WideShapes Go.ChangeAt Go.RowKit Go.Deep Go.Joins Go.Lib
set_option linter.unusedVariables false
/-- the variables that the rows list -/
abbrev laids : List (String × DataW Unit) := [("unicode/utf8.acceptRanges", Rows.laid_unicode_utf8_acceptRanges), ("unicode/utf8.first", Rows.laid_unicode_utf8_first)]
theorem tb_of {W : World} (h : laidMetH Tryd.prog laids W) : Tb W := tb_reads (l := laids) h (by simp) (by simp)
noncomputable def laidWorld (os : Os) : World :=
  { World.holding Tryd.prog os ⟨#[], #[], []⟩ with heap := ((World.holding Tryd.prog os ⟨#[], #[], []⟩).heap.modify 0 (layV (cellsV Rows.laid_unicode_utf8_first))).modify 1 (layV (cellsV Rows.laid_unicode_utf8_acceptRanges)) }
end Go.Proofs.YtdhkpkojnokjdaaDoor
