/-
  What comes in to the laws of package money, read as the walks want it; what the listed tables hold; a world for the witness.
-/
import Derived.Test.YtopklnaahdjafaaGreatDoorMFirst
import Derived.Test.YtopklnaahdjafaaGreatDoorCards
import Derived.Test.YtopklnaahdjafaaGreatDoorTie
import Derived.WalkKit
import Derived.ProofKit
import Derived.OpenShut
import Derived.Carry
import Derived.ChangeMaps5
import Derived.Deep.Slices
import Derived.Deep.Fields
import Derived.Deep.DeepHandedRow
import Derived.Lib.LaidTab
import Derived.Lib.SmallJoins
import Derived.Stop.LaidErr
import Derived.SizedLaws
namespace Go.Proofs.YtopklnaahdjafaaGreatDoor
open Go.ChangeShapes Go.WideShapes Go.ChangeAt Go.RowKit Go.Deep Go.Joins
set_option linter.unusedVariables false

theorem ownK : ownKnob Tryz.prog.godebug = none := by kernel_rfl
theorem laidOut : laidOutB Tryz.prog = true := by kernel_rfl
theorem cellsAm : Tryz.prog.cellsOf 23 = 2 := by kernel_rfl

/-! ### the listed tables -/
theorem gPowType : (Tryz.prog.globals[3]?).map (·.type) = some 177 := by kernel_rfl
theorem cellsArr20 : Tryz.prog.cellsOf 177 = 20 := by kernel_rfl
theorem cellsU64 : Tryz.prog.cellsOf 83 = 1 := by kernel_rfl

/-- the three variables that the rows list -/
abbrev laids : List (String × DataW Unit) := [("math/bits.deBruijn32tab", Rows.laid_math_bits_deBruijn32tab), ("math/bits.deBruijn64tab", Rows.laid_math_bits_deBruijn64tab), ("internal/strconv.uint64pow10", Rows.laid_internal_strconv_uint64pow10)]

theorem pow_of {W : World} (h : laidMetH Tryz.prog laids W) : Pow W := by
  have h1 : laidMet Tryz.prog laids W := h
  have h3 := h1.tail.tail
  exact Lib.tabIs_of_head (rest := []) gPowM gPowType Tryz.underlying177 Tryz.underlying83 cellsU64 cellsArr20 h3

/-! ### a world for the witness -/
def litV : DataW Unit → Value
  | .lit (.int k z) => .int k z
  | _ => .bool false
def cellsV : DataW Unit → Array Value
  | .agg ps => (ps.map litV).toArray
  | _ => #[]
def layV (cs : Array Value) : Obj → Obj
  | .cells _ t frozen => .cells cs t frozen
  | o => o
noncomputable def laidWorld (os : Os) : World :=
  { World.holding Tryz.prog os ⟨#[], #[], []⟩ with heap := (((World.holding Tryz.prog os ⟨#[], #[], []⟩).heap.modify 3 (layV (cellsV Rows.laid_internal_strconv_uint64pow10))).modify 4 (layV (cellsV Rows.laid_math_bits_deBruijn32tab))).modify 5 (layV (cellsV Rows.laid_math_bits_deBruijn64tab)) }

/-! ### what came in -/
theorem i64_wf {z : Int} (h : (Lit.int .i64 z).wf = true) : I64 z := by
  have : -9223372036854775808 ≤ z ∧ z ≤ 9223372036854775807 := by simpa [Lit.wf, IntKind.min, IntKind.max, IntKind.signed, IntKind.bits] using h
  exact ⟨by omega, by omega⟩

set_option maxRecDepth 100000 in
/-- an amount that came in -/
theorem amount_open {H : Type} {enc' : TypeId × Value → H} {W : World} {base : Nat} {b0 : Nat} {spare : Nat → Bool} {held : Bool} {v : Value} {d : DataW H} {p : List MemPlace}
    (hv : Value.okWide Tryz.prog W .any b0 23 v) (h : DataW.Trod enc' Tryz.prog W base spare held 23 v d p) :
    ∃ (u : Int) (s : ByteArray), I64 u ∧ v = .agg #[.int .i64 u, .string s] ∧ p = [] ∧ ∀ W' base' spare', DataW.Trod enc' Tryz.prog W' base' spare' held 23 (.agg #[.int .i64 u, .string s]) d [] := by
  obtain ⟨c0, c1, y0, y1, m, rfl, rfl, rfl, hy0, hy1⟩ := open_agg2 Tryz.underlying23 (by kernel_rfl) cellsAm hv h
  obtain ⟨a, e0, rfl, wa⟩ := DataW.trod_int Tryz.underlying3 hy0
  obtain ⟨s, e1, rfl, hs⟩ := DataW.trod_string Tryz.underlying9 hy1
  simp at e0 e1
  subst e0 e1
  refine ⟨a, s, i64_wf wa, rfl, rfl, fun W' base' spare' => ?_⟩
  exact shut_agg2 (y0 := (.lit (.int .i64 a), [])) (y1 := (.lit (.string s.data.toList), [])) Tryz.underlying23 (by kernel_rfl) cellsAm ⟨1, by simp [DataW.trod, Tryz.underlying3, wa]⟩ ⟨1, by simp [DataW.trod, Tryz.underlying9, hs]⟩
end Go.Proofs.YtopklnaahdjafaaGreatDoor
