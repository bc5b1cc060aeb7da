/-
  The arguments of the laws of package wide.
-/
import Derived.Test.YtagilpgplcphpaaNBase
import Derived.WalkKit
import Derived.ProofKit
import Derived.OpenShut
import Derived.Lib.SmallJoins
namespace Go.Proofs.Ytagilpgplcphpaa
open Go.ChangeShapes Go.WideShapes Go.ChangeAt Go.RowKit Go.Joins

theorem cellsW : Try.prog.cellsOf 24 = 2 := by kernel_rfl
theorem ownW : ownKnob Try.prog.godebug = none := by kernel_rfl

theorem i64_of {z : Int} (h : (Lit.int .i64 z).wf = true) : -9223372036854775808 ≤ z ∧ z < 9223372036854775808 := by
  have : -9223372036854775808 ≤ z ∧ z ≤ 9223372036854775807 := by simpa [Lit.wf, IntKind.min, IntKind.max, IntKind.signed, IntKind.bits] using h
  omega
theorem u64_of {z : Int} (h : (Lit.int .u64 z).wf = true) : Word z := by
  have : 0 ≤ z ∧ z ≤ 18446744073709551615 := by simpa [Lit.wf, IntKind.min, IntKind.max, IntKind.signed, IntKind.bits] using h
  exact ⟨this.1, by omega⟩

/-- a number of 128 bits that came in -/
theorem wide_open {H : Type} {enc' : TypeId × Value → H} {W : World} {base : Nat} {b0 : Nat} {spare : Nat → Bool} {held : Bool} {v : Value} {d : DataW H} {p : List MemPlace}
    (hv : Value.okWide Try.prog W .any b0 24 v) (h : DataW.Trod enc' Try.prog W base spare held 24 v d p) :
    ∃ x : Int, In x ∧ v = enc x ∧ p = [] ∧ ∀ W' base' spare', DataW.Trod enc' Try.prog W' base' spare' held 24 (enc x) d [] := by
  obtain ⟨c0, c1, y0, y1, m, rfl, rfl, rfl, hy0, hy1⟩ := open_agg2 Try.underlying24 (by kernel_rfl) cellsW hv h
  obtain ⟨a, e0, rfl, wa⟩ := DataW.trod_int Try.underlying22 hy0
  obtain ⟨b, e1, rfl, wb⟩ := DataW.trod_int Try.underlying22 hy1
  simp at e0 e1
  subst e0 e1
  obtain ⟨x, hx, ex⟩ := enc_of (u64_of wa) (u64_of wb)
  refine ⟨x, hx, ex, rfl, fun W' base' spare' => ?_⟩
  rw [← ex]
  exact shut_agg2 (y0 := (.lit (.int .u64 a), [])) (y1 := (.lit (.int .u64 b), [])) Try.underlying24 (by kernel_rfl) cellsW ⟨1, by simp [DataW.trod, Try.underlying22, wa]⟩ ⟨1, by simp [DataW.trod, Try.underlying22, wb]⟩
end Go.Proofs.Ytagilpgplcphpaa
