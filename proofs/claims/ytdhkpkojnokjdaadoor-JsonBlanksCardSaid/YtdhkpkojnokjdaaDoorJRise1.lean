/-
  The comparison by which names are put in order.
-/
import Derived.Test.YtdhkpkojnokjdaaDoorJMade
import Derived.Shelf.Small.Strs
namespace Go.Proofs
open Go.Shelf
def Tryd.lays106_ren : Go.Shelf.Ren := ⟨fun | 106 => 62 | 213 => 75 | 265 => 84 | n => n, fun | 9 => 9 | 3 => 3 | n => n, fun | n => n⟩
theorem Tryd.lays106 : Go.Proofs.Lays.n106 Tryd.prog Tryd.lays106_ren := {
  mixed := by kernel_rfl
  f106 := Tryd.func62.trans (congrArg some (by kernel_rfl))
  f213 := Tryd.func75.trans (congrArg some (by kernel_rfl))
  f265 := Tryd.func84.trans (congrArg some (by kernel_rfl))
  t3 := Tryd.underlying3
  a3 := Tryd.isAgg3
  z3 := Tryd.sizeOf3
  v3 := Tryd.zeroValue3
  t9 := Tryd.underlying9
  a9 := Tryd.isAgg9
  z9 := Tryd.sizeOf9
  v9 := Tryd.zeroValue9 }
end Go.Proofs
namespace Go.Proofs.YtdhkpkojnokjdaaDoor
open Go.RowKit Go.Shelf
set_option linter.unusedVariables false
set_option linter.unusedSimpArgs false

theorem compare_any (a b : ByteArray) (w : World) : Calls Tryd.prog 62 #[.string a, .string b] w fun e w' => e = .returned (.int .i64 (Lib.compareBytes a.data.toList b.data.toList)) ∧ w' = w := Any.strings_Compare Tryd.lays106 a b w

set_option maxHeartbeats 3200000 in
theorem rising1_any {ns : List (List UInt8)} {N : Value} {B i j : Nat} {w : World} (hN : NamesIn w N ns) (hb : w.cell? ⟨B, 0, none⟩ = some N) (hi : i < ns.length) (hj : j < ns.length) (hl : ns.length ≤ 1000000) :
    Calls Tryd.prog 61 #[.int .i64 (i : Int), .int .i64 (j : Int), .pointer (some ⟨B, 0, none⟩)] w fun e w' => e = .returned (.int .i64 (Lib.compareBytes ns[i] ns[j])) ∧ ∃ q, w' = w.drewN q := by
  obtain ⟨sn, cn, rfl, -, hnames⟩ := hN
  rcases hnames with h0 | ⟨gn, offn, hsn, hncell⟩
  · subst h0; simp at hi
  subst hsn
  have ii : (i : Int) < (ns.length : Int) := by omega
  have ij : (j : Int) < (ns.length : Int) := by omega
  have il : (ns.length : Int) ≤ 1000000 := by omega
  have nc := hncell i hi
  have np := hncell j hj
  obtain ⟨a, ha⟩ : ∃ a, a = ns[i]'hi := ⟨_, rfl⟩
  obtain ⟨b, hb2⟩ : ∃ b, b = ns[j]'hj := ⟨_, rfl⟩
  rw [← ha] at nc
  rw [← hb2] at np
  rw [← ha, ← hb2]
  have en := add_at gn offn i
  have en2 := add_at gn offn j
  have C : ∀ W, Calls Tryd.prog 62 #[txt a, txt b] W fun e w' => e = .returned (.int .i64 (Lib.compareBytes a b)) ∧ w' = W := fun W => compare_any ⟨a.toArray⟩ ⟨b.toArray⟩ W
  clear hncell ha hb2
  go_enter Tryd.func61, Tryd.ntmps61
  go_wp2_with fail
  go_quiet ((first | (go_at_call 62; with_reducible exact Calls.quiet_of_same (C _)) | fail))
  go_wp2_with fail
  go_ret
  exact ⟨rfl, _, rfl⟩
end Go.Proofs.YtdhkpkojnokjdaaDoor
