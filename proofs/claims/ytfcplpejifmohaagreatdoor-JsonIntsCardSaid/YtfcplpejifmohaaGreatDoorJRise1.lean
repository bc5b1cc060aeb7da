/-
  The comparison by which names are put in order.
-/
import Derived.Test.YtfcplpejifmohaaGreatDoorJMade
import Derived.Shelf.Small.Strs
namespace Go.Proofs
open Go.Shelf
def Tryz.lays106_ren : Go.Shelf.Ren := ⟨fun | 106 => 84 | 213 => 109 | 265 => 128 | n => n, fun | 9 => 9 | 3 => 3 | n => n, fun | n => n⟩
theorem Tryz.lays106 : Go.Proofs.Lays.n106 Tryz.prog Tryz.lays106_ren := {
  mixed := by kernel_rfl
  f106 := Tryz.func84.trans (congrArg some (by kernel_rfl))
  f213 := Tryz.func109.trans (congrArg some (by kernel_rfl))
  f265 := Tryz.func128.trans (congrArg some (by kernel_rfl))
  t3 := Tryz.underlying3
  a3 := Tryz.isAgg3
  z3 := Tryz.sizeOf3
  v3 := Tryz.zeroValue3
  t9 := Tryz.underlying9
  a9 := Tryz.isAgg9
  z9 := Tryz.sizeOf9
  v9 := Tryz.zeroValue9 }
end Go.Proofs
namespace Go.Proofs.YtfcplpejifmohaaGreatDoor
open Go.RowKit Go.Shelf
set_option linter.unusedVariables false
set_option linter.unusedSimpArgs false

theorem compare_any (a b : ByteArray) (w : World) : Calls Tryz.prog 84 #[.string a, .string b] w fun e w' => e = .returned (.int .i64 (Lib.compareBytes a.data.toList b.data.toList)) ∧ w' = w := Any.strings_Compare Tryz.lays106 a b w

set_option maxHeartbeats 3200000 in
theorem rising1_any {ns : List (List UInt8)} {N : Value} {B i j : Nat} {w : World} (hN : NamesIn w N ns) (hb : w.cell? ⟨B, 0, none⟩ = some N) (hi : i < ns.length) (hj : j < ns.length) (hl : ns.length ≤ 1000000) :
    Calls Tryz.prog 83 #[.int .i64 (i : Int), .int .i64 (j : Int), .pointer (some ⟨B, 0, none⟩)] w fun e w' => e = .returned (.int .i64 (Lib.compareBytes ns[i] ns[j])) ∧ ∃ q, w' = w.drewN q := by
  obtain ⟨sn, cn, rfl, hnames⟩ := hN
  rcases hnames with h0 | ⟨gn, offn, hsn, hncell⟩
  · subst h0; simp at hi
  subst hsn
  have ii : (i : Int) < (ns.length : Int) := by omega
  have ij : (j : Int) < (ns.length : Int) := by omega
  have il : (ns.length : Int) ≤ 1000000 := by omega
  have nc := hncell i hi
  have np := hncell j hj
  obtain ⟨a, ha⟩ : ∃ a, a = ns[i]'hi := ⟨_, rfl⟩
  obtain ⟨b, hb2⟩ : ∃ b, b = ns[j]'hj := ⟨_, rfl⟩
  rw [← ha] at nc
  rw [← hb2] at np
  rw [← ha, ← hb2]
  have en := add_at gn offn i
  have en2 := add_at gn offn j
  have C : ∀ W, Calls Tryz.prog 84 #[txt a, txt b] W fun e w' => e = .returned (.int .i64 (Lib.compareBytes a b)) ∧ w' = W := fun W => compare_any ⟨a.toArray⟩ ⟨b.toArray⟩ W
  clear hncell ha hb2
  go_enter Tryz.func83, Tryz.ntmps83
  go_wp2_with fail
  go_quiet ((first | (go_at_call 84; with_reducible exact Calls.quiet_of_same (C _)) | fail))
  go_wp2_with fail
  go_ret
  exact ⟨rfl, _, rfl⟩
end Go.Proofs.YtfcplpejifmohaaGreatDoor
