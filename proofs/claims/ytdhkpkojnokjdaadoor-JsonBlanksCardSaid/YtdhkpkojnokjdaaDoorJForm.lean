/-
  Is a text a literal? Is it UTF-8? Has a value elements?
-/
import Derived.Test.YtdhkpkojnokjdaaDoorGJm
import Derived.Test.YtdhkpkojnokjdaaDoorGJc
import Derived.Shelf.Unicode.ValidAny
namespace Go.Proofs
open Go.Shelf
def Tryd.lays196_ren : Go.Shelf.Ren := ⟨fun | 196 => 64 | 259 => 76 | n => n, fun | 9 => 9 | 4 => 4 | 3 => 3 | 5 => 5 | 12 => 12 | 119 => 100 | 0 => 0 | 46 => 76 | 139 => 103 | 138 => 102 | 53 => 108 | n => n, fun | 3 => 0 | 4 => 1 | n => n⟩
theorem Tryd.lays196 : Go.Proofs.Lays.n196 Tryd.prog Tryd.lays196_ren := {
  mixed := by kernel_rfl
  f196 := Tryd.func64.trans (congrArg some (by kernel_rfl))
  f259 := Tryd.func76.trans (congrArg some (by kernel_rfl))
  t0 := Tryd.underlying0
  a0 := Tryd.isAgg0
  z0 := Tryd.sizeOf0
  v0 := Tryd.zeroValue0
  t3 := Tryd.underlying3
  a3 := Tryd.isAgg3
  z3 := Tryd.sizeOf3
  v3 := Tryd.zeroValue3
  t4 := Tryd.underlying4
  a4 := Tryd.isAgg4
  z4 := Tryd.sizeOf4
  v4 := Tryd.zeroValue4
  t5 := Tryd.underlying5
  a5 := Tryd.isAgg5
  z5 := Tryd.sizeOf5
  v5 := Tryd.zeroValue5
  t9 := Tryd.underlying9
  a9 := Tryd.isAgg9
  z9 := Tryd.sizeOf9
  v9 := Tryd.zeroValue9
  t12 := Tryd.underlying12
  a12 := Tryd.isAgg12
  z12 := Tryd.sizeOf12
  v12 := Tryd.zeroValue12
  t46 := Tryd.underlying76
  a46 := Tryd.isAgg76
  z46 := Tryd.sizeOf76
  v46 := Tryd.zeroValue76
  t53 := Tryd.underlying108
  a53 := Tryd.isAgg108
  z53 := Tryd.sizeOf108
  v53 := Tryd.zeroValue108
  t119 := Tryd.underlying100
  a119 := Tryd.isAgg100
  z119 := Tryd.sizeOf100
  t138 := Tryd.underlying102
  a138 := Tryd.isAgg102
  z138 := Tryd.sizeOf102
  v138 := Tryd.zeroValue102
  t139 := Tryd.underlying103
  a139 := Tryd.isAgg103
  z139 := Tryd.sizeOf103
  v139 := Tryd.zeroValue103
  g3 := by kernel_rfl
  g4 := by kernel_rfl }
end Go.Proofs
namespace Go.Proofs.YtdhkpkojnokjdaaDoor
open Go.RowKit Go.Shelf
set_option linter.unusedVariables false
set_option linter.unusedSimpArgs false

def isLitB (s : List UInt8) : Bool := (litE s 0).2 && decide ((litE s 0).1 = s.length) && decide ((litE s 0).1 ≤ 40)

set_option maxHeartbeats 1600000 in
theorem isLiteral_any {D : ByteArray} (hl : D.size ≤ 1000000) (w : World) : Calls Tryd.prog 63 #[.string D] w fun e w' => e = .returned (.bool (isLitB D.data.toList)) ∧ w' = w := by
  have LE := fun W => literalEnd_any (D := D) (p := 0) (Nat.zero_le _) hl W
  have hb : isLitB D.data.toList = ((litE D.data.toList 0).2 && decide ((litE D.data.toList 0).1 = D.size) && decide ((litE D.data.toList 0).1 ≤ 40)) := by unfold isLitB; rw [data_len]
  obtain ⟨e, he⟩ : ∃ e, e = (litE D.data.toList 0).1 := ⟨_, rfl⟩
  obtain ⟨b, hb2⟩ : ∃ b, b = (litE D.data.toList 0).2 := ⟨_, rfl⟩
  rw [← he, ← hb2] at LE hb
  obtain ⟨d1, hd1⟩ : ∃ d, d = decide (e = D.size) := ⟨_, rfl⟩
  obtain ⟨d2, hd2⟩ : ∃ d, d = decide (e ≤ 40) := ⟨_, rfl⟩
  have t1 : ((e : Int) == (D.size : Int)) = d1 := by
    rw [hd1, Bool.eq_iff_iff, beq_iff_eq, decide_eq_true_eq]; omega
  have t2 : decide ((e : Int) ≤ 40) = d2 := by rw [hd2, decide_eq_decide]; omega
  rw [← hd1, ← hd2] at hb
  have HB := Lib.hid hb
  have LE := Lib.hid LE
  clear he hb2 hb hd1 hd2
  cases b
  · go_enter Tryd.func63, Tryd.ntmps63
    go_wp2_with (go_at_call 53; refine (LE.out _).mono ?_; rintro r w1 ⟨rfl, rfl⟩)
    go_ret
    exact ⟨by rw [HB.out]; rfl, rfl⟩
  · cases d1
    all_goals
      go_enter Tryd.func63, Tryd.ntmps63
      go_wp2_with (go_at_call 53; refine (LE.out _).mono ?_; rintro r w1 ⟨rfl, rfl⟩)
      go_ret
      exact ⟨by rw [HB.out]; rfl, rfl⟩

theorem valid_any (t : List UInt8) (hl : t.length ≤ 1000000) {w : World} (hT : Tb w) : Calls Tryd.prog 64 #[.string ⟨t.toArray⟩] w fun e w' => e = .returned (.bool (Lib.validD t)) ∧ Only w w' :=
  Any.utf8_ValidString Tryd.lays196 ⟨t.toArray⟩ w (by rw [← data_len]; show t.length ≤ _; omega) hT

set_option maxHeartbeats 1600000 in
theorem hasElements_any (k : Nat) (t : Value) (L N : Value) (hk : k ≤ 6) (w : World) : Calls Tryd.prog 34 #[.agg #[.int .i64 (k : Int), t, L, N]] w fun e w' => e = .returned (.bool (k == 5 || k == 6)) ∧ Only w w' := by
  have ht := (Only.refl w).alloc (.cells #[.int .i64 (k : Int), t, L, N] 25)
  rcases (by omega : k = 0 ∨ k = 1 ∨ k = 2 ∨ k = 3 ∨ k = 4 ∨ k = 5 ∨ k = 6) with rfl | rfl | rfl | rfl | rfl | rfl | rfl
  all_goals
    go_enter Tryd.func34, Tryd.ntmps34
    go_wp2_with fail
    go_ret
    exact ⟨rfl, ht⟩
end Go.Proofs.YtdhkpkojnokjdaaDoor
