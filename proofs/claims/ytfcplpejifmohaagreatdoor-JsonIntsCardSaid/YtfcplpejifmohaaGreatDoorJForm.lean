/-
  Is a text a literal? Is it UTF-8? Has a value elements?
-/
import Derived.Test.YtfcplpejifmohaaGreatDoorGJm
import Derived.Test.YtfcplpejifmohaaGreatDoorGJc
import Derived.Shelf.Unicode.ValidAny
namespace Go.Proofs
open Go.Shelf
def Tryz.lays196_ren : Go.Shelf.Ren := ⟨fun | 196 => 95 | 259 => 116 | n => n, fun | 9 => 9 | 4 => 4 | 3 => 3 | 5 => 5 | 12 => 12 | 119 => 148 | 0 => 0 | 46 => 94 | 139 => 151 | 138 => 150 | 53 => 131 | n => n, fun | 3 => 2 | 4 => 3 | n => n⟩
theorem Tryz.lays196 : Go.Proofs.Lays.n196 Tryz.prog Tryz.lays196_ren := {
  mixed := by kernel_rfl
  f196 := Tryz.func95.trans (congrArg some (by kernel_rfl))
  f259 := Tryz.func116.trans (congrArg some (by kernel_rfl))
  t0 := Tryz.underlying0
  a0 := Tryz.isAgg0
  z0 := Tryz.sizeOf0
  v0 := Tryz.zeroValue0
  t3 := Tryz.underlying3
  a3 := Tryz.isAgg3
  z3 := Tryz.sizeOf3
  v3 := Tryz.zeroValue3
  t4 := Tryz.underlying4
  a4 := Tryz.isAgg4
  z4 := Tryz.sizeOf4
  v4 := Tryz.zeroValue4
  t5 := Tryz.underlying5
  a5 := Tryz.isAgg5
  z5 := Tryz.sizeOf5
  v5 := Tryz.zeroValue5
  t9 := Tryz.underlying9
  a9 := Tryz.isAgg9
  z9 := Tryz.sizeOf9
  v9 := Tryz.zeroValue9
  t12 := Tryz.underlying12
  a12 := Tryz.isAgg12
  z12 := Tryz.sizeOf12
  v12 := Tryz.zeroValue12
  t46 := Tryz.underlying94
  a46 := Tryz.isAgg94
  z46 := Tryz.sizeOf94
  v46 := Tryz.zeroValue94
  t53 := Tryz.underlying131
  a53 := Tryz.isAgg131
  z53 := Tryz.sizeOf131
  v53 := Tryz.zeroValue131
  t119 := Tryz.underlying148
  a119 := Tryz.isAgg148
  z119 := Tryz.sizeOf148
  t138 := Tryz.underlying150
  a138 := Tryz.isAgg150
  z138 := Tryz.sizeOf150
  v138 := Tryz.zeroValue150
  t139 := Tryz.underlying151
  a139 := Tryz.isAgg151
  z139 := Tryz.sizeOf151
  v139 := Tryz.zeroValue151
  g3 := by kernel_rfl
  g4 := by kernel_rfl }
end Go.Proofs
namespace Go.Proofs.YtfcplpejifmohaaGreatDoor
open Go.RowKit Go.Shelf
set_option linter.unusedVariables false
set_option linter.unusedSimpArgs false

def isLitB (s : List UInt8) : Bool := (litE s 0).2 && decide ((litE s 0).1 = s.length) && decide ((litE s 0).1 ≤ 40)

set_option maxHeartbeats 1600000 in
theorem isLiteral_any {D : ByteArray} (hl : D.size ≤ 1000000) (w : World) : Calls Tryz.prog 94 #[.string D] w fun e w' => e = .returned (.bool (isLitB D.data.toList)) ∧ w' = w := by
  have LE := fun W => literalEnd_any (D := D) (p := 0) (Nat.zero_le _) hl W
  have hb : isLitB D.data.toList = ((litE D.data.toList 0).2 && decide ((litE D.data.toList 0).1 = D.size) && decide ((litE D.data.toList 0).1 ≤ 40)) := by unfold isLitB; rw [data_len]
  obtain ⟨e, he⟩ : ∃ e, e = (litE D.data.toList 0).1 := ⟨_, rfl⟩
  obtain ⟨b, hb2⟩ : ∃ b, b = (litE D.data.toList 0).2 := ⟨_, rfl⟩
  rw [← he, ← hb2] at LE hb
  obtain ⟨d1, hd1⟩ : ∃ d, d = decide (e = D.size) := ⟨_, rfl⟩
  obtain ⟨d2, hd2⟩ : ∃ d, d = decide (e ≤ 40) := ⟨_, rfl⟩
  have t1 : ((e : Int) == (D.size : Int)) = d1 := by
    rw [hd1, Bool.eq_iff_iff, beq_iff_eq, decide_eq_true_eq]; omega
  have t2 : decide ((e : Int) ≤ 40) = d2 := by rw [hd2, decide_eq_decide]; omega
  rw [← hd1, ← hd2] at hb
  have HB := Lib.hid hb
  have LE := Lib.hid LE
  clear he hb2 hb hd1 hd2
  cases b
  · go_enter Tryz.func94, Tryz.ntmps94
    go_wp2_with (go_at_call 87; refine (LE.out _).mono ?_; rintro r w1 ⟨rfl, rfl⟩)
    go_ret
    exact ⟨by rw [HB.out]; rfl, rfl⟩
  · cases d1
    all_goals
      go_enter Tryz.func94, Tryz.ntmps94
      go_wp2_with (go_at_call 87; refine (LE.out _).mono ?_; rintro r w1 ⟨rfl, rfl⟩)
      go_ret
      exact ⟨by rw [HB.out]; rfl, rfl⟩

theorem valid_any (t : List UInt8) (hl : t.length ≤ 1000000) {w : World} (hT : Tb w) : Calls Tryz.prog 95 #[.string ⟨t.toArray⟩] w fun e w' => e = .returned (.bool (Lib.validD t)) ∧ Only w w' :=
  Any.utf8_ValidString Tryz.lays196 ⟨t.toArray⟩ w (by rw [← data_len]; show t.length ≤ _; omega) hT

set_option maxHeartbeats 1600000 in
theorem hasElements_any (k : Nat) (t : Value) (L N : Value) (hk : k ≤ 6) (w : World) : Calls Tryz.prog 47 #[.agg #[.int .i64 (k : Int), t, L, N]] w fun e w' => e = .returned (.bool (k == 5 || k == 6)) ∧ Only w w' := by
  have ht := (Only.refl w).alloc (.cells #[.int .i64 (k : Int), t, L, N] 25)
  rcases (by omega : k = 0 ∨ k = 1 ∨ k = 2 ∨ k = 3 ∨ k = 4 ∨ k = 5 ∨ k = 6) with rfl | rfl | rfl | rfl | rfl | rfl | rfl
  all_goals
    go_enter Tryz.func47, Tryz.ntmps47
    go_wp2_with fail
    go_ret
    exact ⟨rfl, ht⟩
end Go.Proofs.YtfcplpejifmohaaGreatDoor
