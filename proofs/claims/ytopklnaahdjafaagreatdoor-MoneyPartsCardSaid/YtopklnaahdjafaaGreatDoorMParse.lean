/-
  A decimal's parts; units of digits; Parse.
-/
import Derived.Test.YtopklnaahdjafaaGreatDoorMText
namespace Go.Proofs.YtopklnaahdjafaaGreatDoor
open Go.RowKit Go.Shelf
set_option linter.unusedVariables false

theorem numOf_take_le (l : List UInt8) (k : Nat) : numOf (l.take k) ≤ numOf l := by
  have h := numOf_append (l.take k) (l.drop k)
  rw [List.take_append_drop] at h
  have : 1 ≤ 10 ^ (l.drop k).length := Nat.pow_pos (by decide)
  rw [h]
  calc numOf (l.take k) = numOf (l.take k) * 1 := (Nat.mul_one _).symm
    _ ≤ numOf (l.take k) * 10 ^ (l.drop k).length := Nat.mul_le_mul_left _ this
    _ ≤ _ := Nat.le_add_right _ _

theorem numOf_take_succ {D : ByteArray} {k : Nat} (hk : k < D.size) : numOf (D.data.toList.take (k + 1)) = 10 * numOf (D.data.toList.take k) + ((D[k]'hk).toNat - 48) := by
  have hk' : k < D.data.toList.length := by simpa using hk
  rw [List.take_succ_eq_append_getElem hk', numOf_snoc]
  rfl

set_option maxRecDepth 100000 in
set_option maxHeartbeats 1600000 in
theorem unitsOf_any (s : ByteArray) (hl : s.size ≤ 1000000) (hd : digsB s.data.toList = true) (w : World) :
    Calls Tryz.prog 55 #[.string s] w fun e w' => e = .returned (if numOf s.data.toList ≤ 4611686018427387904 then .tuple #[.int .i64 (numOf s.data.toList), .bool true] else .tuple #[.int .i64 0, .bool false]) ∧ w' = w := by
  have il : (s.size : Int) ≤ 1000000 := by omega
  have HD := Lib.hid hd
  obtain ⟨V, hV⟩ : ∃ V, V = (if numOf s.data.toList ≤ 4611686018427387904 then Value.tuple #[.int .i64 (numOf s.data.toList), .bool true] else .tuple #[.int .i64 0, .bool false]) := ⟨_, rfl⟩
  rw [← hV]
  have HV := Lib.hid hV
  clear hd hV
  go_enter Tryz.func55, Tryz.ntmps55
  go_wp2_with fail
  go_loop [4, 9] (fun u i => ∃ k n : Nat, k ≤ s.size ∧ i = .int .i64 k ∧ u = .int .i64 n ∧ n ≤ 4611686018427387904 ∧ numOf (s.data.toList.take k) = n) (fun _ i => s.size - (intOf i).toNat)
  case atStart => exact ⟨0, 0, Nat.zero_le _, rfl, rfl, by omega, by simp [numOf]⟩
  case round =>
    obtain ⟨k, n, hk, rfl, rfl, hn, hnum⟩ := hrel
    have HN := Lib.hid hnum
    clear hnum
    by_cases hlt : k < s.size
    · have il2 : (k : Int) < (s.size : Int) := by omega
      have hdg := digsB_at HD.out (c := s[k]'hlt) (by
        have hk' : k < s.data.toList.length := by simpa using hlt
        exact List.getElem_mem hk')
      obtain ⟨c, hc⟩ : ∃ c, c = (s[k]'hlt).toNat := ⟨_, rfl⟩
      have hs := numOf_take_succ (D := s) hlt
      rw [← hc] at hdg hs
      rw [HN.out] at hs
      have HS := Lib.hid hs
      have hc2 : (s[k]'hlt).toNat = c := hc.symm
      obtain ⟨g1, g2⟩ := hdg
      clear hc hs
      obtain ⟨d, rfl⟩ : ∃ d : Nat, c = 48 + d := ⟨c - 48, by omega⟩
      have i1 : (48 : Int) ≤ ((48 + d : Nat) : Int) := by omega
      have i2 : ((48 + d : Nat) : Int) ≤ 57 := by omega
      have i3 : (n : Int) ≤ 4611686018427387904 := by omega
      by_cases cT : (4611686018427387904 - (48 + (d : Int) - 48)) / 10 < (n : Int)
      · have HV2 : Hid (V = .tuple #[.int .i64 0, .bool false]) := by
          have e1 := HS.out
          have e2 := numOf_take_le s.data.toList (k + 1)
          refine (HV.out).trans (if_neg ?_)
          omega
        go_wp2
        go_ret2
        exact ⟨(congrArg Ending.returned HV2.out).symm, rfl⟩
      · have e1 := HS.out
        have hn2 : 10 * n + d ≤ 4611686018427387904 := by omega
        have e2 : numOf (s.data.toList.take (k + 1)) = 10 * n + d := by rw [e1]; omega
        have HF := Lib.hid e2
        clear e1 e2
        go_wp2
        go_round
        case rel => exact ⟨k + 1, 10 * n + d, by omega, by go_num, by go_num, hn2, HF.out⟩
        case measure => simp [intOf]; omega
    · have hkl : k = s.size := by omega
      subst hkl
      have h := HN.out
      rw [List.take_of_length_le (by simp)] at h
      have HV2 : Hid (V = .tuple #[.int .i64 n, .bool true]) := by
        refine (HV.out).trans ?_
        rw [h, if_pos hn]
      clear h
      go_wp2
      go_ret2
      exact ⟨(congrArg Ending.returned HV2.out).symm, rfl⟩
end Go.Proofs.YtopklnaahdjafaaGreatDoor
