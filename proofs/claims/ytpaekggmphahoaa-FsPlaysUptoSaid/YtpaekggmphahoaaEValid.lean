/-
  exref1: Valid, Keep, New.
-/
import Derived.Test.YtpaekggmphahoaaESync
namespace Go.Proofs.Ytpaekggmphahoaa
open Go.RowKit Go.Maps Go.WideMaps
set_option linter.unusedVariables false
set_option linter.unusedSimpArgs false

theorem not_empty {s : ByteArray} (h : 0 < s.size) : (s.toList == []) = false := by
  rw [Lib.toList_data]
  cases hd : s.data.toList with
  | nil =>
    have h2 : s.data.toList.length = s.size := by simp
    rw [hd] at h2; simp at h2; omega
  | cons a l => rfl

set_option maxRecDepth 100000 in
theorem rValid0 (s : ByteArray) (hs : s.size ≤ maxLen) (h : s.size = 0 ∨ 100 < s.size) (w : World) : Calls Try.prog 44 #[.string s] w fun r w' => r = .returned (.bool false) ∧ w = w' := by
  unfold maxLen at hs
  rcases h with h | h
  · obtain rfl : s = ⟨#[]⟩ := by
      cases s with
      | mk d => congr; exact Array.eq_empty_of_size_eq_zero h
    go_enter Try.func44, Try.ntmps44
    go_wp2
    go_ret
    exact ⟨rfl, rfl⟩
  · have q0 := not_empty (s := s) (by omega)
    have q1 : ¬ s.toList = [] := by simpa using q0
    have b2 : (100 : Int) < s.size := by omega
    go_enter Try.func44, Try.ntmps44
    go_wp2
    go_ret
    exact ⟨rfl, rfl⟩

set_option maxRecDepth 100000 in
set_option maxHeartbeats 1000000 in
theorem rValid_any (s : ByteArray) (hs : s.size ≤ maxLen) (w : World) : Calls Try.prog 44 #[.string s] w fun r w' => r = .returned (.bool (Fsp.valid s.data.toList)) ∧ w = w' := by
  by_cases h1 : s.size = 0 ∨ 100 < s.size
  · have hf : Fsp.valid s.data.toList = false := by
      rcases h1 with h1 | h1 <;> simp [Fsp.valid] <;> omega
    rw [hf]
    exact rValid0 s hs h1 w
  have p1 : 0 < s.size := by omega
  have p2 : s.size ≤ 100 := by omega
  have b1 : (0 : Int) < s.size := by omega
  have b2 : (s.size : Int) ≤ 100 := by omega
  have q0 := not_empty p1
  have q1 : ¬ s.toList = [] := by simpa using q0
  have hend := valid_end s p1 p2
  have c : ∀ b : UInt8, (((b.toNat : Nat) : Int) != 47) = (some b != some 47) := fun b => by
    rw [Bool.eq_iff_iff]; simp [← UInt8.toNat_inj]; omega
  have e0 : s.data.toList.head? = some s[0] := by
    rw [List.head?_eq_getElem?, List.getElem?_eq_getElem (by simpa using p1)]; rfl
  have e1 : s.data.toList.getLast? = some s[s.size - 1] := by
    have hl : s.data.toList.length = s.size := by simp
    rw [List.getLast?_eq_getElem?, List.getElem?_eq_getElem (by omega)]
    simp only [hl]; rfl
  unfold maxLen at hs
  by_cases hA : ((s[0].toNat : Nat) : Int) = 47
  · have hf : Fsp.valid s.data.toList = false := by
      have : (s.data.toList.head? != some 47) = false := by rw [e0, ← c, hA]; rfl
      unfold Fsp.valid; rw [this]; simp
    have HF := Lib.hid hf
    clear hend c e0 e1 hf
    go_enter Try.func44, Try.ntmps44
    go_wp2
    go_ret
    exact ⟨ret_bool HF.out.symm, rfl⟩
  by_cases hB : ((s[s.size - 1].toNat : Nat) : Int) = 47
  · have hf : Fsp.valid s.data.toList = false := by
      have : (s.data.toList.getLast? != some 47) = false := by rw [e1, ← c, hB]; rfl
      unfold Fsp.valid; rw [this]; simp
    have HF := Lib.hid hf
    have hA2 : (((s[0].toNat : Nat) : Int) == 47) = false := by simpa using hA
    clear hend c e0 e1 hf
    go_enter Try.func44, Try.ntmps44
    go_wp2
    go_ret
    exact ⟨ret_bool HF.out.symm, rfl⟩
  have hA2 : (((s[0].toNat : Nat) : Int) == 47) = false := by simpa using hA
  have hB2 : (((s[s.size - 1].toNat : Nat) : Int) == 47) = false := by simpa using hB
  have hAB : ((((s[0].toNat : Nat) : Int) != 47) && (((s[s.size - 1].toNat : Nat) : Int) != 47)) = true := by simp [hA, hB]
  have HEND := Lib.hid (fun h => (hend h).symm.trans hAB)
  clear hend c e0 e1 hAB
  go_enter Try.func44, Try.ntmps44
  go_wp2
  go_loop [3, 4] (fun i _ => ∃ k : Nat, k ≤ s.size ∧ i = .int .i64 k ∧ (s.data.toList.take k).all Fsp.okByte = true) (fun i _ => s.size - (intOf i).toNat)
  case atStart => exact ⟨0, Nat.zero_le _, rfl, rfl⟩
  case round =>
    obtain ⟨k, hk, rfl, hall⟩ := hrel
    have HA := Lib.hid hall
    clear hall
    by_cases hlt : k < s.size
    · have hby : (0 : Int) ≤ (s[k].toNat : Int) ∧ (s[k].toNat : Int) ≤ 255 := by have := s[k].toNat_lt; omega
      have j1 : (k : Int) < (s.size : Int) := by omega
      have j0 : (0 : Int) ≤ (k : Int) := by omega
      obtain ⟨C, hC⟩ : ∃ C : Int, C = (s[k].toNat : Int) := ⟨_, rfl⟩
      by_cases hok : okI (s[k].toNat : Int) = true
      · have HN := Lib.hid (show (s.data.toList.take (k + 1)).all Fsp.okByte = true by rw [all_take_snoc s k hlt, HA.out, ← okI_eq, hok]; rfl)
        have hcase : (97 ≤ (s[k].toNat : Int) ∧ (s[k].toNat : Int) ≤ 122) ∨ (48 ≤ (s[k].toNat : Int) ∧ (s[k].toNat : Int) ≤ 57) ∨ (s[k].toNat : Int) = 45 ∨ (s[k].toNat : Int) = 46 ∨ (s[k].toNat : Int) = 47 := by
          unfold okI at hok; simpa using hok
        clear hok
        have fin : (∃ k_1 : Nat, k_1 ≤ s.size ∧ Value.int IntKind.i64 ((k : Int) + 1) = Value.int IntKind.i64 k_1 ∧ (s.data.toList.take k_1).all Fsp.okByte = true) ∧
            s.size - (intOf (Value.int IntKind.i64 ((k : Int) + 1))).toNat < s.size - (intOf (Value.int IntKind.i64 (k : Int))).toNat :=
          ⟨⟨k + 1, by omega, by go_num, HN.out⟩, by simp [intOf]; omega⟩
        have FIN := Lib.hid fin
        clear fin
        have n45 : ((s[k].toNat : Int) = 45 ∧ ((s[k].toNat : Int) != 45) = false) ∨ (¬ (s[k].toNat : Int) = 45 ∧ ((s[k].toNat : Int) != 45) = true) := by
          by_cases h : (s[k].toNat : Int) = 45
          · left; exact ⟨h, by rw [h]; rfl⟩
          · right; exact ⟨h, by simpa using h⟩
        have n46 : ((s[k].toNat : Int) = 46 ∧ ((s[k].toNat : Int) != 46) = false) ∨ (¬ (s[k].toNat : Int) = 46 ∧ ((s[k].toNat : Int) != 46) = true) := by
          by_cases h : (s[k].toNat : Int) = 46
          · left; exact ⟨h, by rw [h]; rfl⟩
          · right; exact ⟨h, by simpa using h⟩
        have n47 : ((s[k].toNat : Int) = 47 ∧ ((s[k].toNat : Int) != 47) = false) ∨ (¬ (s[k].toNat : Int) = 47 ∧ ((s[k].toNat : Int) != 47) = true) := by
          by_cases h : (s[k].toNat : Int) = 47
          · left; exact ⟨h, by rw [h]; rfl⟩
          · right; exact ⟨h, by simpa using h⟩
        rcases n45 with ⟨a45, n45⟩ | ⟨a45, n45⟩ <;> rcases n46 with ⟨a46, n46⟩ | ⟨a46, n46⟩ <;> rcases n47 with ⟨a47, n47⟩ | ⟨a47, n47⟩ <;> try (exfalso; omega)
        all_goals go_wp2
        all_goals first | exact FIN.out | (exfalso; omega) | skip
      · have okf : okI (s[k].toNat : Int) = false := by simpa using hok
        have HF := Lib.hid (show Fsp.valid s.data.toList = false from valid_bad s k hlt (by rw [← okI_eq]; exact okf))
        have hcase : ((s[k].toNat : Int) < 97 ∨ 122 < (s[k].toNat : Int)) ∧ ((s[k].toNat : Int) < 48 ∨ 57 < (s[k].toNat : Int)) ∧ ¬ (s[k].toNat : Int) = 45 ∧ ¬ (s[k].toNat : Int) = 46 ∧ ¬ (s[k].toNat : Int) = 47 := by
          unfold okI at okf; simp at okf; omega
        obtain ⟨c1, c2, a45, a46, a47⟩ := hcase
        have n45 : ((s[k].toNat : Int) != 45) = true := by simpa using a45
        have n46 : ((s[k].toNat : Int) != 46) = true := by simpa using a46
        have n47 : ((s[k].toNat : Int) != 47) = true := by simpa using a47
        clear hok okf
        go_wp2
        all_goals first | (exfalso; omega) | skip
        all_goals go_ret
        all_goals exact ⟨ret_bool HF.out.symm, rfl⟩
    · have hk' : k = s.size := by omega
      have HV := Lib.hid (HEND.out (by have := HA.out; rw [hk', List.take_of_length_le (by simp)] at this; exact this))
      go_wp2
      go_ret
      exact ⟨ret_bool HV.out.symm, rfl⟩
end Go.Proofs.Ytpaekggmphahoaa
