/-
  WALKS: Valid, HasPrefix, Clone, copied.
-/
import Derived.Test.YtjjajnfkngfpjaaGreatDoorWalk1
import Derived.Lib.Hide
import Derived.LoopTactic
namespace Go.Proofs.YtjjajnfkngfpjaaGreatDoor
open Go.RowKit Go.Maps Go.WideMaps

theorem all_take_snoc (s : ByteArray) (k : Nat) (h : k < s.size) : (s.data.toList.take (k + 1)).all Fsp.okByte = ((s.data.toList.take k).all Fsp.okByte && Fsp.okByte s[k]) := by
  have e : s.data.toList.take (k + 1) = s.data.toList.take k ++ [s[k]] := by
    rw [List.take_succ_eq_append_getElem (by simpa using h)]; rfl
  rw [e, List.all_append]; simp

theorem valid_bad (s : ByteArray) (k : Nat) (h : k < s.size) (hb : Fsp.okByte s[k] = false) : Fsp.valid s.data.toList = false := by
  have : s.data.toList.all Fsp.okByte = false := by
    rw [List.all_eq_false]
    exact ⟨s[k], by rw [show s[k] = s.data.toList[k]'(by simpa using h) from rfl]; exact List.getElem_mem _, by simp [hb]⟩
  simp only [Fsp.valid, this, Bool.and_false, Bool.false_and]

theorem valid_end (s : ByteArray) (h1 : 0 < s.size) (h2 : s.size ≤ 100) (hall : s.data.toList.all Fsp.okByte = true) :
    ((((s[0].toNat : Nat) : Int) != 47) && (((s[s.size - 1].toNat : Nat) : Int) != 47)) = Fsp.valid s.data.toList := by
  have hl : s.data.toList.length = s.size := by simp
  have e0 : s.data.toList.head? = some s[0] := by
    rw [List.head?_eq_getElem?, List.getElem?_eq_getElem (by omega)]; rfl
  have e1 : s.data.toList.getLast? = some s[s.size - 1] := by
    rw [List.getLast?_eq_getElem?, List.getElem?_eq_getElem (by omega)]
    simp only [hl]; rfl
  have c : ∀ b : UInt8, (((b.toNat : Nat) : Int) != 47) = (some b != some 47) := fun b => by
    rw [Bool.eq_iff_iff]; simp [← UInt8.toNat_inj]; omega
  simp only [Fsp.valid, hall, e0, e1, c]
  have g1 : decide (1 ≤ s.data.toList.length) = true := by simp; omega
  have g2 : decide (s.data.toList.length ≤ 100) = true := by simp; omega
  rw [g1, g2]; simp

set_option maxHeartbeats 400000 in
theorem valid_any (s : ByteArray) (hs : s.size ≤ maxLen) (w : World) : Calls Tryz.prog 47 #[.string s] w fun r w' => r = .returned (.bool (Fsp.valid s.data.toList)) ∧ w = w' := by
  unfold maxLen at hs
  by_cases h1 : 1 ≤ s.size
  · by_cases h2 : s.size ≤ 100
    · have b1 : (1 : Int) ≤ s.size := by omega
      have b2 : (s.size : Int) ≤ 100 := by omega
      have e1 : ((s.size : Int) < 1 ∨ 100 < (s.size : Int)) = False := by simp; omega
      go_enter Tryz.func47, Tryz.ntmps47
      go_wp2
      go_loop [14] (fun i => ∃ k : Nat, k ≤ s.size ∧ i = .int .i64 k ∧ (s.data.toList.take k).all Fsp.okByte = true) (fun i => s.size - (intOf i).toNat)
      case atStart => exact ⟨0, Nat.zero_le _, rfl, rfl⟩
      case round =>
        obtain ⟨k, hk, rfl, hall⟩ := hrel
        have HA := Lib.hid hall
        clear hall
        by_cases hlt : k < s.size
        · have hby : (0 : Int) ≤ (s[k].toNat : Int) ∧ (s[k].toNat : Int) ≤ 255 := by have := s[k].toNat_lt; omega
          by_cases hok : okI (s[k].toNat : Int) = true
          · go_wp2_with (go_at_call 69; refine (validByte_any _ hby _).mono ?_; rintro r w' ⟨rfl, rfl⟩)
            go_round
            case rel => exact ⟨k + 1, by omega, by go_num, by rw [all_take_snoc s k hlt, HA.out, ← okI_eq, hok]; rfl⟩
            case measure => simp [intOf]; omega
          · have hfv : Fsp.valid s.data.toList = false := valid_bad s k hlt (by rw [← okI_eq]; simpa using hok)
            have hok' : okI (s[k].toNat : Int) = false := by simpa using hok
            have HF := Lib.hid hfv
            clear hfv hok
            go_wp2_with (go_at_call 69; refine (validByte_any _ hby _).mono ?_; rintro r w' ⟨rfl, rfl⟩)
            go_ret
            exact ⟨ret_bool HF.out.symm, rfl⟩
        · have hk' : k = s.size := by omega
          have hv := valid_end s (by omega) h2 (by have := HA.out; rw [hk', List.take_of_length_le (by simp)] at this; exact this)
          have HV := Lib.hid hv
          clear hv hk'
          go_wp2
          · have h47 : (s[0].toNat : Int) = 47 := by assumption
            go_ret
            exact ⟨ret_bool (by rw [← HV.out, h47]; rfl), rfl⟩
          · go_ret
            exact ⟨ret_bool HV.out, rfl⟩
    · have b2 : (100 : Int) < s.size := by omega
      have hf : Fsp.valid s.data.toList = false := by simp [Fsp.valid]; omega
      rw [hf]; clear hf
      go_enter Tryz.func47, Tryz.ntmps47
      go_wp2
      go_ret
      exact ⟨rfl, rfl⟩
  · have b2 : (s.size : Int) < 1 := by omega
    have hf : Fsp.valid s.data.toList = false := by simp [Fsp.valid]; omega
    rw [hf]; clear hf
    go_enter Tryz.func47, Tryz.ntmps47
    go_wp2
    go_ret
    exact ⟨rfl, rfl⟩

end Go.Proofs.YtjjajnfkngfpjaaGreatDoor
