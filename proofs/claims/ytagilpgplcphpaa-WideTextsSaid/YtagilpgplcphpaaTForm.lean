/-
  Package wide: is a text of a number's form?
-/
import Derived.Test.YtagilpgplcphpaaBForm
namespace Go.Proofs.Ytagilpgplcphpaa
open Go.RowKit Go.Maps Go.WideMaps

set_option maxRecDepth 100000 in
set_option maxHeartbeats 3200000 in
theorem formed_long {s : ByteArray} (h1 : 0 < s.size) (hl : s.size ≤ 1000000) (b : Bool) (w : World) (hz : ((s[0].toNat : Int) == 48) = false) :
    Calls Try.prog 57 #[.string s, .bool b] w fun e w' => e = .returned (.bool (digsB s.data.toList)) ∧ w = w' := by
  obtain ⟨X, hX⟩ : ∃ X, X = digsB s.data.toList := ⟨_, rfl⟩
  rw [← hX]
  have HX := Lib.hid hX
  clear hX
  have il : (s.size : Int) ≤ 1000000 := by omega
  have i0 : (0 : Int) < (s.size : Int) := by omega
  have n0 : ¬ s.toList = [] := by rw [Lib.toList_data]; intro e; have := blen s; rw [e] at this; simp at this; omega
  have n1 : s.toList.isEmpty = false := by cases hs : s.toList <;> simp_all
  have n2 : ¬ s.toList = [48] := by
    rw [Lib.toList_data]; intro e
    have e0 : s[0] = s.data.toList[0]'(by rw [blen]; exact h1) := rfl
    rw [e0] at hz
    simp [e] at hz
  have n3 : (s.toList == [48]) = false := by simpa using n2
  have n4 : (s.toList == []) = false := by simpa using n0
  go_enter Try.func57, Try.ntmps57
  go_wp2_with fail
  go_loop [19] (fun i => ∃ k : Nat, k ≤ s.size ∧ i = .int .i64 k ∧ digsB (s.data.toList.take k) = true) (fun i => s.size - (intOf i).toNat)
  case atStart => exact ⟨0, Nat.zero_le _, rfl, by simp [digsB]⟩
  case round =>
    obtain ⟨k, hk, rfl, hd⟩ := hrel
    have HDG := Lib.hid hd
    clear hd
    by_cases hlt : k < s.size
    · have il2 : (k : Int) < (s.size : Int) := by omega
      have hn := digs_next (D := s) (k := k) hlt
      obtain ⟨c, hc⟩ : ∃ c, c = (s[k]'hlt).toNat := ⟨_, rfl⟩
      rw [← hc] at hn
      have hc2 : (s[k]'hlt).toNat = c := hc.symm
      have HN := Lib.hid hn
      clear hn hc
      by_cases c1 : c < 48
      · have t1 : decide ((c : Int) < 48) = true := by simp; omega
        have HF := Lib.hid (HN.out.2 (by omega))
        clear c1
        go_wp2
        go_ret
        refine ⟨?_, rfl⟩
        rw [HX.out, HF.out]; rfl
      · by_cases c2 : 57 < c
        · have t1 : decide ((c : Int) < 48) = false := by simp; omega
          have t2 : decide ((57 : Int) < (c : Int)) = true := by simp; omega
          have HF := Lib.hid (HN.out.2 (by omega))
          clear c1 c2
          go_wp2
          go_ret
          refine ⟨?_, rfl⟩
          rw [HX.out, HF.out]; rfl
        · have t1 : decide ((c : Int) < 48) = false := by simp; omega
          have t2 : decide ((57 : Int) < (c : Int)) = false := by simp; omega
          have HF := Lib.hid (HN.out.1 HDG.out ⟨by omega, by omega⟩)
          clear c1 c2
          go_wp2
          go_round
          case rel => exact ⟨k + 1, by omega, by go_num, HF.out⟩
          case measure => simp [intOf]; omega
    · have hkl : k = s.size := by omega
      subst hkl
      have h := HDG.out
      rw [List.take_of_length_le (by simp)] at h
      have HF := Lib.hid h
      clear h
      go_wp2
      go_ret
      refine ⟨?_, rfl⟩
      rw [HX.out, HF.out]; rfl

set_option maxRecDepth 100000 in
set_option maxHeartbeats 3200000 in
theorem formed_zero {s : ByteArray} (h1 : 1 < s.size) (hl : s.size ≤ 1000000) (b : Bool) (w : World) (hz : ((s[0].toNat : Int) == 48) = true) :
    Calls Try.prog 57 #[.string s, .bool b] w fun e w' => e = .returned (.bool false) ∧ w = w' := by
  have il : (s.size : Int) ≤ 1000000 := by omega
  have i0 : (1 : Int) < (s.size : Int) := by omega
  have n0 : ¬ s.toList = [] := by rw [Lib.toList_data]; intro e; have := blen s; rw [e] at this; simp at this; omega
  have n1 : s.toList.isEmpty = false := by cases hs : s.toList <;> simp_all
  have n2 : ¬ s.toList = [48] := by rw [Lib.toList_data]; intro e; have := blen s; rw [e] at this; simp at this; omega
  have n3 : (s.toList == [48]) = false := by simpa using n2
  have n4 : (s.toList == []) = false := by simpa using n0
  go_enter Try.func57, Try.ntmps57
  go_wp2_with fail
  go_ret
  exact ⟨rfl, rfl⟩

theorem formed_empty (b : Bool) (w : World) : Calls Try.prog 57 #[.string ⟨#[]⟩, .bool b] w fun e w' => e = .returned (.bool false) ∧ w = w' := by
  go_enter Try.func57, Try.ntmps57
  go_wp2_with fail
  go_ret
  exact ⟨rfl, rfl⟩

theorem formed_nought (b : Bool) (w : World) : Calls Try.prog 57 #[.string ⟨#[48]⟩, .bool b] w fun e w' => e = .returned (.bool !b) ∧ w = w' := by
  cases b
  all_goals
    go_enter Try.func57, Try.ntmps57
    go_wp2_with fail
    go_ret
    exact ⟨rfl, rfl⟩

theorem formed_any (s : ByteArray) (hl : s.size ≤ 1000000) (b : Bool) (w : World) :
    Calls Try.prog 57 #[.string s, .bool b] w fun e w' => e = .returned (.bool (bodyB s.data.toList && !(b && s.data.toList == [48]))) ∧ w = w' := by
  have bl := blen s
  by_cases h : s.size = 0
  · have e : s = ⟨#[]⟩ := by
      apply ByteArray.ext
      apply Array.eq_empty_of_size_eq_zero
      exact h
    rw [e]
    have := formed_empty b w
    simpa [bodyB] using this
  have h0 : 0 < s.size := by omega
  have hh := head_is h0 48
  change ((s[0].toNat : Int) == 48) = _ at hh
  by_cases hz : ((s[0].toNat : Int) == 48) = true
  · rw [hz] at hh
    have hd : s.data.toList.headD 0 = 48 := by simpa using hh.symm
    by_cases h1 : s.size = 1
    · have e : s.data.toList = [48] := by
        match hs : s.data.toList, bl with
        | [], bl => simp at bl; omega
        | [x], _ => rw [hs] at hd; simpa using hd
        | x :: y :: t, bl => simp at bl; omega
      have es : s = ⟨#[48]⟩ := by
        apply ByteArray.ext
        apply Array.toList_inj.mp
        exact e
      rw [es]
      have := formed_nought b w
      simpa [bodyB, digsB] using this
    · have := formed_zero (s := s) (by omega) hl b w hz
      have eb : bodyB s.data.toList = false := by
        unfold bodyB
        rw [bl, hd]
        have : decide (s.size ≤ 1) = false := by simp; omega
        rw [this]; simp
      rw [eb]
      simpa using this
  · have hz' : ((s[0].toNat : Int) == 48) = false := by simpa using hz
    rw [hz'] at hh
    have := formed_long h0 hl b w hz'
    have en : (s.data.toList == [48]) = false := by
      rw [Bool.eq_false_iff]
      intro e
      have e' : s.data.toList = [48] := by simpa using e
      rw [e'] at hh
      simp at hh
    have eb : bodyB s.data.toList = digsB s.data.toList := by
      unfold bodyB
      have e0 : s.data.toList.isEmpty = false := by
        cases hs : s.data.toList with
        | nil => rw [hs] at bl; simp at bl; omega
        | cons x t => rfl
      rw [e0, ← hh]; simp
    rw [eb, en]
    simpa using this
end Go.Proofs.Ytagilpgplcphpaa
