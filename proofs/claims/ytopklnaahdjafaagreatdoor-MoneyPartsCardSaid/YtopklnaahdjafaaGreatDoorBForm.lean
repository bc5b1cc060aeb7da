/-
  A text of a number's form; its number.
-/
import Derived.Test.YtopklnaahdjafaaGreatDoorBText
import Derived.Lib.Strings
namespace Go.Proofs.YtopklnaahdjafaaGreatDoor
open Go.RowKit Go.Maps Go.WideMaps

set_option maxRecDepth 100000 in
set_option maxHeartbeats 3200000 in
theorem form_long {s : ByteArray} (h1 : 1 < s.size) (hl : s.size ≤ 1000000) (w : World) (hh : ((s[0].toNat : Int) == 45) = false) (hz : ((s[0].toNat : Int) == 48) = false) :
    Calls Tryz.prog 95 #[.string s] w fun e w' => e = .returned (.bool (digsB s.data.toList)) ∧ w = w' := by
  obtain ⟨X, hX⟩ : ∃ X, X = digsB s.data.toList := ⟨_, rfl⟩
  rw [← hX]
  have HX := Lib.hid hX
  clear hX
  have il : (s.size : Int) ≤ 1000000 := by omega
  have i0 : (1 : Int) < (s.size : Int) := by omega
  have n0 : ¬ s.toList = [] := by rw [Lib.toList_data]; intro e; have := blen s; rw [e] at this; simp at this; omega
  have n1 : s.toList.isEmpty = false := by cases hs : s.toList <;> simp_all
  have n2 : ¬ s.toList = [48] := by rw [Lib.toList_data]; intro e; have := blen s; rw [e] at this; simp at this; omega
  have tz : decide ((1 : Int) < (s.size : Int)) = true := by simp; omega
  go_enter Tryz.func95, Tryz.ntmps95
  go_wp2_with fail
  go_loop [4] (fun i => ∃ k : Nat, k ≤ s.size ∧ i = .int .i64 k ∧ digsB (s.data.toList.take k) = true) (fun i => s.size - (intOf i).toNat)
  case atStart => exact ⟨0, Nat.zero_le _, rfl, by simp [digsB]⟩
  case round =>
    obtain ⟨k, hk, rfl, hd⟩ := hrel
    have HDG := Lib.hid hd
    clear hd
    by_cases hlt : k < s.size
    · have il2 : (k : Int) < (s.size : Int) := by omega
      have hn := digs_next (D := s) (k := k) hlt
      obtain ⟨c, hc⟩ : ∃ c, c = (s[k]'hlt).toNat := ⟨_, rfl⟩
      rw [← hc] at hn
      have hc2 : (s[k]'hlt).toNat = c := hc.symm
      have HN := Lib.hid hn
      clear hn hc
      by_cases c1 : c < 48
      · have t1 : decide ((c : Int) < 48) = true := by simp; omega
        have HF := Lib.hid (HN.out.2 (by omega))
        clear c1
        go_wp2
        go_ret
        refine ⟨?_, rfl⟩
        rw [HX.out, HF.out]; rfl
      · by_cases c2 : 57 < c
        · have t1 : decide ((c : Int) < 48) = false := by simp; omega
          have t2 : decide ((57 : Int) < (c : Int)) = true := by simp; omega
          have HF := Lib.hid (HN.out.2 (by omega))
          clear c1 c2
          go_wp2
          go_ret
          refine ⟨?_, rfl⟩
          rw [HX.out, HF.out]; rfl
        · have t1 : decide ((c : Int) < 48) = false := by simp; omega
          have t2 : decide ((57 : Int) < (c : Int)) = false := by simp; omega
          have HF := Lib.hid (HN.out.1 HDG.out ⟨by omega, by omega⟩)
          clear c1 c2
          go_wp2
          go_round
          case rel => exact ⟨k + 1, by omega, by go_num, HF.out⟩
          case measure => simp [intOf]; omega
    · have hkl : k = s.size := by omega
      subst hkl
      have h := HDG.out
      rw [List.take_of_length_le (by simp)] at h
      have HF := Lib.hid h
      clear h
      go_wp2
      go_ret
      refine ⟨?_, rfl⟩
      rw [HX.out, HF.out]; rfl

set_option maxRecDepth 100000 in
set_option maxHeartbeats 3200000 in
theorem form_zero {s : ByteArray} (h1 : 1 < s.size) (hl : s.size ≤ 1000000) (w : World) (hh : ((s[0].toNat : Int) == 45) = false) (hz : ((s[0].toNat : Int) == 48) = true) :
    Calls Tryz.prog 95 #[.string s] w fun e w' => e = .returned (.bool false) ∧ w = w' := by
  have il : (s.size : Int) ≤ 1000000 := by omega
  have i0 : (1 : Int) < (s.size : Int) := by omega
  have n0 : ¬ s.toList = [] := by rw [Lib.toList_data]; intro e; have := blen s; rw [e] at this; simp at this; omega
  have n1 : s.toList.isEmpty = false := by cases hs : s.toList <;> simp_all
  have tz : decide ((1 : Int) < (s.size : Int)) = true := by simp; omega
  go_enter Tryz.func95, Tryz.ntmps95
  go_wp2_with fail
  go_ret
  exact ⟨rfl, rfl⟩

set_option maxRecDepth 100000 in
set_option maxHeartbeats 3200000 in
theorem form_one {s : ByteArray} (h1 : s.size = 1) (w : World) :
    Calls Tryz.prog 95 #[.string s] w fun e w' => e = .returned (.bool (digsB s.data.toList)) ∧ w = w' := by
  have hl : s.size ≤ 1000000 := by omega
  obtain ⟨X, hX⟩ : ∃ X, X = digsB s.data.toList := ⟨_, rfl⟩
  rw [← hX]
  have HX := Lib.hid hX
  clear hX
  have il : (s.size : Int) ≤ 1000000 := by omega
  have i0 : (0 : Int) < (s.size : Int) := by omega
  have i1 : (s.size : Int) ≤ 1 := by omega
  have n0 : ¬ s.toList = [] := by rw [Lib.toList_data]; intro e; have := blen s; rw [e] at this; simp at this; omega
  have n1 : s.toList.isEmpty = false := by cases hs : s.toList <;> simp_all
  have tz : decide ((1 : Int) < (s.size : Int)) = false := by simp; omega
  clear h1 hl
  by_cases n2 : s.toList = [48]
  · go_enter Tryz.func95, Tryz.ntmps95
    go_wp2_with fail
    go_loop [4] (fun i => ∃ k : Nat, k ≤ s.size ∧ i = .int .i64 k ∧ digsB (s.data.toList.take k) = true) (fun i => s.size - (intOf i).toNat)
    case atStart => exact ⟨0, Nat.zero_le _, rfl, by simp [digsB]⟩
    case round =>
      obtain ⟨k, hk, rfl, hd⟩ := hrel
      have HDG := Lib.hid hd
      clear hd
      by_cases hlt : k < s.size
      · have il2 : (k : Int) < (s.size : Int) := by omega
        have hn := digs_next (D := s) (k := k) hlt
        obtain ⟨c, hc⟩ : ∃ c, c = (s[k]'hlt).toNat := ⟨_, rfl⟩
        rw [← hc] at hn
        have hc2 : (s[k]'hlt).toNat = c := hc.symm
        have HN := Lib.hid hn
        clear hn hc
        by_cases c1 : c < 48
        · have t1 : decide ((c : Int) < 48) = true := by simp; omega
          have HF := Lib.hid (HN.out.2 (by omega))
          clear c1
          go_wp2
          go_ret
          refine ⟨?_, rfl⟩
          rw [HX.out, HF.out]; rfl
        · by_cases c2 : 57 < c
          · have t1 : decide ((c : Int) < 48) = false := by simp; omega
            have t2 : decide ((57 : Int) < (c : Int)) = true := by simp; omega
            have HF := Lib.hid (HN.out.2 (by omega))
            clear c1 c2
            go_wp2
            go_ret
            refine ⟨?_, rfl⟩
            rw [HX.out, HF.out]; rfl
          · have t1 : decide ((c : Int) < 48) = false := by simp; omega
            have t2 : decide ((57 : Int) < (c : Int)) = false := by simp; omega
            have HF := Lib.hid (HN.out.1 HDG.out ⟨by omega, by omega⟩)
            clear c1 c2
            go_wp2
            go_round
            case rel => exact ⟨k + 1, by omega, by go_num, HF.out⟩
            case measure => simp [intOf]; omega
      · have hkl : k = s.size := by omega
        subst hkl
        have h := HDG.out
        rw [List.take_of_length_le (by simp)] at h
        have HF := Lib.hid h
        clear h
        go_wp2
        go_ret
        refine ⟨?_, rfl⟩
        rw [HX.out, HF.out]; rfl
  · go_enter Tryz.func95, Tryz.ntmps95
    go_wp2_with fail
    go_loop [4] (fun i => ∃ k : Nat, k ≤ s.size ∧ i = .int .i64 k ∧ digsB (s.data.toList.take k) = true) (fun i => s.size - (intOf i).toNat)
    case atStart => exact ⟨0, Nat.zero_le _, rfl, by simp [digsB]⟩
    case round =>
      obtain ⟨k, hk, rfl, hd⟩ := hrel
      have HDG := Lib.hid hd
      clear hd
      by_cases hlt : k < s.size
      · have il2 : (k : Int) < (s.size : Int) := by omega
        have hn := digs_next (D := s) (k := k) hlt
        obtain ⟨c, hc⟩ : ∃ c, c = (s[k]'hlt).toNat := ⟨_, rfl⟩
        rw [← hc] at hn
        have hc2 : (s[k]'hlt).toNat = c := hc.symm
        have HN := Lib.hid hn
        clear hn hc
        by_cases c1 : c < 48
        · have t1 : decide ((c : Int) < 48) = true := by simp; omega
          have HF := Lib.hid (HN.out.2 (by omega))
          clear c1
          go_wp2
          go_ret
          refine ⟨?_, rfl⟩
          rw [HX.out, HF.out]; rfl
        · by_cases c2 : 57 < c
          · have t1 : decide ((c : Int) < 48) = false := by simp; omega
            have t2 : decide ((57 : Int) < (c : Int)) = true := by simp; omega
            have HF := Lib.hid (HN.out.2 (by omega))
            clear c1 c2
            go_wp2
            go_ret
            refine ⟨?_, rfl⟩
            rw [HX.out, HF.out]; rfl
          · have t1 : decide ((c : Int) < 48) = false := by simp; omega
            have t2 : decide ((57 : Int) < (c : Int)) = false := by simp; omega
            have HF := Lib.hid (HN.out.1 HDG.out ⟨by omega, by omega⟩)
            clear c1 c2
            go_wp2
            go_round
            case rel => exact ⟨k + 1, by omega, by go_num, HF.out⟩
            case measure => simp [intOf]; omega
      · have hkl : k = s.size := by omega
        subst hkl
        have h := HDG.out
        rw [List.take_of_length_le (by simp)] at h
        have HF := Lib.hid h
        clear h
        go_wp2
        go_ret
        refine ⟨?_, rfl⟩
        rw [HX.out, HF.out]; rfl

set_option maxRecDepth 100000 in
set_option maxHeartbeats 3200000 in
theorem form_empty (w : World) : Calls Tryz.prog 95 #[.string ⟨#[]⟩] w fun e w' => e = .returned (.bool false) ∧ w = w' := by
  go_enter Tryz.func95, Tryz.ntmps95
  go_wp2_with fail
  go_ret
  exact ⟨rfl, rfl⟩

set_option maxRecDepth 100000 in
set_option maxHeartbeats 3200000 in
theorem minus_zero {s D : ByteArray} (hD : s.extract 1 s.size = D) (hs1 : 1 < s.size) (hs2 : s.size ≤ 1000001) (h0 : 0 < D.size) (hl : D.size ≤ 1000000) (w : World) (hh : ((s[0].toNat : Int) == 45) = true) (h1 : 1 < D.size) (hz : ((D[0].toNat : Int) == 48) = true) :
    Calls Tryz.prog 95 #[.string s] w fun e w' => e = .returned (.bool false) ∧ w = w' := by
  have il : (D.size : Int) ≤ 1000000 := by omega
  have is0 : (0 : Int) < (s.size : Int) := by omega
  have is1 : (1 : Int) < (s.size : Int) := by omega
  have is2 : (s.size : Int) ≤ 1000001 := by omega
  have ts : decide ((1 : Int) < (s.size : Int)) = true := by simp; omega
  have n0 : ¬ D.toList = [] := by rw [Lib.toList_data]; intro e; have := blen D; rw [e] at this; simp at this; omega
  have n1 : D.toList.isEmpty = false := by cases hs : D.toList <;> simp_all
  have i0 : (1 : Int) < (D.size : Int) := by omega
  have tz : decide ((1 : Int) < (D.size : Int)) = true := by simp; omega
  go_enter Tryz.func95, Tryz.ntmps95
  go_wp2_with fail
  go_ret
  exact ⟨rfl, rfl⟩

set_option maxRecDepth 100000 in
set_option maxHeartbeats 3200000 in
theorem minus_long {s D : ByteArray} (hD : s.extract 1 s.size = D) (hs1 : 1 < s.size) (hs2 : s.size ≤ 1000001) (h0 : 0 < D.size) (hl : D.size ≤ 1000000) (w : World) (hh : ((s[0].toNat : Int) == 45) = true) (h1 : 1 < D.size) (hz : ((D[0].toNat : Int) == 48) = false) :
    Calls Tryz.prog 95 #[.string s] w fun e w' => e = .returned (.bool (digsB D.data.toList)) ∧ w = w' := by
  obtain ⟨X, hX⟩ : ∃ X, X = digsB D.data.toList := ⟨_, rfl⟩
  rw [← hX]
  have HX := Lib.hid hX
  clear hX
  have il : (D.size : Int) ≤ 1000000 := by omega
  have is0 : (0 : Int) < (s.size : Int) := by omega
  have is1 : (1 : Int) < (s.size : Int) := by omega
  have is2 : (s.size : Int) ≤ 1000001 := by omega
  have ts : decide ((1 : Int) < (s.size : Int)) = true := by simp; omega
  have n0 : ¬ D.toList = [] := by rw [Lib.toList_data]; intro e; have := blen D; rw [e] at this; simp at this; omega
  have n1 : D.toList.isEmpty = false := by cases hs : D.toList <;> simp_all
  have n2 : ¬ D.toList = [48] := by rw [Lib.toList_data]; intro e; have := blen D; rw [e] at this; simp at this; omega
  have i0 : (1 : Int) < (D.size : Int) := by omega
  have tz : decide ((1 : Int) < (D.size : Int)) = true := by simp; omega
  go_enter Tryz.func95, Tryz.ntmps95
  go_wp2_with fail
  go_loop [4] (fun i => ∃ k : Nat, k ≤ D.size ∧ i = .int .i64 k ∧ digsB (D.data.toList.take k) = true) (fun i => D.size - (intOf i).toNat)
  case atStart => exact ⟨0, Nat.zero_le _, rfl, by simp [digsB]⟩
  case round =>
    obtain ⟨k, hk, rfl, hd⟩ := hrel
    have HDG := Lib.hid hd
    clear hd
    by_cases hlt : k < D.size
    · have il2 : (k : Int) < (D.size : Int) := by omega
      have hn := digs_next (D := D) (k := k) hlt
      obtain ⟨c, hc⟩ : ∃ c, c = (D[k]'hlt).toNat := ⟨_, rfl⟩
      rw [← hc] at hn
      have hc2 : (D[k]'hlt).toNat = c := hc.symm
      have HN := Lib.hid hn
      clear hn hc
      by_cases c1 : c < 48
      · have t1 : decide ((c : Int) < 48) = true := by simp; omega
        have HF := Lib.hid (HN.out.2 (by omega))
        clear c1
        go_wp2
        go_ret
        refine ⟨?_, rfl⟩
        rw [HX.out, HF.out]; rfl
      · by_cases c2 : 57 < c
        · have t1 : decide ((c : Int) < 48) = false := by simp; omega
          have t2 : decide ((57 : Int) < (c : Int)) = true := by simp; omega
          have HF := Lib.hid (HN.out.2 (by omega))
          clear c1 c2
          go_wp2
          go_ret
          refine ⟨?_, rfl⟩
          rw [HX.out, HF.out]; rfl
        · have t1 : decide ((c : Int) < 48) = false := by simp; omega
          have t2 : decide ((57 : Int) < (c : Int)) = false := by simp; omega
          have HF := Lib.hid (HN.out.1 HDG.out ⟨by omega, by omega⟩)
          clear c1 c2
          go_wp2
          go_round
          case rel => exact ⟨k + 1, by omega, by go_num, HF.out⟩
          case measure => simp [intOf]; omega
    · have hkl : k = D.size := by omega
      subst hkl
      have h := HDG.out
      rw [List.take_of_length_le (by simp)] at h
      have HF := Lib.hid h
      clear h
      go_wp2
      go_ret
      refine ⟨?_, rfl⟩
      rw [HX.out, HF.out]; rfl

set_option maxRecDepth 100000 in
set_option maxHeartbeats 3200000 in
theorem minus_one {s D : ByteArray} (hD : s.extract 1 s.size = D) (hs1 : 1 < s.size) (hs2 : s.size ≤ 1000001) (h0 : 0 < D.size) (hl : D.size ≤ 1000000) (w : World) (hh : ((s[0].toNat : Int) == 45) = true) (h1 : D.size = 1) :
    Calls Tryz.prog 95 #[.string s] w fun e w' => e = .returned (.bool (digsB D.data.toList && !(D.data.toList == [48]))) ∧ w = w' := by
  obtain ⟨X, hX⟩ : ∃ X, X = (digsB D.data.toList && !(D.data.toList == [48])) := ⟨_, rfl⟩
  rw [← hX]
  have HX := Lib.hid hX
  clear hX
  have il : (D.size : Int) ≤ 1000000 := by omega
  have is0 : (0 : Int) < (s.size : Int) := by omega
  have is1 : (1 : Int) < (s.size : Int) := by omega
  have is2 : (s.size : Int) ≤ 1000001 := by omega
  have ts : decide ((1 : Int) < (s.size : Int)) = true := by simp; omega
  have n0 : ¬ D.toList = [] := by rw [Lib.toList_data]; intro e; have := blen D; rw [e] at this; simp at this; omega
  have n1 : D.toList.isEmpty = false := by cases hs : D.toList <;> simp_all
  have i0 : (0 : Int) < (D.size : Int) := by omega
  have i1 : (D.size : Int) ≤ 1 := by omega
  have tz : decide ((1 : Int) < (D.size : Int)) = false := by simp; omega
  clear h1
  by_cases n2 : D.toList = [48]
  · have H48 := Lib.hid n2
    go_enter Tryz.func95, Tryz.ntmps95
    go_wp2_with fail
    go_ret
    refine ⟨?_, rfl⟩
    rw [HX.out, ← Lib.toList_data, H48.out]; rfl
  · have H48 := Lib.hid n2
    go_enter Tryz.func95, Tryz.ntmps95
    go_wp2_with fail
    go_loop [4] (fun i => ∃ k : Nat, k ≤ D.size ∧ i = .int .i64 k ∧ digsB (D.data.toList.take k) = true) (fun i => D.size - (intOf i).toNat)
    case atStart => exact ⟨0, Nat.zero_le _, rfl, by simp [digsB]⟩
    case round =>
      obtain ⟨k, hk, rfl, hd⟩ := hrel
      have HDG := Lib.hid hd
      clear hd
      by_cases hlt : k < D.size
      · have il2 : (k : Int) < (D.size : Int) := by omega
        have hn := digs_next (D := D) (k := k) hlt
        obtain ⟨c, hc⟩ : ∃ c, c = (D[k]'hlt).toNat := ⟨_, rfl⟩
        rw [← hc] at hn
        have hc2 : (D[k]'hlt).toNat = c := hc.symm
        have HN := Lib.hid hn
        clear hn hc
        by_cases c1 : c < 48
        · have t1 : decide ((c : Int) < 48) = true := by simp; omega
          have HF := Lib.hid (HN.out.2 (by omega))
          clear c1
          go_wp2
          go_ret
          refine ⟨?_, rfl⟩
          rw [HX.out, HF.out, ← Lib.toList_data, beq_eq_false_iff_ne.2 H48.out]; rfl
        · by_cases c2 : 57 < c
          · have t1 : decide ((c : Int) < 48) = false := by simp; omega
            have t2 : decide ((57 : Int) < (c : Int)) = true := by simp; omega
            have HF := Lib.hid (HN.out.2 (by omega))
            clear c1 c2
            go_wp2
            go_ret
            refine ⟨?_, rfl⟩
            rw [HX.out, HF.out, ← Lib.toList_data, beq_eq_false_iff_ne.2 H48.out]; rfl
          · have t1 : decide ((c : Int) < 48) = false := by simp; omega
            have t2 : decide ((57 : Int) < (c : Int)) = false := by simp; omega
            have HF := Lib.hid (HN.out.1 HDG.out ⟨by omega, by omega⟩)
            clear c1 c2
            go_wp2
            go_round
            case rel => exact ⟨k + 1, by omega, by go_num, HF.out⟩
            case measure => simp [intOf]; omega
      · have hkl : k = D.size := by omega
        subst hkl
        have h := HDG.out
        rw [List.take_of_length_le (by simp)] at h
        have HF := Lib.hid h
        clear h
        go_wp2
        go_ret
        refine ⟨?_, rfl⟩
        rw [HX.out, HF.out, ← Lib.toList_data, beq_eq_false_iff_ne.2 H48.out]; rfl

theorem extract_tail (s : ByteArray) : (s.extract 1 s.size).data.toList = s.data.toList.tail := by
  rw [Lib.extract_data]
  simp [List.take_of_length_le]

theorem head_is {s : ByteArray} (h : 0 < s.size) (c : UInt8) : ((s[0].toNat : Int) == (c.toNat : Int)) = (s.data.toList.headD 0 == c) := by
  cases s with | mk d => cases d with | mk l =>
    cases l with
    | nil => exact absurd h (by decide)
    | cons a r =>
      change ((a.toNat : Int) == (c.toNat : Int)) = (a == c)
      rw [Bool.eq_iff_iff]
      simp only [beq_iff_eq]
      constructor
      · intro h; exact UInt8.toNat_inj.1 (by omega)
      · intro h; rw [h]

theorem form_any (s : ByteArray) (hl : s.size ≤ 1000000) (w : World) :
    Calls Tryz.prog 95 #[.string s] w fun e w' => e = .returned (.bool (formB s.data.toList)) ∧ w = w' := by
  have bl := blen s
  rcases (by omega : s.size = 0 ∨ s.size = 1 ∨ 1 < s.size) with h | h | h
  · have e : s = ⟨#[]⟩ := by
      have : s.data.toList = [] := List.length_eq_zero_iff.1 (by omega)
      cases s with | mk d => simp at this; rw [this]
    subst e
    exact form_empty w
  · have := form_one h w
    obtain ⟨c, hc⟩ : ∃ c, s.data.toList = [c] := List.length_eq_one_iff.1 (by omega)
    rw [hc] at this ⊢
    have e : formB [c] = digsB [c] := by simp [formB, bodyB]
    rw [e]; exact this
  · have h45 := head_is (s := s) (by omega) 45
    by_cases hh : s.data.toList.headD 0 = 45
    · have e1 : formB s.data.toList = (bodyB s.data.toList.tail && !(s.data.toList.tail == [48])) := by unfold formB; rw [if_pos ⟨by omega, hh⟩]
      have h45' : ((s[0].toNat : Int) == 45) = true := by rw [beq_iff_eq.2 hh] at h45; exact h45
      rw [e1]
      obtain ⟨D, hD⟩ : ∃ D, s.extract 1 s.size = D := ⟨_, rfl⟩
      have et := extract_tail s
      rw [hD] at et
      have bd := blen D
      have hs : s.size = D.size + 1 := by rw [et, List.length_tail] at bd; omega
      rw [← et]
      rcases (by omega : D.size = 1 ∨ 1 < D.size) with k | k
      · have := minus_one hD (by omega) (by omega) (by omega) (by omega) w h45' k
        have e2 : bodyB D.data.toList = digsB D.data.toList := by
          unfold bodyB
          have hne : D.data.toList.isEmpty = false := by cases hq : D.data.toList with
            | nil => rw [hq] at bd; simp at bd; omega
            | cons => rfl
          rw [hne, decide_eq_true (show D.data.toList.length ≤ 1 by omega)]; simp
        rw [e2]; exact this
      · have h48 := head_is (s := D) (by omega) 48
        have hne : D.data.toList.isEmpty = false := by cases hq : D.data.toList with
          | nil => rw [hq] at bd; simp at bd; omega
          | cons => rfl
        have h1 : decide (D.data.toList.length ≤ 1) = false := by simp; omega
        have h2 : (D.data.toList == [48]) = false := by rw [beq_eq_false_iff_ne]; intro e; rw [e] at bd; simp at bd; omega
        cases hz : (D.data.toList.headD 0 == 48) with
        | true =>
          rw [hz] at h48
          have := minus_zero hD (by omega) (by omega) (by omega) (by omega) w h45' k h48
          have e2 : bodyB D.data.toList = false := by unfold bodyB; rw [hz, h1]; simp
          rw [e2]; exact this
        | false =>
          rw [hz] at h48
          have := minus_long hD (by omega) (by omega) (by omega) (by omega) w h45' k h48
          have e2 : bodyB D.data.toList = digsB D.data.toList := by unfold bodyB; rw [hz, h1, hne]; simp
          rw [e2, h2]; simpa using this
    · have e1 : formB s.data.toList = bodyB s.data.toList := by unfold formB; rw [if_neg (fun q => hh q.2)]
      have h45' : ((s[0].toNat : Int) == 45) = false := by rw [beq_eq_false_iff_ne.2 hh] at h45; exact h45
      rw [e1]
      have h48 := head_is (s := s) (by omega) 48
      have hne : s.data.toList.isEmpty = false := by cases hq : s.data.toList with
        | nil => rw [hq] at bl; simp at bl; omega
        | cons => rfl
      have h1 : decide (s.data.toList.length ≤ 1) = false := by simp; omega
      cases hz : (s.data.toList.headD 0 == 48) with
      | true =>
        rw [hz] at h48
        have := form_zero h hl w h45' h48
        have e2 : bodyB s.data.toList = false := by unfold bodyB; rw [hz, h1]; simp
        rw [e2]; exact this
      | false =>
        rw [hz] at h48
        have := form_long h hl w h45' h48
        have e2 : bodyB s.data.toList = digsB s.data.toList := by unfold bodyB; rw [hz, h1, hne]; simp
        rw [e2]; exact this
end Go.Proofs.YtopklnaahdjafaaGreatDoor
