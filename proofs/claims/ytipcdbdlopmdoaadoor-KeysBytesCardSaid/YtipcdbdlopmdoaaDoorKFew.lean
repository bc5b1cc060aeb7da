/-
  Of the laws: few, Num, Begins, Prefix.
-/
import Derived.Test.YtipcdbdlopmdoaaDoorKEnc
import Derived.WalkLawsBesides
namespace Go.Proofs.YtipcdbdlopmdoaaDoor
open Go.RowKit Go.Maps Go.WideMaps Go.Shelf
set_option linter.unusedVariables false
set_option linter.unusedSimpArgs false

theorem num8_any (e : Int) (w : World) : Calls Tryd.prog 10 #[.int .i64 e] w fun r w' => r = .returned (.int .i64 e) ∧ w' = w := by
  go_enter Tryd.func10, Tryd.ntmps10
  go_wp2
  go_ret
  exact ⟨rfl, rfl⟩

theorem front8_is (s t : ByteArray) : ((s.extract 0 t.size).toList == t.toList) = t.data.toList.isPrefixOf s.data.toList := by
  rw [Lib.toList_data, Lib.toList_data, Lib.extract_data, Bool.eq_iff_iff, beq_iff_eq, List.isPrefixOf_iff_prefix, List.prefix_iff_eq_take, ← Lib.size_eq]
  simp only [List.drop_zero, Nat.sub_zero]
  exact eq_comm

theorem begins8_any (s t : ByteArray) (w : World) : Calls Tryd.prog 18 #[.string s, .string t] w fun r w' => r = .returned (.bool (t.data.toList.isPrefixOf s.data.toList)) ∧ w = w' := by
  obtain ⟨b, hb⟩ : ∃ b, b = t.data.toList.isPrefixOf s.data.toList := ⟨_, rfl⟩
  rw [← hb]
  by_cases h : t.size ≤ s.size
  · have i0 : (t.size : Int) ≤ (s.size : Int) := by omega
    rw [← front8_is] at hb
    have HB := Lib.hid hb
    clear hb
    go_enter Tryd.func18, Tryd.ntmps18
    go_wp2
    go_ret
    exact ⟨ret_bool HB.out.symm, rfl⟩
  · have i0 : ¬ (t.size : Int) ≤ (s.size : Int) := by omega
    have hb2 : b = false := by
      rw [hb, ← Bool.not_eq_true, List.isPrefixOf_iff_prefix]
      intro hp
      have := hp.length_le
      rw [← Lib.size_eq, ← Lib.size_eq] at this
      omega
    have HB := Lib.hid hb2
    clear hb hb2
    go_enter Tryd.func18, Tryd.ntmps18
    go_wp2
    go_ret
    exact ⟨ret_bool HB.out.symm, rfl⟩

set_option maxRecDepth 100000 in
set_option maxHeartbeats 1600000 in
theorem few8_any {w : World} {v : Value} {l : List KP} (h : PartsR w v l) (hl : l.length ≤ 9223372036854775807) (hs : ∀ x ∈ l, x.s.length ≤ 9223372036854775807) :
    Calls Tryd.prog 8 #[v] w fun r w' => (∃ b : Bool, r = .returned (.bool b) ∧ (b = true → l.length ≤ 10 ∧ ∀ x ∈ l, x.s.length ≤ 300)) ∧ w' = w := by
  obtain ⟨sp, cap, rfl, hc⟩ := h
  have HC := Lib.hid hc
  have HS := Lib.hid hs
  clear hc hs
  go_enter Tryd.func8, Tryd.ntmps8
  go_wp2_with fail
  go_loopw [3] (fun i x => ∃ k : Nat, k ≤ l.length ∧ k ≤ 11 ∧ i = .int .i64 k ∧ (∀ x ∈ l.take k, x.s.length ≤ 300) ∧ x = w) (fun i _ => l.length - (intOf i).toNat)
  case atStart => exact ⟨0, Nat.zero_le _, Nat.zero_le _, rfl, by simp, rfl⟩
  case round =>
    obtain ⟨k, hk, hk3, rfl, hs, rfl⟩ := hrel
    have HS3 := Lib.hid hs
    by_cases hlt : k < l.length
    · have j1 : (k : Int) < (l.length : Int) := by omega
      by_cases hlt3 : k < 11
      · have j2 : (k : Int) ≤ 10 := by omega
        obtain ⟨b, o, e1, x1⟩ := HC.out (by omega)
        subst e1
        obtain ⟨c0, c1, c2⟩ := x1 k hlt
        have hz := HS.out _ (List.getElem_mem hlt)
        obtain ⟨s, hss⟩ : ∃ s, s = ktxt (l[k]).s := ⟨_, rfl⟩
        have hsz : s.size = (l[k]).s.length := by rw [hss]; rfl
        rw [← hss] at c2
        have HSZ := Lib.hid hsz
        have hz2 : (s.size : Int) ≤ 9223372036854775807 := by omega
        have hk1 : k + 1 ≤ l.length := hlt
        have hk2 : k + 1 ≤ 11 := hlt3
        clear x1 c0 c1 hs hz hss hsz hk hk3
        by_cases h300 : s.size ≤ 300
        · have i3 : decide ((300 : Int) < (s.size : Int)) = false := by simp; omega
          have hn : ∀ x ∈ l.take (k + 1), x.s.length ≤ 300 := fun x hx => by
            rw [List.take_add_one, List.getElem?_eq_getElem hlt] at hx
            rcases List.mem_append.1 hx with hx | hx
            · exact HS3.out x hx
            · simp at hx; subst hx; rw [← HSZ.out]; exact h300
          have HN := Lib.hid hn
          clear hn
          go_wp2_with fail
          go_roundw
          case rel => exact ⟨k + 1, hk1, hk2, by push_cast; rfl, HN.out, by simp⟩
          case measure => simp [intOf]; omega
        · have i3 : decide ((300 : Int) < (s.size : Int)) = true := by simp; omega
          go_wp2_with fail
          go_ret
          exact ⟨⟨false, rfl, by simp⟩, rfl⟩
      · have hk0 : k = 11 := by omega
        subst hk0
        have j2 : decide ((l.length : Int) ≤ 10) = false := by simp; omega
        clear hs
        go_wp2_with fail
        go_ret
        exact ⟨⟨false, rfl, by simp⟩, rfl⟩
    · have hk0 : k = l.length := by omega
      subst hk0
      clear hs hk hlt
      by_cases h10 : l.length ≤ 10
      · have j2 : decide ((l.length : Int) ≤ 10) = true := by simp; omega
        go_wp2_with fail
        go_ret
        exact ⟨⟨true, rfl, fun _ => ⟨h10, by have := HS3.out; rwa [List.take_length] at this⟩⟩, rfl⟩
      · have j2 : decide ((l.length : Int) ≤ 10) = false := by simp; omega
        go_wp2_with fail
        go_ret
        exact ⟨⟨false, rfl, by simp⟩, rfl⟩

set_option maxRecDepth 100000 in
set_option maxHeartbeats 1600000 in
theorem prefix_any {w : World} {v : Value} {l : List KP} (h : PartsR w v l) (hl : l.length ≤ 1000000) (hk : ∀ x ∈ l, KOk x) (hm : MaxAt w) :
    Calls Tryd.prog 16 #[v] w fun e w' => e = .returned (.tuple #[.string (ktxt (keyE l)), .string (if errE l = 0 then ktxt (keyE l ++ [255]) else ⟨#[]⟩), .int .i64 (errE l)]) ∧ Only w w' := by
  have EN := encode_any h hl hk hm
  obtain ⟨E, hE⟩ : ∃ E, E = errE l := ⟨_, rfl⟩
  obtain ⟨S, hS⟩ : ∃ S, S = ktxt (keyE l) := ⟨_, rfl⟩
  have hs9 : S.size ≤ 1000000 := by
    rw [hS, ktxt_size]; unfold keyE
    split
    · rename_i h0; have := (errE_zero h0).2.2; omega
    · simp
  have hcat : S ++ ⟨#[255]⟩ = ktxt (keyE l ++ [255]) := by rw [hS]; apply ByteArray.ext; simp [ByteArray.data_append]
  have h0 : errE l ≠ 0 → S = ⟨#[]⟩ := fun h => by rw [hS]; unfold keyE; rw [if_neg h]
  rw [← hE] at EN h0 ⊢
  rw [← hS] at EN ⊢
  rw [← hcat]
  have EN := Lib.hid EN
  have H0 := Lib.hid h0
  clear hE hS hcat h hk hm h0
  by_cases he : E = 0
  · rw [if_pos he]
    subst he
    have hs8 : decide (9223372036854775807 < S.size + 1) = false := by simp; omega
    go_enter Tryd.func16, Tryd.ntmps16
    go_wp2_with (go_at_call 9; refine EN.out.mono ?_; rintro r w1 ⟨rfl, t1⟩)
    go_ret3
    exact ⟨rfl, t1⟩
  · rw [if_neg he]
    have i1 : (E == 0) = false := by rw [beq_eq_false_iff_ne]; exact he
    have i2 : (E != 0) = true := by rw [bne_iff_ne]; exact he
    have hS0 := Lib.hid (H0.out he)
    go_enter Tryd.func16, Tryd.ntmps16
    go_wp2_with (go_at_call 9; refine EN.out.mono ?_; rintro r w1 ⟨rfl, t1⟩)
    go_ret3
    exact ⟨by rw [hS0.out]; rfl, t1⟩
end Go.Proofs.YtipcdbdlopmdoaaDoor
