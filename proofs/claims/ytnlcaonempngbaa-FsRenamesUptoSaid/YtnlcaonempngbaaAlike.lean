/-
  alike: two file systems of the same files.
-/
import Derived.Test.YtnlcaonempngbaaNames
namespace Go.Proofs.Ytnlcaonempngbaa
open Go.RowKit Go.Maps Go.WideMaps Go.Sort

section
variable {w w' : World} {p p2 : Nat} {S S2 : Fsp.Fs} {c c2 : Bool} {Q Q2 : Nat → Prop} {mo mo2 : Option Nat} {pl pl2 : List UInt8 → Pl}

theorem empty_list : (⟨#[]⟩ : ByteArray).data.toList = [] := rfl

theorem read_is (h : RepX w p S c Q mo pl) (x : List UInt8) {f : Fsp.File} (hf : Fsp.find S.L x = some f) :
    Calls Try.prog 20 #[.pointer (some ⟨p, 0, none⟩), .string ⟨x.toArray⟩] w fun r w' => ∃ v, r = .returned (.tuple #[v, .int .i64 0]) ∧ SliceR w' v f.data ∧ Turn (fun _ => False) w w' := by
  have hv := Fsp.valid_len (h.good.2.2.2.2.2 x f hf).1
  refine (read_some h ⟨x.toArray⟩ (by rw [Lib.size_eq]; show x.length ≤ maxLen; unfold maxLen; omega) hf).mono ?_
  rintro r w' ⟨g, rfl, hown, ht⟩
  exact ⟨_, rfl, SliceR.of_own hown, ht⟩

set_option maxRecDepth 100000 in
set_option maxHeartbeats 2000000 in
theorem alike_self (h1 : RepX w p S c Q mo pl) (h2 : RepX w p2 S2 c2 Q2 mo2 pl2) (hl : S.L = S2.L) :
    Calls Try.prog 26 #[.pointer (some ⟨p, 0, none⟩), .pointer (some ⟨p2, 0, none⟩)] w fun r w' => r = .returned (.bool true) ∧ Turn (fun _ => False) w w' := by
  have hL4 := h1.good.2.2.2.1
  go_enter Try.func26, Try.ntmps26
  go_wp2_with fail
  go_at_call 33
  refine (names_any h1 ⟨#[]⟩).mono ?_
  rintro r w5 ⟨va, rfl, hall, t5⟩
  rw [empty_list, Fsp.names_all] at hall
  have htx := TextsR.of_own hall
  have HX := Lib.hid htx
  have T5 := Lib.hid t5
  have g2 := h2.turned t5 (fun _ _ q => q)
  have G1 := Lib.hid (h1.turned t5 (fun _ _ q => q))
  have HE := Lib.hid hl
  clear hall htx t5 h1 h2 hl
  go_wp2_with fail
  go_at_call 33
  refine (names_any g2 ⟨#[]⟩).mono ?_
  rintro r w6 ⟨vb, rfl, hall, t6⟩
  rw [empty_list, Fsp.names_all, ← HE.out] at hall
  have htx := TextsR.of_own hall
  have HX2 := Lib.hid htx
  have T6 := Lib.hid (T5.out.trans t6 (fun _ _ q => q))
  have G2 := Lib.hid (g2.turned t6 (fun _ _ q => q))
  have G1' := Lib.hid (G1.out.turned t6 (fun _ _ q => q))
  have HX1 := Lib.hid (HX.out.turned t6)
  have hNl : (S.L.map (·.1)).length = S.L.length := by simp
  have HNM := Lib.hid (show (S.L.map (·.1)).length ≤ maxLen by rw [hNl]; unfold maxLen; omega)
  clear hall htx t6 g2 T5 HX G1
  go_wp2_with fail
  go_at_call 32
  refine (sameTexts_self HX1.out HX2.out HNM.out).mono ?_
  rintro r w7 ⟨rfl, l7⟩
  have T7 := Lib.hid (T6.out.trans l7.turn (fun _ _ q => q))
  have F1 := Lib.hid (G1'.out.turned l7.turn (fun _ _ q => q))
  have F2 := Lib.hid (G2.out.turned l7.turn (fun _ _ q => q))
  have HX7 := Lib.hid (HX1.out.turned l7.turn)
  clear l7 T6 G1' G2 HX1 HX2
  obtain ⟨sp, cap, rfl, hcell⟩ := HX7.out
  rw [hNl] at hcell ⊢
  have HC := Lib.hid hcell
  clear hcell hNl
  go_wp2_with fail
  go_loopw [7] (fun i wr => ∃ k : Nat, k ≤ S.L.length ∧ i = .int .i64 k ∧ Turn (fun _ => False) w7 wr) (fun i _ => S.L.length - (intOf i).toNat)
  case atStart => exact ⟨0, Nat.zero_le _, rfl, Turn.refl _ _⟩
  case round =>
    obtain ⟨k, hk, rfl, ht⟩ := hrel
    have HT := Lib.hid ht
    clear ht
    by_cases hlt : k < S.L.length
    · obtain ⟨x, hx⟩ : ∃ x, S.L[k]? = some x := ⟨_, List.getElem?_eq_getElem hlt⟩
      obtain ⟨nm, f⟩ := x
      obtain ⟨ad, e1, x1⟩ := HC.out (by omega)
      subst e1
      have hf : Fsp.find S.L nm = some f := Fsp.mem_find F1.out.good.1 (List.mem_of_getElem? hx)
      have hf2 : Fsp.find S2.L nm = some f := by rw [← HE.out]; exact hf
      have xk := x1 k nm (by rw [List.getElem?_map, hx]; rfl)
      unfold encStr at xk
      have cx := turn_cell HT.out xk
      have hr1 := F1.out.turned HT.out (fun _ _ q => q)
      have i0' : (0 : Int) ≤ (k : Int) := by omega
      have i1 : (k : Int) < (S.L.length : Int) := by omega
      have hlf : f.data.length ≤ maxLen := by have := len_room F1.out hf; unfold maxLen; omega
      have HLF := Lib.hid hlf
      have HF := Lib.hid hf
      have HF2 := Lib.hid hf2
      have XK := Lib.hid xk
      clear hf hf2 hx hlf xk
      go_wp2_with fail
      go_at_call 20
      refine (read_is hr1 nm HF.out).mono ?_
      rintro r w8 ⟨v8, rfl, hs8, t8⟩
      have ht8 := HT.out.trans t8 (fun _ _ q => q)
      have cx8 := turn_cell ht8 XK.out
      have hr2 := F2.out.turned ht8 (fun _ _ q => q)
      have HS8 := Lib.hid hs8
      have HT8 := Lib.hid ht8
      clear hs8 t8 ht8 cx hr1
      go_wp2_with fail
      go_at_call 20
      refine (read_is hr2 nm HF2.out).mono ?_
      rintro r w9 ⟨v9, rfl, hs9, t9⟩
      have HS9 := Lib.hid hs9
      have HS8' := Lib.hid (HS8.out.turned t9)
      have HT9 := Lib.hid (HT8.out.trans t9 (fun _ _ q => q))
      clear hs9 t9
      go_wp2_with fail
      go_at_call 22
      refine (same_any HS8'.out HS9.out HLF.out HLF.out).mono ?_
      rintro r w10 ⟨rfl, l10⟩
      rw [decide_eq_true rfl]
      have HT10 := Lib.hid (HT9.out.trans l10.turn (fun _ _ q => q))
      clear l10
      go_wp2
      go_roundw
      case rel => exact ⟨k + 1, by omega, by go_num, HT10.out⟩
      case measure => simp [intOf]; omega
    · have hk0 : k = S.L.length := by omega
      subst hk0
      go_wp2
      go_ret
      exact ⟨rfl, T7.out.trans HT.out (fun _ _ q => q)⟩

end
end Go.Proofs.Ytnlcaonempngbaa
