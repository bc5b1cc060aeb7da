/-
  MoneyBack: for all amounts and texts.
-/
import Derived.Test.YtfjemldilnaggaaDoorMBack
namespace Go.Proofs.YtfjemldilnaggaaDoor
open Go.RowKit Go.Shelf
set_option linter.unusedVariables false

theorem listE_all (c : ByteArray) (l : List (Int × ByteArray)) : listE c l = 0 ↔ ∀ x ∈ l, besE 0 c x.1 x.2 = 0 := by
  induction l with
  | nil => simp [listE]
  | cons y l ih =>
    rw [listE_cons]
    by_cases h : besE 0 c y.1 y.2 = 0
    · rw [if_pos h, ih]; simp [h]
    · rw [if_neg h]; simp [h]
theorem listE_rev (c : ByteArray) (l : List (Int × ByteArray)) : listE c l.reverse = 0 ↔ listE c l = 0 := by
  rw [listE_all, listE_all]; simp
theorem listN_append (l r : List (Int × ByteArray)) : listN (l ++ r) = listN l + listN r := by
  induction l with
  | nil => simp [listN]
  | cons y l ih => simp only [List.cons_append, listN, ih]; omega
theorem listN_rev (l : List (Int × ByteArray)) : listN l.reverse = listN l := by
  induction l with
  | nil => rfl
  | cons y l ih => rw [List.reverse_cons, listN_append, ih]; simp only [listN]; omega

theorem strL_nil {u : Int} {s : ByteArray} : mtxt (strL u s) ≠ ⟨#[]⟩ → curE u s = 0 := by
  intro h
  apply Decidable.byContradiction
  intro k
  apply h
  unfold strL
  rw [if_neg k]

theorem sumE_sub {u v : Int} {s t : ByteArray} (h : sumE u s v t (u + v) = 0) : sumE (u + v) s v t (u + v - v) = 0 := by
  unfold sumE at h ⊢
  split at h
  · rename_i h1
    obtain ⟨k1, k2, rfl⟩ := (besE_iff _ _ _ _).1 h1
    have hb := curE_bd k1
    have hb2 : Bd (u + v) := by unfold amE at h; split at h; assumption; omega
    have : besE (u + v) s v s = 0 := (besE_iff _ _ _ _).2 ⟨by unfold curE; rw [if_pos (curE_known k1), if_pos hb2], k2, rfl⟩
    rw [if_pos this]
    unfold amE
    rw [if_pos (by rw [Int.add_sub_cancel]; exact hb)]
  · contradiction

theorem moneyBack_any {u v : Int} (s t q : ByteArray) (hu : I64 u) (hv : I64 v) {lv : Value} {l : List (Int × ByteArray)} {w : World} (hl : AmsR w lv l) (hI : ∀ x ∈ l, I64 x.1) (hP : Pow w) :
    Calls Tryd.prog 3 #[.agg #[.int .i64 u, .string s], .agg #[.int .i64 v, .string t], .string q, lv] w fun e w' => e = .returned (.bool true) ∧ Only w w' := by
  have FM := first_is hP
  obtain ⟨sp, cap, rfl⟩ := amsR_form hl
  by_cases h0 : 200 < q.size
  · exact back_out0 FM (by omega)
  by_cases h1 : 60 < l.length
  · exact back_out1 FM (by omega) (by omega)
  by_cases h2 : 200 < s.size
  · exact back_out2 FM (by omega) (by omega) (by omega)
  by_cases h3 : 200 < t.size
  · exact back_out3 FM (by omega) (by omega) (by omega) (by omega)
  have PB := parse_any q (by omega)
  have AD := addM_any s t hu hv
  have hlen : l.length ≤ 1000000 := by omega
  have hlen2 : l.reverse.length ≤ 1000000 := by rw [List.length_reverse]; omega
  have hI2 : ∀ x ∈ l.reverse, I64 x.1 := fun x hx => hI x (List.mem_reverse.1 hx)
  have hcu : (curOf ⟨#[85, 83, 68]⟩).isSome = true := by decide
  have hsum : okI (sumLE ⟨#[85, 83, 68]⟩ l.reverse) (listN l.reverse) = okI (sumLE ⟨#[85, 83, 68]⟩ l) (listN l) ∧ okS (sumLE ⟨#[85, 83, 68]⟩ l.reverse) ⟨#[85, 83, 68]⟩ = okS (sumLE ⟨#[85, 83, 68]⟩ l) ⟨#[85, 83, 68]⟩ ∧ ((sumLE ⟨#[85, 83, 68]⟩ l == 0) = (sumLE ⟨#[85, 83, 68]⟩ l.reverse == 0)) := by
    unfold sumLE
    rw [if_pos hcu, if_pos hcu, listN_rev]
    by_cases e : listE ⟨#[85, 83, 68]⟩ l = 0
    · rw [if_pos e, if_pos ((listE_rev _ _).2 e)]; exact ⟨rfl, rfl, rfl⟩
    · have e' : ¬ listE ⟨#[85, 83, 68]⟩ l.reverse = 0 := fun k => e ((listE_rev _ _).1 k)
      rw [if_neg e, if_neg e', okI_ne e, okI_ne e', okS_ne e, okS_ne e', (ne_eqs e).1, (ne_eqs e').1]
      exact ⟨rfl, rfl, rfl⟩
  refine back_walk (xa := mtxt (strL u s)) (xb := mtxt (strL (okI (parseE q.data.toList) (parseN q.data.toList)) (okS (parseE q.data.toList) (pC q.data.toList)))) FM hl (by omega) (by omega) (by omega) (by omega)
    (fun W t => string_anyM u s (hP.only t)) (fun hx => ?_) PB (fun hf => ?_) AD (fun hg => ?_)
    (fun W hW => sum_any hW hlen hI) (fun W tv hW => by rw [← hsum.1, ← hsum.2.1]; exact sum_any hW hlen2 hI2) hsum.2.2
  · have hc := strL_nil hx
    obtain ⟨b1, b2, b3⟩ := back_one hc
    have P := parse_any (mtxt (strL u s)) (by
      have h4 := fK_known (curE_known hc)
      have h5 := fK_range s
      have h6 := text_len (curE_bd hc)
      rw [mtxt_size, strL_is hc, List.length_append, List.length_cons]
      have h7 : (strA u (fK s).toNat).length ≤ 100 := by
        unfold strA
        rw [List.length_append, List.length_append, strW_len]
        have h8 : (strD u (fK s).toNat).length ≤ 30 := by unfold strD; rw [List.length_append, List.length_replicate]; omega
        have h9 := strF_len u (fK s).toNat
        split <;> split <;> simp <;> omega
      have : s.data.toList.length = 3 := by rw [← Lib.size_eq]; exact h4
      omega)
    rw [mtxt_list, b1, b2, b3] at P
    exact P
  · rw [hf, okI_0, okS_0]
    have hc := parse_curE hf
    obtain ⟨b1, b2, b3⟩ := back_one hc
    have hlg := back_long hf
    refine ⟨fun W t => string_anyM _ _ (hP.only t), ?_, ?_⟩
    · have P := parse_any (mtxt (strL (parseN q.data.toList) (pC q.data.toList))) (by
        have h4 := fK_known (curE_known hc)
        have h5 := fK_range (pC q.data.toList)
        have h6 := text_len (curE_bd hc)
        rw [mtxt_size, strL_is hc, List.length_append, List.length_cons]
        have h7 : (strA (parseN q.data.toList) (fK (pC q.data.toList)).toNat).length ≤ 100 := by
          unfold strA
          rw [List.length_append, List.length_append, strW_len]
          have h8 : (strD (parseN q.data.toList) (fK (pC q.data.toList)).toNat).length ≤ 30 := by unfold strD; rw [List.length_append, List.length_replicate]; omega
          have h9 := strF_len (parseN q.data.toList) (fK (pC q.data.toList)).toNat
          split <;> split <;> simp <;> omega
        have : (pC q.data.toList).data.toList.length = 3 := by rw [← Lib.size_eq]; exact h4
        omega)
      rw [mtxt_list, b1, b2, b3] at P
      exact P
    · have g1 : (mtxt (strL (parseN q.data.toList) (pC q.data.toList))).size = (strL (parseN q.data.toList) (pC q.data.toList)).length := mtxt_size _
      have g2 : q.size = q.data.toList.length := Lib.size_eq q
      omega
  · rw [hg, okI_0, okS_0]
    have hb : Bd (u + v) := by
      unfold sumE at hg
      split at hg
      · unfold amE at hg; split at hg; assumption; omega
      · contradiction
    have S := subM_any (u := u + v) (v := v) s t (bd_i64 hb) hv
    have e := sumE_sub hg
    rw [e, okI_0, okS_0, Int.add_sub_cancel] at S
    exact S
end Go.Proofs.YtfjemldilnaggaaDoor
