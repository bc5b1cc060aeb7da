/-
  MoneyTexts: for all amounts and texts.
-/
import Derived.Test.YtfjemldilnaggaaGreatDoorMTexts
import Derived.Test.YtfjemldilnaggaaGreatDoorMRParse3
namespace Go.Proofs.YtfjemldilnaggaaGreatDoor
open Go.RowKit Go.Shelf
set_option linter.unusedVariables false

theorem moneyTexts_any {u : Int} (s q : ByteArray) (hu : I64 u) {w : World} (hP : Pow w) :
    Calls Tryz.prog 4 #[.agg #[.int .i64 u, .string s], .string q] w fun e w' => e = .returned (.bool true) ∧ Only w w' := by
  have FM := first_isM hP
  by_cases h0 : 200 < q.size
  · exact texts_out0 FM (by omega)
  by_cases h1 : 200 < s.size
  · exact texts_out1 FM (by omega) (by omega)
  refine texts_walk FM (by omega) (by omega) (fun W => scaleM_any s W) (fun W => scale_any s W) ?_ (newM_any u s) (check_any u s) ?_ (parse_any q (by omega)) (rparse_any q (by omega)) (fun W t => string_anyM u s (hP.only t)) (fun W => rstring_any u s hu W)
  · by_cases h : (curOf s).isSome = true
    · left
      rw [scI_some h]
      exact ⟨(fK_range s).1, rfl, by unfold fE; rw [if_pos h]⟩
    · right
      have h' : (curOf s).isSome = false := by simpa using h
      refine ⟨scI_neg.2 h', ?_, by unfold fE; rw [if_neg h]⟩
      unfold fK
      cases hc : curOf s with
      | none => rfl
      | some k => rw [hc] at h'; cases h'
  · by_cases hc : curE u s = 0
    · left; rw [hc]; exact ⟨rfl, rfl, rfl⟩
    · right; rw [okI_ne hc, okS_ne hc]; exact ⟨hc, rfl, rfl⟩
end Go.Proofs.YtfjemldilnaggaaGreatDoor
