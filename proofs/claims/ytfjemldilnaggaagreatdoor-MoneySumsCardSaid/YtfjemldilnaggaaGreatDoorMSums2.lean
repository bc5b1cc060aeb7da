/-
  MoneySums: for all amounts and lists.
-/
import Derived.Test.YtfjemldilnaggaaGreatDoorMSums
namespace Go.Proofs.YtfjemldilnaggaaGreatDoor
open Go.RowKit Go.Shelf
set_option linter.unusedVariables false

theorem moneySums_any {u v num den : Int} (s t cur : ByteArray) (hu : I64 u) (hv : I64 v) (hn : I64 num) (hd : I64 den) {lv : Value} {l : List (Int × ByteArray)} {w : World} (hl : AmsR w lv l) (hI : ∀ x ∈ l, I64 x.1) (hP : Pow w) :
    Calls Tryz.prog 5 #[.agg #[.int .i64 u, .string s], .agg #[.int .i64 v, .string t], .int .i64 num, .int .i64 den, .string cur, lv] w fun e w' => e = .returned (.bool true) ∧ Only w w' := by
  have FM := first_isM hP
  obtain ⟨sp, cap, rfl, -⟩ := id hl
  by_cases h0 : 60 < l.length
  · exact sums_out0 FM (by omega)
  by_cases h1 : 200 < s.size
  · exact sums_out1 FM (by omega) (by omega)
  by_cases h2 : 200 < t.size
  · exact sums_out2 FM (by omega) (by omega) (by omega)
  by_cases h3 : 200 < cur.size
  · exact sums_out3 FM (by omega) (by omega) (by omega) (by omega)
  refine sums_walk FM hl (by omega) (by omega) (by omega) (by omega) hu.1 hu.2 (addM_any s t hu hv) (radd_any s t hu hv) (subM_any s t hu hv) (rsub_any s t hu hv) (cmpM_any u s v t) (fun w => rcmp_any s t hu hv w) (ratio_any s hu hn hd) (rratio_any s hu hn hd)
    (fun W hW => sum_any hW (by omega) hI) (fun W tv hW => rsum_any hW (by omega) hI) (neg_anyM s hu) (check_any u s) ?_
  by_cases hc : curE u s = 0
  · left
    have hb := curE_bd hc
    rw [hc, okI_0, okS_0]
    obtain ⟨a, b⟩ := hb
    exact ⟨rfl, rfl, rfl, by omega⟩
  · right
    rw [okI_ne hc, okS_ne hc]
    exact ⟨hc, rfl, rfl⟩
end Go.Proofs.YtfjemldilnaggaaGreatDoor
