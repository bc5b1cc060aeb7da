/-
  Small lemmas on numbers of the document's.
-/
import Derived.Test.YtopklnaahdjafaaGreatDoorGBm
import Derived.Test.YtopklnaahdjafaaGreatDoorNProd
namespace Go.Proofs.YtopklnaahdjafaaGreatDoor
open Go.RowKit Go.Maps Go.WideMaps

theorem cmpI_lss (n m : Int) : decide (cmpI n m < 0) = decide (n < m) := by
  rw [decide_eq_decide]; unfold cmpI; split <;> (try split) <;> omega
theorem cmpI_geq (n m : Int) : decide (0 ≤ cmpI n m) = decide (m ≤ n) := by
  rw [decide_eq_decide]; unfold cmpI; split <;> (try split) <;> omega
theorem cmpI_zero (n m : Int) : (cmpI n m == 0) = decide (n = m) := by
  rw [Bool.eq_iff_iff]; simp only [beq_iff_eq, decide_eq_true_eq]; unfold cmpI; split <;> (try split) <;> omega
theorem cmpI_range (n m : Int) : -1 ≤ cmpI n m ∧ cmpI n m ≤ 1 := by unfold cmpI; split <;> (try split) <;> omega
theorem Lim.nat {n K : Nat} (h : n < 10000 ^ K) : Lim (n : Int) K := h
theorem Only.skip {U V : World} {o : Obj} (t : Only (U.alloc o) V) : Only U V := ((Only.refl U).alloc o).trans t
theorem Lim.of_in {a : Int} (h : In a) : Lim a 10 := by
  obtain ⟨h1, h2⟩ := h
  unfold Lim; omega
theorem Lim.of_i64 {n : Int} (h : I64 n) : Lim n 5 := by
  obtain ⟨h1, h2⟩ := h
  unfold Lim; omega
theorem Lim.tdiv {a : Int} {K : Nat} (l : Lim a K) (d : Int) : Lim (a.tdiv d) K := by
  unfold Lim at l ⊢
  rw [Int.natAbs_tdiv]
  exact Nat.lt_of_le_of_lt (Nat.div_le_self _ _) l
end Go.Proofs.YtopklnaahdjafaaGreatDoor
