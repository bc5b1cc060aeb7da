/-
  The nearest quotient, of either making.
-/
import Derived.Test.YtopklnaahdjafaaGreatDoorBEven
import Derived.Test.YtopklnaahdjafaaGreatDoorGQu
namespace Go.Proofs.YtopklnaahdjafaaGreatDoor
open Go.RowKit Go.Maps Go.WideMaps

theorem far_pos {d : Int} (hd : d ≠ 0) : 0 < far d := by unfold far; split <;> omega
theorem far_abs (d : Int) : (d.natAbs : Int) = far d := by unfold far; split <;> omega
theorem evenOf_near (a : Int) {d : Int} (hd : d ≠ 0) : signed (twoSides a d) (nearest (far a) (far d)) = evenOf a d := by
  have hq := tdiv_signed a d
  have hr := tmod_signed a d
  have f0 := far_pos hd
  have fa : 0 ≤ far a := by rw [← far_abs]; omega
  have q0 := Int.ediv_nonneg fa (Int.le_of_lt f0)
  have r0 := (far_mod (v := a) f0).1
  have nd := far_abs d
  have nq : ((a.tdiv d).natAbs : Int) = far a / far d := by rw [hq]; unfold signed; split <;> omega
  have nr : ((a.tmod d).natAbs : Int) = far a % far d := by rw [hr]; unfold signed; split <;> omega
  unfold evenOf nearest
  by_cases c : 2 * (far a % far d) > far d ∨ (2 * (far a % far d) = far d ∧ far a / far d % 2 = 1)
  · rw [if_pos c, if_pos (by omega), hq]
    unfold signed twoSides
    split <;> omega
  · rw [if_neg c, if_neg (by omega), hq]
theorem tmod_i64 (a : Int) {d : Int} (hd : I64 d) (hd0 : d ≠ 0) : I64 (a.tmod d) := by
  obtain ⟨f0, f1⟩ := far_i64 hd hd0
  have m := far_mod (v := a) f0
  rw [tmod_signed]
  unfold signed
  split <;> exact ⟨by omega, by omega⟩
theorem Lim.even {a d : Int} (l : Lim a 10) : Lim (evenOf a d) 4000 := by
  have q := l.tdiv d
  have s : ∀ v : Int, v = -1 ∨ v = 1 → Lim v 10 := fun v hv => by
    refine (Lim.of_i64 (n := v) ⟨?_, ?_⟩).mono (by omega) <;> omega
  unfold evenOf
  split
  · exact (q.add (s _ (by split; exact Or.inl rfl; exact Or.inr rfl))).mono (by omega)
  · exact q.mono (by omega)
end Go.Proofs.YtopklnaahdjafaaGreatDoor
