/-
  Bounds of quotients (nothing of the program).
-/
import Derived.Test.YtagilpgplcphpaaBPlain4
namespace Go.Proofs.Ytagilpgplcphpaa

theorem Lim.below_mul {N M K J : Nat} (h : N < M * 10000) (k : Lim (M : Int) K) (hJ : K + 1 ≤ J) : Lim (N : Int) J := by
  refine Lim.mono (K := K + 1) ?_ hJ
  have k' : M < 10000 ^ K := k
  change N < 10000 ^ (K + 1)
  rw [Nat.pow_succ]
  exact Nat.lt_trans h (Nat.mul_lt_mul_of_pos_right k' (by decide))
theorem Lim.digit {m K : Nat} (h : m < 10000) : Lim (m : Int) (K + 1) := by
  change m < 10000 ^ (K + 1)
  rw [Nat.pow_succ]
  have : 1 ≤ 10000 ^ K := Nat.pow_pos (by decide)
  omega
end Go.Proofs.Ytagilpgplcphpaa
