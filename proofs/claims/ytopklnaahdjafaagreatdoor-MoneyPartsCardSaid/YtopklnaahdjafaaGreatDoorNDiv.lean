/-
  The arithmetic of a division of two words by one, in halves (nothing of the program).
-/
import Derived.Test.YtopklnaahdjafaaGreatDoorTBase
namespace Go.Proofs.YtopklnaahdjafaaGreatDoor

/-- one half of the quotient of two words by one: q and r are where the search stands -/
structure Half (u d a b q r : Nat) : Prop where
  eq : q * a + r = u
  small : r < 4294967296
  low : q ≤ 4294967297
  above : (u * 4294967296 + d) / (a * 4294967296 + b) ≤ q

section
variable {u d a b q r : Nat}

theorem half_first (ha : 2147483648 ≤ a) (ha2 : a < 4294967296) (hb : b < 4294967296) (hd : d < 4294967296) (hu : u < a * 4294967296 + b) : Half u d a b (u / a) (u % a) := by
  have hm : u % a < a := Nat.mod_lt _ (by omega)
  have e : a * (u / a) + u % a = u := Nat.div_add_mod u a
  have hq : u / a < 4294967298 := (Nat.div_lt_iff_lt_mul (by omega)).2 (by omega)
  generalize u / a = q at *
  generalize u % a = r at *
  have e' : q * a + r = u := by rw [Nat.mul_comm]; exact e
  refine ⟨e', by omega, by omega, ?_⟩
  have h1 : u + 1 ≤ (q + 1) * a := by rw [Nat.add_mul]; omega
  have h2 : (u + 1) * 4294967296 ≤ (q + 1) * (a * 4294967296 + b) := by
    have := Nat.mul_le_mul_right 4294967296 h1
    rw [Nat.mul_assoc] at this
    exact Nat.le_trans this (Nat.mul_le_mul_left _ (Nat.le_add_right _ _))
  have h0 : u * 4294967296 + d < (u + 1) * 4294967296 := by omega
  have h3 : u * 4294967296 + d < (q + 1) * (a * 4294967296 + b) := Nat.lt_of_lt_of_le h0 h2
  exact Nat.le_of_lt_succ ((Nat.div_lt_iff_lt_mul (by omega)).2 h3)

theorem half_prod (h : Half u d a b q r) : q * (a * 4294967296 + b) + r * 4294967296 = u * 4294967296 + q * b := by
  rw [← h.eq, Nat.mul_add, Nat.add_mul, ← Nat.mul_assoc]; omega

theorem half_more (h : Half u d a b q r) (hd : d < 4294967296) (hu : u < a * 4294967296 + b) (c : 4294967296 ≤ q ∨ 4294967296 * r + d < q * b) :
    (u * 4294967296 + d) / (a * 4294967296 + b) < q := by
  rcases c with c | c
  · have : (u * 4294967296 + d) / (a * 4294967296 + b) < 4294967296 := (Nat.div_lt_iff_lt_mul (by omega)).2 (by
      have := Nat.mul_le_mul_right 4294967296 (Nat.succ_le_of_lt hu)
      rw [Nat.mul_comm 4294967296 (a * 4294967296 + b)]
      omega)
    omega
  · have := half_prod h
    exact (Nat.div_lt_iff_lt_mul (by omega)).2 (by omega)

theorem half_next (h : Half u d a b q r) (hd : d < 4294967296) (hu : u < a * 4294967296 + b) (c : 4294967296 ≤ q ∨ 4294967296 * r + d < q * b) (hr : r + a < 4294967296) :
    Half u d a b (q - 1) (r + a) := by
  have hq := half_more h hd hu c
  refine ⟨?_, hr, by have := h.low; omega, by omega⟩
  have : (q - 1 + 1) * a = q * a := by rw [Nat.sub_add_cancel (Nat.lt_of_le_of_lt (Nat.zero_le _) hq)]
  rw [Nat.add_mul] at this
  have := h.eq
  omega

theorem half_break (h : Half u d a b q r) (hb : b < 4294967296) (hd : d < 4294967296) (hu : u < a * 4294967296 + b) (c : 4294967296 ≤ q ∨ 4294967296 * r + d < q * b) (hr : 4294967296 ≤ r + a) :
    q - 1 = (u * 4294967296 + d) / (a * 4294967296 + b) := by
  have hq := half_more h hd hu c
  have e : (q - 1 + 1) * a = q * a := by rw [Nat.sub_add_cancel (Nat.lt_of_le_of_lt (Nat.zero_le _) hq)]
  rw [Nat.add_mul] at e
  have e2 : (q - 1) * a + (r + a) = u := by have := h.eq; omega
  have p : (q - 1) * (a * 4294967296 + b) + (r + a) * 4294967296 = u * 4294967296 + (q - 1) * b := by
    rw [← e2, Nat.mul_add, Nat.add_mul ((q - 1) * a), ← Nat.mul_assoc]; omega
  have k : (q - 1) * b ≤ 4294967296 * 4294967296 := Nat.mul_le_mul (by have := h.low; omega) (by omega)
  have : q - 1 ≤ (u * 4294967296 + d) / (a * 4294967296 + b) := (Nat.le_div_iff_mul_le (by omega)).2 (by omega)
  omega

theorem half_done (h : Half u d a b q r) (ha : 2147483648 ≤ a) (c : ¬ 4294967296 * r + d < q * b) :
    q = (u * 4294967296 + d) / (a * 4294967296 + b) := by
  have := half_prod h
  have : q ≤ (u * 4294967296 + d) / (a * 4294967296 + b) := (Nat.le_div_iff_mul_le (by omega)).2 (by omega)
  exact Nat.le_antisymm this h.above
end

theorem two_steps {u d1 d0 y q m : Nat} (hy : 0 < y) (e : y * q + m = u * 4294967296 + d1) :
    q * 4294967296 + (m * 4294967296 + d0) / y = (u * 18446744073709551616 + (d1 * 4294967296 + d0)) / y ∧
    (m * 4294967296 + d0) % y = (u * 18446744073709551616 + (d1 * 4294967296 + d0)) % y := by
  have k : u * 18446744073709551616 + (d1 * 4294967296 + d0) = y * (q * 4294967296) + (m * 4294967296 + d0) := by
    rw [← Nat.mul_assoc]; omega
  rw [k, Nat.mul_add_div hy, Nat.mul_add_mod]
  exact ⟨rfl, rfl⟩

/-- the digits of a number put aside by s -/
theorem shifted (n y s : Nat) : n * 2 ^ s / (y * 2 ^ s) = n / y ∧ n * 2 ^ s % (y * 2 ^ s) / 2 ^ s = n % y := by
  have h := Nat.two_pow_pos s
  refine ⟨Nat.mul_div_mul_right _ _ h, ?_⟩
  rw [Nat.mul_mod_mul_right, Nat.mul_div_cancel _ h]

end Go.Proofs.YtopklnaahdjafaaGreatDoor
