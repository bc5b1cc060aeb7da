/-
  Quotients of digits, and their decimal letters (nothing of the program).
-/
import Derived.Test.YtagilpgplcphpaaBPlain2
namespace Go.Proofs.Ytagilpgplcphpaa

/-- what a division keeps, going down: the digits from i on are divided -/
structure Quoting (a : List Nat) (D : Nat) (q : List Nat) (rest i : Nat) : Prop where
  le : i ≤ a.length
  len : q.length = a.length - i
  dg : Dg q
  eq : bval (a.drop i) = bval q * D + rest
  less : rest < D

theorem Quoting.start (a : List Nat) {D : Nat} (h : 0 < D) : Quoting a D [] 0 a.length := ⟨Nat.le_refl _, by simp, Dg.nil, by simp [bval], h⟩

/-- the next digit of the quotient is one -/
theorem Quoting.digit {a : List Nat} {D : Nat} {q : List Nat} {rest i : Nat} (ha : Dg a) (h : Quoting a D q rest (i + 1)) : (rest * 10000 + a[i]'(by have := h.le; omega)) / D < 10000 := by
  have hl := h.less
  have hi : i < a.length := by have := h.le; omega
  have hd := ha.at_ hi
  refine Nat.div_lt_of_lt_mul ?_
  generalize a[i] = x at *
  have : rest + 1 ≤ D := hl
  have := Nat.mul_le_mul_right 10000 this
  omega

theorem Quoting.next {a : List Nat} {D : Nat} {q : List Nat} {rest i lo : Nat} (ha : Dg a) (h : Quoting a D q rest (i + 1)) (hlo : lo = (rest * 10000 + a[i]'(by have := h.le; omega)) / D) :
    Quoting a D (lo :: q) ((rest * 10000 + a[i]'(by have := h.le; omega)) - D * lo) i := by
  have hi : i < a.length := by have := h.le; omega
  have hdig := h.digit ha
  have hl := h.less
  have e := h.eq
  rw [← hlo] at hdig
  have dm := Nat.div_add_mod (rest * 10000 + a[i]) D
  have ml := Nat.mod_lt (rest * 10000 + a[i]) (show 0 < D by omega)
  rw [← hlo] at dm
  refine ⟨by omega, by simp [h.len]; omega, Dg.cons hdig h.dg, ?_, by omega⟩
  rw [bval_drop a hi, e]
  simp only [bval]
  rw [Nat.add_mul, Nat.mul_comm lo D, Nat.mul_assoc 10000]
  generalize bval q * D = B at *
  generalize D * lo = C at *
  generalize a[i] = x at *
  omega

theorem Quoting.done {a : List Nat} {D : Nat} {q : List Nat} {rest : Nat} (h : Quoting a D q rest 0) : bval q = bval a / D ∧ rest = bval a % D := by
  have e := h.eq
  have hl := h.less
  rw [List.drop_zero] at e
  rw [e]
  have h0 : 0 < D := by omega
  exact ⟨by rw [Nat.mul_comm, Nat.mul_add_div h0, Nat.div_eq_of_lt hl, Nat.add_zero], by rw [Nat.mul_comm, Nat.mul_add_mod, Nat.mod_eq_of_lt hl]⟩

/-- what the search for a digit keeps -/
structure Searching (R D lo hi : Nat) : Prop where
  low : D * lo ≤ R
  high : R < D * hi
theorem Searching.mid {R D lo hi : Nat} (_h : Searching R D lo hi) (k : lo + 1 < hi) : lo < (lo + hi) / 2 ∧ (lo + hi) / 2 < hi := by omega
theorem Searching.up {R D lo hi m : Nat} (h : Searching R D lo hi) (k : D * m ≤ R) : Searching R D m hi := ⟨k, h.high⟩
theorem Searching.down {R D lo hi m : Nat} (h : Searching R D lo hi) (k : ¬ D * m ≤ R) : Searching R D lo m := ⟨h.low, by omega⟩
theorem Searching.done {R D lo hi : Nat} (h : Searching R D lo hi) (k : ¬ lo + 1 < hi) : lo = R / D := by
  have hlt : lo < hi := by
    rcases Nat.lt_or_ge lo hi with c | c
    · exact c
    · have := Nat.mul_le_mul_left D c
      have := h.low
      have := h.high
      omega
  obtain rfl : hi = lo + 1 := by omega
  have h1 := h.low
  have h2 := h.high
  rw [Nat.mul_add, Nat.mul_one] at h2
  have h0 : 0 < D := by omega
  have a1 : lo ≤ R / D := (Nat.le_div_iff_mul_le h0).2 (by rw [Nat.mul_comm]; exact h1)
  have a2 : R / D < lo + 1 := Nat.div_lt_of_lt_mul (by rw [Nat.mul_add, Nat.mul_one]; exact h2)
  omega

/-! ### letters -/
theorem pow4 (i : Nat) : 10000 ^ i = 10 ^ (4 * i) := by rw [Nat.pow_mul]

/-- the decimal digits of a digit -/
theorem bval_decimal {l : List Nat} (hl : Dg l) {i k : Nat} (hi : i < l.length) (hk : k < 4) : bval l / 10 ^ (4 * i + k) % 10 = l[i] / 10 ^ k % 10 := by
  have e := bval_take_drop l i (by omega)
  have lt := bval_lt (hl.take i)
  rw [List.length_take, Nat.min_eq_left (by omega)] at lt
  have e2 : bval l / 10 ^ (4 * i) = bval (l.drop i) := by
    rw [← pow4, e, Nat.add_comm, Nat.mul_add_div (Nat.pow_pos (by decide)), Nat.div_eq_of_lt lt, Nat.add_zero]
  rw [Nat.pow_add, ← Nat.div_div_eq_div_mul, e2, bval_drop l hi]
  generalize bval (l.drop (i + 1)) = X
  generalize l[i] = d
  rcases (by omega : k = 0 ∨ k = 1 ∨ k = 2 ∨ k = 3) with rfl | rfl | rfl | rfl <;> omega

/-- where a number's letters end -/
theorem bval_ends {l : List Nat} (hl : Dg l) (hn : 0 < l.length) {k : Nat} (h : l[l.length - 1]'(by omega) / 10 ^ k = 0) : bval l / 10 ^ (4 * (l.length - 1) + k) = 0 := by
  have e := bval_take_drop l (l.length - 1) (by omega)
  have lt := bval_lt (hl.take (l.length - 1))
  rw [List.length_take, Nat.min_eq_left (by omega)] at lt
  have e2 : bval l / 10 ^ (4 * (l.length - 1)) = bval (l.drop (l.length - 1)) := by
    rw [← pow4, e, Nat.add_comm, Nat.mul_add_div (Nat.pow_pos (by decide)), Nat.div_eq_of_lt lt, Nat.add_zero]
  rw [Nat.pow_add, ← Nat.div_div_eq_div_mul, e2, bval_drop l (by omega), bval_drop_end l (by omega)]
  simpa using h

end Go.Proofs.Ytagilpgplcphpaa
