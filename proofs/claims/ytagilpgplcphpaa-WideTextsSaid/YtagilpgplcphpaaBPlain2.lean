/-
  Products of digits (nothing of the program).
-/
import Derived.Test.YtagilpgplcphpaaBPlain
namespace Go.Proofs.Ytagilpgplcphpaa

theorem bval_set {l : List Nat} {j : Nat} (hj : j < l.length) (z : Nat) : bval (l.set j z) + 10000 ^ j * l[j] = bval l + 10000 ^ j * z := by
  have e1 := bval_take_drop l j (by omega)
  have e2 := bval_take_drop (l.set j z) j (by simp; omega)
  rw [bval_drop l hj] at e1
  rw [bval_drop (l.set j z) (by simpa using hj), List.take_set_of_le (by omega), List.getElem_set_self, List.drop_set_of_lt (by omega)] at e2
  rw [e1, e2, Nat.mul_add, Nat.mul_add]
  omega

theorem Dg.set {l : List Nat} (h : Dg l) (j : Nat) {z : Nat} (hz : z < 10000) : Dg (l.set j z) := fun x hx => by
  rcases List.mem_or_eq_of_mem_set hx with k | k
  · exact h x k
  · omega

/-- what a row of the product keeps -/
structure Row (a b d : List Nat) (i k c : Nat) (x : Nat) : Prop where
  len : d.length = a.length + b.length + 1
  dg : Dg d
  carry : c ≤ 9999
  eq : bval d + 10000 ^ (i + k) * c = bval (a.take i) * bval b + x * 10000 ^ i * bval (b.take k)

/-- behind i rows -/
structure Rows_ (a b d : List Nat) (i : Nat) : Prop where
  len : d.length = a.length + b.length + 1
  dg : Dg d
  eq : bval d = bval (a.take i) * bval b

theorem bval_zeros (n : Nat) : bval (List.replicate n 0) = 0 := by
  induction n with
  | zero => rfl
  | succ n ih => simp [List.replicate_succ, bval, ih]

theorem Rows_.start (a b : List Nat) : Rows_ a b (List.replicate (a.length + b.length + 1) 0) 0 :=
  ⟨by simp, fun x hx => by rw [List.mem_replicate] at hx; omega, by rw [bval_zeros]; simp [bval]⟩

theorem Rows_.row {a b d : List Nat} {i : Nat} (h : Rows_ a b d i) (x : Nat) : Row a b d i 0 0 x := ⟨h.len, h.dg, by omega, by simp [h.eq, bval]⟩

/-- the row's place in the product -/
theorem Row.inside {a b d : List Nat} {i k c : Nat} (hi : i < a.length) (ha : Dg a) (hb : Dg b) (h : Row a b d i k c a[i]) (hk : k < b.length ∨ 0 < c) : i + k < d.length ∧ k ≤ b.length := by
  have hl := h.len
  have key : k ≤ b.length := by
    rcases hk with e | e
    · omega
    · have h1 : bval (a.take (i + 1)) = bval (a.take i) + 10000 ^ i * a[i] := by
        rw [List.take_succ_eq_append_getElem hi, bval_snoc, List.length_take, Nat.min_eq_left (by omega)]
      have h2 := bval_lt (ha.take (i + 1))
      rw [List.length_take, Nat.min_eq_left (by omega)] at h2
      have h3 : bval (b.take k) ≤ bval b := by
        rcases Nat.lt_or_ge b.length k with q | q
        · rw [List.take_of_length_le (by omega)]; exact Nat.le_refl _
        · rw [bval_take_drop b k q]; omega
      have h4 := bval_lt hb
      have h5 : bval (a.take i) * bval b + a[i] * 10000 ^ i * bval (b.take k) ≤ bval (a.take (i + 1)) * bval b := by
        rw [h1, Nat.add_mul, Nat.mul_comm (10000 ^ i)]
        exact Nat.add_le_add_left (Nat.mul_le_mul_left _ h3) _
      have h6 : bval (a.take (i + 1)) * bval b ≤ 10000 ^ (i + 1) * 10000 ^ b.length := Nat.mul_le_mul (by omega) (by omega)
      have h7 : bval (a.take (i + 1)) * bval b < 10000 ^ (i + 1) * 10000 ^ b.length := by
        rcases Nat.eq_zero_or_pos (bval b) with q | q
        · rw [q, Nat.mul_zero]; exact Nat.mul_pos (Nat.pow_pos (by decide)) (Nat.pow_pos (by decide))
        · exact Nat.lt_of_lt_of_le (Nat.mul_lt_mul_of_pos_right h2 q) (Nat.mul_le_mul_left _ (by omega))
      rw [← Nat.pow_add] at h7
      have h8 : 10000 ^ (i + k) * 1 ≤ 10000 ^ (i + k) * c := Nat.mul_le_mul_left _ e
      have h9 := h.eq
      have h10 : 10000 ^ (i + k) < 10000 ^ (i + 1 + b.length) := by omega
      have := (Nat.pow_lt_pow_iff_right (by decide)).1 h10
      omega
  exact ⟨by omega, key⟩

theorem Row.next {a b d : List Nat} {i k c x y z : Nat} (h : Row a b d i k c x) (hj : i + k < d.length) (hx : x < 10000) (hy : bval (b.take (k + 1)) = bval (b.take k) + 10000 ^ k * y) (ly : y < 10000) (hz : z = d[i + k] + c + x * y) :
    Row a b (d.set (i + k) (z % 10000)) i (k + 1) (z / 10000) x := by
  have hd := h.dg.at_ hj
  have hc := h.carry
  have hxy : x * y ≤ 9999 * 9999 := Nat.mul_le_mul (by omega) (by omega)
  refine ⟨by simp [h.len], h.dg.set _ (Nat.mod_lt _ (by decide)), by omega, ?_⟩
  have e := h.eq
  have s := bval_set hj (z % 10000)
  have dm := Nat.div_add_mod z 10000
  rw [hy, Nat.mul_add, show i + (k + 1) = i + k + 1 by omega, Nat.pow_succ]
  have e2 : x * 10000 ^ i * (10000 ^ k * y) = 10000 ^ (i + k) * (x * y) := by
    rw [Nat.pow_add, ← Nat.mul_assoc, Nat.mul_right_comm _ _ y, Nat.mul_comm x (10000 ^ i), Nat.mul_assoc (10000 ^ i) x, Nat.mul_right_comm, Nat.mul_right_comm (10000 ^ i)]
  rw [e2]
  generalize 10000 ^ (i + k) = P at *
  generalize bval (d.set (i + k) (z % 10000)) = V at *
  generalize d[i + k] = u at *
  generalize x * y = xy at *
  have e3 : P * 10000 * (z / 10000) = P * (10000 * (z / 10000)) := Nat.mul_assoc ..
  have e4 : P * (10000 * (z / 10000)) + P * (z % 10000) = P * u + P * c + P * xy := by rw [← Nat.mul_add, dm, hz, Nat.mul_add, Nat.mul_add]
  rw [e3]
  generalize bval (a.take i) * bval b = g1 at *
  generalize x * 10000 ^ i * bval (b.take k) = g2 at *
  omega

theorem Row.done {a b d : List Nat} {i k : Nat} (hi : i < a.length) (h : Row a b d i k 0 a[i]) (hk : b.length ≤ k) : Rows_ a b d (i + 1) := by
  refine ⟨h.len, h.dg, ?_⟩
  have e := h.eq
  rw [List.take_of_length_le hk] at e
  rw [List.take_succ_eq_append_getElem hi, bval_snoc, List.length_take, Nat.min_eq_left (by omega), Nat.add_mul, Nat.mul_comm (10000 ^ i)]
  simpa using e

theorem Rows_.done {a b d : List Nat} (h : Rows_ a b d a.length) : bval d = bval a * bval b := by
  have := h.eq
  rwa [List.take_length] at this

end Go.Proofs.Ytagilpgplcphpaa
