/-
  What quotients mean.
-/
import Derived.Test.YtagilpgplcphpaaNQuo
import Derived.Test.YtagilpgplcphpaaNEven
namespace Go.Proofs.Ytagilpgplcphpaa
open Go.RowKit Go.Shelf

/-- how far from 0 -/
def far (v : Int) : Int := if v < 0 then -v else v
/-- are they on two sides of 0? -/
def twoSides (v d : Int) : Bool := decide (v < 0) != decide (d < 0)
/-- with a sign, or not -/
def signed (b : Bool) (n : Int) : Int := if b then -n else n

theorem far_un {v : Int} (h : In v) : 0 ≤ far v ∧ far v ≤ 170141183460469231731687303715884105728 := by obtain ⟨a, b⟩ := h; unfold far; split <;> omega
theorem far_i64 {d : Int} (h : I64 d) (hd : d ≠ 0) : 0 < far d ∧ far d ≤ 9223372036854775808 := by obtain ⟨a, b⟩ := h; unfold far; split <;> omega

theorem tdiv_signed (v d : Int) : v.tdiv d = signed (twoSides v d) (far v / far d) := by
  unfold signed twoSides far
  by_cases c1 : v < 0 <;> by_cases c2 : d < 0 <;> simp only [c1, c2, decide_true, decide_false, bne_self_eq_false, if_true, if_false, Bool.not_false, Bool.bne_true, Bool.bne_false, Bool.false_eq_true]
  · rw [← Int.tdiv_eq_ediv_of_nonneg (by omega), Int.neg_tdiv, Int.tdiv_neg, Int.neg_neg]
  · rw [← Int.tdiv_eq_ediv_of_nonneg (by omega), Int.neg_tdiv, Int.neg_neg]
  · rw [← Int.tdiv_eq_ediv_of_nonneg (by omega), Int.tdiv_neg, Int.neg_neg]
  · rw [← Int.tdiv_eq_ediv_of_nonneg (by omega)]

theorem tmod_signed (v d : Int) : v.tmod d = signed (decide (v < 0)) (far v % far d) := by
  unfold signed far
  by_cases c1 : v < 0 <;> by_cases c2 : d < 0 <;> simp only [c1, c2, decide_true, decide_false, if_true, if_false, Bool.false_eq_true]
  · rw [← Int.tmod_eq_emod_of_nonneg (by omega), Int.neg_tmod, Int.tmod_neg, Int.neg_neg]
  · rw [← Int.tmod_eq_emod_of_nonneg (by omega), Int.neg_tmod, Int.neg_neg]
  · rw [← Int.tmod_eq_emod_of_nonneg (by omega), Int.tmod_neg]
  · rw [← Int.tmod_eq_emod_of_nonneg (by omega)]

/-- a quotient, word by word -/
theorem by_words {h l d : Nat} (hd : 0 < d) (hl : l < 18446744073709551616) : (h * 18446744073709551616 + l) / d = h / d * 18446744073709551616 + (h % d * 18446744073709551616 + l) / d ∧
    (h * 18446744073709551616 + l) % d = (h % d * 18446744073709551616 + l) % d ∧ (h % d * 18446744073709551616 + l) / d < 18446744073709551616 := by
  have e : h * 18446744073709551616 + l = d * (h / d * 18446744073709551616) + (h % d * 18446744073709551616 + l) := by
    have k := Nat.div_add_mod h d
    have k2 : d * (h / d * 18446744073709551616) = d * (h / d) * 18446744073709551616 := by rw [Nat.mul_assoc]
    rw [k2]
    generalize d * (h / d) = a at *
    omega
  have hm := Nat.mod_lt h hd
  refine ⟨?_, ?_, Nat.div_lt_of_lt_mul (by omega)⟩
  · rw [e, Nat.mul_add_div hd]
  · rw [e, Nat.mul_add_mod]

theorem word_nat {n : Nat} (h : n < 18446744073709551616) : Word (n : Int) := ⟨Int.natCast_nonneg _, by omega⟩

theorem by_any {v d : Int} (hv : Un v) (hd : 0 < d) (hd2 : d < 18446744073709551616) (w : World) : Calls Try.prog 44 #[enc v, .int .u64 d] w fun e w' => e = .returned (.tuple #[enc (v / d), .int .u64 (v % d)]) ∧ Only w w' := by
  obtain ⟨h, l, ⟨h0, h1⟩, ⟨l0, l1⟩, rfl, e⟩ := un_words hv
  obtain ⟨h, rfl⟩ := Int.eq_ofNat_of_zero_le h0
  obtain ⟨l, rfl⟩ := Int.eq_ofNat_of_zero_le l0
  obtain ⟨d, rfl⟩ := Int.eq_ofNat_of_zero_le (Int.le_of_lt hd)
  have hd' : 0 < d := by omega
  have hm := Nat.mod_lt h hd'
  obtain ⟨k1, k2, k3⟩ := by_words (h := h) (l := l) hd' (by omega)
  have D : DivIs ((h : Int) % d) l d _ _ := fun w => div64_any (h % d) l d hm (by omega) (by omega) w
  rw [e]
  refine (by_walk h0 h1 hd D w).mono fun r w' k => ⟨k.1.trans ?_, k.2⟩
  have e1 : (((h : Int) * 18446744073709551616 + l) / d) = (((h * 18446744073709551616 + l) / d : Nat) : Int) := by simp
  have e2 : (((h : Int) * 18446744073709551616 + l) % d) = (((h * 18446744073709551616 + l) % d : Nat) : Int) := by simp
  rw [e1, e2, k1, k2]
  have kq := Nat.div_le_self h d
  rw [← enc_parts (h := (((h / d : Nat)) : Int)) (l := (((h % d * 18446744073709551616 + l) / d : Nat) : Int)) (v := ((h / d * 18446744073709551616 + (h % d * 18446744073709551616 + l) / d : Nat) : Int)) (word_nat (Nat.lt_of_le_of_lt kq (by omega))) (word_nat k3) (by simp)]
  rfl

/-- what QuoRem answers -/
def quoAns (v d : Int) : Value := if In (v.tdiv d) then .tuple #[enc (v.tdiv d), .int .i64 (v.tmod d), .int .i64 0] else .tuple #[enc 0, .int .i64 0, .int .i64 16]

theorem far_mod {v d : Int} (hd : 0 < far d) : 0 ≤ far v % far d ∧ far v % far d < far d := ⟨Int.emod_nonneg _ (by omega), Int.emod_lt_of_pos _ hd⟩

theorem quoRem_any {v d : Int} (hv : In v) (hd : I64 d) (hd0 : d ≠ 0) (w : World) : Calls Try.prog 13 #[enc v, .int .i64 d] w fun e w' => e = .returned (quoAns v d) ∧ Only w w' := by
  have S := size_any hv
  have B := below_enc hv
  have Z := sizeOf_is hd.1 hd.2
  obtain ⟨f0, f1⟩ := far_i64 hd hd0
  have hf := far_un hv
  change ∀ w, Calls _ _ _ w fun e w' => e = .returned (enc (far v)) ∧ Only w w' at S
  change SizeOfIs d (far d) at Z
  have T := by_any (v := far v) (d := far d) ⟨hf.1, by omega⟩ f0 (by omega)
  obtain ⟨m0, m1⟩ := far_mod (v := v) f0
  have hq0 : 0 ≤ far v / far d := Int.ediv_nonneg hf.1 (by omega)
  have hq1 : far v / far d ≤ far v := Int.ediv_le_self _ hf.1
  have N := number_any (v := far v / far d) ⟨hq0, by omega⟩ (twoSides v d)
  have eq : (if twoSides v d = true then -(far v / far d) else far v / far d) = v.tdiv d := (tdiv_signed v d).symm
  rw [eq] at N
  have em := tmod_signed v d
  unfold signed at em
  obtain ⟨h, l, -, -, -, -, -, ev⟩ := enc_words v
  obtain ⟨i, j, -, -, -, -, -, e1⟩ := enc_words (far v)
  obtain ⟨p, q, -, -, -, -, -, e2⟩ := enc_words (far v / far d)
  rw [ev, e1] at S; rw [ev] at B; rw [e1, e2] at T; rw [e2] at N; rw [ev]
  unfold quoAns
  by_cases c : In (v.tdiv d)
  · rw [if_pos c, em]
    rw [ans_in c] at N
    obtain ⟨a, b, -, -, -, -, -, e3⟩ := enc_words (v.tdiv d)
    rw [e3] at N ⊢
    exact quoRem_walk (z := true) hd0 S Z T B rfl N (Or.inl ⟨rfl, rfl⟩) m0 (by omega) w
  · rw [if_neg c]
    rw [ans_out c] at N
    exact quoRem_walk (z := false) hd0 S Z T B rfl N (Or.inr ⟨rfl, by decide⟩) m0 (by omega) w

/-- the nearest quotient of two sizes, of two the even one -/
def nearest (m n : Int) : Int := if 2 * (m % n) > n ∨ (2 * (m % n) = n ∧ m / n % 2 = 1) then m / n + 1 else m / n

theorem divEven_any {v d : Int} (hv : In v) (hd : I64 d) (hd0 : d ≠ 0) (w : World) : Calls Try.prog 15 #[enc v, .int .i64 d] w fun e w' => e = .returned (ans (signed (twoSides v d) (nearest (far v) (far d)))) ∧ Only w w' := by
  have S := size_any hv
  have B := below_enc hv
  have Z := sizeOf_is hd.1 hd.2
  obtain ⟨f0, f1⟩ := far_i64 hd hd0
  have hf := far_un hv
  change ∀ w, Calls _ _ _ w fun e w' => e = .returned (enc (far v)) ∧ Only w w' at S
  change SizeOfIs d (far d) at Z
  have T := by_any (v := far v) (d := far d) ⟨hf.1, by omega⟩ f0 (by omega)
  obtain ⟨m0, m1⟩ := far_mod (v := v) f0
  have hq0 : 0 ≤ far v / far d := Int.ediv_nonneg hf.1 (by omega)
  have hq1 : far v / far d ≤ far v := Int.ediv_le_self _ hf.1
  have PL := plus_any (v := far v / far d) (n := 1) ⟨hq0, by omega⟩ ⟨by decide, by decide⟩
  have t2 : IntKind.u64.wrap (2 * (far v % far d)) = 2 * (far v % far d) := by rw [IntKind.wrap_u64]; omega
  have hnn : Un (nearest (far v) (far d)) := by unfold nearest; split <;> exact ⟨by omega, by omega⟩
  have N := number_any hnn (twoSides v d)
  change ∀ w, Calls _ _ _ w fun e w' => e = .returned (ans (signed (twoSides v d) (nearest (far v) (far d)))) ∧ Only w w' at N
  obtain ⟨a, b, er, ea⟩ := ans_form (signed (twoSides v d) (nearest (far v) (far d)))
  rw [ea] at N ⊢
  have hlow : ∀ p q : Int, enc (far v / far d) = .agg #[.int .u64 p, .int .u64 q] → 0 ≤ q ∧ q % 2 = far v / far d % 2 := fun p q he => by
    unfold enc at he
    simp only [Value.agg.injEq, Array.mk.injEq, List.cons.injEq, Value.int.injEq, true_and, and_true] at he
    omega
  obtain ⟨h, l, -, -, -, -, -, ev⟩ := enc_words v
  obtain ⟨i, j, -, -, -, -, -, e1⟩ := enc_words (far v)
  obtain ⟨p, q, -, -, -, -, -, e2⟩ := enc_words (far v / far d)
  obtain ⟨p', q', -, -, -, -, -, e3⟩ := enc_words (far v / far d + 1)
  obtain ⟨q0, qq⟩ := hlow p q e2
  rw [ev, e1] at S; rw [ev] at B; rw [e1, e2] at T; rw [e2, e3] at PL; rw [ev]
  have hway : ∃ up : Bool, Way (2 * (far v % far d)) (far d) q up ∧ nearest (far v) (far d) = if up then far v / far d + 1 else far v / far d := by
    unfold nearest Way
    by_cases c1 : far d < 2 * (far v % far d)
    · exact ⟨true, Or.inl ⟨c1, rfl⟩, by rw [if_pos (Or.inl c1)]; rfl⟩
    · by_cases c2 : 2 * (far v % far d) = far d
      · by_cases c3 : q % 2 = 1
        · exact ⟨true, Or.inr (Or.inl ⟨c2, c3, rfl⟩), by rw [if_pos (Or.inr ⟨c2, by omega⟩)]; rfl⟩
        · exact ⟨false, Or.inr (Or.inr (Or.inl ⟨c2, by omega, rfl⟩)), by rw [if_neg (by omega)]; rfl⟩
      · exact ⟨false, Or.inr (Or.inr (Or.inr ⟨by omega, rfl⟩)), by rw [if_neg (by omega)]; rfl⟩
  obtain ⟨up, hw, hnr⟩ := hway
  refine divEven_walk hd0 S Z T t2 q0 hw PL B rfl rfl (fun w => ?_) w
  have := N w
  rw [hnr] at this
  cases up
  · simp only [Bool.false_eq_true, if_false] at this ⊢
    rw [e2] at this; exact this
  · simp only [if_true] at this ⊢
    rw [e3] at this; exact this
end Go.Proofs.Ytagilpgplcphpaa
