/-
  Whole numbers of 128 bits as plain numbers: how they lie in two words.
-/
import Derived.Test.YtopklnaahdjafaaGreatDoorTBase
import Derived.Laws.Bits64b
namespace Go.Proofs.YtopklnaahdjafaaGreatDoor
open Go.RowKit

/-- a word -/
def Word (x : Int) : Prop := 0 ≤ x ∧ x < 18446744073709551616
/-- a number of 128 bits, with a sign -/
def In (v : Int) : Prop := -170141183460469231731687303715884105728 ≤ v ∧ v < 170141183460469231731687303715884105728
/-- a number of 128 bits, without one -/
def Un (v : Int) : Prop := 0 ≤ v ∧ v < 340282366920938463463374607431768211456

instance (v : Int) : Decidable (In v) := by unfold In; infer_instance
instance (v : Int) : Decidable (Un v) := by unfold Un; infer_instance

/-- the two words of a number -/
def enc (v : Int) : Value := .agg #[.int .u64 (v / 18446744073709551616 % 18446744073709551616), .int .u64 (v % 18446744073709551616)]

/-- h and l are the two words of v (out of the walk's sight) -/
structure Two (v h l : Int) : Prop where
  hi : h = v / 18446744073709551616 % 18446744073709551616
  lo : l = v % 18446744073709551616

theorem enc_words (v : Int) : ∃ h l : Int, 0 ≤ h ∧ h < 18446744073709551616 ∧ 0 ≤ l ∧ l < 18446744073709551616 ∧ Two v h l ∧ enc v = .agg #[.int .u64 h, .int .u64 l] :=
  ⟨_, _, by omega, by omega, by omega, by omega, ⟨rfl, rfl⟩, rfl⟩

theorem enc_mk {h l v : Int} (eh : h = v / 18446744073709551616 % 18446744073709551616) (el : l = v % 18446744073709551616) : Value.agg #[.int .u64 h, .int .u64 l] = enc v := by
  subst eh el; rfl

/-- any two words are a number's -/
theorem enc_of {h l : Int} (hh : Word h) (hl : Word l) : ∃ v, In v ∧ Value.agg #[.int .u64 h, .int .u64 l] = enc v := by
  obtain ⟨h0, h1⟩ := hh
  obtain ⟨l0, l1⟩ := hl
  by_cases c : h < 9223372036854775808
  · exact ⟨h * 18446744073709551616 + l, ⟨by omega, by omega⟩, enc_mk (by omega) (by omega)⟩
  · exact ⟨h * 18446744073709551616 + l - 340282366920938463463374607431768211456, ⟨by omega, by omega⟩, enc_mk (by omega) (by omega)⟩

theorem enc_inj {v u : Int} (hv : In v) (hu : In u) (h : enc v = enc u) : v = u := by
  obtain ⟨a, b⟩ := hv
  obtain ⟨c, d⟩ := hu
  simp only [enc, Value.agg.injEq, Array.mk.injEq, List.cons.injEq, Value.int.injEq, true_and, and_true] at h
  omega

/-! ### bits of words -/
theorem and_high (h : Int) (hh : Word h) : bits .and .u64 h 9223372036854775808 = if h < 9223372036854775808 then 0 else 9223372036854775808 := by
  obtain ⟨h0, h1⟩ := hh
  obtain ⟨n, rfl⟩ := Int.eq_ofNat_of_zero_le h0
  have e := bits_and_u64_nat n 9223372036854775808 (by omega) (by omega)
  have k : n &&& 9223372036854775808 = if n < 9223372036854775808 then 0 else 9223372036854775808 := by
    have k1 : (n &&& 9223372036854775808) % 9223372036854775808 = 0 := by
      have := Nat.and_mod_two_pow (a := n) (b := 9223372036854775808) (n := 63)
      rw [show (2 : Nat) ^ 63 = 9223372036854775808 from rfl, Nat.mod_self, Nat.and_zero] at this
      exact this
    have k2 : (n &&& 9223372036854775808) / 9223372036854775808 = (n / 9223372036854775808) &&& 1 := by
      have := Nat.and_div_two_pow (a := n) (b := 9223372036854775808) (n := 63)
      rw [show (2 : Nat) ^ 63 = 9223372036854775808 from rfl] at this
      exact this
    by_cases c : n < 9223372036854775808
    · rw [show n / 9223372036854775808 = 0 by omega, show (0 : Nat) &&& 1 = 0 from rfl] at k2
      rw [if_pos c]; omega
    · rw [show n / 9223372036854775808 = 1 by omega, show (1 : Nat) &&& 1 = 1 from rfl] at k2
      rw [if_neg c]; omega
  refine e.trans ?_
  rw [k]
  split <;> split <;> omega

theorem xor_high (h : Int) (hh : Word h) : bits .xor .u64 h 9223372036854775808 = (h + 9223372036854775808) % 18446744073709551616 := by
  obtain ⟨h0, h1⟩ := hh
  obtain ⟨n, rfl⟩ := Int.eq_ofNat_of_zero_le h0
  have e := bits_xor_u64_nat n 9223372036854775808 (by omega) (by omega)
  have k1 : (n ^^^ 9223372036854775808) % 9223372036854775808 = n % 9223372036854775808 := by
    have := Nat.xor_mod_two_pow (a := n) (b := 9223372036854775808) (n := 63)
    rw [show (2 : Nat) ^ 63 = 9223372036854775808 from rfl, Nat.mod_self, Nat.xor_zero] at this
    exact this
  have k2 : (n ^^^ 9223372036854775808) / 9223372036854775808 = (n / 9223372036854775808) ^^^ 1 := by
    have := Nat.xor_div_two_pow (a := n) (b := 9223372036854775808) (n := 63)
    rw [show (2 : Nat) ^ 63 = 9223372036854775808 from rfl] at this
    exact this
  refine e.trans ?_
  by_cases c : n < 9223372036854775808
  · rw [show n / 9223372036854775808 = 0 by omega, show (0 : Nat) ^^^ 1 = 1 from rfl] at k2
    omega
  · rw [show n / 9223372036854775808 = 1 by omega, show (1 : Nat) ^^^ 1 = 0 from rfl] at k2
    omega

end Go.Proofs.YtopklnaahdjafaaGreatDoor
