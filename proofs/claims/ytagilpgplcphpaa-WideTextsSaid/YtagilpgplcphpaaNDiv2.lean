/-
  Div64: the quotient and the rest of two words by one.
-/
import Derived.Test.YtagilpgplcphpaaNDivW
namespace Go.Proofs.Ytagilpgplcphpaa
open Go.RowKit Go.Shelf

theorem div_facts {x y d s : Nat} (hs : s ≤ 63) (hx : x < d) (h2 : d * 2 ^ s < 18446744073709551616) (hy : y < 18446744073709551616) :
    x * 2 ^ s + y / 2 ^ (64 - s) < d * 2 ^ s ∧ (x * 2 ^ s + y / 2 ^ (64 - s)) * 18446744073709551616 + y * 2 ^ s % 18446744073709551616 = (x * 18446744073709551616 + y) * 2 ^ s ∧ x * 2 ^ s < 18446744073709551616 ∧ y / 2 ^ (64 - s) < 2 ^ s := by
  have e : 2 ^ (64 - s) * 2 ^ s = 18446744073709551616 := by rw [← Nat.pow_add, show 64 - s + s = 64 by omega]
  have h3 : y / 2 ^ (64 - s) < 2 ^ s := Nat.div_lt_of_lt_mul (by rw [e]; exact hy)
  have h4 : y * 2 ^ s / 18446744073709551616 = y / 2 ^ (64 - s) := by rw [← e]; exact Nat.mul_div_mul_right _ _ (Nat.two_pow_pos s)
  have h5 : (x + 1) * 2 ^ s ≤ d * 2 ^ s := Nat.mul_le_mul_right _ hx
  rw [Nat.add_mul] at h5
  refine ⟨by omega, ?_, by omega, h3⟩
  have h6 : (x * 18446744073709551616 + y) * 2 ^ s = x * 2 ^ s * 18446744073709551616 + y * 2 ^ s := by rw [Nat.add_mul, Nat.mul_right_comm]
  rw [h6, ← h4]
  omega

theorem bits_halves {D : Nat} (h : D < 18446744073709551616) : bits .and .u64 (D : Int) 4294967295 = ((D % 4294967296 : Nat) : Int) := Mul64.maskN D h

theorem or_parts {x z s : Nat} (hz : z < 2 ^ s) (hx : x * 2 ^ s < 18446744073709551616) (h : x * 2 ^ s + z < 18446744073709551616) : bits .or .u64 ((x * 2 ^ s : Nat) : Int) (z : Int) = ((x * 2 ^ s + z : Nat) : Int) := by
  rw [bits_or_u64_nat _ _ hx (by omega), ← Nat.shiftLeft_eq, Nat.shiftLeft_add_eq_or_of_lt hz]

theorem wrapNat (n : Nat) (h : n < 18446744073709551616) : IntKind.u64.wrap (n : Int) = n := by rw [IntKind.wrap_u64]; omega

/-- one step's rest, as the words leave it -/
theorem rest_words {u c D Q : Nat} (hD : 0 < D) (hD2 : D < 18446744073709551616) (hQ : Q = (u * 4294967296 + c) / D) : IntKind.u64.wrap (IntKind.u64.wrap (IntKind.u64.wrap ((u : Int) * 4294967296) + c) - IntKind.u64.wrap ((Q : Int) * D)) = (((u * 4294967296 + c) % D : Nat) : Int) := by
  have h1 := Nat.div_add_mod (u * 4294967296 + c) D
  have h2 := Nat.mod_lt (u * 4294967296 + c) hD
  rw [← hQ, Nat.mul_comm] at h1
  rw [← Int.natCast_mul, IntKind.wrap_u64, IntKind.wrap_u64, IntKind.wrap_u64, IntKind.wrap_u64]
  generalize Q * D = p at *
  generalize (u * 4294967296 + c) % D = m at *
  omega

theorem half_start {u c D : Nat} (hu : u < D) (hc : c < 4294967296) (hD : 9223372036854775808 ≤ D) (hD2 : D < 18446744073709551616) :
    2147483648 ≤ D / 4294967296 ∧ D / 4294967296 < 4294967296 ∧ D % 4294967296 < 4294967296 ∧ D / 4294967296 * 4294967296 + D % 4294967296 = D ∧
    Half u c (D / 4294967296) (D % 4294967296) (u / (D / 4294967296)) (u % (D / 4294967296)) ∧ ((u : Int) / ((D / 4294967296 : Nat) : Int) = ((u / (D / 4294967296) : Nat) : Int)) ∧
    IntKind.u64.wrap ((u / (D / 4294967296) : Nat) : Int) = ((u / (D / 4294967296) : Nat) : Int) ∧
    IntKind.u64.wrap (u - IntKind.u64.wrap (((u / (D / 4294967296) : Nat) : Int) * ((D / 4294967296 : Nat) : Int))) = ((u % (D / 4294967296) : Nat) : Int) := by
  have h1 : 2147483648 ≤ D / 4294967296 := by omega
  have h2 : D / 4294967296 < 4294967296 := by omega
  have h3 : D % 4294967296 < 4294967296 := by omega
  have h4 : D / 4294967296 * 4294967296 + D % 4294967296 = D := by omega
  refine ⟨h1, h2, h3, h4, half_first h1 h2 h3 hc (by omega), rfl, ?_, ?_⟩
  · have := Nat.div_le_self u (D / 4294967296)
    exact wrapNat _ (by omega)
  · have k := Nat.div_add_mod u (D / 4294967296)
    rw [Nat.mul_comm] at k
    rw [← Int.natCast_mul, wrapNat _ (by omega), IntKind.wrap_u64]
    omega

theorem div64_zero {y d : Nat} (hd : 0 < d) (hy : y < 18446744073709551616) (hd2 : d < 18446744073709551616) (w : World) :
    Calls Try.prog 61 #[.int .u64 (0 : Int), .int .u64 y, .int .u64 d] w fun e w' => e = .returned (.tuple #[.int .u64 ((y / d : Nat) : Int), .int .u64 ((y % d : Nat) : Int)]) ∧ Only w w' := by
  have i0 : (0 : Int) ≤ d := by omega
  have i1 : ¬ (d : Int) = 0 := by omega
  have i2 : ((d : Int) == 0) = false := by simp; omega
  have i3 : ¬ (d : Int) ≤ 0 := by omega
  go_enter Try.func61, Try.ntmps61
  go_wp2_with fail
  refine wp_region_cone (by kernel_rfl) (by kernel_rfl) ?_
  repeat (any_goals (first | go_big_quiet_step ((fail)) | quiet_step ((fail))))
  refine wpQuiet_nil ?_
  rintro _ ⟨⟨w1, t1⟩, rfl⟩
  go_wp2_with fail
  go_ret2
  have e1 : IntKind.u64.wrap ((y : Int) / d) = ((y / d : Nat) : Int) := by
    have := Nat.div_le_self y d
    exact wrapNat (y / d) (by omega)
  exact ⟨by simp [e1], t1⟩

theorem join_words {A B C : Nat} (h : A * 4294967296 + B = C) (hC : C < 18446744073709551616) : IntKind.u64.wrap (IntKind.u64.wrap ((A : Int) * 4294967296) + (B : Int)) = (C : Int) := by
  rw [IntKind.wrap_u64, IntKind.wrap_u64]; omega

theorem div64_any (x y d : Nat) (hx : x < d) (hy : y < 18446744073709551616) (hd : d < 18446744073709551616) (w : World) :
    Calls Try.prog 61 #[.int .u64 x, .int .u64 y, .int .u64 d] w fun e w' => e = .returned (.tuple #[.int .u64 (((x * 18446744073709551616 + y) / d : Nat) : Int), .int .u64 (((x * 18446744073709551616 + y) % d : Nat) : Int)]) ∧ Only w w' := by
  by_cases z : x = 0
  · subst z
    simpa using div64_zero hx hy hd w
  obtain ⟨bl1, bl2, bl3⟩ := Lib.bitLenAux_bounds 64 d (by omega) (by omega)
  have bl4 := Lib.bitLen_le d 64 (Nat.le_refl _) (by omega)
  have LZ := fun w => Any.bits_LeadingZeros64 Try.lays134 (d : Int) w (by omega) (by omega)
  change 1 ≤ Lib.bitLen d at bl1
  change 2 ^ (Lib.bitLen d - 1) ≤ d at bl2
  change d < 2 ^ Lib.bitLen d at bl3
  rw [show ((d : Int).toNat) = d by omega] at LZ
  generalize Lib.bitLen d = n at *
  obtain ⟨s, hs⟩ : ∃ s, s = 64 - n := ⟨_, rfl⟩
  rw [show (64 - (n : Int)) = (s : Int) by omega] at LZ
  have h1 : 9223372036854775808 ≤ d * 2 ^ s := by
    have k := Nat.mul_le_mul_right (2 ^ s) bl2
    rw [← Nat.pow_add, show n - 1 + s = 63 by omega] at k
    exact k
  have h2 : d * 2 ^ s < 18446744073709551616 := by
    have k := Nat.mul_lt_mul_of_pos_right bl3 (Nat.two_pow_pos s)
    rw [← Nat.pow_add, show n + s = 64 by omega] at k
    exact k
  have s63 : s ≤ 63 := by omega
  clear bl1 bl2 bl3
  obtain ⟨f1, f2, f3, f4⟩ := div_facts s63 hx h2 hy
  obtain ⟨D, hD⟩ : ∃ D, D = d * 2 ^ s := ⟨_, rfl⟩
  obtain ⟨L, hL⟩ : ∃ L, L = y * 2 ^ s % 18446744073709551616 := ⟨_, rfl⟩
  obtain ⟨u, hu⟩ : ∃ u, u = x * 2 ^ s + y / 2 ^ (64 - s) := ⟨_, rfl⟩
  have e7 : bits .or .u64 (IntKind.u64.wrap ((x : Int) * 2 ^ s)) ((y : Int) / 2 ^ (64 - s)) = u := by
    rw [show ((x : Int) * 2 ^ s) = ((x * 2 ^ s : Nat) : Int) by simp, wrapNat _ f3, show ((y : Int) / 2 ^ (64 - s)) = ((y / 2 ^ (64 - s) : Nat) : Int) by simp, hu]
    exact or_parts f4 f3 (by omega)
  have e1 : IntKind.u64.wrap ((d : Int) * 2 ^ s) = D := by
    rw [show ((d : Int) * 2 ^ s) = ((d * 2 ^ s : Nat) : Int) by simp, wrapNat _ h2, hD]
  have e4 : IntKind.u64.wrap ((y : Int) * 2 ^ s) = L := by
    rw [show ((y : Int) * 2 ^ s) = ((y * 2 ^ s : Nat) : Int) by simp, IntKind.wrap_u64, hL]; omega
  have hLl : L < 18446744073709551616 := by omega
  rw [← hu, ← hL] at f2
  rw [← hu, ← hD] at f1
  rw [← hD] at h1 h2
  have hp := Nat.two_pow_pos s
  obtain ⟨sh1, sh2⟩ := shifted (x * 18446744073709551616 + y) d s
  rw [← f2, ← hD] at sh1 sh2
  obtain ⟨j1, j2, j3, j4, j5, j6, j7, j8⟩ := half_start (c := L / 4294967296) f1 (by omega) h1 h2
  have hD0' : 0 < D := Nat.lt_of_lt_of_le (by decide) h1
  have hm1 := Nat.mod_lt (u * 4294967296 + L / 4294967296) hD0'
  have st := two_steps (u := u) (d1 := L / 4294967296) (d0 := L % 4294967296) (y := D) hD0' (Nat.div_add_mod (u * 4294967296 + L / 4294967296) D)
  have eL : L / 4294967296 * 4294967296 + L % 4294967296 = L := by rw [Nat.mul_comm]; exact Nat.div_add_mod L 4294967296
  rw [eL] at st
  have hD0 := hD0'
  have g1 := rest_words (u := u) (c := L / 4294967296) (Q := (u * 4294967296 + L / 4294967296) / D) hD0 h2 rfl
  obtain ⟨m1, hm⟩ : ∃ m1, m1 = (u * 4294967296 + L / 4294967296) % D := ⟨_, rfl⟩
  rw [← hm] at st g1 hm1
  have hc0 : L % 4294967296 < 4294967296 := by omega
  obtain ⟨-, -, -, -, i5, i6, i7, i8⟩ := half_start (c := L % 4294967296) hm1 hc0 h1 h2
  have g2 := rest_words (u := m1) (c := L % 4294967296) (Q := (m1 * 4294967296 + L % 4294967296) / D) hD0 h2 rfl
  refine (div64_great (s := s) (D := D) (L := L) (a := D / 4294967296) (b := D % 4294967296) (u := u) (d1 := L / 4294967296) (d0 := L % 4294967296) (Q1 := (u * 4294967296 + L / 4294967296) / D) (m1 := m1) (Q2 := (m1 * 4294967296 + L % 4294967296) / D)
    (by omega) (by omega) (by omega) (by omega) (by omega) (by omega) LZ (by omega) e1 (by omega) (bits_halves h2) e4 (by omega) (bits_halves hLl) e7 (by omega) j2 j3 (show L / 4294967296 < 4294967296 by omega) hc0
    j6 j7 j8 (by rw [j4]; exact f1) j5 (by show _ = _; rw [j4]) g1 i6 i7 i8 (by rw [j4]; exact hm1) i5 (by show _ = _; rw [j4]) rfl (by rw [g2]) w).mono fun r w' k => ⟨k.1.trans ?_, by rw [k.2]; exact Only.refl w⟩
  have hq := Nat.div_lt_of_lt_mul (show x * 18446744073709551616 + y < d * 18446744073709551616 by omega)
  have w1 : IntKind.u64.wrap (IntKind.u64.wrap ((((u * 4294967296 + L / 4294967296) / D : Nat) : Int) * 4294967296) + (((m1 * 4294967296 + L % 4294967296) / D : Nat) : Int)) = (((x * 18446744073709551616 + y) / d : Nat) : Int) := by
    exact join_words (st.1.trans sh1) hq
  have w2 : (((m1 * 4294967296 + L % 4294967296) % D : Nat) : Int) / 2 ^ s = (((x * 18446744073709551616 + y) % d : Nat) : Int) := by
    rw [st.2, ← sh2]; simp
  rw [w1, w2]
end Go.Proofs.Ytagilpgplcphpaa
