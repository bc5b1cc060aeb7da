/-
  Sizes times a word, with a word added, by a word.
-/
import Derived.Test.YtagilpgplcphpaaNSize
import Derived.IntWalk
namespace Go.Proofs.Ytagilpgplcphpaa
open Go.RowKit Go.Shelf

theorem mul64 (x y : Int) (hx : Word x) (hy : Word y) (w : World) : Calls Try.prog 53 #[.int .u64 x, .int .u64 y] w fun e w' => e = .returned (.tuple #[.int .u64 (x * y / 18446744073709551616), .int .u64 (x * y % 18446744073709551616)]) ∧ w' = w := by
  obtain ⟨x0, x1⟩ := hx
  obtain ⟨y0, y1⟩ := hy
  obtain ⟨x, rfl⟩ := Int.eq_ofNat_of_zero_le x0
  obtain ⟨y, rfl⟩ := Int.eq_ofNat_of_zero_le y0
  have h := Any.bits_Mul64 Try.lays264 x y (by omega) (by omega) w
  rw [← Int.natCast_mul]
  generalize x * y = p at h ⊢
  rw [show ((p : Nat) : Int) / 18446744073709551616 = ((p / 18446744073709551616 : Nat) : Int) by omega, show ((p : Nat) : Int) % 18446744073709551616 = ((p % 18446744073709551616 : Nat) : Int) by omega]
  exact h

/-- what Mul64 answers -/
abbrev MulIs (x y hi lo : Int) : Prop := ∀ w, Calls Try.prog 53 #[.int .u64 x, .int .u64 y] w fun e w' => e = .returned (.tuple #[.int .u64 hi, .int .u64 lo]) ∧ w' = w
/-- what Add64 answers -/
abbrev AddIs (x y c lo hi : Int) : Prop := ∀ w, (callFunc 38 #[.int .u64 x, .int .u64 y, .int .u64 c]).run Try.prog w = .ok (.value (.tuple #[.int .u64 lo, .int .u64 hi])) w

set_option maxHeartbeats 800000 in
theorem times_walk {h l n c lo ov up hi mo : Int} {f : Bool} (M1 : MulIs l n c lo) (M2 : MulIs h n ov up) (A : AddIs up c 0 hi mo) (hf : (f = true ∧ ov = 0 ∧ mo = 0) ∨ (f = false ∧ ov ≠ 0) ∨ (f = false ∧ ov = 0 ∧ mo ≠ 0)) (w : World) :
    Calls Try.prog 41 #[.agg #[.int .u64 h, .int .u64 l], .int .u64 n] w fun e w' => e = .returned (.tuple #[.agg #[.int .u64 hi, .int .u64 lo], .bool f]) ∧ Only w w' := by
  rcases hf with ⟨rfl, rfl, rfl⟩ | ⟨rfl, h2⟩ | ⟨rfl, rfl, h2⟩
  all_goals
    go_enter Try.func41, Try.ntmps41
    go_wp2_with fail
    go_at_call 53
    refine (M1 _).mono ?_
    rintro r w1 ⟨rfl, rfl⟩
    go_wp2_with fail
    go_at_call 53
    refine (M2 _).mono ?_
    rintro r w1 ⟨rfl, rfl⟩
    go_wp2_with (rw [A])
    simp [bodyPost, results, Try.results41, go_sem]
    first | exact ((Only.refl w).alloc _).alloc _ | exact ⟨h2, ((Only.refl w).alloc _).alloc _⟩


theorem plus_walk {h l n c lo hi d : Int} {f : Bool} (A1 : AddIs l n 0 lo c) (A2 : AddIs h 0 c hi d) (hf : (f = true ∧ d = 0) ∨ (f = false ∧ d ≠ 0)) (w : World) :
    Calls Try.prog 45 #[.agg #[.int .u64 h, .int .u64 l], .int .u64 n] w fun e w' => e = .returned (.tuple #[.agg #[.int .u64 hi, .int .u64 lo], .bool f]) ∧ Only w w' := by
  rcases hf with ⟨rfl, rfl⟩ | ⟨rfl, h2⟩
  all_goals
    go_enter Try.func45, Try.ntmps45
    go_wp2_with (first | simp only [A1] | simp only [A2])
    simp [bodyPost, results, Try.results45, go_sem]
    first | exact ((Only.refl w).alloc _).alloc _ | exact ⟨h2, ((Only.refl w).alloc _).alloc _⟩

/-- what Div64 answers -/
abbrev DivIs (x y d q r : Int) : Prop := ∀ w, Calls Try.prog 61 #[.int .u64 x, .int .u64 y, .int .u64 d] w fun e w' => e = .returned (.tuple #[.int .u64 q, .int .u64 r]) ∧ Only w w'

set_option maxHeartbeats 800000 in
theorem by_walk {h l d q r : Int} (h0 : 0 ≤ h) (h1 : h < 18446744073709551616) (d0 : 0 < d) (D : DivIs (h % d) l d q r) (w : World) :
    Calls Try.prog 44 #[.agg #[.int .u64 h, .int .u64 l], .int .u64 d] w fun e w' => e = .returned (.tuple #[.agg #[.int .u64 (h / d), .int .u64 q], .int .u64 r]) ∧ Only w w' := by
  have i0 : 0 ≤ d := by omega
  have i1 : ¬ d = 0 := by omega
  have i2 : (d == 0) = false := by simp; omega
  go_enter Try.func44, Try.ntmps44
  go_wp2_with fail
  have o1 := (Own2.new w (.int .u64 h) (.int .u64 l) 67).alloc (.cells #[.int .u64 0, .int .u64 0] 67)
  have o2 := Own2.new1 w (.cells #[.int .u64 h, .int .u64 l] 67) (.int .u64 0) (.int .u64 0) 67
  obtain ⟨k1, k2⟩ := o1.cone
  refine wp_region_cone (by kernel_rfl) (by kernel_rfl) ?_
  repeat (any_goals (first | go_big_quiet_step ((go_at_call 61; exact Cone.call (D _))) | quiet_step ((go_at_call 61; exact Cone.call (D _)))))
  refine wpQuiet_nil ?_
  rintro _ ⟨⟨w1, t1⟩, rfl⟩
  obtain ⟨c1, c2, f1, f2, z1⟩ := (o1.only t1).all
  obtain ⟨c3, c4, f3, f4, z3⟩ := (o2.only t1).all
  have ht := (((Only.refl w).alloc _).alloc _).trans t1
  clear k1 k2 t1 o1 o2
  go_wp2_with fail
  have e1 : IntKind.u64.wrap (h.tdiv d) = h / d := by
    rw [Int.tdiv_eq_ediv_of_nonneg h0, IntKind.wrap_u64]
    have := Int.ediv_le_self d h0
    have := Int.ediv_nonneg h0 i0
    omega
  simp [bodyPost, results, Try.results44, go_sem, World.cell?_setCell_other, c3, c4]
  exact (ht.set (by omega) 0 _).set (by omega) 1 _

theorem enc_parts {h l v : Int} (hh : Word h) (hl : Word l) (e : v = h * 18446744073709551616 + l) : Value.agg #[.int .u64 h, .int .u64 l] = enc v := by
  obtain ⟨h0, h1⟩ := hh
  obtain ⟨l0, l1⟩ := hl
  exact enc_mk (by omega) (by omega)

theorem un_words {v : Int} (hv : Un v) : ∃ h l : Int, Word h ∧ Word l ∧ v = h * 18446744073709551616 + l ∧ enc v = .agg #[.int .u64 h, .int .u64 l] := by
  obtain ⟨a, b⟩ := hv
  refine ⟨v / 18446744073709551616, v % 18446744073709551616, ⟨by omega, by omega⟩, ⟨by omega, by omega⟩, by omega, ?_⟩
  exact (enc_mk (by omega) (by omega)).symm

/-- the product's two upper parts -/
theorem times_any {v n : Int} (hv : Un v) (hn : Word n) (w : World) : Calls Try.prog 41 #[enc v, .int .u64 n] w fun e w' => e = .returned (.tuple #[enc (v * n), .bool (decide (Un (v * n)))]) ∧ Only w w' := by
  obtain ⟨h, l, hh, hl, rfl, e⟩ := un_words hv
  rw [e]
  have hm : (h * 18446744073709551616 + l) * n = h * n * 18446744073709551616 + l * n := by rw [Int.add_mul, Int.mul_assoc, Int.mul_comm 18446744073709551616 n, ← Int.mul_assoc]
  have b1 : h * n ≤ 18446744073709551615 * 18446744073709551615 := Int.mul_le_mul (by have := hh.2; omega) (by have := hn.2; omega) hn.1 (by decide)
  have b2 : l * n ≤ 18446744073709551615 * 18446744073709551615 := Int.mul_le_mul (by have := hl.2; omega) (by have := hn.2; omega) hn.1 (by decide)
  have b3 := Int.mul_nonneg hh.1 hn.1
  have b4 := Int.mul_nonneg hl.1 hn.1
  have M1 := mul64 l n hl hn
  have M2 := mul64 h n hh hn
  rw [hm]
  generalize h * n = p at *
  generalize l * n = q at *
  have A := add64_0 (p % 18446744073709551616) (q / 18446744073709551616) (by omega) (by omega)
  have hf : ∃ f : Bool, f = decide (Un (p * 18446744073709551616 + q)) := ⟨_, rfl⟩
  obtain ⟨f, hf⟩ := hf
  rw [← hf]
  refine (times_walk (f := f) M1 M2 A ?_ w).mono fun r w' k => ⟨k.1.trans ?_, k.2⟩
  · by_cases c : Un (p * 18446744073709551616 + q)
    · rw [decide_eq_true c] at hf
      obtain ⟨c1, c2⟩ := c
      exact Or.inl ⟨hf, by omega, by omega⟩
    · rw [decide_eq_false c] at hf
      unfold Un at c
      by_cases c2 : p / 18446744073709551616 = 0
      · exact Or.inr (Or.inr ⟨hf, c2, by omega⟩)
      · exact Or.inr (Or.inl ⟨hf, c2⟩)
  · rw [enc_mk (v := p * 18446744073709551616 + q) (by omega) (by omega)]


theorem plus_any {v n : Int} (hv : Un v) (hn : Word n) (w : World) : Calls Try.prog 45 #[enc v, .int .u64 n] w fun e w' => e = .returned (.tuple #[enc (v + n), .bool (decide (Un (v + n)))]) ∧ Only w w' := by
  obtain ⟨h, l, ⟨h0, h1⟩, ⟨l0, l1⟩, rfl, e⟩ := un_words hv
  obtain ⟨n0, n1⟩ := hn
  rw [e]
  have hf : ∃ f : Bool, f = decide (Un (h * 18446744073709551616 + l + n)) := ⟨_, rfl⟩
  obtain ⟨f, hf⟩ := hf
  rw [← hf]
  refine (plus_walk (f := f) (add64_0 l n l0 n0) (add64 h 0 ((l + n) / 18446744073709551616) h0 (Int.le_refl 0) (by omega) (by omega)) ?_ w).mono fun r w' k => ⟨k.1.trans ?_, k.2⟩
  · by_cases c : Un (h * 18446744073709551616 + l + n)
    · rw [decide_eq_true c] at hf
      obtain ⟨c1, c2⟩ := c
      exact Or.inl ⟨hf, by omega⟩
    · rw [decide_eq_false c] at hf
      unfold Un at c
      exact Or.inr ⟨hf, by omega⟩
  · rw [enc_mk (v := h * 18446744073709551616 + l + n) (by omega) (by omega)]
end Go.Proofs.Ytagilpgplcphpaa
