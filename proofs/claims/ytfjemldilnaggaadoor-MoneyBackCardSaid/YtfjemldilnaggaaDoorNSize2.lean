/-
  Sizes times a word, with a word added, by a word.
-/
import Derived.Test.YtfjemldilnaggaaDoorNSize
import Derived.IntWalk
namespace Go.Proofs.YtfjemldilnaggaaDoor
open Go.RowKit Go.Shelf

theorem mul64 (x y : Int) (hx : Word x) (hy : Word y) (w : World) : Calls Tryd.prog 59 #[.int .u64 x, .int .u64 y] w fun e w' => e = .returned (.tuple #[.int .u64 (x * y / 18446744073709551616), .int .u64 (x * y % 18446744073709551616)]) ∧ w' = w := by
  obtain ⟨x0, x1⟩ := hx
  obtain ⟨y0, y1⟩ := hy
  obtain ⟨x, rfl⟩ := Int.eq_ofNat_of_zero_le x0
  obtain ⟨y, rfl⟩ := Int.eq_ofNat_of_zero_le y0
  have h := Any.bits_Mul64 Tryd.lays264 x y (by omega) (by omega) w
  rw [← Int.natCast_mul]
  generalize x * y = p at h ⊢
  rw [show ((p : Nat) : Int) / 18446744073709551616 = ((p / 18446744073709551616 : Nat) : Int) by omega, show ((p : Nat) : Int) % 18446744073709551616 = ((p % 18446744073709551616 : Nat) : Int) by omega]
  exact h

/-- what Mul64 answers -/
abbrev MulIs (x y hi lo : Int) : Prop := ∀ w, Calls Tryd.prog 59 #[.int .u64 x, .int .u64 y] w fun e w' => e = .returned (.tuple #[.int .u64 hi, .int .u64 lo]) ∧ w' = w
/-- what Add64 answers -/
abbrev AddIs (x y c lo hi : Int) : Prop := ∀ w, (callFunc 54 #[.int .u64 x, .int .u64 y, .int .u64 c]).run Tryd.prog w = .ok (.value (.tuple #[.int .u64 lo, .int .u64 hi])) w



theorem plus_walk {h l n c lo hi d : Int} {f : Bool} (A1 : AddIs l n 0 lo c) (A2 : AddIs h 0 c hi d) (hf : (f = true ∧ d = 0) ∨ (f = false ∧ d ≠ 0)) (w : World) :
    Calls Tryd.prog 64 #[.agg #[.int .u64 h, .int .u64 l], .int .u64 n] w fun e w' => e = .returned (.tuple #[.agg #[.int .u64 hi, .int .u64 lo], .bool f]) ∧ Only w w' := by
  rcases hf with ⟨rfl, rfl⟩ | ⟨rfl, h2⟩
  all_goals
    go_enter Tryd.func64, Tryd.ntmps64
    go_wp2_with (first | simp only [A1] | simp only [A2])
    simp [bodyPost, results, Tryd.results64, go_sem]
    first | exact ((Only.refl w).alloc _).alloc _ | exact ⟨h2, ((Only.refl w).alloc _).alloc _⟩

/-- what Div64 answers -/
abbrev DivIs (x y d q r : Int) : Prop := ∀ w, Calls Tryd.prog 74 #[.int .u64 x, .int .u64 y, .int .u64 d] w fun e w' => e = .returned (.tuple #[.int .u64 q, .int .u64 r]) ∧ Only w w'

set_option maxHeartbeats 800000 in
theorem by_walk {h l d q r : Int} (h0 : 0 ≤ h) (h1 : h < 18446744073709551616) (d0 : 0 < d) (D : DivIs (h % d) l d q r) (w : World) :
    Calls Tryd.prog 63 #[.agg #[.int .u64 h, .int .u64 l], .int .u64 d] w fun e w' => e = .returned (.tuple #[.agg #[.int .u64 (h / d), .int .u64 q], .int .u64 r]) ∧ Only w w' := by
  have i0 : 0 ≤ d := by omega
  have i1 : ¬ d = 0 := by omega
  have i2 : (d == 0) = false := by simp; omega
  go_enter Tryd.func63, Tryd.ntmps63
  go_wp2_with fail
  have o1 := (Own2.new w (.int .u64 h) (.int .u64 l) 105).alloc (.cells #[.int .u64 0, .int .u64 0] 105)
  have o2 := Own2.new1 w (.cells #[.int .u64 h, .int .u64 l] 105) (.int .u64 0) (.int .u64 0) 105
  obtain ⟨k1, k2⟩ := o1.cone
  refine wp_region_cone (by kernel_rfl) (by kernel_rfl) ?_
  repeat (any_goals (first | go_big_quiet_step ((go_at_call 74; exact Cone.call (D _))) | quiet_step ((go_at_call 74; exact Cone.call (D _)))))
  refine wpQuiet_nil ?_
  rintro _ ⟨⟨w1, t1⟩, rfl⟩
  obtain ⟨c1, c2, f1, f2, z1⟩ := (o1.only t1).all
  obtain ⟨c3, c4, f3, f4, z3⟩ := (o2.only t1).all
  have ht := (((Only.refl w).alloc _).alloc _).trans t1
  clear k1 k2 t1 o1 o2
  go_wp2_with fail
  have e1 : IntKind.u64.wrap (h.tdiv d) = h / d := by
    rw [Int.tdiv_eq_ediv_of_nonneg h0, IntKind.wrap_u64]
    have := Int.ediv_le_self d h0
    have := Int.ediv_nonneg h0 i0
    omega
  simp [bodyPost, results, Tryd.results63, go_sem, World.cell?_setCell_other, c3, c4]
  exact (ht.set (by omega) 0 _).set (by omega) 1 _

theorem enc_parts {h l v : Int} (hh : Word h) (hl : Word l) (e : v = h * 18446744073709551616 + l) : Value.agg #[.int .u64 h, .int .u64 l] = enc v := by
  obtain ⟨h0, h1⟩ := hh
  obtain ⟨l0, l1⟩ := hl
  exact enc_mk (by omega) (by omega)

theorem un_words {v : Int} (hv : Un v) : ∃ h l : Int, Word h ∧ Word l ∧ v = h * 18446744073709551616 + l ∧ enc v = .agg #[.int .u64 h, .int .u64 l] := by
  obtain ⟨a, b⟩ := hv
  refine ⟨v / 18446744073709551616, v % 18446744073709551616, ⟨by omega, by omega⟩, ⟨by omega, by omega⟩, by omega, ?_⟩
  exact (enc_mk (by omega) (by omega)).symm



theorem plus_any {v n : Int} (hv : Un v) (hn : Word n) (w : World) : Calls Tryd.prog 64 #[enc v, .int .u64 n] w fun e w' => e = .returned (.tuple #[enc (v + n), .bool (decide (Un (v + n)))]) ∧ Only w w' := by
  obtain ⟨h, l, ⟨h0, h1⟩, ⟨l0, l1⟩, rfl, e⟩ := un_words hv
  obtain ⟨n0, n1⟩ := hn
  rw [e]
  have hf : ∃ f : Bool, f = decide (Un (h * 18446744073709551616 + l + n)) := ⟨_, rfl⟩
  obtain ⟨f, hf⟩ := hf
  rw [← hf]
  refine (plus_walk (f := f) (add64_0 l n l0 n0) (add64 h 0 ((l + n) / 18446744073709551616) h0 (Int.le_refl 0) (by omega) (by omega)) ?_ w).mono fun r w' k => ⟨k.1.trans ?_, k.2⟩
  · by_cases c : Un (h * 18446744073709551616 + l + n)
    · rw [decide_eq_true c] at hf
      obtain ⟨c1, c2⟩ := c
      exact Or.inl ⟨hf, by omega⟩
    · rw [decide_eq_false c] at hf
      unfold Un at c
      exact Or.inr ⟨hf, by omega⟩
  · rw [enc_mk (v := h * 18446744073709551616 + l + n) (by omega) (by omega)]
end Go.Proofs.YtfjemldilnaggaaDoor
