/-
  WideOrder: for all numbers.
-/
import Derived.Test.YtfnfagnkdogojaaNOrder
namespace Go.Proofs.Ytfnfagnkdogojaa
open Go.RowKit Go.Shelf

theorem ans_words (n : Int) : ∃ h l e : Int, ans n = .tuple #[.agg #[.int .u64 h, .int .u64 l], .int .i64 e] ∧ ((e = 0 ∧ In n ∧ enc n = .agg #[.int .u64 h, .int .u64 l]) ∨ (e = 16 ∧ ¬ In n ∧ h = 0 ∧ l = 0)) := by
  by_cases c : In n
  · obtain ⟨h, l, -, -, -, -, -, e⟩ := enc_words n
    exact ⟨h, l, 0, by rw [ans_in c, e], Or.inl ⟨rfl, c, e⟩⟩
  · exact ⟨0, 0, 16, ans_out c, Or.inr ⟨rfl, c, rfl, rfl⟩⟩

theorem words_same {a b ah al bh bl : Int} (ha : In a) (hb : In b) (ea : enc a = .agg #[.int .u64 ah, .int .u64 al]) (eb : enc b = .agg #[.int .u64 bh, .int .u64 bl]) : decide (ah = bh ∧ al = bl) = decide (a = b) := by
  rw [decide_eq_decide]
  constructor
  · rintro ⟨rfl, rfl⟩
    exact enc_inj ha hb (ea.trans eb.symm)
  · rintro rfl
    have := ea.symm.trans eb
    simp only [Value.agg.injEq, Array.mk.injEq, List.cons.injEq, Value.int.injEq, true_and, and_true] at this
    exact this

theorem wideOrder_any {a b c : Int} (ha : In a) (hb : In b) (hc : In c) (w : World) : Calls Try.prog 7 #[enc a, enc b, enc c] w fun e w' => e = .returned (.bool true) ∧ Only w w' := by
  have C0 := cmp_any ha ha
  have C1 := cmp_any ha hb
  have C2 := cmp_any hb ha
  have C3 := cmp_any hb hc
  have C4 := cmp_any ha hc
  have A1 := add_any ha hc
  have A2 := add_any hb hc
  have S := sub_any ha hb
  obtain ⟨xh, xl, e, ex, hx⟩ := ans_words (a + c)
  obtain ⟨yh, yl, f, ey, hy⟩ := ans_words (b + c)
  obtain ⟨dh, dl, g, ed, hd⟩ := ans_words (a - b)
  obtain ⟨ah, al, -, -, -, -, -, ea⟩ := enc_words a
  obtain ⟨bh, bl, -, -, -, -, -, eb⟩ := enc_words b
  obtain ⟨ch, cl, -, -, -, -, -, ec⟩ := enc_words c
  have q0 := cmpI_cases a a
  have q1 := cmpI_cases a b
  have q2 := cmpI_cases b a
  have q3 := cmpI_cases b c
  have q4 := cmpI_cases a c
  rw [show cmpI a a = 0 by omega] at C0
  rw [ea, ec, ex] at A1; rw [eb, ec, ey] at A2; rw [ea, eb, ed] at S
  rw [ea] at C0; rw [ea, eb] at C1 C2; rw [eb, ec] at C3; rw [ea, ec] at C4
  rw [ea, eb, ec]
  refine wideOrder_walk (k := cmpI a b) (kb := cmpI b a) (k2 := cmpI b c) (k3 := cmpI a c) (e := e) (f := f) (g := g) (z := decide (a = b)) (d1 := decide (cmpI a b ≤ 0)) (d2 := decide (cmpI b c ≤ 0)) (d3 := decide (0 < cmpI a c)) (ez := (e == 0)) (fz := (f == 0)) (gz := (g == 0))
    C0 C1 C2 ?_ (words_same ha hb ea eb).symm ?_ C3 C4 rfl rfl rfl ?_ A1 A2 rfl rfl ?_ S rfl ?_ ?_ w
  · rw [IntKind.wrap_i64]; omega
  · rw [Bool.eq_iff_iff]; simp only [beq_iff_eq, decide_eq_true_eq]; omega
  · simp only [decide_eq_true_eq, decide_eq_false_iff_not]; omega
  · intro h1 h2
    have e0 : e = 0 := by simpa using h1
    have f0 : f = 0 := by simpa using h2
    obtain ⟨-, i1, e1⟩ := hx.resolve_right (by omega)
    obtain ⟨-, i2, e2⟩ := hy.resolve_right (by omega)
    have C := cmp_any i1 i2
    have q5 := cmpI_cases (a + c) (b + c)
    rw [e1, e2, show cmpI (a + c) (b + c) = cmpI a b by omega] at C
    exact C
  · simp [bne]
  · intro h1
    have g0 : g = 0 := by simpa using h1
    obtain ⟨-, i1, e1⟩ := hd.resolve_right (by omega)
    have C := sign_any i1
    have q5 := cmpI_cases (a - b) 0
    rw [e1, show cmpI (a - b) 0 = cmpI a b by omega] at C
    exact C
end Go.Proofs.Ytfnfagnkdogojaa
