/-
  WideSums: for all numbers.
-/
import Derived.Test.YtfnfagnkdogojaaBSums
namespace Go.Proofs.Ytfnfagnkdogojaa
open Go.RowKit Go.Maps Go.WideMaps

theorem Lim.of_in {a : Int} (h : In a) : Lim a 10 := by
  obtain ⟨h1, h2⟩ := h
  unfold Lim; omega
theorem Lim.of_i64 {n : Int} (h : I64 n) : Lim n 5 := by
  obtain ⟨h1, h2⟩ := h
  unfold Lim; omega

/-- an answer that has to give n, in its words -/
theorem ans_split (n : Int) : ∃ (v e : Int) (h l : Int), ans n = .tuple #[.agg #[.int .u64 h, .int .u64 l], .int .i64 e] ∧ enc v = .agg #[.int .u64 h, .int .u64 l] ∧ In v ∧ isB v e n = true := by
  by_cases c : In n
  · obtain ⟨h, l, -, -, -, -, -, e⟩ := enc_words n
    exact ⟨n, 0, h, l, by rw [ans_in c, e], e, c, by unfold isB; rw [if_pos c]; simp⟩
  · obtain ⟨h, l, -, -, -, -, -, e⟩ := enc_words 0
    exact ⟨0, 16, h, l, by rw [ans_out c, e], e, in_zero, by unfold isB; rw [if_neg c]; simp⟩

theorem isYes_of {v e n h l : Int} (hv : In v) (hh : enc v = .agg #[.int .u64 h, .int .u64 l]) (hb : isB v e n = true) (ln : Lim n 20000) : IsYes h l e n := fun W b s k c r => by
  have := is_any (e := e) hv r ln
  rw [hb, hh] at this
  exact this

theorem wideSums_any {a b n m : Int} (ha : In a) (hb : In b) (hn : I64 n) (hm : I64 m) (w : World) :
    Calls Try.prog 4 #[enc a, enc b, .int .i64 n, .int .i64 m] w fun e w' => e = .returned (.bool true) ∧ Only w w' := by
  have la := Lim.of_in ha
  have lb := Lim.of_in hb
  have ln := Lim.of_i64 hn
  have lm := Lim.of_i64 hm
  have hnm := in_mul hn hm
  have hni := hn.in_
  obtain ⟨sv, e1, sh, sl, E1, W1, I1, B1⟩ := ans_split (a + b)
  obtain ⟨dv, e2, dh, dl, E2, W2, I2, B2⟩ := ans_split (a - b)
  obtain ⟨pv, e3, ph, pl, E3, W3, I3, B3⟩ := ans_split (a * n)
  obtain ⟨tv, e4, th, tl, E4, W4, I4, B4⟩ := ans_split (-a)
  have IS1 := isYes_of I1 W1 B1 ((la.add lb).mono (by omega))
  have IS2 := isYes_of I2 W2 B2 (by rw [Int.sub_eq_add_neg]; exact (la.add lb.neg).mono (by omega))
  have IS3 := isYes_of I3 W3 B3 ((la.mul ln).mono (by omega))
  have IS4 := isYes_of I4 W4 B4 (la.neg.mono (by omega))
  have ADD := fun W => add_any ha hb W
  have SUB := fun W => sub_any ha hb W
  have MUI := fun W => mulInt_any ha hn W
  have NEG := fun W => neg_any ha W
  have VA := fun W => value_any ha W
  have VB := fun W => value_any hb W
  have VQ := fun W => value_any hnm W
  have VF := fun W => value_any hni W
  have MUL := fun W => (mul_any hn hm W).mono fun _ _ k => (⟨k.1, k.2.2⟩ : _ ∧ Only W _)
  have FRI := fromInt_is hn
  have INT := fun W => int_any ha W
  have BI : ∀ W b' s k c, BigR W b' s k c a → Calls Try.prog 28 #[.agg #[.bool b', .slice s k c]] W fun r w' => r = .returned (intOrNone a) ∧ Only W w' := fun W b' s k c r => bigInt_any r (la.mono (by omega))
  have CMP := fun W => cmp_any ha hb W
  have SGN := fun W => sign_any ha W
  obtain ⟨i0, j0, k0, whole, hi, hk, hw⟩ : ∃ (i0 j0 k0 : Int) (whole : Bool), intAns a = .tuple #[.int .i64 i0, .int .i64 j0] ∧ intOrNone a = .tuple #[.int .i64 k0, .bool whole] ∧ ((whole = true ∧ i0 = k0 ∧ j0 = 0) ∨ (whole = false ∧ i0 = 0 ∧ j0 = 16)) := by
    by_cases c : -9223372036854775808 ≤ a ∧ a < 9223372036854775808
    · exact ⟨a, 0, a, true, if_pos c, if_pos c, Or.inl ⟨rfl, rfl, rfl⟩⟩
    · exact ⟨0, 16, 0, false, if_neg c, if_neg c, Or.inr ⟨rfl, rfl, rfl⟩⟩
  rw [E1] at ADD
  rw [E2] at SUB
  rw [E3] at MUI
  rw [E4] at NEG
  rw [hi] at INT
  rw [hk] at BI
  obtain ⟨ah, al, -, -, -, -, -, ea⟩ := enc_words a
  obtain ⟨bh, bl, -, -, -, -, -, eb⟩ := enc_words b
  obtain ⟨qh, ql, -, -, -, -, -, eq⟩ := enc_words (n * m)
  obtain ⟨fh, fl, -, -, -, -, -, ef⟩ := enc_words n
  rw [ea, eb] at ADD SUB CMP
  rw [ea] at VA MUI NEG INT SGN
  rw [eb] at VB
  rw [eq] at VQ MUL
  rw [ef] at VF FRI
  rw [ea, eb]
  exact wideSums_walk VA VB ADD SUB MUI NEG IS1 IS2 IS3 IS4 MUL VQ FRI VF (bigOf_any hn.1 hn.2) (bigOf_any hm.1 hm.2) INT BI hw CMP SGN rfl rfl la lb ln lm w
end Go.Proofs.Ytfnfagnkdogojaa
