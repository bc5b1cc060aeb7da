/-
  MoneyRatios: for all amounts.
-/
import Derived.Test.YtfjemldilnaggaaDoorMRatios
namespace Go.Proofs.YtfjemldilnaggaaDoor
open Go.RowKit Go.Shelf
set_option linter.unusedVariables false

theorem far_neg (a : Int) : far (-a) = far a := by unfold far; split <;> split <;> omega

theorem nearI_turned (a : Int) {d : Int} (hd : d ≠ 0) : nearI (-a) (-d) = nearI a d := by
  unfold nearI
  rw [far_neg, far_neg]
  by_cases h : a = 0
  · subst h
    have : nearest (far 0) (far d) = 0 := by
      have hf : 0 < far d := by unfold far; split <;> omega
      unfold nearest
      rw [show far 0 = 0 from rfl]
      simp
      omega
    rw [this]
    unfold signed
    split <;> split <;> rfl
  · have : twoSides (-a) (-d) = twoSides a d := by
      unfold twoSides
      rw [show decide (-a < 0) = !decide (a < 0) by rw [← decide_not, decide_eq_decide]; omega, show decide (-d < 0) = !decide (d < 0) by rw [← decide_not, decide_eq_decide]; omega]
      cases decide (a < 0) <;> cases decide (d < 0) <;> rfl
    rw [this]

theorem nearI_one (u : Int) {d : Int} (hd : d ≠ 0) : nearI (u * d) d = u := by
  have e1 : far (u * d) = far u * far d := by
    unfold far
    by_cases h1 : u < 0 <;> by_cases h2 : d < 0
    · have : 0 < u * d := Int.mul_pos_of_neg_of_neg h1 h2
      rw [if_neg (by omega), if_pos h1, if_pos h2, Int.neg_mul_neg]
    · have : u * d < 0 := Int.mul_neg_of_neg_of_pos h1 (by omega)
      rw [if_pos this, if_pos h1, if_neg h2, Int.neg_mul]
    · by_cases h3 : u = 0
      · subst h3; simp
      · have : u * d < 0 := Int.mul_neg_of_pos_of_neg (by omega) h2
        rw [if_pos this, if_neg h1, if_pos h2, Int.mul_neg]
    · have : 0 ≤ u * d := Int.mul_nonneg (by omega) (by omega)
      rw [if_neg (by omega), if_neg h1, if_neg h2]
  have f2 : 0 < far d := by unfold far; split <;> omega
  unfold nearI
  rw [e1]
  have e2 : nearest (far u * far d) (far d) = far u := by
    unfold nearest
    rw [Int.mul_emod_left, Int.mul_ediv_cancel _ (by omega)]
    simp
    omega
  rw [e2]
  unfold signed twoSides far
  by_cases h0 : u = 0
  · subst h0; simp
  by_cases h1 : u < 0 <;> by_cases h2 : d < 0
  · have : 0 < u * d := Int.mul_pos_of_neg_of_neg h1 h2
    simp [h1, h2, show ¬ u * d < 0 by omega]
  · have : u * d < 0 := Int.mul_neg_of_neg_of_pos h1 (by omega)
    simp [h1, h2, this]
  · have : u * d < 0 := Int.mul_neg_of_pos_of_neg (by omega) h2
    simp [h1, h2, this]
  · have : 0 ≤ u * d := Int.mul_nonneg (by omega) (by omega)
    simp [h1, h2, show ¬ u * d < 0 by omega]

/-- by the quotient downwards -/
theorem nearI_floor (a : Int) {d : Int} (hd : 0 < d) : nearI a d = a / d + if d < 2 * (a % d) ∨ (2 * (a % d) = d ∧ a / d % 2 = 1) then 1 else 0 := by
  have hfd : far d = d := by unfold far; rw [if_neg (by omega)]
  by_cases ha : a < 0
  · have hfa : far a = -a := by unfold far; rw [if_pos ha]
    have ht : twoSides a d = true := by unfold twoSides; simp [ha, show ¬ d < 0 by omega]
    unfold nearI signed nearest
    rw [ht, hfd, hfa, if_pos rfl]
    obtain ⟨k, hk⟩ : ∃ k, k = (-a) / d := ⟨_, rfl⟩
    obtain ⟨r, hr⟩ : ∃ r, r = (-a) % d := ⟨_, rfl⟩
    have h1 : d * k + r = -a := by rw [hk, hr]; exact Int.mul_ediv_add_emod _ _
    have h2 : 0 ≤ r := by rw [hr]; exact Int.emod_nonneg _ (by omega)
    have h3 : r < d := by rw [hr]; exact Int.emod_lt_of_pos _ hd
    rw [← hk, ← hr]
    by_cases hr0 : r = 0
    · have e := (Int.ediv_emod_unique (a := a) (q := -k) (r := 0) hd).2 ⟨by rw [Int.mul_neg]; omega, by omega, hd⟩
      rw [e.1, e.2, hr0]
      rw [if_neg (by omega), if_neg (by omega)]
      omega
    · have e := (Int.ediv_emod_unique (a := a) (q := -k - 1) (r := d - r) hd).2 ⟨by rw [Int.mul_sub, Int.mul_neg]; omega, by omega, by omega⟩
      rw [e.1, e.2]
      by_cases c1 : 2 * r > d
      · rw [if_pos (Or.inl c1), if_neg (by omega)]; omega
      · by_cases c2 : 2 * r = d
        · by_cases c3 : k % 2 = 1
          · rw [if_pos (Or.inr ⟨c2, c3⟩), if_neg (by omega)]; omega
          · rw [if_neg (by omega), if_pos (Or.inr ⟨by omega, by omega⟩)]; omega
        · rw [if_neg (by omega), if_pos (Or.inl (by omega))]; omega
  · have hfa : far a = a := by unfold far; rw [if_neg ha]
    have ht : twoSides a d = false := by unfold twoSides; simp [ha, show ¬ d < 0 by omega]
    unfold nearI signed nearest
    rw [ht, hfd, hfa]
    simp only [Bool.false_eq_true, if_false, gt_iff_lt]
    split <;> omega

theorem nearI_mono {a b d : Int} (hd : 0 < d) (h : a ≤ b) : nearI a d ≤ nearI b d := by
  rw [nearI_floor a hd, nearI_floor b hd]
  have q := Int.ediv_le_ediv (c := d) hd h
  rcases Int.lt_or_eq_of_le q with q | q
  · split <;> split <;> omega
  · have r1 := Int.mul_ediv_add_emod a d
    have r2 := Int.mul_ediv_add_emod b d
    rw [q] at r1
    rw [q]
    split <;> split <;> omega

theorem moneyRatios_any {u v n d : Int} (s t : ByteArray) (hu : I64 u) (hv : I64 v) (hn : I64 n) (hd : I64 d) {w : World} (hP : Pow w) :
    Calls Tryd.prog 5 #[.agg #[.int .i64 u, .string s], .agg #[.int .i64 v, .string t], .int .i64 n, .int .i64 d] w fun e w' => e = .returned (.bool true) ∧ Only w w' := by
  have FM := first_is hP
  by_cases h1 : 200 < s.size
  · exact ratios_long1 FM (by omega)
  by_cases h2 : 200 < t.size
  · exact ratios_long2 FM (by omega) (by omega)
  refine ratios_walk FM hn hd (by omega) (by omega) (ratio_any s hu hn hd) (fun h => ?_) (ratio_any s hu hd hd) (newM_any u s) (ratio_any t hv hn hd) (fun h0 h3 => ?_) (fun h3 h4 h5 h6 h7 => ?_)
  · unfold turns at h
    have h := of_decide_eq_true h
    have R := ratio_any s hu (n := -n) (d := -d) ⟨by have := hn.2; omega, by have := hn.1; omega⟩ ⟨by have := hd.2; omega, by have := hd.1; omega⟩
    have e1 : nearI (u * -n) (-d) = nearI (u * n) d := by rw [Int.mul_neg]; exact nearI_turned _ h.2.2.1
    have e2 : ratE u s (-n) (-d) = ratE u s n d := by
      unfold ratE
      rw [e1, if_neg (show ¬ -d = 0 by have := h.2.2.1; omega), if_neg h.2.2.1]
    rw [e1, e2] at R
    exact R
  · have e1 := nearI_one u h0
    have hb := curE_bd h3
    have e2 : ratE u s d d = 0 := by unfold ratE; rw [if_pos h3, if_neg h0, e1]; unfold amE; rw [if_pos hb]
    rw [e1, e2, h3]
    exact ⟨rfl, rfl, rfl⟩
  · subst h5
    have hd0 : d ≠ 0 := by
      rintro rfl
      unfold ratE at h3
      split at h3
      · simp at h3
      · contradiction
    rw [h3, h4, okI_0, okI_0]
    rcases Int.lt_or_le v u with c | c
    · exact Or.inl c
    · exact Or.inr (nearI_mono (by omega) (Int.mul_le_mul_of_nonneg_right c h6))
end Go.Proofs.YtfjemldilnaggaaDoor
