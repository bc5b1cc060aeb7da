/-
  Numbers and their decimal letters (nothing of the program).
-/
import Derived.Test.YtagilpgplcphpaaBPlain5
namespace Go.Proofs.Ytagilpgplcphpaa

/-- a digit's letter -/
def dig1 (m : Nat) : UInt8 := UInt8.ofNat (48 + m % 10)
/-- the last k digits -/
def lowDigits (m : Nat) : Nat → List UInt8
  | 0 => []
  | k + 1 => dig1 (m / 10 ^ k) :: lowDigits m k

theorem lowDigits_length (m k : Nat) : (lowDigits m k).length = k := by
  induction k with
  | zero => rfl
  | succ k ih => simp [lowDigits, ih]

/-- how many digits a number has -/
def dlen (m : Nat) : Nat := if h : m < 10 then 1 else dlen (m / 10) + 1
termination_by m
decreasing_by omega

theorem dlen_pos (m : Nat) : 1 ≤ dlen m := by
  rw [dlen]; split <;> omega
theorem dlen_lt (m : Nat) : m < 10 ^ dlen m := by
  induction m using Nat.strongRecOn with
  | _ m ih =>
    rw [dlen]
    split
    · simpa using ‹m < 10›
    · have := ih (m / 10) (by omega)
      rw [Nat.pow_succ]; omega
theorem dlen_le (m : Nat) (h : 2 ≤ dlen m) : 10 ^ (dlen m - 1) ≤ m := by
  induction m using Nat.strongRecOn with
  | _ m ih =>
    rw [dlen] at h ⊢
    split at h
    · omega
    · rename_i hm
      rw [dif_neg hm, Nat.add_sub_cancel]
      by_cases c : 2 ≤ dlen (m / 10)
      · have := ih (m / 10) (by omega) c
        obtain ⟨j, hj⟩ : ∃ j, dlen (m / 10) = j + 1 := ⟨dlen (m / 10) - 1, by omega⟩
        rw [hj] at this ⊢
        rw [Nat.add_sub_cancel] at this
        rw [Nat.pow_succ]; omega
      · have := dlen_pos (m / 10)
        rw [show dlen (m / 10) = 1 by omega]; omega
theorem dlen_is {m k : Nat} (h1 : 1 ≤ k) (h2 : m / 10 ^ k = 0) (h3 : 2 ≤ k → m / 10 ^ (k - 1) ≠ 0) : k = dlen m := by
  have a1 : m < 10 ^ k := by
    rcases Nat.lt_or_ge m (10 ^ k) with c | c
    · exact c
    · exact absurd h2 (Nat.ne_of_gt (Nat.div_pos c (Nat.pow_pos (by decide))))
  have b1 := dlen_pos m
  have b2 := dlen_lt m
  rcases Nat.lt_trichotomy k (dlen m) with c | c | c
  · exfalso
    have b3 := dlen_le m (by omega)
    have : 10 ^ k ≤ 10 ^ (dlen m - 1) := Nat.pow_le_pow_right (by decide) (by omega)
    omega
  · exact c
  · exfalso
    refine h3 (by omega) (Nat.div_eq_of_lt ?_)
    exact Nat.lt_of_lt_of_le b2 (Nat.pow_le_pow_right (by decide) (by omega))
theorem dlen_zero {m : Nat} : m / 10 ^ dlen m = 0 := Nat.div_eq_of_lt (dlen_lt m)

/-- a number's letters -/
def natText (m : Nat) : List UInt8 := lowDigits m (dlen m)
def intText (n : Int) : List UInt8 := (if n < 0 then [45] else []) ++ natText n.natAbs

/-- what letters say -/
def numOf (l : List UInt8) : Nat := l.foldl (fun a c => 10 * a + (c.toNat - 48)) 0
def digsB (l : List UInt8) : Bool := l.all fun c => decide (48 ≤ c.toNat) && decide (c.toNat ≤ 57)
/-- digits without 0 ahead -/
def bodyB (d : List UInt8) : Bool := digsB d && !d.isEmpty && (decide (d.length ≤ 1) || !(d.headD 0 == 48))
/-- a number's one form -/
def formB (s : List UInt8) : Bool := if 1 < s.length ∧ s.headD 0 = 45 then bodyB s.tail && !(s.tail == [48]) else bodyB s
def valOf (s : List UInt8) : Int := if s.headD 0 = 45 then -(numOf s.tail : Int) else numOf s

theorem dig1_nat (m : Nat) : (dig1 m).toNat = 48 + m % 10 := by
  unfold dig1
  have : m % 10 < 10 := Nat.mod_lt _ (by decide)
  simp [UInt8.toNat_ofNat]; omega

theorem numOf_snoc (l : List UInt8) (c : UInt8) : numOf (l ++ [c]) = 10 * numOf l + (c.toNat - 48) := by simp [numOf]
theorem fold_from (l : List UInt8) (a : Nat) : l.foldl (fun a c => 10 * a + (c.toNat - 48)) a = a * 10 ^ l.length + numOf l := by
  induction l generalizing a with
  | nil => simp [numOf]
  | cons c l ih =>
    have e : numOf (c :: l) = l.foldl (fun a c => 10 * a + (c.toNat - 48)) (10 * 0 + (c.toNat - 48)) := rfl
    rw [List.foldl_cons, ih, e, ih, List.length_cons, Nat.pow_succ, Nat.add_mul, Nat.mul_zero, Nat.zero_add]
    rw [Nat.mul_comm (10 ^ l.length) 10, ← Nat.mul_assoc, Nat.mul_comm a 10]; omega
theorem numOf_cons (c : UInt8) (l : List UInt8) : numOf (c :: l) = (c.toNat - 48) * 10 ^ l.length + numOf l := by
  have := fold_from l (10 * 0 + (c.toNat - 48))
  have e : numOf (c :: l) = l.foldl (fun a c => 10 * a + (c.toNat - 48)) (10 * 0 + (c.toNat - 48)) := rfl
  rw [e, this, Nat.mul_zero, Nat.zero_add]
theorem numOf_append (l r : List UInt8) : numOf (l ++ r) = numOf l * 10 ^ r.length + numOf r := by
  have : numOf (l ++ r) = r.foldl (fun a c => 10 * a + (c.toNat - 48)) (numOf l) := by simp [numOf]
  rw [this, fold_from]

theorem digsB_at {l : List UInt8} (h : digsB l = true) {c : UInt8} (hc : c ∈ l) : 48 ≤ c.toNat ∧ c.toNat ≤ 57 := by
  have := List.all_eq_true.1 h c hc
  simpa using this
theorem numOf_lt {l : List UInt8} (h : digsB l = true) : numOf l < 10 ^ l.length := by
  induction l with
  | nil => simp [numOf]
  | cons c l ih =>
    have h1 := digsB_at h (c := c) (by simp)
    have h2 := ih (by simp only [digsB, List.all_cons, Bool.and_eq_true] at h; exact h.2)
    rw [numOf_cons, List.length_cons, Nat.pow_succ]
    have : (c.toNat - 48) * 10 ^ l.length ≤ 9 * 10 ^ l.length := Nat.mul_le_mul_right _ (by omega)
    omega

theorem numOf_low (m k : Nat) : numOf (lowDigits m k) = m % 10 ^ k := by
  induction k with
  | zero => simp [lowDigits, numOf, Nat.mod_one]
  | succ k ih =>
    rw [lowDigits, numOf_cons, lowDigits_length, ih, dig1_nat, Nat.add_sub_cancel_left, Nat.pow_succ, Nat.mod_mul, Nat.mul_comm]
    omega
theorem digsB_low (m k : Nat) : digsB (lowDigits m k) = true := by
  induction k with
  | zero => rfl
  | succ k ih =>
    have := dig1_nat (m / 10 ^ k)
    have h2 : m / 10 ^ k % 10 < 10 := Nat.mod_lt _ (by decide)
    have ih' := ih
    unfold digsB at ih' ⊢
    rw [lowDigits, List.all_cons, ih', this]
    simp; omega

theorem numOf_text (m : Nat) : numOf (natText m) = m := by
  unfold natText; rw [numOf_low, Nat.mod_eq_of_lt (dlen_lt m)]
theorem natText_length (m : Nat) : (natText m).length = dlen m := lowDigits_length _ _
theorem natText_head (m : Nat) : ∃ r, natText m = dig1 (m / 10 ^ (dlen m - 1)) :: r := by
  have := dlen_pos m
  obtain ⟨k, hk⟩ : ∃ k, dlen m = k + 1 := ⟨dlen m - 1, by omega⟩
  unfold natText
  rw [hk, Nat.add_sub_cancel]
  exact ⟨_, rfl⟩
theorem bodyB_text (m : Nat) : bodyB (natText m) = true := by
  have h0 := dlen_pos m
  obtain ⟨r, hr⟩ := natText_head m
  have hl := natText_length m
  unfold bodyB
  rw [show digsB (natText m) = true from digsB_low _ _]
  rw [hr] at hl ⊢
  simp only [List.isEmpty_cons, Bool.not_false, Bool.and_self, Bool.true_and, List.headD_cons, Bool.or_eq_true, decide_eq_true_eq, Bool.not_eq_true', beq_eq_false_iff_ne, ne_eq]
  by_cases c : 2 ≤ dlen m
  · right
    intro e
    have e2 := dig1_nat (m / 10 ^ (dlen m - 1))
    rw [e] at e2
    have h1 := dlen_le m c
    have h2 := dlen_lt m
    obtain ⟨k, hk⟩ : ∃ k, dlen m = k + 1 := ⟨dlen m - 1, by omega⟩
    rw [hk, Nat.pow_succ] at h2
    rw [hk, Nat.add_sub_cancel] at h1 e2
    have p := Nat.div_pos h1 (Nat.pow_pos (by decide : 0 < 10))
    have q : m / 10 ^ k < 10 := Nat.div_lt_of_lt_mul h2
    simp at e2
    omega
  · left; omega
theorem text_zero {m : Nat} (h : natText m = [48]) : m = 0 := by
  have := numOf_text m
  rw [h] at this
  simpa [numOf] using this.symm
theorem natText_first (m : Nat) : (natText m).headD 0 ≠ 45 := by
  obtain ⟨r, hr⟩ := natText_head m
  rw [hr]
  intro e
  have e2 := dig1_nat (m / 10 ^ (dlen m - 1))
  simp only [List.headD_cons] at e
  rw [e] at e2
  simp at e2; omega
theorem natText_ne (m : Nat) : natText m ≠ [] := by
  obtain ⟨r, hr⟩ := natText_head m
  rw [hr]; simp

theorem formB_text (n : Int) : formB (intText n) = true := by
  unfold formB intText
  by_cases c : n < 0
  · have hne := natText_ne n.natAbs
    have hl : 0 < (natText n.natAbs).length := List.length_pos_iff.2 hne
    rw [if_pos c, if_pos ⟨by simp; omega, by simp⟩]
    simp only [List.singleton_append, List.tail_cons, bodyB_text, Bool.true_and]
    have : natText n.natAbs ≠ [48] := fun e => by have := text_zero e; omega
    simpa using this
  · rw [if_neg c, List.nil_append, if_neg (fun h => natText_first _ h.2)]
    exact bodyB_text _
theorem valOf_text (n : Int) : valOf (intText n) = n := by
  unfold valOf intText
  by_cases c : n < 0
  · rw [if_pos c, if_pos (by simp)]
    simp only [List.singleton_append, List.tail_cons, numOf_text]; omega
  · rw [if_neg c, List.nil_append, if_neg (natText_first _), numOf_text]; omega

theorem intText_length (n : Int) : (intText n).length ≤ dlen n.natAbs + 1 := by
  unfold intText; rw [List.length_append, natText_length]; split <;> simp <;> omega
theorem dlen_lim {m K : Nat} (h : m < 10 ^ K) (hK : 1 ≤ K) : dlen m ≤ K := by
  rcases Nat.lt_or_ge K (dlen m) with c | c
  · exfalso
    have := dlen_le m (by omega)
    have : 10 ^ K ≤ 10 ^ (dlen m - 1) := Nat.pow_le_pow_right (by decide) (by omega)
    omega
  · exact c

/-! ### bytes of a text, one behind the other -/
theorem digs_next {D : ByteArray} {k : Nat} (hk : k < D.size) : (digsB (D.data.toList.take k) = true → 48 ≤ (D[k]).toNat ∧ (D[k]).toNat ≤ 57 → digsB (D.data.toList.take (k + 1)) = true) ∧ (¬ (48 ≤ (D[k]).toNat ∧ (D[k]).toNat ≤ 57) → digsB D.data.toList = false) := by
  have hk' : k < D.data.toList.length := by simpa using hk
  have e : D[k] = D.data.toList[k] := rfl
  refine ⟨fun h1 h2 => ?_, fun h => ?_⟩
  · rw [List.take_succ_eq_append_getElem hk', ← e]
    unfold digsB at *
    rw [List.all_append, h1]
    simpa using h2
  · rw [Bool.eq_false_iff]
    intro h2
    exact h (by rw [e]; exact digsB_at h2 (List.getElem_mem hk'))

theorem blen (D : ByteArray) : D.data.toList.length = D.size := by simp
end Go.Proofs.Ytagilpgplcphpaa
