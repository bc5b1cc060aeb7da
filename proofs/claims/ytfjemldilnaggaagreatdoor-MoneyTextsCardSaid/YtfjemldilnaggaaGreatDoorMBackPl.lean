/-
  Texts of amounts, there and back (nothing of the program).
-/
import Derived.Test.YtfjemldilnaggaaGreatDoorMParse2
import Derived.Test.YtfjemldilnaggaaGreatDoorMStr
namespace Go.Proofs.YtfjemldilnaggaaGreatDoor
open Go.RowKit Go.Shelf
set_option linter.unusedVariables false

theorem cutL_hit (c : UInt8) (l r : List UInt8) (h : c ∉ l) : cutL c (l ++ c :: r) = (l, r, true) := by
  induction l with
  | nil => simp [cutL]
  | cons b l ih =>
    have h1 : (b == c) = false := by simp; intro e; exact h (by simp [e])
    have h2 : c ∉ l := fun k => h (by simp [k])
    simp only [List.cons_append, cutL, h1, Bool.false_eq_true, if_false, ih h2]
theorem cutL_miss (c : UInt8) (l : List UInt8) (h : c ∉ l) : cutL c l = (l, [], false) := by
  induction l with
  | nil => rfl
  | cons b l ih =>
    have h1 : (b == c) = false := by simp; intro e; exact h (by simp [e])
    have h2 : c ∉ l := fun k => h (by simp [k])
    simp only [cutL, h1, Bool.false_eq_true, if_false, ih h2]
theorem cutL_glue (c : UInt8) (l : List UInt8) (h : (cutL c l).2.2 = true) : l = (cutL c l).1 ++ c :: (cutL c l).2.1 ∧ c ∉ (cutL c l).1 := by
  induction l with
  | nil => simp [cutL] at h
  | cons b l ih =>
    by_cases h1 : (b == c) = true
    · obtain rfl : b = c := by simpa using h1
      simp [cutL]
    · have h1 : (b == c) = false := by simpa using h1
      simp only [cutL, h1, Bool.false_eq_true, if_false] at h ⊢
      obtain ⟨a, b'⟩ := ih h
      refine ⟨by rw [List.cons_append, ← a], ?_⟩
      simp only [List.mem_cons, not_or]
      exact ⟨fun e => by subst e; simp at h1, b'⟩
theorem cutL_false (c : UInt8) (l : List UInt8) (h : (cutL c l).2.2 = false) : (cutL c l).1 = l ∧ (cutL c l).2.1 = [] ∧ c ∉ l := by
  induction l with
  | nil => simp [cutL]
  | cons b l ih =>
    by_cases h1 : (b == c) = true
    · simp [cutL, h1] at h
    · have h1 : (b == c) = false := by simpa using h1
      simp only [cutL, h1, Bool.false_eq_true, if_false] at h ⊢
      obtain ⟨a, b', c'⟩ := ih h
      refine ⟨by rw [a], b', ?_⟩
      simp only [List.mem_cons, not_or]
      exact ⟨fun e => by subst e; simp at h1, c'⟩

theorem digs_not {l : List UInt8} (h : digsB l = true) {c : UInt8} (hc : ¬ (48 ≤ c.toNat ∧ c.toNat ≤ 57)) : c ∉ l := fun k => hc (digsB_at h k)
theorem digsB_take {l : List UInt8} (h : digsB l = true) (k : Nat) : digsB (l.take k) = true := by
  unfold digsB at *; rw [List.all_eq_true] at *; exact fun c hc => h c (List.mem_of_mem_take hc)
theorem digsB_drop {l : List UInt8} (h : digsB l = true) (k : Nat) : digsB (l.drop k) = true := by
  unfold digsB at *; rw [List.all_eq_true] at *; exact fun c hc => h c (List.mem_of_mem_drop hc)
theorem digs_text (m : Nat) : digsB (natText m) = true := digsB_low _ _
theorem digs_strD (u : Int) (k : Nat) : digsB (strD u k) = true := digsB_append (digsB_noughts _) (digs_text _)
theorem numOf_noughts (k : Nat) : numOf (List.replicate k 48) = 0 := by
  induction k with
  | zero => rfl
  | succ k ih => rw [List.replicate_succ, numOf_cons, ih, show (UInt8.toNat 48 - 48) = 0 from rfl, Nat.zero_mul]
theorem num_strD (u : Int) (k : Nat) : numOf (strD u k) = u.natAbs := by
  unfold strD; rw [numOf_append, numOf_noughts, Nat.zero_mul, Nat.zero_add, numOf_text]

/-- the whole part of an amount's text -/
def strW (u : Int) (k : Nat) : List UInt8 := (strD u k).take ((strD u k).length - k)
def strF (u : Int) (k : Nat) : List UInt8 := (strD u k).drop ((strD u k).length - k)
theorem strW_len (u : Int) (k : Nat) : (strW u k).length = (strD u k).length - k := by unfold strW; rw [List.length_take]; omega
theorem strF_len (u : Int) (k : Nat) : (strF u k).length = k := by have := strD_len u k; unfold strF; rw [List.length_drop]; omega
theorem strWF (u : Int) (k : Nat) : strW u k ++ strF u k = strD u k := List.take_append_drop _ _

theorem text_body (m : Nat) : (natText m).length ≤ 1 ∨ (natText m).headD 0 ≠ 48 := by
  have h := bodyB_text m
  unfold bodyB at h
  simp only [Bool.and_eq_true, Bool.or_eq_true, decide_eq_true_eq, Bool.not_eq_true', beq_eq_false_iff_ne] at h
  exact h.2

theorem strW_body (u : Int) (k : Nat) : bodyB (strW u k) = true := by
  have hD := strD_len u k
  have hl := strW_len u k
  have hd : digsB (strW u k) = true := digsB_take (digs_strD u k) _
  have hne : strW u k ≠ [] := by intro e; rw [e] at hl; simp at hl; omega
  unfold bodyB
  rw [hd]
  have e1 : (strW u k).isEmpty = false := by cases h : strW u k with | nil => exact absurd h hne | cons _ _ => rfl
  rw [e1]
  simp only [Bool.not_false, Bool.and_self, Bool.true_and, Bool.or_eq_true, decide_eq_true_eq, Bool.not_eq_true', beq_eq_false_iff_ne]
  by_cases hT : k < (natText u.natAbs).length
  · have e2 : strD u k = natText u.natAbs := by unfold strD; rw [show k + 1 - (natText u.natAbs).length = 0 by omega]; rfl
    rcases text_body u.natAbs with h | h
    · left; rw [hl, e2]; omega
    · right
      unfold strW
      rw [e2]
      cases hn : natText u.natAbs with
      | nil => rw [hn] at hT; simp at hT
      | cons x r =>
        rw [hn] at h hT
        have : (x :: r).length - k = ((x :: r).length - k - 1) + 1 := by omega
        rw [this, List.take_succ_cons]
        exact h
  · left
    rw [hl]; unfold strD; rw [List.length_append, List.length_replicate]; omega

/-- the decimal of an amount -/
def strA (u : Int) (k : Nat) : List UInt8 := (if u < 0 then [45] else []) ++ (strW u k ++ if 0 < k then 46 :: strF u k else [])

theorem strA_rest (u : Int) (k : Nat) : Lib.trimPrefix (strA u k) [45] = (strW u k ++ if 0 < k then 46 :: strF u k else []) ∧ dBelow (strA u k) = decide (u < 0) := by
  unfold Lib.trimPrefix dBelow Lib.hasPrefix strA
  by_cases h : u < 0
  · rw [if_pos h]; simp [h]
  · rw [if_neg h, List.nil_append]
    have hb := strW_body u k
    cases hw : strW u k with
    | nil => rw [hw] at hb; simp [bodyB] at hb
    | cons x r =>
      have hx : x ≠ 45 := by
        intro e
        have := digsB_at (digsB_take (digs_strD u k) ((strD u k).length - k)) (c := x) (by show x ∈ strW u k; rw [hw]; simp)
        rw [e] at this
        simp at this
      have e : ([45] : List UInt8).isPrefixOf ((x :: r) ++ if 0 < k then 46 :: strF u k else []) = false := by
        simp [List.isPrefixOf, Ne.symm hx]
      rw [e]; simp [h]

theorem strA_parts (u : Int) (k : Nat) : dCut (strA u k) = (strW u k, if 0 < k then strF u k else [], decide (0 < k)) := by
  unfold dCut
  rw [(strA_rest u k).1]
  have hd : digsB (strW u k) = true := digsB_take (digs_strD u k) _
  have hn : (46 : UInt8) ∉ strW u k := digs_not hd (by decide)
  by_cases h : 0 < k
  · rw [if_pos h, cutL_hit 46 _ _ hn]; simp [h]
  · rw [if_neg h, List.append_nil, cutL_miss 46 _ hn]; simp [h]

theorem strA_ok (u : Int) (k : Nat) : dOk (strA u k) = true := by
  unfold dOk dWhole dFrac
  rw [strA_parts]
  simp only [strW_body, Bool.true_and]
  by_cases h : 0 < k
  · have h1 : digsB (strF u k) = true := digsB_drop (digs_strD u k) _
    have h2 : (strF u k).isEmpty = false := by
      have := strF_len u k
      cases hf : strF u k with
      | nil => rw [hf] at this; simp at this; omega
      | cons _ _ => rfl
    simp [h, h1, h2]
  · simp [h]

theorem known_no32 {s : ByteArray} (h : (curOf s).isSome = true) : (32 : UInt8) ∉ s.data.toList := by
  unfold curOf at h
  split at h
  · rename_i e; rw [e]; decide
  split at h
  · rename_i e; rw [e]; decide
  split at h
  · rename_i e; rw [e]; decide
  split at h
  · rename_i e; rw [e]; decide
  split at h
  · rename_i e; rw [e]; decide
  split at h
  · rename_i e; rw [e]; decide
  · cases h

theorem strA_no32 (u : Int) (k : Nat) : (32 : UInt8) ∉ strA u k := by
  have h1 : (32 : UInt8) ∉ strW u k := digs_not (digsB_take (digs_strD u k) _) (by decide)
  have h2 : (32 : UInt8) ∉ strF u k := digs_not (digsB_drop (digs_strD u k) _) (by decide)
  unfold strA
  simp only [List.mem_append, not_or]
  refine ⟨?_, h1, ?_⟩
  · split <;> decide
  · split
    · simp only [List.mem_cons, not_or]; exact ⟨by decide, h2⟩
    · simp

theorem strL_is {u : Int} {s : ByteArray} (h : curE u s = 0) : strL u s = strA u (fK s).toNat ++ 32 :: s.data.toList := by
  unfold strL
  rw [if_pos h]
  unfold strA strW strF
  split <;> split <;> simp

theorem back_one {u : Int} {s : ByteArray} (h : curE u s = 0) : parseE (strL u s) = 0 ∧ parseN (strL u s) = u ∧ pC (strL u s) = s := by
  have hk := curE_known h
  have hb := curE_bd h
  have hs := strL_is h
  have hc : cutL 32 (strL u s) = (strA u (fK s).toNat, s.data.toList, true) := by rw [hs]; exact cutL_hit 32 _ _ (strA_no32 _ _)
  have eC : pC (strL u s) = s := by unfold pC; rw [hc]
  have eA : pA (strL u s) = strA u (fK s).toNat := by unfold pA; rw [hc]
  have e1 : (strL u s).count 32 = 1 := by
    rw [hs, List.count_append, List.count_cons_self, List.count_eq_zero_of_not_mem (strA_no32 _ _), List.count_eq_zero_of_not_mem (known_no32 hk)]
  have hr := fK_range s
  obtain ⟨k, hk2⟩ : ∃ k, k = (fK s).toNat := ⟨_, rfl⟩
  rw [← hk2] at eA
  have eF : dFrac (strA u k) = if 0 < k then strF u k else [] := by unfold dFrac; rw [strA_parts]
  have eW : dWhole (strA u k) = strW u k := by unfold dWhole; rw [strA_parts]
  have lF : (dFrac (strA u k)).length = k := by
    rw [eF]; split
    · exact strF_len u k
    · simp; omega
  have eAll : pAll (strL u s) (fK (pC (strL u s))) = strD u k := by
    unfold pAll
    rw [eC, eA, lF, ← hk2, Nat.sub_self, List.replicate_zero, List.append_nil, eW, eF, ← strWF]
    split
    · rfl
    · have : k = 0 := by omega
      have := strF_len u k
      rw [List.eq_nil_of_length_eq_zero (by omega : (strF u k).length = 0)]
  have eN : numOf (strD u k) = u.natAbs := num_strD u k
  have eB : dBelow (strA u k) = decide (u < 0) := (strA_rest u k).2
  obtain ⟨b1, b2⟩ := hb
  refine ⟨?_, ?_, eC⟩
  · unfold parseE
    rw [eAll, eC, eA, eN, eB, e1, strA_ok, hk, lF]
    rw [if_neg (by simp), if_neg (by simp), if_neg (by omega), if_neg (by omega), if_neg (by intro h; have := of_decide_eq_true h.1; omega)]
  · unfold parseN
    rw [eAll, eA, eN, eB]
    simp only [decide_eq_true_eq]
    split <;> omega

theorem parse_ok {l : List UInt8} (h : parseE l = 0) : l.count 32 = 1 ∧ dOk (pA l) = true ∧ (curOf (pC l)).isSome = true ∧ ((dFrac (pA l)).length : Int) ≤ fK (pC l) ∧ numOf (pAll l (fK (pC l))) ≤ 4611686018427387904 ∧ (dBelow (pA l) = true → numOf (pAll l (fK (pC l))) ≠ 0) := by
  unfold parseE at h
  split at h
  · omega
  rename_i h1
  split at h
  · omega
  rename_i h2
  split at h
  · omega
  rename_i h3
  split at h
  · omega
  rename_i h4
  split at h
  · omega
  rename_i h5
  refine ⟨Decidable.byContradiction fun k => h1 (Or.inl k), ?_, ?_, by omega, by omega, fun k e => h5 ⟨k, e⟩⟩
  · cases k : dOk (pA l) with
    | true => rfl
    | false => exact absurd (Or.inr k) h1
  · cases k : (curOf (pC l)).isSome with
    | true => rfl
    | false => exact absurd k h2

theorem parse_curE {l : List UInt8} (h : parseE l = 0) : curE (parseN l) (pC l) = 0 := by
  obtain ⟨-, -, h3, -, h5, -⟩ := parse_ok h
  unfold curE
  rw [if_pos h3, if_pos]
  unfold parseN Bd
  split <;> omega

theorem numOf_geM {x : UInt8} {r : List UInt8} (hd : digsB (x :: r) = true) (hx : x ≠ 48) : 10 ^ r.length ≤ numOf (x :: r) := by
  have h1 := digsB_at hd (c := x) (by simp)
  have h2 : x.toNat ≠ 48 := fun e => hx (by rw [← UInt8.toNat_inj, e]; rfl)
  rw [numOf_cons]
  calc 10 ^ r.length = 1 * 10 ^ r.length := (Nat.one_mul _).symm
    _ ≤ (x.toNat - 48) * 10 ^ r.length := Nat.mul_le_mul_right _ (by omega)
    _ ≤ _ := Nat.le_add_right _ _

theorem dlen_ge {m j : Nat} (h : 10 ^ j ≤ m) : j + 1 ≤ dlen m := by
  rcases Nat.lt_or_ge j (dlen m) with c | c
  · exact c
  · exfalso
    have h1 := dlen_lt m
    have h2 : 10 ^ dlen m ≤ 10 ^ j := Nat.pow_le_pow_right (by decide) c
    omega

theorem body_parts {w : List UInt8} (h : bodyB w = true) : digsB w = true ∧ 0 < w.length ∧ (w.length ≤ 1 ∨ w.headD 0 ≠ 48) := by
  unfold bodyB at h
  simp only [Bool.and_eq_true, Bool.or_eq_true, decide_eq_true_eq, Bool.not_eq_true', beq_eq_false_iff_ne] at h
  refine ⟨h.1.1, ?_, h.2⟩
  cases w with
  | nil => simp at h
  | cons _ _ => simp

theorem back_long {l : List UInt8} (h : parseE l = 0) : l.length ≤ (strL (parseN l) (pC l)).length := by
  obtain ⟨h1, h2, h3, h4, h5, h6⟩ := parse_ok h
  have hc := parse_curE h
  rw [strL_is hc]
  have hr := fK_range (pC l)
  obtain ⟨k, hk⟩ : ∃ k, k = (fK (pC l)).toNat := ⟨_, rfl⟩
  obtain ⟨n, hn⟩ : ∃ n, n = numOf (pAll l (fK (pC l))) := ⟨_, rfl⟩
  rw [← hk]
  rw [← hn] at h5 h6
  have hN : (parseN l).natAbs = n ∧ (dBelow (pA l) = true → parseN l < 0) := by
    unfold parseN
    rw [← hn]
    constructor
    · split <;> omega
    · intro e; have := h6 e; rw [if_pos e]; omega
  -- the text's own parts
  have hf : (cutL 32 l).2.2 = true := by
    cases e : (cutL 32 l).2.2 with
    | true => rfl
    | false =>
      have := (cutL_false 32 l e).2.2
      rw [List.count_eq_zero_of_not_mem this] at h1
      omega
  have g := (cutL_glue 32 l hf).1
  have lc : (pC l).data.toList = (cutL 32 l).2.1 := rfl
  have ll : l.length = (pA l).length + 1 + (pC l).data.toList.length := by
    rw [lc]
    have := congrArg List.length g
    rw [List.length_append, List.length_cons] at this
    unfold pA; omega
  have hb : bodyB (dWhole (pA l)) = true := by unfold dOk at h2; rw [Bool.and_eq_true] at h2; exact h2.1
  obtain ⟨b1, b2, b3⟩ := body_parts hb
  have hdig := dOk_digs h2
  have lA : (pA l).length = (if dBelow (pA l) = true then 1 else 0) + (dWhole (pA l)).length + (if (dCut (pA l)).2.2 = true then 1 + (dFrac (pA l)).length else 0) := by
    have e1 : (pA l).length = (if dBelow (pA l) = true then 1 else 0) + (Lib.trimPrefix (pA l) [45]).length := by
      unfold dBelow Lib.trimPrefix Lib.hasPrefix
      by_cases e : ([45] : List UInt8).isPrefixOf (pA l) = true
      · rw [if_pos e, if_pos e, List.length_drop]
        have := List.isPrefixOf_iff_prefix.1 e
        have := this.length_le
        simp at this ⊢; omega
      · rw [if_neg e, if_neg e]; omega
    rw [e1]
    have e2 : (Lib.trimPrefix (pA l) [45]).length = (dWhole (pA l)).length + (if (dCut (pA l)).2.2 = true then 1 + (dFrac (pA l)).length else 0) := by
      by_cases e : (dCut (pA l)).2.2 = true
      · have q := (cutL_glue 46 _ (show (cutL 46 (Lib.trimPrefix (pA l) [45])).2.2 = true from e)).1
        have := congrArg List.length q
        rw [List.length_append, List.length_cons] at this
        rw [if_pos e]
        unfold dWhole dFrac dCut; omega
      · have e' : (cutL 46 (Lib.trimPrefix (pA l) [45])).2.2 = false := by simpa [dCut] using e
        have q := cutL_false 46 _ e'
        rw [if_neg e]
        unfold dWhole dCut
        rw [q.1]; rfl
    omega
  have hpt : (dCut (pA l)).2.2 = true → 0 < (dFrac (pA l)).length := by
    intro e
    unfold dOk at h2
    rw [e] at h2
    simp only [Bool.not_true, Bool.false_or, Bool.and_eq_true, Bool.not_eq_true'] at h2
    cases q : dFrac (pA l) with
    | nil => rw [q] at h2; simp at h2
    | cons _ _ => simp
  -- how many digits the amount has
  have lAll : (pAll l (fK (pC l))).length = (dWhole (pA l)).length + k := by
    unfold pAll; simp only [List.length_append, List.length_replicate]; omega
  have hda : digsB (pAll l (fK (pC l))) = true := digsB_append (digsB_append hdig.1 hdig.2) (digsB_noughts _)
  have hlong : (dWhole (pA l)).length + k ≤ (strD (parseN l) k).length := by
    have hD := strD_len (parseN l) k
    rcases b3 with c | c
    · omega
    · obtain ⟨x, r, hx⟩ : ∃ x r, pAll l (fK (pC l)) = x :: r ∧ x ≠ 48 := by
        cases q : dWhole (pA l) with
        | nil => rw [q] at b2; simp at b2
        | cons x r =>
          rw [q] at c
          exact ⟨x, r ++ dFrac (pA l) ++ List.replicate ((fK (pC l)).toNat - (dFrac (pA l)).length) 48, by unfold pAll; rw [q]; simp, c⟩
      have g1 : 10 ^ r.length ≤ n := by rw [hn, hx.1]; exact numOf_geM (by rw [← hx.1]; exact hda) hx.2
      have g2 := dlen_ge g1
      have g3 : (pAll l (fK (pC l))).length = r.length + 1 := by rw [hx.1]; rfl
      have g4 : (strD (parseN l) k).length ≥ dlen n := by
        unfold strD; rw [List.length_append, natText_length, hN.1]; omega
      omega
  have lS : (strA (parseN l) k).length = (if parseN l < 0 then 1 else 0) + (strW (parseN l) k).length + (if 0 < k then 1 + (strF (parseN l) k).length else 0) := by
    unfold strA
    rw [List.length_append, List.length_append]
    split <;> split <;> simp <;> omega
  rw [List.length_append, List.length_cons, lS, ll, lA, strW_len, strF_len]
  have i1 : (if dBelow (pA l) = true then 1 else 0) ≤ (if parseN l < 0 then 1 else 0) := by
    split
    · rename_i e; rw [if_pos (hN.2 e)]; omega
    · omega
  have i2 : (if (dCut (pA l)).2.2 = true then 1 + (dFrac (pA l)).length else 0) ≤ (if 0 < k then 1 + k else 0) := by
    split
    · rename_i e
      have := hpt e
      rw [if_pos (by omega)]; omega
    · omega
  omega
end Go.Proofs.YtfjemldilnaggaaGreatDoor
