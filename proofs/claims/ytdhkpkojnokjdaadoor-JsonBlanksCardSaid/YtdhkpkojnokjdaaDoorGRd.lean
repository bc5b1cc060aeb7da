/-
  PARTS: JPiece, JSortN, JReadF, JReadQ, JRead, JCanon.
-/
import Derived.Test.YtdhkpkojnokjdaaDoorJWell
import Derived.Test.YtdhkpkojnokjdaaDoorJQuoteP
import Derived.Lib.MapLaws
import Derived.Test.YtdhkpkojnokjdaaDoorJSame
/-
  What is read of a text's strings and numbers: whole runes, whole literals.
-/
namespace Go.Proofs.YtdhkpkojnokjdaaDoor
open Go.RowKit Go.Shelf
set_option linter.unusedVariables false
set_option linter.unusedSimpArgs false

/-- bytes that a decoder reads as whole runes, whatever stands behind -/
def Piece (p : List UInt8) : Prop := ∀ t, Lib.validD (p ++ t) = Lib.validD t
theorem Piece.nil : Piece [] := fun _ => rfl
theorem Piece.append {p q : List UInt8} (h : Piece p) (k : Piece q) : Piece (p ++ q) := fun t => by rw [List.append_assoc, h, k]
theorem Piece.valid {p : List UInt8} (h : Piece p) : Lib.validD p = true := by
  have := h []
  rw [List.append_nil, Lib.validD_nil] at this
  exact this
theorem Piece.ascii {c : UInt8} (h : c.toNat < 128) : Piece [c] := fun t => Lib.validD_cons c t h
theorem u8_of {z : Int} (h0 : 0 ≤ z) (h1 : z < 256) : (z.toNat.toUInt8).toNat = z.toNat := by
  show (UInt8.ofNat z.toNat).toNat = _
  rw [UInt8.toNat_ofNat']
  exact Nat.mod_eq_of_lt (by omega)

theorem decode_encode (r : Int) (t : List UInt8) : ¬ ((Lib.decodeL (Lib.encodeRune r ++ t)).1 = 65533 ∧ (Lib.decodeL (Lib.encodeRune r ++ t)).2 = 1) ∧ (Lib.decodeL (Lib.encodeRune r ++ t)).2 = (Lib.encodeRune r).length := by
  rw [Lib.decodeL_N]
  unfold Lib.encodeRune
  by_cases h1 : 0 ≤ r ∧ r ≤ 127
  · rw [Lib.encodeRuneZ_one h1.1 h1.2]
    simp only [List.map_cons, List.map_nil, List.cons_append, List.nil_append, getD0, getD1, List.length_cons, List.length_nil]
    have b0 := u8_of (z := r) h1.1 (by omega)
    rw [b0]
    unfold Lib.decodeN
    rw [if_pos (by omega)]
    exact ⟨fun h => by simp only at h; omega, rfl⟩
  by_cases h2 : 128 ≤ r ∧ r ≤ 2047
  · rw [Lib.encodeRuneZ_two h2.1 h2.2]
    simp only [List.map_cons, List.map_nil, List.cons_append, List.nil_append, getD0, getD1, List.length_cons, List.length_nil]
    rw [u8_of (z := 192 + r / 64) (by omega) (by omega), u8_of (z := 128 + r % 64) (by omega) (by omega)]
    unfold Lib.decodeN
    rw [if_neg (by omega), if_pos (by omega), if_pos (by omega)]
    exact ⟨fun h => by simp only at h; omega, rfl⟩
  by_cases h3 : (2048 ≤ r ∧ r < 55296) ∨ (57343 < r ∧ r ≤ 65535)
  · rw [Lib.encodeRuneZ_three h3]
    simp only [List.map_cons, List.map_nil, List.cons_append, List.nil_append, getD0, getD1, List.length_cons, List.length_nil]
    rw [u8_of (z := 224 + r / 4096) (by omega) (by omega), u8_of (z := 128 + r / 64 % 64) (by omega) (by omega), u8_of (z := 128 + r % 64) (by omega) (by omega)]
    unfold Lib.decodeN
    rw [if_neg (by omega), if_neg (by omega), if_pos (by omega), if_pos (by omega)]
    exact ⟨fun h => by simp only at h; omega, rfl⟩
  by_cases h4 : 65536 ≤ r ∧ r ≤ 1114111
  · rw [Lib.encodeRuneZ_four h4.1 h4.2]
    simp only [List.map_cons, List.map_nil, List.cons_append, List.nil_append, getD0, getD1, List.length_cons, List.length_nil]
    rw [u8_of (z := 240 + r / 262144) (by omega) (by omega), u8_of (z := 128 + r / 4096 % 64) (by omega) (by omega), u8_of (z := 128 + r / 64 % 64) (by omega) (by omega), u8_of (z := 128 + r % 64) (by omega) (by omega)]
    unfold Lib.decodeN
    rw [if_neg (by omega), if_neg (by omega), if_neg (by omega), if_pos (by omega), if_pos (by omega)]
    exact ⟨fun h => by simp only at h; omega, rfl⟩
  · rw [Lib.encodeRuneZ_bad (by omega)]
    simp only [List.map_cons, List.map_nil, List.cons_append, List.nil_append, getD0, getD1, List.length_cons, List.length_nil]
    rw [u8_of (z := 239) (by omega) (by omega), u8_of (z := 191) (by omega) (by omega), u8_of (z := 189) (by omega) (by omega)]
    unfold Lib.decodeN
    rw [if_neg (by omega), if_neg (by omega), if_pos (by omega), if_pos (by omega)]
    exact ⟨fun h => by simp only at h; omega, rfl⟩
theorem Piece.encode (r : Int) : Piece (Lib.encodeRune r) := fun t => by
  obtain ⟨h1, h2⟩ := decode_encode r t
  have hl : 1 ≤ (Lib.encodeRune r).length := by unfold Lib.encodeRune; rw [List.length_map]; exact (Lib.encodeRuneZ_length r).1
  have hne : Lib.encodeRune r ++ t ≠ [] := fun e => by
    have := congrArg List.length e
    rw [List.length_append] at this
    simp only [List.length_nil] at this
    omega
  rw [Lib.validD_step _ hne, if_neg h1, h2, List.drop_left]

variable {s : List UInt8}
theorem drop_ne {p : Nat} (hp : p < s.length) : s.drop p ≠ [] := fun e => by
  have := congrArg List.length e
  rw [List.length_drop] at this
  simp only [List.length_nil] at this
  omega
theorem charE_piece {p q : Nat} {y : List UInt8} (hp : p < s.length) (h : charE s p = .ok y q) : Piece y := by
  unfold charE at h
  have hne := drop_ne hp
  rw [decL_L hne] at h
  split at h
  · cases h
  · rename_i hv
    simp only [Rs.ok.injEq] at h
    rw [← h.1, ← Lib.encode_decode _ hne hv]
    exact Piece.encode _
theorem escE_piece {p q : Nat} {y : List UInt8} (h : escE s p = .ok y q) : Piece y := by
  unfold escE at h
  obtain ⟨c, r, h1, h⟩ := Rs.bind_ok h
  unfold escOf at h
  cases hv : escV c with
  | some x =>
    rw [hv] at h
    simp only [Rs.ok.injEq] at h
    rw [← h.1]
    refine Piece.ascii ?_
    unfold escV at hv
    repeat' split at hv
    all_goals first | (simp only [Option.some.injEq] at hv; rw [← hv]; decide) | cases hv
  | none =>
    rw [hv] at h
    simp only at h
    split at h
    · obtain ⟨x, q2, h2, h⟩ := Rs.bind_ok h
      simp only [Rs.ok.injEq] at h
      rw [← h.1]
      exact Piece.encode _
    · cases h
theorem qE_piece : ∀ (n p : Nat) (acc : List UInt8) {t : List UInt8} {q : Nat}, Piece acc → qE s n p acc = .ok t q → Piece t ∧ t.length + p + 1 ≤ acc.length + q ∧ q ≤ s.length
  | 0, p, acc, t, q, ha, h => by unfold qE at h; cases h
  | n + 1, p, acc, t, q, ha, h => by
    unfold qE at h
    obtain ⟨c, r, h1, h⟩ := Rs.bind_ok h
    have hp := (byteE_lt h1).2
    split at h
    · simp only [Rs.ok.injEq] at h
      rw [← h.1, ← h.2]
      exact ⟨ha, by omega, by omega⟩
    split at h
    · obtain ⟨y, q2, h2, h⟩ := Rs.bind_ok h
      have h3 := escE_at h2
      obtain ⟨a, b, e⟩ := qE_piece n q2 _ (ha.append (escE_piece h2)) h
      rw [List.length_append] at b
      have h5 : y.length + p ≤ q2 := by
        unfold escE at h2
        obtain ⟨c2, r2, h4, h2⟩ := Rs.bind_ok h2
        unfold escOf at h2
        cases hv : escV c2 with
        | some x => rw [hv] at h2; simp only [Rs.ok.injEq] at h2; rw [← h2.1, ← h2.2]; simp; omega
        | none =>
          rw [hv] at h2
          simp only at h2
          split at h2
          · obtain ⟨x, q3, h6, h2⟩ := Rs.bind_ok h2
            simp only [Rs.ok.injEq] at h2
            rw [← h2.2]
            have h7 : p + 2 + 4 ≤ q3 := by
              unfold cpE at h6
              obtain ⟨u, q4, h8, h6⟩ := Rs.bind_ok h6
              have h9 := unitE_at4 h8
              split at h6
              · simp only [Rs.ok.injEq] at h6; omega
              split at h6
              · cases h6
              unfold fstE at h6
              obtain ⟨u2, q5, h10, h6⟩ := Rs.bind_ok h6
              split at h6
              · unfold sndE at h6
                obtain ⟨u3, q6, h11, h6⟩ := Rs.bind_ok h6
                split at h6
                · unfold lowE at h6
                  obtain ⟨u4, q7, h12, h6⟩ := Rs.bind_ok h6
                  have h13 := unitE_at4 h12
                  split at h6
                  · simp only [Rs.ok.injEq] at h6; omega
                  · cases h6
                · cases h6
              · cases h6
            omega
          · cases h2
      exact ⟨a, by omega, e⟩
    split at h
    · cases h
    · obtain ⟨y, q2, h2, h⟩ := Rs.bind_ok h
      have h3 := charE_at hp h2
      obtain ⟨a, b, e⟩ := qE_piece n q2 _ (ha.append (charE_piece hp h2)) h
      rw [List.length_append] at b
      exact ⟨a, by omega, e⟩
where
  unitE_at4 {s : List UInt8} {f : Nat} : ∀ {k p acc c q : Nat}, unitE s f k p acc = .ok c q → q = p + k
    | 0, p, acc, c, q, h => by unfold unitE at h; simp only [Rs.ok.injEq] at h; omega
    | k + 1, p, acc, c, q, h => by
      unfold unitE at h
      obtain ⟨x, r, h1, h⟩ := Rs.bind_ok h
      cases hv : hexV x with
      | none => rw [hv] at h; cases h
      | some n => rw [hv] at h; have := unitE_at4 h; omega
theorem quotedE_piece {p q : Nat} {t : List UInt8} (h : quotedE s p = .ok t q) : Lib.validD t = true ∧ t.length + p + 2 ≤ q ∧ q ≤ s.length := by
  obtain ⟨a, b, e⟩ := qE_piece _ _ _ Piece.nil h
  exact ⟨a.valid, by simp only [List.length_nil] at b; omega, e⟩

/-! ### a literal within a text -/
theorem hasAt_drop (b : List UInt8) (p i : Nat) : hasAt b s (p + i) = hasAt b (s.drop p) i := by
  unfold hasAt; rw [List.getElem?_drop]
theorem skipE_drop (b : List UInt8) (p i : Nat) : skipE b s (p + i) = p + skipE b (s.drop p) i := by
  unfold skipE; rw [List.drop_drop]; omega
theorem litE_drop (p : Nat) : litE s p = (p + (litE (s.drop p) 0).1, (litE (s.drop p) 0).2) := by
  have e1 : ∀ i, litInt s (p + i) = p + litInt (s.drop p) i := fun i => by
    unfold litInt
    rw [skipE_drop, hasAt_drop]
    rw [show decide (p + i < p + skipE digitL (s.drop p) i) = decide (i < skipE digitL (s.drop p) i) from decide_eq_decide.2 (by omega)]
    split <;> omega
  have e2 : ∀ i, litFrac s (p + i) = (p + (litFrac (s.drop p) i).1, (litFrac (s.drop p) i).2) := fun i => by
    unfold litFrac
    rw [hasAt_drop, show p + i + 1 = p + (i + 1) by omega, skipE_drop]
    split
    · simp only [Prod.mk.injEq, true_and]
      congr 1
      rw [Bool.eq_iff_iff, beq_iff_eq, beq_iff_eq]; omega
    · rfl
  have e3 : ∀ i, litExp s (p + i) = (p + (litExp (s.drop p) i).1, (litExp (s.drop p) i).2) := fun i => by
    have e4 : expAt s (p + i) = p + expAt (s.drop p) i := by
      unfold expAt
      rw [show p + i + 1 = p + (i + 1) by omega, hasAt_drop]
      split <;> omega
    unfold litExp
    rw [hasAt_drop, e4, skipE_drop]
    split
    · simp only [Prod.mk.injEq, true_and]
      congr 1
      rw [Bool.eq_iff_iff, beq_iff_eq, beq_iff_eq]; omega
    · rfl
  have e5 : (if hasAt [45] s p then p + 1 else p) = p + (if hasAt [45] (s.drop p) 0 then 0 + 1 else 0) := by
    have := hasAt_drop (s := s) [45] p 0
    rw [Nat.add_zero] at this
    rw [this]
    split <;> rfl
  unfold litE
  dsimp only
  rw [e5]
  generalize (if hasAt [45] (s.drop p) 0 then 0 + 1 else 0) = a
  rw [e1]
  by_cases h : litInt (s.drop p) a = a
  · rw [if_pos (by omega), if_pos h]
  · rw [if_neg (by omega), if_neg h, e2]
    dsimp only
    split
    · rw [e3]
    · rfl
theorem hasAt_take {b : List UInt8} {m p : Nat} (h : p < m) : hasAt b (s.take m) p = hasAt b s p := by
  unfold hasAt; rw [List.getElem?_take_of_lt h]
theorem hasAt_take_end {b : List UInt8} {m p : Nat} (h : m ≤ p) : hasAt b (s.take m) p = false := by
  unfold hasAt; rw [List.getElem?_take_eq_none h]; rfl
theorem takeWhile_take (f : UInt8 → Bool) : ∀ (l : List UInt8) (k : Nat), ((l.take k).takeWhile f).length = min k (l.takeWhile f).length
  | [], k => by simp
  | x :: l, 0 => by simp
  | x :: l, k + 1 => by
    rw [List.take_succ_cons]
    by_cases h : f x = true
    · rw [List.takeWhile_cons_of_pos h, List.takeWhile_cons_of_pos h, List.length_cons, List.length_cons, takeWhile_take f l k]; omega
    · rw [List.takeWhile_cons_of_neg h, List.takeWhile_cons_of_neg h]; simp
theorem skipE_take {b : List UInt8} {m p : Nat} (h : p ≤ m) : skipE b (s.take m) p = min m (skipE b s p) := by
  unfold skipE
  rw [List.drop_take, takeWhile_take]; omega
theorem hasAt_le {b : List UInt8} {p : Nat} (h : hasAt b s p = true) : p + 1 ≤ s.length := hasAt_lt h
theorem litInt_take {a m : Nat} (ha : a < m) (hd : litInt s a ≤ m) : litInt (s.take m) a = litInt s a := by
  unfold litInt at hd ⊢
  rw [skipE_take (by omega), hasAt_take ha, show decide (a < min m (skipE digitL s a)) = decide (a < skipE digitL s a) from decide_eq_decide.2 (by omega)]
  split
  · rfl
  · rename_i h
    rw [if_neg h] at hd
    omega
theorem litFrac_take {d m : Nat} (hd : (litFrac s d).1 ≤ m) : litFrac (s.take m) d = litFrac s d := by
  unfold litFrac at hd ⊢
  by_cases h : hasAt [46] s d = true
  · rw [if_pos h] at hd
    have := skipE_ge digitL s (d + 1)
    simp only at hd
    rw [hasAt_take (by omega), skipE_take (by omega), if_pos h, if_pos h, show min m (skipE digitL s (d + 1)) = skipE digitL s (d + 1) by omega]
  · have h2 : ¬ hasAt [46] (s.take m) d = true := by
      rcases Nat.lt_or_ge d m with k | k
      · rw [hasAt_take k]; exact h
      · rw [hasAt_take_end k]; decide
    rw [if_neg h, if_neg h2]
theorem litExp_take {d m : Nat} (hd : (litExp s d).1 ≤ m) : litExp (s.take m) d = litExp s d := by
  unfold litExp at hd ⊢
  by_cases h : hasAt [101, 69] s d = true
  · rw [if_pos h] at hd
    simp only at hd
    have h2 : d + 1 ≤ expAt s d := by unfold expAt; split <;> omega
    have h3 := skipE_ge digitL s (expAt s d)
    have h4 : expAt (s.take m) d = expAt s d := by
      unfold expAt at h2 h3 ⊢
      by_cases h5 : hasAt [43, 45] s (d + 1) = true
      · rw [if_pos h5] at h2 h3 ⊢
        have : d + 2 ≤ m := by unfold expAt at hd; rw [if_pos h5] at hd; omega
        rw [hasAt_take (by omega), if_pos h5]
      · rw [if_neg h5]
        have h6 : ¬ hasAt [43, 45] (s.take m) (d + 1) = true := by
          rcases Nat.lt_or_ge (d + 1) m with k | k
          · rw [hasAt_take k]; exact h5
          · rw [hasAt_take_end k]; decide
        rw [if_neg h6]
    rw [hasAt_take (by omega), if_pos h, if_pos h, h4, skipE_take (by omega), show min m (skipE digitL s (expAt s d)) = skipE digitL s (expAt s d) by omega]
  · have h2 : ¬ hasAt [101, 69] (s.take m) d = true := by
      rcases Nat.lt_or_ge d m with k | k
      · rw [hasAt_take k]; exact h
      · rw [hasAt_take_end k]; decide
    rw [if_neg h, if_neg h2]
theorem litInt_ge (a : Nat) : a ≤ litInt s a := by
  unfold litInt
  have := skipE_ge digitL s a
  split <;> omega
theorem litFrac_ge (d : Nat) : d ≤ (litFrac s d).1 := by
  unfold litFrac
  have := skipE_ge digitL s (d + 1)
  split <;> simp only <;> omega
theorem litExp_ge (d : Nat) : d ≤ (litExp s d).1 := by
  unfold litExp
  have h2 : d + 1 ≤ expAt s d := by unfold expAt; split <;> omega
  have := skipE_ge digitL s (expAt s d)
  split <;> simp only <;> omega
def litA (s : List UInt8) : Nat := if hasAt [45] s 0 then 0 + 1 else 0
/-- a literal's parts -/
theorem litE_parts (h : (litE s 0).2 = true) : litA s < litInt s (litA s) ∧ (litFrac s (litInt s (litA s))).2 = true ∧ (litExp s (litFrac s (litInt s (litA s))).1).2 = true ∧ litE s 0 = litExp s (litFrac s (litInt s (litA s))).1 := by
  have hE : litE s 0 = if litInt s (litA s) = litA s then (litA s, false) else if (litFrac s (litInt s (litA s))).2 then litExp s (litFrac s (litInt s (litA s))).1 else litFrac s (litInt s (litA s)) := rfl
  rw [hE] at h ⊢
  have hi := litInt_ge (s := s) (litA s)
  by_cases h1 : litInt s (litA s) = litA s
  · rw [if_pos h1] at h; cases h
  · rw [if_neg h1] at h ⊢
    by_cases h2 : (litFrac s (litInt s (litA s))).2 = true
    · rw [if_pos h2] at h ⊢
      exact ⟨by omega, h2, h, rfl⟩
    · rw [if_neg h2] at h
      exact absurd h h2
theorem litE_of (h1 : litA s < litInt s (litA s)) (h2 : (litFrac s (litInt s (litA s))).2 = true) : litE s 0 = litExp s (litFrac s (litInt s (litA s))).1 := by
  have hE : litE s 0 = if litInt s (litA s) = litA s then (litA s, false) else if (litFrac s (litInt s (litA s))).2 then litExp s (litFrac s (litInt s (litA s))).1 else litFrac s (litInt s (litA s)) := rfl
  rw [hE, if_neg (by omega), if_pos h2]
/-- a literal alone is the literal that stands ahead -/
theorem litE_take (h : (litE s 0).2 = true) : litE (s.take (litE s 0).1) 0 = litE s 0 := by
  obtain ⟨p1, p2, p3, p4⟩ := litE_parts h
  obtain ⟨m, hm⟩ : ∃ m, m = (litE s 0).1 := ⟨_, rfl⟩
  rw [← hm]
  have q1 := litFrac_ge (s := s) (litInt s (litA s))
  have q2 := litExp_ge (s := s) (litFrac s (litInt s (litA s))).1
  rw [p4] at hm
  have ea : litA (s.take m) = litA s := by unfold litA; rw [hasAt_take (by omega)]
  have ei : litInt (s.take m) (litA s) = litInt s (litA s) := litInt_take (by omega) (by omega)
  have ef : litFrac (s.take m) (litInt s (litA s)) = litFrac s (litInt s (litA s)) := litFrac_take (by omega)
  have ee : litExp (s.take m) (litFrac s (litInt s (litA s))).1 = litExp s (litFrac s (litInt s (litA s))).1 := litExp_take (by omega)
  rw [litE_of (by rw [ea, ei]; exact p1) (by rw [ea, ei, ef]; exact p2), ea, ei, ef, ee, p4]
/-- what a number's literal is -/
theorem literalE_is {p q : Nat} {t : List UInt8} (hl : longB s p = false) (hp : p ≤ s.length) (h : literalE s p = .ok t q) : isLitB t = true ∧ p + t.length = q := by
  unfold literalE at h
  split at h
  · rename_i h2
    simp only [Rs.ok.injEq] at h
    obtain ⟨g1, g2⟩ := litE_le hp
    have hlong : ¬ 40 < (litE s p).1 - p := by
      unfold longB at hl
      rw [h2] at hl
      simpa using hl
    rw [litE_drop p] at h h2 hlong g2
    simp only at h h2 hlong g2
    rw [Nat.add_sub_cancel_left] at h hlong
    have ht := litE_take h2
    rw [h.1] at ht
    have hlen : t.length = (litE (s.drop p) 0).1 := by rw [← h.1, List.length_take, List.length_drop]; omega
    refine ⟨?_, by omega⟩
    unfold isLitB
    rw [ht, h2, hlen]
    simp
    omega
  · cases h

/-! ### a literal ahead of what is no part of one -/
/-- what may stand behind a literal -/
def Ends (R : List UInt8) : Prop := ∀ c, R[0]? = some c → ¬ c ∈ ([48, 49, 50, 51, 52, 53, 54, 55, 56, 57, 46, 101, 69, 43, 45] : List UInt8)
theorem Ends.nil : Ends [] := fun c h => by cases h
theorem Ends.comma (R : List UInt8) : Ends (44 :: R) := fun c h => by simp at h; subst h; decide
theorem Ends.arr (R : List UInt8) : Ends (93 :: R) := fun c h => by simp at h; subst h; decide
theorem Ends.obj (R : List UInt8) : Ends (125 :: R) := fun c h => by simp at h; subst h; decide
theorem hasAt_ends {b t R : List UInt8} {p : Nat} (hR : Ends R) (hb : ∀ x ∈ b, x ∈ ([48, 49, 50, 51, 52, 53, 54, 55, 56, 57, 46, 101, 69, 43, 45] : List UInt8)) (hp : p ≤ t.length) : hasAt b (t ++ R) p = hasAt b t p := by
  unfold hasAt
  rcases Nat.lt_or_ge p t.length with k | k
  · rw [List.getElem?_append_left k]
  · obtain rfl : p = t.length := by omega
    rw [List.getElem?_append_right (Nat.le_refl _), Nat.sub_self, List.getElem?_eq_none (Nat.le_refl _)]
    cases hc : R[0]? with
    | none => rfl
    | some c =>
      show b.contains c = false
      rw [Bool.eq_false_iff]
      intro h
      exact hR c hc (hb c (List.contains_iff_mem.1 h))
theorem takeWhile_none {f : UInt8 → Bool} {R : List UInt8} (h : ∀ c, R[0]? = some c → f c = false) : R.takeWhile f = [] := by
  cases R with
  | nil => rfl
  | cons c r => rw [List.takeWhile_cons_of_neg (by rw [h c rfl]; decide)]
theorem takeWhile_app {f : UInt8 → Bool} {R : List UInt8} (h : R.takeWhile f = []) : ∀ t : List UInt8, (t ++ R).takeWhile f = t.takeWhile f
  | [] => h
  | x :: t => by
    rw [List.cons_append]
    by_cases k : f x = true
    · rw [List.takeWhile_cons_of_pos k, List.takeWhile_cons_of_pos k, takeWhile_app h t]
    · rw [List.takeWhile_cons_of_neg k, List.takeWhile_cons_of_neg k]
theorem skipE_ends {t R : List UInt8} {p : Nat} (hR : Ends R) (hp : p ≤ t.length) : skipE digitL (t ++ R) p = skipE digitL t p := by
  unfold skipE
  rw [List.drop_append_of_le_length hp, takeWhile_app (takeWhile_none fun c hc => ?_)]
  rw [Bool.eq_false_iff]
  intro h
  have := List.contains_iff_mem.1 h
  exact hR c hc ((show ∀ x ∈ digitL, x ∈ ([48, 49, 50, 51, 52, 53, 54, 55, 56, 57, 46, 101, 69, 43, 45] : List UInt8) by decide) c this)
theorem litE_ends {t R : List UInt8} (hR : Ends R) (h : (litE t 0).2 = true) : litE (t ++ R) 0 = litE t 0 := by
  obtain ⟨p1, p2, p3, p4⟩ := litE_parts h
  have hb : ∀ b : List UInt8, b = [45] ∨ b = [48] ∨ b = [46] ∨ b = [101, 69] ∨ b = [43, 45] → ∀ x ∈ b, x ∈ ([48, 49, 50, 51, 52, 53, 54, 55, 56, 57, 46, 101, 69, 43, 45] : List UInt8) := by
    rintro b (rfl | rfl | rfl | rfl | rfl) <;> decide
  obtain ⟨l1, l2⟩ := litE_le (s := t) (p := 0) (Nat.zero_le _)
  rw [p4] at l2
  have q1 := litFrac_ge (s := t) (litInt t (litA t))
  have q2 := litExp_ge (s := t) (litFrac t (litInt t (litA t))).1
  have ea : litA (t ++ R) = litA t := by unfold litA; rw [hasAt_ends hR (hb _ (by simp)) (by omega)]
  have ei : litInt (t ++ R) (litA t) = litInt t (litA t) := by
    unfold litInt; rw [skipE_ends hR (by omega), hasAt_ends hR (hb _ (by simp)) (by omega)]
  have ef : litFrac (t ++ R) (litInt t (litA t)) = litFrac t (litInt t (litA t)) := by
    unfold litFrac
    rw [hasAt_ends hR (hb _ (by simp)) (by omega)]
    by_cases h2 : hasAt [46] t (litInt t (litA t)) = true
    · have := hasAt_le h2
      rw [skipE_ends hR (by omega)]
    · rw [if_neg h2, if_neg h2]
  have ee : litExp (t ++ R) (litFrac t (litInt t (litA t))).1 = litExp t (litFrac t (litInt t (litA t))).1 := by
    unfold litExp
    rw [hasAt_ends hR (hb _ (by simp)) (by omega)]
    by_cases h2 : hasAt [101, 69] t (litFrac t (litInt t (litA t))).1 = true
    · have h3 := hasAt_le h2
      have h4 : expAt (t ++ R) (litFrac t (litInt t (litA t))).1 = expAt t (litFrac t (litInt t (litA t))).1 := by
        unfold expAt; rw [hasAt_ends hR (hb _ (by simp)) (by omega)]
      have h5 : expAt t (litFrac t (litInt t (litA t))).1 ≤ t.length := by
        unfold expAt
        split
        · rename_i h6; have := hasAt_le h6; omega
        · omega
      rw [h4, skipE_ends hR h5]
    · rw [if_neg h2, if_neg h2]
  rw [litE_of (by rw [ea, ei]; exact p1) (by rw [ea, ei, ef]; exact p2), ea, ei, ef, ee, p4]
theorem lit_head {t : List UInt8} (h : (litE t 0).2 = true) : ∃ c r, t = c :: r ∧ (c.toNat = 45 ∨ (48 ≤ c.toNat ∧ c.toNat ≤ 57)) := by
  obtain ⟨p1, -⟩ := litE_parts h
  cases t with
  | nil => simp [litInt, litA, hasAt, skipE] at p1
  | cons c r =>
    refine ⟨c, r, rfl, ?_⟩
    by_cases h1 : hasAt [45] (c :: r) 0 = true
    · left
      simp [hasAt] at h1
      rw [h1]; rfl
    · right
      have ha : litA (c :: r) = 0 := by unfold litA; rw [if_neg h1]
      rw [ha] at p1
      by_cases hd : digitL.contains c = true
      · have := List.contains_iff_mem.1 hd
        simp only [List.mem_cons, List.not_mem_nil, or_false] at this
        rcases this with rfl | rfl | rfl | rfl | rfl | rfl | rfl | rfl | rfl | rfl <;> decide
      · have hd2 : digitL.contains c = false := by simpa using hd
        unfold litInt at p1
        rw [skipE_stop (by simp) hd2] at p1
        simp at p1
/-- a literal read -/
theorem literalE_at {p : Nat} {t R : List UInt8} (hR : Ends R) (hs : s.drop p = t ++ R) (ht : isLitB t = true) : literalE s p = .ok t (p + t.length) ∧ longB s p = false := by
  unfold isLitB at ht
  simp only [Bool.and_eq_true, decide_eq_true_eq] at ht
  obtain ⟨⟨h1, h2⟩, h3⟩ := ht
  have e : litE s p = (p + t.length, true) := by
    rw [litE_drop, hs, litE_ends hR h1]
    rw [h1, h2]
  refine ⟨?_, ?_⟩
  · unfold literalE
    rw [e]
    simp only [if_pos]
    rw [Nat.add_sub_cancel_left, hs, List.take_left]
  · unfold longB
    rw [e]
    simp
    omega
end Go.Proofs.YtdhkpkojnokjdaaDoor

/-
  Names by rising names: a list sorted is the same names; sorted again it stays; no name twice.
-/
namespace Go.Proofs.YtdhkpkojnokjdaaDoor
open Go.RowKit Go.Shelf Sorted
set_option linter.unusedVariables false
set_option linter.unusedSimpArgs false

/-- names by rising names -/
def sortN (ns : List (List UInt8)) : List (List UInt8) := (ordN ns).map fun i => ns.getD i []
theorem ordN_perm (ns : List (List UInt8)) : List.Perm (ordN ns) (List.range' 0 ns.length) := srt_perm _
theorem map_range {α : Type} (l : List α) (d : α) : (List.range' 0 l.length).map (fun i => l.getD i d) = l := by
  apply List.ext_getElem
  · simp
  · intro i h1 h2
    simp [List.getD, h2]
theorem sortN_perm (ns : List (List UInt8)) : List.Perm (sortN ns) ns := by
  have h := (ordN_perm ns).map fun i => ns.getD i []
  rwa [map_range] at h
theorem sortN_len (ns : List (List UInt8)) : (sortN ns).length = ns.length := (sortN_perm ns).length_eq

/-- one name stands not behind another -/
def leB (a b : List UInt8) : Prop := Lib.compareBytes a b ≤ 0
theorem leB_anti {a b : List UInt8} (h : leB a b) (k : leB b a) : a = b := by
  unfold leB at h k
  have := cb_neg a b
  exact cb_eq (by omega)
theorem leB_trans {a b c : List UInt8} (h : leB a b) (k : leB b c) : leB a c := by
  unfold leB at *
  by_cases h0 : Lib.compareBytes a b = 0
  · rw [cb_eq h0]; exact k
  by_cases k0 : Lib.compareBytes b c = 0
  · rw [← cb_eq k0]; exact h
  · exact Int.le_of_lt (cb_trans (b := b) (by omega) (by omega))
theorem ordN_sorted (ns : List (List UInt8)) : (ordN ns).Pairwise (byT (lessOf (cfN ns))) := srt_sorted (strict_by (weakN ns)) _ List.nodup_range'
theorem byT_le {ns : List (List UInt8)} {i j : Nat} (h : byT (lessOf (cfN ns)) i j) : leB (ns.getD i []) (ns.getD j []) := by
  unfold leB
  rcases h with h | ⟨h, k, -⟩
  · unfold lessOf cfN at h
    simp only [decide_eq_true_eq] at h
    omega
  · unfold lessOf cfN at h k
    simp only [decide_eq_false_iff_not] at h k
    have := cb_neg (ns.getD i []) (ns.getD j [])
    omega
theorem sortN_sorted (ns : List (List UInt8)) : (sortN ns).Pairwise leB := by
  unfold sortN
  rw [List.pairwise_map]
  exact (ordN_sorted ns).imp fun h => byT_le h

/-- names that rise stand in their places -/
theorem ordN_rising {ns : List (List UInt8)} (h : ns.Pairwise leB) : ordN ns = List.range' 0 ns.length := by
  refine srt_self (strict_by (weakN ns)) ?_
  rw [List.pairwise_iff_getElem]
  intro i j hi hj hij
  simp only [List.length_range'] at hi hj
  simp only [List.getElem_range', Nat.zero_add, Nat.one_mul]
  have h1 := List.pairwise_iff_getElem.1 h i j hi hj hij
  unfold leB at h1
  have h2 := cb_neg ns[i] ns[j]
  unfold byT lessOf cfN
  rw [getD_in hi, getD_in hj]
  simp only [decide_eq_true_eq, decide_eq_false_iff_not]
  omega
theorem ordN_sortN (ns : List (List UInt8)) : ordN (sortN ns) = List.range' 0 ns.length := by
  rw [ordN_rising (sortN_sorted ns), sortN_len]

theorem twL_nodup : ∀ {ms : List (List UInt8)}, ms.Nodup → twL ms = false
  | [], _ => rfl
  | [a], _ => rfl
  | a :: b :: r, h => by
    rw [List.nodup_cons] at h
    rw [twL, twL_nodup h.2, Bool.or_false, beq_eq_false_iff_ne]
    intro e
    exact h.1 (by rw [e]; exact List.mem_cons_self ..)
theorem nodup_twL : ∀ {ms : List (List UInt8)}, ms.Pairwise leB → twL ms = false → ms.Nodup
  | [], _, _ => List.nodup_nil
  | [a], _, _ => by simp
  | a :: b :: r, h, ht => by
    rw [List.pairwise_cons] at h
    rw [twL, Bool.or_eq_false_iff, beq_eq_false_iff_ne] at ht
    rw [List.nodup_cons]
    refine ⟨fun hm => ?_, nodup_twL h.2 ht.2⟩
    rcases List.mem_cons.1 hm with e | e
    · exact ht.1 e
    · exact ht.1 (leB_anti (h.1 b (List.mem_cons_self ..)) ((List.pairwise_cons.1 h.2).1 a e))
theorem twG_nodup {ns : List (List UInt8)} (h : ns.Nodup) : twG ordN ns = false := twL_nodup ((sortN_perm ns).nodup_iff.2 h)
theorem nodup_twG {ns : List (List UInt8)} (h : twG ordN ns = false) : (sortN ns).Nodup := nodup_twL (sortN_sorted ns) h
end Go.Proofs.YtdhkpkojnokjdaaDoor

/-
  What a text is read as may be printed, and its text is not much longer.
-/
namespace Go.Proofs.YtdhkpkojnokjdaaDoor
open Go.RowKit Go.Shelf Sorted
set_option linter.unusedVariables false
set_option linter.unusedSimpArgs false

abbrev TW : List (List UInt8) → Bool := twG ordN
abbrev tx (x : JV) : List UInt8 := textG ordN (toG x)

/-! ### lengths -/
def lenT (ts : List (List UInt8)) : Nat := (ts.map fun t => t.length + 1).sum
def lenQ (ns : List (List UInt8)) : Nat := (ns.map fun t => (quoteB t).length + 1).sum
theorem lenT_snoc (ts : List (List UInt8)) (t : List UInt8) : lenT (ts ++ [t]) = lenT ts + (t.length + 1) := by simp [lenT]
theorem lenQ_snoc (ts : List (List UInt8)) (t : List UInt8) : lenQ (ts ++ [t]) = lenQ ts + ((quoteB t).length + 1) := by simp [lenQ]
theorem joinB_lenT (ts : List (List UInt8)) : (joinB ts).length ≤ lenT ts := by
  have h : ∀ r : List (List UInt8), (r.flatMap fun y => 44 :: y).length = lenT r := fun r => by
    induction r with
    | nil => rfl
    | cons y r ih => simp only [List.flatMap_cons, List.length_append, ih, lenT, List.map_cons, List.sum_cons, List.length_cons]
  cases ts with
  | nil => simp [joinB]
  | cons x r =>
    simp only [joinB, List.length_append, h, lenT, List.map_cons, List.sum_cons]
    omega
theorem sum_map_add {α : Type} (f g : α → Nat) : ∀ l : List α, (l.map fun i => f i + g i).sum = (l.map f).sum + (l.map g).sum
  | [] => rfl
  | x :: l => by simp only [List.map_cons, List.sum_cons, sum_map_add f g l]; omega
theorem quoteB_len (t : List UInt8) : (quoteB t).length ≤ 2 + 6 * t.length := by
  unfold quoteB
  have := quoL_len t
  simp only [List.length_cons, List.length_append, List.length_nil]
  omega
theorem objG_len {l : List GV} {ns : List (List UInt8)} (h : ns.length = l.length) : (objG ordN l ns).length ≤ 2 + lenQ ns + lenT (textL ordN l) := by
  have h1 := joinB_lenT ((ordN ns).map (memG ordN l ns))
  have h2 : lenT ((ordN ns).map (memG ordN l ns)) = lenQ ns + lenT (textL ordN l) := by
    have p := ((ordN_perm ns).map fun i => ((quoteB (ns.getD i [])).length + 1) + (((textL ordN l).getD i []).length + 1)).sum_nat
    unfold lenT
    rw [List.map_map]
    have e1 : (fun t : List UInt8 => t.length + 1) ∘ memG ordN l ns = fun i => ((quoteB (ns.getD i [])).length + 1) + (((textL ordN l).getD i []).length + 1) := by
      funext i
      simp only [Function.comp, memG, List.length_append, List.length_cons]
      omega
    rw [e1, p, sum_map_add]
    congr 1
    · unfold lenQ
      have := congrArg (List.map fun t : List UInt8 => (quoteB t).length + 1) (map_range ns [])
      rw [List.map_map] at this
      rw [← this]
      rfl
    · have := congrArg (List.map fun t : List UInt8 => t.length + 1) (map_range (textL ordN l) [])
      rw [List.map_map] at this
      rw [← this, show (textL ordN l).length = ns.length by rw [textL_map, List.length_map, h]]
      rfl
  unfold objG
  simp only [List.length_cons, List.length_append, List.length_nil]
  omega

theorem errL_snoc {tw : List (List UInt8) → Bool} {x : GV} {d : Nat} (hx : errG tw x d = 0) : ∀ {l : List GV}, errL tw l d = 0 → errL tw (l ++ [x]) d = 0
  | [], _ => by rw [List.nil_append, errL, if_neg (by rw [hx]; decide)]; rfl
  | y :: l, h => by
    rw [errL] at h
    rw [List.cons_append, errL]
    split at h
    · rename_i k; exact absurd h k
    · rename_i k; rw [if_neg k]; exact errL_snoc hx h

variable {s : List UInt8}
theorem wordE_at : ∀ {t : List UInt8} {p q : Nat} {u : Unit}, wordE s t p = .ok u q → q = p + t.length ∧ (p ≤ s.length → q ≤ s.length)
  | [], p, q, u, h => by unfold wordE at h; simp only [Rs.ok.injEq] at h; simp; omega
  | x :: t, p, q, u, h => by
    unfold wordE at h
    obtain ⟨c, r, h1, h⟩ := Rs.bind_ok h
    split at h
    · have := wordE_at h; have h3 := (byteE_lt h1).2; rw [List.length_cons]; exact ⟨by omega, fun _ => this.2 (by omega)⟩
    · cases h
theorem endsE_at {c p r : Nat} {b : Bool} (h : endsE c s p = .ok b r) : p ≤ r ∧ (b = true → p + 1 ≤ r ∧ r ≤ s.length) := by
  unfold endsE at h
  obtain ⟨x, q, h1, h⟩ := Rs.bind_ok h
  have h2 := byteE_lt h1
  have h3 := skipE_ge blankL s p
  split at h
  · simp only [Rs.ok.injEq] at h; exact ⟨by omega, fun _ => by omega⟩
  · simp only [Rs.ok.injEq] at h; exact ⟨by omega, fun e => by rw [← h.1] at e; cases e⟩
theorem markE_at {c p r : Nat} {u : Unit} (h : markE c s p = .ok u r) : p + 1 ≤ r := by
  have := markE_sound (s := s) (c := c) (p := p)
  rw [h] at this; exact this
theorem limE_long {p k d a q : Nat} {u : Unit} (h : limE s p k d a = .ok u q) (hk : k = 3) : longB s p = false := by
  unfold limE at h
  split at h
  · cases h
  · rename_i h1
    subst hk
    simpa using h1
theorem nameE_fine {p q : Nat} {ns : List (List UInt8)} {t : List UInt8} (h : nameE s p ns = .ok t q) : Lib.validD t = true ∧ t.length + p + 2 ≤ q := by
  unfold nameE at h
  obtain ⟨c, r, h1, h⟩ := Rs.bind_ok h
  have h2 := (byteE_lt h1).1
  have h3 := skipE_ge blankL s p
  unfold nameOf at h
  split at h
  · split at h
    · cases h
    · obtain ⟨t2, r2, h4, h⟩ := Rs.bind_ok h
      have h5 := quotedE_piece h4
      split at h
      · cases h
      · simp only [Rs.ok.injEq] at h
        rw [← h.1, ← h.2]
        exact ⟨h5.1, by omega⟩
  · cases h

mutual
theorem valueE_fine : ∀ (n p d a : Nat) {x : JV} {q : Nat}, valueE s n p d a = .ok x q → errG TW (toG x) d = 0 ∧ (tx x).length + 6 * p ≤ 6 * q ∧ p < q ∧ q ≤ s.length
  | 0, p, d, a, x, q, h => by unfold valueE at h; cases h
  | n + 1, p, d, a, x, q, h => by
    unfold valueE at h
    obtain ⟨k, q1, h1, ha⟩ := Rs.bind_ok h
    have hs1 := kindE_sound (s := s) p
    rw [h1] at hs1
    have hs1 : p ≤ q1 := hs1
    obtain ⟨-, hql, -⟩ := kindE_at h1
    clear h
    obtain ⟨u, q2, h2, h⟩ := Rs.bind_ok ha
    clear ha
    have hl2 := limE_long h2
    obtain ⟨hqe, -, hd⟩ := limE_at h2
    subst hqe
    split at h
    · obtain ⟨y, r, h3, h⟩ := Rs.bind_ok h
      have := wordE_at h3
      simp only [Rs.ok.injEq] at h; rw [← h.1, ← h.2]
      have e : tx (.plain 0) = [110, 117, 108, 108] := by simp [tx, toG, textG]
      rw [e]
      exact ⟨by rw [toG]; simp [errG, ownE, formG], by simp at this ⊢; omega, by simp at this; omega, this.2 (by omega)⟩
    split at h
    · obtain ⟨y, r, h3, h⟩ := Rs.bind_ok h
      have := wordE_at h3
      simp only [Rs.ok.injEq] at h; rw [← h.1, ← h.2]
      have e : tx (.plain 1) = [102, 97, 108, 115, 101] := by simp [tx, toG, textG]
      rw [e]
      exact ⟨by rw [toG]; simp [errG, ownE, formG], by simp at this ⊢; omega, by simp at this; omega, this.2 (by omega)⟩
    split at h
    · obtain ⟨y, r, h3, h⟩ := Rs.bind_ok h
      have := wordE_at h3
      simp only [Rs.ok.injEq] at h; rw [← h.1, ← h.2]
      have e : tx (.plain 2) = [116, 114, 117, 101] := by simp [tx, toG, textG]
      rw [e]
      exact ⟨by rw [toG]; simp [errG, ownE, formG], by simp at this ⊢; omega, by simp at this; omega, this.2 (by omega)⟩
    split at h
    · rename_i hk
      obtain ⟨y, r, h3, h⟩ := Rs.bind_ok h
      obtain ⟨l1, l2⟩ := literalE_is (hl2 hk) (by omega) h3
      have l3 : r ≤ s.length := by
        unfold literalE at h3
        have := (litE_le (s := s) (p := q2) (by omega)).2
        split at h3
        · simp only [Rs.ok.injEq] at h3; omega
        · cases h3
      simp only [Rs.ok.injEq] at h; rw [← h.1, ← h.2]
      have e : tx (.num y) = y := by simp [tx, toG, textG]
      have hne : 0 < y.length := by
        unfold isLitB at l1
        simp only [Bool.and_eq_true] at l1
        obtain ⟨c, r, e, -⟩ := lit_head l1.1.1
        rw [e]; simp
      rw [e]
      exact ⟨by rw [toG]; simp [errG, ownE, formG, l1], by omega, by omega, by omega⟩
    split at h
    · obtain ⟨y, r, h3, h⟩ := Rs.bind_ok h
      obtain ⟨l1, l2, l3⟩ := quotedE_piece h3
      simp only [Rs.ok.injEq] at h; rw [← h.1, ← h.2]
      have e : tx (.str y) = quoteB y := by simp [tx, toG, textG]
      rw [e]
      have := quoteB_len y
      exact ⟨by rw [toG]; simp [errG, ownE, formG, l1], by omega, by omega, by omega⟩
    split at h
    · rename_i hk
      obtain ⟨l, t, h3, h⟩ := Rs.bind_ok h
      simp only [Rs.ok.injEq] at h; rw [← h.1, ← h.2]
      obtain ⟨b, r, h4, h3⟩ := Rs.bind_ok h3
      obtain ⟨b1, b2⟩ := endsE_at h4
      have e : tx (.arr l) = 91 :: (joinB (l.map tx) ++ [93]) := by simp [tx, toG_arr, textG, textL_map, Function.comp_def]
      have hj := joinB_lenT (l.map tx)
      have hw : l.length ≤ 1000 ∧ errL TW (l.map toG) (d + 1) = 0 ∧ lenT (l.map tx) + 6 * (q2 + 1) ≤ 6 * t ∧ q2 + 2 ≤ t ∧ t ≤ s.length := by
        split at h3
        · rename_i hb
          simp only [Rs.ok.injEq] at h3; rw [← h3.1, ← h3.2]
          have := b2 hb
          exact ⟨by simp, by simp [errL], by simp [lenT]; omega, by omega, by omega⟩
        · obtain ⟨e1, e2, e3, e4, e5⟩ := elemE_fine n r (d + 1) [] (by simp) (by simp [errL]) h3
          simp only [List.map_nil, lenT, List.sum_nil] at e3 ⊢
          exact ⟨e1, e2, by omega, by omega, e5⟩
      obtain ⟨w1, w2, w3, w4, w5⟩ := hw
      rw [e, toG_arr]
      refine ⟨?_, by simp; omega, by omega, w5⟩
      have hdd := hd (Or.inl hk)
      have ho : ownE TW 5 [] (l.map toG).length [] d = 0 := by
        unfold ownE formG
        rw [List.length_map]
        simp
        omega
      rw [errG, ho, if_neg (by decide), if_pos (Or.inl rfl), w2]
    · rename_i hk
      obtain ⟨hk1, hk2⟩ : k ≠ 5 ∧ k = 6 := by
        refine ⟨hk, ?_⟩
        have := (kindE_at h1).2.2
        omega
      obtain ⟨m, t, h3, h⟩ := Rs.bind_ok h
      simp only [Rs.ok.injEq] at h; rw [← h.1, ← h.2]
      obtain ⟨b, r, h4, h3⟩ := Rs.bind_ok h3
      obtain ⟨b1, b2⟩ := endsE_at h4
      have hw : m.2.length ≤ 1000 ∧ m.1.length = m.2.length ∧ m.1.Nodup ∧ (∀ s ∈ m.1, Lib.validD s = true) ∧ errL TW (m.2.map toG) (d + 1) = 0 ∧ lenQ m.1 + lenT (m.2.map tx) + 6 * (q2 + 1) ≤ 6 * t ∧ q2 + 2 ≤ t ∧ t ≤ s.length := by
        split at h3
        · rename_i hb
          simp only [Rs.ok.injEq] at h3; rw [← h3.1, ← h3.2]
          have := b2 hb
          exact ⟨by simp, rfl, by simp, by simp, by simp [errL], by simp [lenT, lenQ]; omega, by omega, by omega⟩
        · obtain ⟨e1, e2, e3, e4, e5, e6, e7, e8⟩ := membE_fine n r (d + 1) [] [] (by simp) rfl (by simp) (by simp) (by simp [errL]) h3
          simp only [List.map_nil, lenT, lenQ, List.sum_nil] at e6 ⊢
          exact ⟨e1, e2, e3, e4, e5, by omega, by omega, e8⟩
      obtain ⟨w1, w2, w3, w4, w5, w6, w7, w8⟩ := hw
      have e : tx (.obj m.1 m.2) = objG ordN (m.2.map toG) m.1 := by unfold tx; rw [toG_obj, textG]; rfl
      have ho := objG_len (l := m.2.map toG) (ns := m.1) (by rw [List.length_map]; exact w2)
      have ht : textL ordN (m.2.map toG) = m.2.map tx := by rw [textL_map, List.map_map]; rfl
      rw [ht] at ho
      rw [e, toG_obj]
      refine ⟨?_, by omega, by omega, w8⟩
      have hdd := hd (Or.inr hk2)
      have ho : ownE TW 6 [] (m.2.map toG).length m.1 d = 0 := by
        unfold ownE formG
        rw [List.length_map, show TW m.1 = false from twG_nodup w3]
        have hb : m.1.any badName = false := by
          rw [List.any_eq_false]
          intro s hs
          unfold badName
          rw [w4 s hs]; decide
        simp [hb, w2]
        omega
      rw [errG, ho, if_neg (by decide), if_pos (Or.inr rfl), w5]
theorem elemE_fine : ∀ (n p d : Nat) (acc : List JV) {l : List JV} {q : Nat}, acc.length ≤ 1000 → errL TW (acc.map toG) d = 0 → elemE s n p d acc = .ok l q →
    l.length ≤ 1000 ∧ errL TW (l.map toG) d = 0 ∧ lenT (l.map tx) + 6 * p ≤ lenT (acc.map tx) + 6 * q ∧ p < q ∧ q ≤ s.length
  | 0, p, d, acc, l, q, ha, he, h => by unfold elemE at h; cases h
  | n + 1, p, d, acc, l, q, ha, he, h => by
    unfold elemE at h
    obtain ⟨x, q1, h1, h⟩ := Rs.bind_ok h
    have hah := valueE_ahead h1
    obtain ⟨v1, v2, v3, v4⟩ := valueE_fine n p d acc.length h1
    obtain ⟨b, r, h2, h⟩ := Rs.bind_ok h
    obtain ⟨b1, b2⟩ := endsE_at h2
    have hle : (acc ++ [x]).length ≤ 1000 := by rw [List.length_append]; simp; omega
    have her : errL TW ((acc ++ [x]).map toG) d = 0 := by rw [List.map_append]; exact errL_snoc v1 he
    have hT : lenT ((acc ++ [x]).map tx) = lenT (acc.map tx) + ((tx x).length + 1) := by rw [List.map_append]; exact lenT_snoc _ _
    split at h
    · rename_i hb
      have := b2 hb
      simp only [Rs.ok.injEq] at h; rw [← h.1, ← h.2]
      exact ⟨hle, her, by omega, by omega, by omega⟩
    · obtain ⟨u, t, h3, h⟩ := Rs.bind_ok h
      have := markE_at h3
      obtain ⟨e1, e2, e3, e4, e5⟩ := elemE_fine n t d _ hle her h
      exact ⟨e1, e2, by omega, by omega, e5⟩
theorem membE_fine : ∀ (n p d : Nat) (ns : List (List UInt8)) (acc : List JV) {m : List (List UInt8) × List JV} {q : Nat}, acc.length ≤ 1000 → ns.length = acc.length → ns.Nodup → (∀ s ∈ ns, Lib.validD s = true) → errL TW (acc.map toG) d = 0 → membE s n p d ns acc = .ok m q →
    m.2.length ≤ 1000 ∧ m.1.length = m.2.length ∧ m.1.Nodup ∧ (∀ s ∈ m.1, Lib.validD s = true) ∧ errL TW (m.2.map toG) d = 0 ∧ lenQ m.1 + lenT (m.2.map tx) + 6 * p ≤ lenQ ns + lenT (acc.map tx) + 6 * q ∧ p < q ∧ q ≤ s.length
  | 0, p, d, ns, acc, m, q, ha, hl, hn, hv, he, h => by unfold membE at h; cases h
  | n + 1, p, d, ns, acc, m, q, ha, hl, hn, hv, he, h => by
    unfold membE at h
    obtain ⟨t, q1, h1, h⟩ := Rs.bind_ok h
    obtain ⟨n1, -, n3⟩ := nameE_ok h1
    obtain ⟨f1, f2⟩ := nameE_fine h1
    obtain ⟨u, q2, h2, h⟩ := Rs.bind_ok h
    have hm := markE_at h2
    obtain ⟨x, q3, h3, h⟩ := Rs.bind_ok h
    obtain ⟨v1, v2, v3, v4⟩ := valueE_fine n q2 d 0 h3
    obtain ⟨b, r, h5, h⟩ := Rs.bind_ok h
    obtain ⟨b1, b2⟩ := endsE_at h5
    have hle : (acc ++ [x]).length ≤ 1000 := by rw [List.length_append]; simp; omega
    have hnl : (ns ++ [t]).length = (acc ++ [x]).length := by simp [hl]
    have hnd := nodup_snoc hn n3
    have hvv : ∀ s ∈ ns ++ [t], Lib.validD s = true := fun s hs => by
      rcases List.mem_append.1 hs with hs | hs
      · exact hv _ hs
      · simp at hs; subst hs; exact f1
    have her : errL TW ((acc ++ [x]).map toG) d = 0 := by rw [List.map_append]; exact errL_snoc v1 he
    have hT : lenT ((acc ++ [x]).map tx) = lenT (acc.map tx) + ((tx x).length + 1) := by rw [List.map_append]; exact lenT_snoc _ _
    have hQ := lenQ_snoc ns t
    have hq := quoteB_len t
    split at h
    · rename_i hb
      have := b2 hb
      simp only [Rs.ok.injEq] at h; rw [← h.1, ← h.2]
      exact ⟨hle, hnl, hnd, hvv, her, by simp only; omega, by omega, by omega⟩
    · obtain ⟨u2, t2, h6, h⟩ := Rs.bind_ok h
      have := markE_at h6
      obtain ⟨e1, e2, e3, e4, e5, e6, e7, e8⟩ := membE_fine n t2 d _ _ hle hnl hnd hvv her h
      exact ⟨e1, e2, e3, e4, e5, by omega, by omega, e8⟩
end
/-- what is read may be printed -/
theorem parseE_fine {x : JV} {q : Nat} (h : parseE s = .ok x q) : errG TW (toG x) 0 = 0 ∧ (tx x).length ≤ 6 * s.length := by
  unfold parseE at h
  obtain ⟨y, r, h1, h⟩ := Rs.bind_ok h
  split at h
  · cases h
  · rename_i hs
    simp only [Rs.ok.injEq] at h
    obtain ⟨e1, e2, e3, hr⟩ := valueE_fine _ _ _ _ h1
    rw [← h.1]
    exact ⟨e1, by omega⟩
end Go.Proofs.YtdhkpkojnokjdaaDoor

/-
  A quoted text read back, whatever stands behind it.
-/
namespace Go.Proofs.YtdhkpkojnokjdaaDoor
open Go.RowKit Go.Shelf
set_option linter.unusedVariables false
set_option linter.unusedSimpArgs false

/-- what stands at a place of the text and of the quoted text: the same where it goes on -/
theorem quo_headR (R r : List UInt8) : (r = [] ∧ ∃ t, quoL r ++ 34 :: R = 34 :: t) ∨ (∃ d r', r = d :: r' ∧ 128 ≤ d.toNat ∧ quoL r ++ 34 :: R = d :: (quoL r' ++ 34 :: R)) ∨ (∃ d r' x t, r = d :: r' ∧ d.toNat < 128 ∧ x.toNat < 128 ∧ quoL r ++ 34 :: R = x :: t) := by
  cases r with
  | nil => exact Or.inl ⟨rfl, R, rfl⟩
  | cons d r' =>
    by_cases hd : 128 ≤ d.toNat
    · refine Or.inr (Or.inl ⟨d, r', rfl, hd, ?_⟩)
      have : quoB d = [d] := by unfold quoB; rw [if_neg (by omega), if_neg (by omega)]
      simp [quoL, this]
    · refine Or.inr (Or.inr ?_)
      unfold quoL
      rw [List.flatMap_cons]
      unfold quoB
      split
      · exact ⟨d, r', 92, _, rfl, by omega, by decide, rfl⟩
      · split
        · exact ⟨d, r', 92, _, rfl, by omega, by decide, rfl⟩
        · exact ⟨d, r', d, _, rfl, by omega, by omega, rfl⟩

theorem decode_quoR (R : List UInt8) (c : UInt8) (r : List UInt8) : Lib.decodeL (c :: (quoL r ++ 34 :: R)) = Lib.decodeL (c :: r) := by
  rw [Lib.decodeL_N, Lib.decodeL_N]
  simp only [getD0, getD1, List.length_cons]
  symm
  rcases quo_headR R r with ⟨rfl, t, e⟩ | ⟨d, r1, rfl, hd, e⟩ | ⟨d, r1, x, t, rfl, hd, hx, e⟩
  · rw [e]
    simp only [getD0, getD1, getDn, List.length_cons, List.length_nil]
    refine decodeN_same ⟨fun h => by omega, fun h => ?_⟩ (fun h => by omega) (fun h => by omega) (fun h => by omega) (fun h => by omega) (fun h => by omega)
    have : (34 : UInt8).toNat = 34 := rfl
    omega
  · rw [e]
    simp only [getD0, getD1, List.length_cons]
    rcases quo_headR R r1 with ⟨rfl, t, e⟩ | ⟨d2, r2, rfl, hd2, e⟩ | ⟨d2, r2, x, t, rfl, hd2, hx, e⟩
    · rw [e]
      simp only [getD0, getD1, getDn, List.length_cons, List.length_nil]
      have : (34 : UInt8).toNat = 34 := rfl
      refine decodeN_same ⟨fun h => ⟨by omega, h.2⟩, fun h => ⟨by omega, h.2⟩⟩ (fun _ => rfl) (fun _ => ⟨fun h => by omega, fun h => by omega⟩) (fun _ h => by omega) (fun _ h => by omega) (fun _ h => by omega)
    · rw [e]
      simp only [getD0, getD1, List.length_cons]
      rcases quo_headR R r2 with ⟨rfl, t, e⟩ | ⟨d3, r3, rfl, hd3, e⟩ | ⟨d3, r3, x, t, rfl, hd3, hx, e⟩
      · rw [e]
        simp only [getD0, getD1, getDn, List.length_cons, List.length_nil]
        have : (34 : UInt8).toNat = 34 := rfl
        exact decodeN_same ⟨fun h => ⟨by omega, h.2⟩, fun h => ⟨by omega, h.2⟩⟩ (fun _ => rfl) (fun _ => ⟨fun h => ⟨by omega, h.2⟩, fun h => ⟨by omega, h.2⟩⟩) (fun _ _ => rfl) (fun _ _ => ⟨fun h => by omega, fun h => by omega⟩) (fun _ _ h => by omega)
      · rw [e]
        simp only [getD0, getD1, List.length_cons]
        exact decodeN_same ⟨fun h => ⟨by omega, h.2⟩, fun h => ⟨by omega, h.2⟩⟩ (fun _ => rfl) (fun _ => ⟨fun h => ⟨by omega, h.2⟩, fun h => ⟨by omega, h.2⟩⟩) (fun _ _ => rfl) (fun _ _ => ⟨fun h => ⟨by omega, h.2⟩, fun h => ⟨by omega, h.2⟩⟩) (fun _ _ _ => rfl)
      · rw [e]
        simp only [getD0, getD1, List.length_cons]
        exact decodeN_same ⟨fun h => ⟨by omega, h.2⟩, fun h => ⟨by omega, h.2⟩⟩ (fun _ => rfl) (fun _ => ⟨fun h => ⟨by omega, h.2⟩, fun h => ⟨by omega, h.2⟩⟩) (fun _ _ => rfl) (fun _ _ => ⟨fun h => by omega, fun h => by omega⟩) (fun _ _ h => by omega)
    · rw [e]
      simp only [getD0, getD1, List.length_cons]
      exact decodeN_same ⟨fun h => ⟨by omega, h.2⟩, fun h => ⟨by omega, h.2⟩⟩ (fun _ => rfl) (fun _ => ⟨fun h => by omega, fun h => by omega⟩) (fun _ h => by omega) (fun _ h => by omega) (fun _ h => by omega)
  · rw [e]
    simp only [getD0, getD1, List.length_cons]
    exact decodeN_same ⟨fun h => by omega, fun h => by omega⟩ (fun h => by omega) (fun h => by omega) (fun h => by omega) (fun h => by omega) (fun h => by omega)

/-- a quoted text's rest is read, whatever stands behind -/
theorem read_quotedR (R : List UInt8) : ∀ (m : Nat) (s A acc : List UInt8) (n : Nat), s.length ≤ m → s.length < n → Lib.validD s = true →
    qE (A ++ (quoL s ++ 34 :: R)) n A.length acc = .ok (acc ++ s) (A.length + (quoL s).length + 1)
  | m, s, A, acc, 0, _, hn, _ => absurd hn (Nat.not_lt_zero _)
  | m, [], A, acc, n + 1, _, _, _ => by
    unfold qE
    have hb := byte_behind (A := A) (R := quoL [] ++ 34 :: R) (p := A.length) (j := 0) rfl (c := 34) rfl
    rw [Nat.add_zero] at hb
    rw [hb]
    simp [Rs.bind, quoL]
  | 0, c :: r, A, acc, n + 1, hm, _, _ => by simp at hm
  | m + 1, c :: r, A, acc, n + 1, hm, hn, hv => by
    simp only [List.length_cons] at hm hn
    by_cases hc : c.toNat < 128
    · rw [Lib.validD_cons c r hc] at hv
      -- what the byte is quoted as is read as the byte
      suffices hs : qE (A ++ (quoL (c :: r) ++ 34 :: R)) (n + 1) A.length acc = qE ((A ++ quoB c) ++ (quoL r ++ 34 :: R)) n (A ++ quoB c).length (acc ++ [c]) by
        have ih := read_quotedR R m r (A ++ quoB c) (acc ++ [c]) n (by omega) (by omega) hv
        have e1 : (A ++ (quoL (c :: r) ++ 34 :: R)) = (A ++ quoB c) ++ (quoL r ++ 34 :: R) := by simp [quoL]
        rw [hs, ih]
        simp [quoL]
        omega
      have e1 : (A ++ (quoL (c :: r) ++ 34 :: R)) = (A ++ quoB c) ++ (quoL r ++ 34 :: R) := by simp [quoL]
      have e2 : (A ++ (quoL (c :: r) ++ 34 :: R)) = A ++ (quoB c ++ (quoL r ++ 34 :: R)) := by simp [quoL]
      conv => lhs; unfold qE
      by_cases h1 : c.toNat = 34 ∨ c.toNat = 92
      · have eq : quoB c = [92, c] := by unfold quoB; rw [if_pos h1]
        have b0 := byte_behind (A := A) (R := quoB c ++ (quoL r ++ 34 :: R)) (p := A.length) (j := 0) rfl (c := 92) (by rw [eq]; rfl)
        have b1 := byte_behind (A := A) (R := quoB c ++ (quoL r ++ 34 :: R)) (p := A.length) (j := 1) rfl (c := c) (by rw [eq]; rfl)
        rw [Nat.add_zero] at b0
        rw [e2, b0]
        have hesc : escE (A ++ (quoB c ++ (quoL r ++ 34 :: R))) A.length = .ok [c] (A.length + 2) := by
          unfold escE
          rw [b1]
          simp only [Rs.bind]
          unfold escOf
          have hv : escV c.toNat = some c := by
            unfold escV
            rcases h1 with h1 | h1
            · rw [if_pos h1]; congr 1; exact (UInt8.toNat_inj.1 h1).symm
            · rw [if_neg (by omega), if_pos h1]; congr 1; exact (UInt8.toNat_inj.1 h1).symm
          rw [hv]
        simp only [Rs.bind]
        rw [if_neg (by decide), if_pos (by decide), hesc]
        simp only
        rw [← e2, e1]
        congr 1
        rw [List.length_append, eq]; rfl
      · by_cases h2 : c.toNat < 32 ∨ c.toNat = 127
        · have eq : quoB c = [92, 117, 48, 48, hexC (c.toNat / 16), hexC (c.toNat % 16)] := by unfold quoB; rw [if_neg h1, if_pos h2]
          have bj := fun (j : Nat) (x : UInt8) (h : (quoB c ++ (quoL r ++ 34 :: R))[j]? = some x) => byte_behind (A := A) (p := A.length) rfl h
          have b0 := bj 0 92 (by rw [eq]; rfl)
          have b1 := bj 1 117 (by rw [eq]; rfl)
          have b2 := bj 2 48 (by rw [eq]; rfl)
          have b3 := bj 3 48 (by rw [eq]; rfl)
          have b4 := bj 4 (hexC (c.toNat / 16)) (by rw [eq]; rfl)
          have b5 := bj 5 (hexC (c.toNat % 16)) (by rw [eq]; rfl)
          rw [Nat.add_zero] at b0
          rw [e2, b0]
          have hu : unitE (A ++ (quoB c ++ (quoL r ++ 34 :: R))) A.length 4 (A.length + 2) 0 = .ok c.toNat (A.length + 6) := by
            unfold unitE
            rw [b2]
            simp only [Rs.bind]
            rw [show hexV (48 : UInt8).toNat = some 0 from rfl]
            simp only
            unfold unitE
            rw [show A.length + 2 + 1 = A.length + 3 by omega, b3]
            simp only [Rs.bind]
            rw [show hexV (48 : UInt8).toNat = some 0 from rfl]
            simp only
            unfold unitE
            rw [show A.length + 3 + 1 = A.length + 4 by omega, b4]
            simp only [Rs.bind]
            rw [hexV_C (by omega)]
            simp only
            unfold unitE
            rw [show A.length + 4 + 1 = A.length + 5 by omega, b5]
            simp only [Rs.bind]
            rw [hexV_C (by omega)]
            simp only
            unfold unitE
            congr 1
            omega
          have hcp : cpE (A ++ (quoB c ++ (quoL r ++ 34 :: R))) A.length (A.length + 2) = .ok c.toNat (A.length + 6) := by
            unfold cpE
            rw [hu]
            simp only [Rs.bind]
            rw [if_pos (by omega)]
          have hesc : escE (A ++ (quoB c ++ (quoL r ++ 34 :: R))) A.length = .ok [c] (A.length + 6) := by
            unfold escE
            rw [b1]
            simp only [Rs.bind]
            unfold escOf
            rw [show escV (117 : UInt8).toNat = none from rfl]
            simp only
            rw [if_pos (by decide), hcp]
            simp only [Rs.bind]
            congr 1
            unfold Lib.encodeRune
            rw [Lib.encodeRuneZ_one (by omega) (by omega)]
            simp
          simp only [Rs.bind]
          rw [if_neg (by decide), if_pos (by decide), hesc]
          simp only
          rw [← e2, e1]
          congr 1
          rw [List.length_append, eq]; rfl
        · have eq : quoB c = [c] := by unfold quoB; rw [if_neg h1, if_neg h2]
          have b0 := byte_behind (A := A) (R := quoB c ++ (quoL r ++ 34 :: R)) (p := A.length) (j := 0) rfl (c := c) (by rw [eq]; rfl)
          rw [Nat.add_zero] at b0
          rw [e2, b0]
          have hch : charE (A ++ (quoB c ++ (quoL r ++ 34 :: R))) A.length = .ok [c] (A.length + 1) := by
            have hd : decL (c :: (quoL r ++ 34 :: R)) = (c.toNat, 1) := by rw [decL_L (by simp), Lib.decodeL_ascii c _ hc]
            unfold charE
            rw [List.drop_left, eq, show [c] ++ (quoL r ++ 34 :: R) = c :: (quoL r ++ 34 :: R) from rfl, hd, if_neg (by simp only; omega)]
            rfl
          simp only [Rs.bind]
          rw [if_neg (by omega), if_neg (by omega), if_neg (by omega), hch]
          simp only
          rw [← e2, e1]
          congr 1
          rw [List.length_append, eq]; rfl
    · have hc2 : 128 ≤ c.toNat := by omega
      have eq : quoB c = [c] := by unfold quoB; rw [if_neg (by omega), if_neg (by omega)]
      have eL : quoL (c :: r) ++ 34 :: R = c :: (quoL r ++ 34 :: R) := by simp [quoL, eq]
      have b0 := byte_behind (A := A) (R := quoL (c :: r) ++ 34 :: R) (p := A.length) (j := 0) rfl (c := c) (by rw [eL]; rfl)
      rw [Nat.add_zero] at b0
      have hch : charE (A ++ (quoL (c :: r) ++ 34 :: R)) A.length = (if (Lib.decodeL (c :: r)).1 = 65533 ∧ (Lib.decodeL (c :: r)).2 = 1 then .bad A.length 11 else .ok ((c :: (quoL r ++ 34 :: R)).take (Lib.decodeL (c :: r)).2) (A.length + (Lib.decodeL (c :: r)).2)) := by
        unfold charE
        rw [List.drop_left, eL, decL_L (by simp), decode_quoR]
      have hq : qE (A ++ (quoL (c :: r) ++ 34 :: R)) (n + 1) A.length acc = (charE (A ++ (quoL (c :: r) ++ 34 :: R)) A.length).bind fun y q => qE (A ++ (quoL (c :: r) ++ 34 :: R)) n q (acc ++ y) := by
        conv => lhs; unfold qE
        rw [b0]
        simp only [Rs.bind]
        rw [if_neg (by omega), if_neg (by omega), if_neg (by omega)]
      rw [Lib.validD_step (c :: r) (by simp)] at hv
      rw [hq, hch]
      by_cases hb : (Lib.decodeL (c :: r)).1 = 65533 ∧ (Lib.decodeL (c :: r)).2 = 1
      · rw [if_pos hb] at hv; cases hv
      · rw [if_neg hb] at hv
        rw [if_neg hb]
        obtain ⟨w1, w2, w3⟩ := wide_high hc2 hb
        obtain ⟨k, hk⟩ : ∃ k, k = (Lib.decodeL (c :: r)).2 := ⟨_, rfl⟩
        rw [← hk] at w1 w2 w3 hv ⊢
        have hqk := quoL_high k w1
        have e3 : c :: (quoL r ++ 34 :: R) = (c :: r).take k ++ (quoL ((c :: r).drop k) ++ 34 :: R) := by rw [← eL, hqk]; simp
        have htk : ((c :: r).take k).length = k := by rw [List.length_take]; omega
        have e4 : (c :: (quoL r ++ 34 :: R)).take k = (c :: r).take k := by rw [e3, List.take_left' htk]
        have e5 : A ++ (quoL (c :: r) ++ 34 :: R) = (A ++ (c :: r).take k) ++ (quoL ((c :: r).drop k) ++ 34 :: R) := by rw [eL, e3]; simp
        have e6 : A.length + k = (A ++ (c :: r).take k).length := by rw [List.length_append, htk]
        simp only [Rs.bind]
        rw [e4, e5, e6]
        have ih := read_quotedR R m ((c :: r).drop k) (A ++ (c :: r).take k) (acc ++ (c :: r).take k) n (by rw [List.length_drop, List.length_cons]; omega) (by rw [List.length_drop, List.length_cons]; omega) hv
        rw [ih, List.append_assoc, List.take_append_drop, hqk]
        simp only [List.length_append, htk]
        congr 1
        omega


/-- a quoted text is read where it stands -/
theorem quotedE_at {s t R : List UInt8} {p : Nat} (hp : p ≤ s.length) (hs : s.drop p = quoteB t ++ R) (hv : Lib.validD t = true) : quotedE s p = .ok t (p + (quoteB t).length) := by
  have hq := quoL_ge t
  have hlen : s.length = p + ((quoL t).length + 2 + R.length) := by
    have := congrArg List.length hs
    rw [List.length_drop] at this
    unfold quoteB at this
    simp only [List.length_append, List.length_cons, List.length_nil] at this
    omega
  have e : s = (s.take p ++ [34]) ++ (quoL t ++ 34 :: R) := by
    conv => lhs; rw [← List.take_append_drop p s, hs]
    simp [quoteB]
  have hl : (s.take p ++ [34]).length = p + 1 := by rw [List.length_append, List.length_take]; simp; omega
  have h := read_quotedR R t.length t (s.take p ++ [34]) [] (s.length + 1) (Nat.le_refl _) (by omega) hv
  rw [hl, ← e] at h
  unfold quotedE
  rw [h, List.nil_append]
  unfold quoteB
  congr 1
  simp only [List.length_append, List.length_cons, List.length_nil]
  omega
end Go.Proofs.YtdhkpkojnokjdaaDoor

/-
  A printed value's text read back.
-/
namespace Go.Proofs.YtdhkpkojnokjdaaDoor
open Go.RowKit Go.Shelf Sorted
set_option linter.unusedVariables false
set_option linter.unusedSimpArgs false

mutual
/-- what a printed value's text is read as -/
def readG : GV → JV
  | .mk k t l ns => if k = 1 then .plain 1 else if k = 2 then .plain 2 else if k = 3 then .num t else if k = 4 then .str t else if k = 5 then .arr (readL l)
    else if k = 6 then .obj (sortN ns) ((ordN ns).map fun i => (readL l).getD i (.plain 0)) else .plain 0
def readL : List GV → List JV
  | [] => []
  | x :: r => readG x :: readL r
end
theorem readL_map : ∀ l, readL l = l.map readG
  | [] => by rw [readL]; rfl
  | x :: r => by rw [readL, readL_map r]; rfl

variable {s : List UInt8}
theorem byteE_drop {p : Nat} {c : UInt8} {r : List UInt8} (h : s.drop p = c :: r) : byteE s p = .ok c.toNat p := by
  have : s[p]? = some c := by
    have h2 : (s.drop p)[0]? = some c := by rw [h]; rfl
    rw [List.getElem?_drop] at h2
    simpa using h2
  unfold byteE
  rw [this]
theorem skip_none {p : Nat} {c : UInt8} {r : List UInt8} (h : s.drop p = c :: r) (hb : blankL.contains c = false) : skipE blankL s p = p := by
  unfold skipE
  rw [h, List.takeWhile_cons_of_neg (by rw [hb]; decide)]
  rfl
theorem kindE_drop {p : Nat} {c : UInt8} {r : List UInt8} (h : s.drop p = c :: r) (hb : blankL.contains c = false) : kindE s p = kindOf c.toNat p := by
  unfold kindE
  rw [skip_none h hb, byteE_drop h]; rfl
theorem endsE_drop {p k : Nat} {c : UInt8} {r : List UInt8} (h : s.drop p = c :: r) (hb : blankL.contains c = false) : endsE k s p = if c.toNat = k then .ok true (p + 1) else .ok false p := by
  unfold endsE
  rw [skip_none h hb, byteE_drop h]; rfl
theorem markE_drop {p : Nat} {c : UInt8} {r : List UInt8} (h : s.drop p = c :: r) (hb : blankL.contains c = false) : markE c.toNat s p = .ok () (p + 1) := by
  unfold markE
  rw [skip_none h hb, byteE_drop h]
  simp only [Rs.bind, if_true]
theorem drop_add {p : Nat} {T U : List UInt8} (h : s.drop p = T ++ U) : s.drop (p + T.length) = U := by rw [← List.drop_drop, h, List.drop_left]
theorem drop_one {p : Nat} {c : UInt8} {U : List UInt8} (h : s.drop p = c :: U) : s.drop (p + 1) = U := drop_add (T := [c]) h
theorem drop_le {p : Nat} {T U : List UInt8} (hp : p ≤ s.length) (h : s.drop p = T ++ U) : p + T.length ≤ s.length := by
  have := congrArg List.length h
  rw [List.length_drop, List.length_append] at this
  omega
theorem wordE_drop : ∀ {t R : List UInt8} {p : Nat}, s.drop p = t ++ R → wordE s t p = .ok () (p + t.length)
  | [], R, p, h => rfl
  | x :: t, R, p, h => by
    unfold wordE
    rw [byteE_drop h]
    simp only [Rs.bind, if_true]
    rw [wordE_drop (drop_one h), List.length_cons]
    congr 1
    omega

/-- a value whose text is read back -/
def Reads (x : GV) (d : Nat) : Prop := ∀ (s R : List UInt8) (p a n : Nat), s.drop p = textG ordN x ++ R → p ≤ s.length → Ends R → a < 1000 → 2 * (textG ordN x).length + 1 ≤ n → valueE s n p d a = .ok (readG x) (p + (textG ordN x).length)
/-- no text begins with a blank or the end of a list -/
def Heads (t : List UInt8) : Prop := ∃ c r, t = c :: r ∧ blankL.contains c = false ∧ c ≠ 93 ∧ c ≠ 125

theorem own_parts {tw : List (List UInt8) → Bool} {k : Int} {t : List UInt8} {n d : Nat} {ns : List (List UInt8)} (h : ownE tw k t n ns d = 0) : (0 ≤ k ∧ k ≤ 6) ∧ formG k t n ns = true ∧ (k = 5 ∨ k = 6 → d < 32 ∧ n ≤ 1000) ∧ (k = 6 → tw ns = false) := by
  unfold ownE at h
  split at h
  · omega
  · rename_i h1
    split at h
    · omega
    · rename_i h2
      refine ⟨by omega, by simpa using h2, fun hk => ?_, fun hk => ?_⟩
      · split at h
        · rename_i h3; exact absurd hk h3
        · split at h
          · omega
          · split at h
            · omega
            · omega
      · split at h
        · rename_i h3; exact absurd (Or.inr hk) h3
        · split at h
          · omega
          · split at h
            · omega
            · split at h
              · omega
              · rename_i h4
                cases hw : tw ns with
                | false => rfl
                | true => exact absurd ⟨hk, hw⟩ h4
theorem err_parts {tw : List (List UInt8) → Bool} {k : Int} {t : List UInt8} {l : List GV} {ns : List (List UInt8)} {d : Nat} (h : errG tw (.mk k t l ns) d = 0) : ownE tw k t l.length ns d = 0 ∧ (k = 5 ∨ k = 6 → errL tw l (d + 1) = 0) := by
  rw [errG] at h
  split at h
  · rename_i h1; exact absurd h h1
  · rename_i h1
    refine ⟨by omega, fun hk => ?_⟩
    rwa [if_pos hk] at h
theorem errL_mem {tw : List (List UInt8) → Bool} {d : Nat} : ∀ {l : List GV}, errL tw l d = 0 → ∀ x ∈ l, errG tw x d = 0
  | [], _, x, hx => by simp at hx
  | y :: l, h, x, hx => by
    rw [errL] at h
    split at h
    · rename_i h1; exact absurd h h1
    · rename_i h1
      rcases List.mem_cons.1 hx with rfl | hx
      · omega
      · exact errL_mem h x hx

theorem kinds_of {k : Int} (h : 0 ≤ k ∧ k ≤ 6) : k = 0 ∨ k = 1 ∨ k = 2 ∨ k = 3 ∨ k = 4 ∨ k = 5 ∨ k = 6 := by omega
theorem heads_of {x : GV} {d : Nat} (h : errG (twG ordN) x d = 0) : Heads (textG ordN x) := by
  obtain ⟨k, t, l, ns⟩ := x
  obtain ⟨h1, -⟩ := err_parts h
  obtain ⟨hk, hf, -⟩ := own_parts h1
  rcases kinds_of hk with rfl | rfl | rfl | rfl | rfl | rfl | rfl
  · exact ⟨110, _, by simp [textG]; rfl, by decide, by decide, by decide⟩
  · exact ⟨102, _, by simp [textG]; rfl, by decide, by decide, by decide⟩
  · exact ⟨116, _, by simp [textG]; rfl, by decide, by decide, by decide⟩
  · have hl : isLitB t = true := by simpa [formG] using hf
    unfold isLitB at hl
    simp only [Bool.and_eq_true] at hl
    obtain ⟨c, r, e, hc⟩ := lit_head hl.1.1
    refine ⟨c, r, by simp [textG]; exact e, ?_, ?_, ?_⟩
    · rw [Bool.eq_false_iff]
      intro hb
      have := List.contains_iff_mem.1 hb
      simp only [List.mem_cons, List.not_mem_nil, or_false] at this
      rcases this with rfl | rfl | rfl | rfl <;> revert hc <;> decide
    · rintro rfl; revert hc; decide
    · rintro rfl; revert hc; decide
  · exact ⟨34, _, by simp [textG, quoteB]; rfl, by decide, by decide, by decide⟩
  · exact ⟨91, _, by simp [textG]; rfl, by decide, by decide, by decide⟩
  · exact ⟨123, _, by simp [textG]; rfl, by decide, by decide, by decide⟩

theorem joinB_two (x y : List UInt8) (r : List (List UInt8)) : joinB (x :: y :: r) = x ++ 44 :: joinB (y :: r) := by simp [joinB]
theorem joinB_one (x : List UInt8) : joinB [x] = x := by simp [joinB]

theorem read_elems : ∀ (l : List GV) (s R : List UInt8) (p d n : Nat) (acc : List JV), l ≠ [] → (∀ x ∈ l, Reads x d) → s.drop p = joinB (l.map (textG ordN)) ++ 93 :: R → p ≤ s.length → acc.length + l.length ≤ 1000 → 2 * (joinB (l.map (textG ordN))).length + 2 ≤ n →
    elemE s n p d acc = .ok (acc ++ l.map readG) (p + (joinB (l.map (textG ordN))).length + 1)
  | [], s, R, p, d, n, acc, hne, _, _, _, _, _ => absurd rfl hne
  | x :: r, s, R, p, d, 0, acc, _, _, _, _, _, hn => absurd hn (by omega)
  | [x], s, R, p, d, n + 1, acc, _, hr, hs, hp, ha, hn => by
    simp only [List.map_cons, List.map_nil, joinB_one, List.length_singleton, List.length_cons, List.length_nil] at hs ha hn ⊢
    have h1 := hr x (List.mem_cons_self ..) s (93 :: R) p acc.length n hs hp (Ends.arr R) (by omega) (by omega)
    have h2 := drop_add hs
    unfold elemE
    rw [h1]
    simp only [Rs.bind]
    rw [endsE_drop h2 (by decide), if_pos (by decide)]
    simp only [if_true]
  | x :: y :: r, s, R, p, d, n + 1, acc, _, hr, hs, hp, ha, hn => by
    have hj : joinB ((x :: y :: r).map (textG ordN)) = textG ordN x ++ 44 :: joinB ((y :: r).map (textG ordN)) := by simp only [List.map_cons]; exact joinB_two _ _ _
    rw [hj] at hs hn ⊢
    simp only [List.length_append, List.length_cons] at ha hn ⊢
    rw [List.append_assoc, List.cons_append] at hs
    have h1 := hr x (List.mem_cons_self ..) s (44 :: (joinB ((y :: r).map (textG ordN)) ++ 93 :: R)) p acc.length n hs hp (Ends.comma _) (by omega) (by omega)
    have h2 := drop_add hs
    have h3 := drop_one h2
    have hp2 := drop_le hp hs
    have hp3 : p + (textG ordN x).length + 1 ≤ s.length := drop_le (T := [44]) hp2 h2
    have ih := read_elems (y :: r) s R (p + (textG ordN x).length + 1) d n (acc ++ [readG x]) (by simp) (fun z hz => hr z (List.mem_cons_of_mem _ hz)) h3 hp3 (by simp only [List.length_append, List.length_cons, List.length_nil]; omega) (by omega)
    unfold elemE
    rw [h1]
    simp only [Rs.bind]
    rw [endsE_drop h2 (by decide), if_neg (by decide)]
    simp only [Bool.false_eq_true, if_false]
    rw [show (44 : Nat) = (44 : UInt8).toNat from rfl, markE_drop h2 (by decide)]
    simp only
    rw [ih]
    simp only [List.map_cons, List.append_assoc, List.cons_append, List.nil_append]
    congr 1
    omega

theorem nameE_at {p : Nat} {t R : List UInt8} {ns : List (List UInt8)} (hp : p ≤ s.length) (hs : s.drop p = quoteB t ++ R) (hv : Lib.validD t = true) (hn : ns.length < 1000) (ht : ¬ t ∈ ns) : nameE s p ns = .ok t (p + (quoteB t).length) := by
  have h2 : s.drop p = 34 :: (quoL t ++ [34] ++ R) := by rw [hs]; rfl
  unfold nameE
  rw [skip_none h2 (by decide), byteE_drop h2]
  simp only [Rs.bind]
  unfold nameOf
  rw [if_pos (by decide), if_neg (by simp; omega), quotedE_at hp hs hv]
  simp only [Rs.bind]
  rw [if_neg (by rw [List.contains_iff_mem]; exact ht)]

theorem read_membs (l : List GV) (ns : List (List UInt8)) : ∀ (I : List Nat) (s R : List UInt8) (p d n : Nat) (ns0 : List (List UInt8)) (acc : List JV), I ≠ [] →
    (∀ i ∈ I, i < l.length ∧ Reads (l.getD i gv0) d ∧ Lib.validD (ns.getD i []) = true) → (ns0 ++ I.map fun i => ns.getD i []).Nodup → s.drop p = joinB (I.map (memG ordN l ns)) ++ 125 :: R → p ≤ s.length → ns0.length + I.length ≤ 1000 → 2 * (joinB (I.map (memG ordN l ns))).length + 2 ≤ n →
    membE s n p d ns0 acc = .ok (ns0 ++ I.map (fun i => ns.getD i []), acc ++ I.map fun i => (readL l).getD i (.plain 0)) (p + (joinB (I.map (memG ordN l ns))).length + 1)
  | [], s, R, p, d, n, ns0, acc, hne, _, _, _, _, _, _ => absurd rfl hne
  | i :: I, s, R, p, d, 0, ns0, acc, _, _, _, _, _, _, hn => absurd hn (by omega)
  | i :: I, s, R, p, d, n + 1, ns0, acc, _, hI, hnd, hs, hp, ha, hn => by
    obtain ⟨hi, hr, hv⟩ := hI i (List.mem_cons_self ..)
    obtain ⟨t, ht⟩ : ∃ t, t = ns.getD i [] := ⟨_, rfl⟩
    obtain ⟨x, hx⟩ : ∃ x, x = l.getD i gv0 := ⟨_, rfl⟩
    have hm : memG ordN l ns i = quoteB t ++ 58 :: textG ordN x := by
      unfold memG
      rw [textL_map, ← ht, hx]
      congr 2
      simp [List.getD, hi]
    have hrx : (readL l).getD i (.plain 0) = readG x := by rw [readL_map, hx]; simp [List.getD, hi]
    rw [← ht] at hv
    rw [← hx] at hr
    have hta : ¬ t ∈ ns0 := by
      intro h
      rw [List.map_cons, ← ht, List.nodup_append] at hnd
      exact hnd.2.2 t h t (List.mem_cons_self ..) rfl
    have hnd2 : ((ns0 ++ [t]) ++ I.map fun i => ns.getD i []).Nodup := by
      rw [List.map_cons, ← ht] at hnd
      rwa [List.append_assoc, List.singleton_append]
    simp only [List.length_cons] at ha
    -- the text behind: an end, or a comma and the others
    cases hIe : I with
    | nil =>
      subst hIe
      simp only [List.map_cons, List.map_nil, joinB_one, hm, ← ht, hrx] at hs hn ⊢
      simp only [List.length_append, List.length_cons] at hn ⊢
      rw [List.append_assoc, List.cons_append] at hs
      have g1 := nameE_at hp hs hv (by omega : ns0.length < 1000) hta
      have d1 := drop_add hs
      have q1 := drop_le hp hs
      have d2 := drop_one d1
      have q2 : p + (quoteB t).length + 1 ≤ s.length := drop_le (T := [58]) q1 d1
      have g2 := hr s (125 :: R) _ 0 n d2 q2 (Ends.obj R) (by omega) (by omega)
      have d3 := drop_add d2
      unfold membE
      rw [g1]
      simp only [Rs.bind]
      rw [show (58 : Nat) = (58 : UInt8).toNat from rfl, markE_drop d1 (by decide)]
      simp only
      rw [g2]
      simp only
      rw [endsE_drop d3 (by decide), if_pos (by decide)]
      simp only [if_true]
      congr 1
      omega
    | cons j J =>
      have hj : joinB ((i :: I).map (memG ordN l ns)) = (quoteB t ++ 58 :: textG ordN x) ++ 44 :: joinB (I.map (memG ordN l ns)) := by
        rw [hIe, ← hm]; simp only [List.map_cons]; exact joinB_two _ _ _
      rw [← hIe]
      rw [hj] at hs hn ⊢
      simp only [List.length_append, List.length_cons] at hn ⊢
      simp only [List.append_assoc, List.cons_append] at hs
      have g1 := nameE_at hp hs hv (by omega : ns0.length < 1000) hta
      have d1 := drop_add hs
      have q1 := drop_le hp hs
      have d2 := drop_one d1
      have q2 : p + (quoteB t).length + 1 ≤ s.length := drop_le (T := [58]) q1 d1
      have g2 := hr s _ _ 0 n d2 q2 (Ends.comma _) (by omega) (by omega)
      have d3 := drop_add d2
      have q3 := drop_le q2 d2
      have d4 := drop_one d3
      have q4 : p + (quoteB t).length + 1 + (textG ordN x).length + 1 ≤ s.length := drop_le (T := [44]) q3 d3
      have ih := read_membs l ns I s R _ d n (ns0 ++ [t]) (acc ++ [readG x]) (by rw [hIe]; simp) (fun z hz => hI z (List.mem_cons_of_mem _ hz)) hnd2 d4 q4 (by simp only [List.length_append, List.length_cons, List.length_nil]; omega) (by omega)
      unfold membE
      rw [g1]
      simp only [Rs.bind]
      rw [show (58 : Nat) = (58 : UInt8).toNat from rfl, markE_drop d1 (by decide)]
      simp only
      rw [g2]
      simp only
      rw [endsE_drop d3 (by decide), if_neg (by decide)]
      simp only [Bool.false_eq_true, if_false]
      rw [show (44 : Nat) = (44 : UInt8).toNat from rfl, markE_drop d3 (by decide)]
      simp only
      rw [ih]
      simp only [List.map_cons, ← ht, hrx, List.append_assoc, List.cons_append, List.nil_append]
      congr 1
      omega

theorem limE_is {p k d a : Nat} (h3 : k = 3 → longB s p = false) (h5 : k = 5 ∨ k = 6 → d < 32) (ha : a < 1000) : limE s p k d a = .ok () p := by
  unfold limE
  rw [if_neg (by
    simp only [Bool.and_eq_true, beq_iff_eq]
    rintro ⟨rfl, h⟩
    rw [h3 rfl] at h; cases h), if_neg (by
    simp only [Bool.and_eq_true, Bool.or_eq_true, beq_iff_eq, decide_eq_true_eq]
    rintro ⟨h, h'⟩
    have := h5 h; omega), if_neg (by simp; omega)]

theorem reads_any : ∀ (m : Nat) (x : GV) (d : Nat), SizeOf.sizeOf x ≤ m → errG (twG ordN) x d = 0 → Reads x d
  | 0, x, d, hm, h => by cases x; simp at hm
  | m + 1, .mk k t l ns, d, hm, h => by
    obtain ⟨h1, h2⟩ := err_parts h
    obtain ⟨hk, hf, hd, htw⟩ := own_parts h1
    intro s R p a n hs hp hR ha hn
    obtain ⟨n, rfl⟩ : ∃ j, n = j + 1 := ⟨n - 1, by omega⟩
    obtain ⟨c, r, he, hb, -, -⟩ := heads_of h
    have hs0 : s.drop p = c :: (r ++ R) := by rw [hs, he]; rfl
    have hkind := kindE_drop hs0 hb
    have ih : k = 5 ∨ k = 6 → ∀ x ∈ l, Reads x (d + 1) := fun hk5 x hx => reads_any m x (d + 1) (by
      have := List.sizeOf_lt_of_mem hx
      simp at hm
      omega) (errL_mem (h2 hk5) x hx)
    have ihh : k = 5 ∨ k = 6 → ∀ x ∈ l, Heads (textG ordN x) := fun hk5 x hx => heads_of (errL_mem (h2 hk5) x hx)
    rcases kinds_of hk with rfl | rfl | rfl | rfl | rfl | rfl | rfl
    · have e : textG ordN (.mk 0 t l ns) = [110, 117, 108, 108] := by simp [textG]
      have er : readG (.mk 0 t l ns) = .plain 0 := by simp [readG]
      rw [e] at he hs hn ⊢
      simp only [List.cons.injEq] at he
      rw [← he.1] at hkind
      rw [er]
      unfold valueE
      rw [hkind, show kindOf (110 : UInt8).toNat p = .ok 0 p from rfl]
      simp only [Rs.bind]
      rw [limE_is (by omega) (by omega) ha]
      simp only [if_true]
      rw [wordE_drop hs]
    · have e : textG ordN (.mk 1 t l ns) = [102, 97, 108, 115, 101] := by simp [textG]
      have er : readG (.mk 1 t l ns) = .plain 1 := by simp [readG]
      rw [e] at he hs hn ⊢
      simp only [List.cons.injEq] at he
      rw [← he.1] at hkind
      rw [er]
      unfold valueE
      rw [hkind, show kindOf (102 : UInt8).toNat p = .ok 1 p from rfl]
      simp only [Rs.bind]
      rw [limE_is (by omega) (by omega) ha]
      simp only
      rw [if_neg (by decide), if_pos trivial, wordE_drop hs]
    · have e : textG ordN (.mk 2 t l ns) = [116, 114, 117, 101] := by simp [textG]
      have er : readG (.mk 2 t l ns) = .plain 2 := by simp [readG]
      rw [e] at he hs hn ⊢
      simp only [List.cons.injEq] at he
      rw [← he.1] at hkind
      rw [er]
      unfold valueE
      rw [hkind, show kindOf (116 : UInt8).toNat p = .ok 2 p from rfl]
      simp only [Rs.bind]
      rw [limE_is (by omega) (by omega) ha]
      simp only
      rw [if_neg (by decide), if_neg (by decide), if_pos trivial, wordE_drop hs]
    · have e : textG ordN (.mk 3 t l ns) = t := by simp [textG]
      have er : readG (.mk 3 t l ns) = .num t := by simp [readG]
      have hl : isLitB t = true := by simpa [formG] using hf
      rw [e] at he hs hn ⊢
      obtain ⟨l1, l2⟩ := literalE_at hR hs hl
      have hkc : kindOf c.toNat p = .ok 3 p := by
        unfold isLitB at hl
        simp only [Bool.and_eq_true] at hl
        obtain ⟨c', r', e', hc⟩ := lit_head hl.1.1
        rw [he] at e'
        simp only [List.cons.injEq] at e'
        rw [← e'.1] at hc
        unfold kindOf
        rw [if_neg (by omega), if_neg (by omega), if_neg (by omega), if_neg (by omega), if_neg (by omega), if_neg (by omega), if_pos (by omega)]
      rw [er]
      unfold valueE
      rw [hkind, hkc]
      simp only [Rs.bind]
      rw [limE_is (fun _ => l2) (by omega) ha]
      simp only
      rw [if_neg (by decide), if_neg (by decide), if_neg (by decide), if_pos trivial, l1]
    · have e : textG ordN (.mk 4 t l ns) = quoteB t := by simp [textG]
      have er : readG (.mk 4 t l ns) = .str t := by simp [readG]
      have hv : Lib.validD t = true := by simpa [formG] using hf
      rw [e] at he hs hn ⊢
      have hq := quotedE_at hp hs hv
      have hc : c = 34 := by unfold quoteB at he; simp only [List.cons.injEq] at he; exact he.1.symm
      rw [hc] at hkind
      rw [er]
      unfold valueE
      rw [hkind, show kindOf (34 : UInt8).toNat p = .ok 4 p from rfl]
      simp only [Rs.bind]
      rw [limE_is (by omega) (by omega) ha]
      simp only
      rw [if_neg (by decide), if_neg (by decide), if_neg (by decide), if_neg (by decide), if_pos trivial, hq]
    · have e : textG ordN (.mk 5 t l ns) = 91 :: (joinB (l.map (textG ordN)) ++ [93]) := by simp [textG, textL_map]
      have er : readG (.mk 5 t l ns) = .arr (l.map readG) := by simp [readG, readL_map]
      rw [e] at he hs hn ⊢
      simp only [List.cons.injEq] at he
      rw [← he.1] at hkind
      have hs1 : s.drop p = 91 :: (joinB (l.map (textG ordN)) ++ 93 :: R) := by rw [hs]; simp
      have hs2 := drop_one hs1
      have hp2 : p + 1 ≤ s.length := drop_le (T := [91]) hp hs1
      have h5 := (hd (Or.inl rfl))
      have hel : ((endsE 93 s (p + 1)).bind fun b r => if b = true then .ok [] r else elemE s n r (d + 1) []) = .ok (l.map readG) (p + ((91 :: (joinB (l.map (textG ordN)) ++ [93])) : List UInt8).length) := by
        simp only [List.length_cons, List.length_append, List.length_nil] at hn ⊢
        cases hl : l with
        | nil =>
          subst hl
          rw [endsE_drop hs2 (by decide), if_pos (by decide)]
          simp [Rs.bind, joinB]
        | cons y q =>
          obtain ⟨c2, r2, e2, b2, b3, -⟩ := ihh (Or.inl rfl) y (by rw [hl]; exact List.mem_cons_self ..)
          have hne : l ≠ [] := by rw [hl]; simp
          have hhead : s.drop (p + 1) = c2 :: ((r2 ++ q.flatMap fun z => 44 :: textG ordN z) ++ 93 :: R) := by
            rw [hs2, hl, List.map_cons, joinB, e2, List.flatMap_map]; simp
          rw [← hl, endsE_drop hhead b2, if_neg (show ¬ c2.toNat = 93 from fun h => b3 (UInt8.toNat_inj.1 h))]
          simp only [Rs.bind, Bool.false_eq_true, if_false]
          rw [read_elems l s R (p + 1) (d + 1) n [] hne (ih (Or.inl rfl)) hs2 hp2 (by simp only [List.length_nil]; omega) (by omega)]
          rw [List.nil_append]
          congr 1
          omega
      rw [er]
      unfold valueE
      rw [hkind, show kindOf (91 : UInt8).toNat p = .ok 5 p from rfl]
      simp only [Rs.bind]
      rw [limE_is (by omega) (fun _ => h5.1) ha]
      simp only
      rw [if_neg (by decide), if_neg (by decide), if_neg (by decide), if_neg (by decide), if_neg (by decide), if_pos trivial]
      have hel2 := hel
      simp only [Rs.bind] at hel2
      rw [hel2]
    · have hln : ns.length = l.length ∧ ns.any badName = false := by
        simp [formG] at hf
        exact ⟨hf.1, by rw [List.any_eq_false]; intro z hz; rw [hf.2 z hz]; decide⟩
      have e : textG ordN (.mk 6 t l ns) = 123 :: (joinB ((ordN ns).map (memG ordN l ns)) ++ [125]) := by rw [textG]; simp; rfl
      have er : readG (.mk 6 t l ns) = .obj (sortN ns) ((ordN ns).map fun i => (readL l).getD i (.plain 0)) := by simp [readG]
      rw [e] at he hs hn ⊢
      simp only [List.cons.injEq] at he
      rw [← he.1] at hkind
      have hs1 : s.drop p = 123 :: (joinB ((ordN ns).map (memG ordN l ns)) ++ 125 :: R) := by rw [hs]; simp
      have hs2 := drop_one hs1
      have hp2 : p + 1 ≤ s.length := drop_le (T := [123]) hp hs1
      have h5 := (hd (Or.inr rfl))
      have hnd := nodup_twG (htw rfl)
      have hIl : (ordN ns).length = ns.length := ordN_len ns
      have hel : ((endsE 125 s (p + 1)).bind fun b r => if b = true then .ok ([], []) r else membE s n r (d + 1) [] []) = .ok (sortN ns, (ordN ns).map fun i => (readL l).getD i (.plain 0)) (p + ((123 :: (joinB ((ordN ns).map (memG ordN l ns)) ++ [125])) : List UInt8).length) := by
        simp only [List.length_cons, List.length_append, List.length_nil] at hn ⊢
        cases hl : ordN ns with
        | nil =>
          rw [hl] at hs2
          rw [endsE_drop hs2 (by decide), if_pos (by decide)]
          simp [Rs.bind, joinB, sortN, hl]
        | cons y q =>
          have hne : ordN ns ≠ [] := by rw [hl]; simp
          have hhead : s.drop (p + 1) = 34 :: (((quoL (ns.getD y []) ++ [34] ++ 58 :: (textL ordN l).getD y []) ++ (q.map (memG ordN l ns)).flatMap fun z => 44 :: z) ++ 125 :: R) := by
            rw [hs2, hl, List.map_cons, joinB, memG, quoteB]; simp
          rw [← hl, endsE_drop hhead (by decide), if_neg (by decide)]
          simp only [Rs.bind, Bool.false_eq_true, if_false]
          have hI : ∀ i ∈ ordN ns, i < l.length ∧ Reads (l.getD i gv0) (d + 1) ∧ Lib.validD (ns.getD i []) = true := fun i hi => by
            have hin := ordN_in hi
            have hil : i < l.length := by omega
            refine ⟨hil, ?_, ?_⟩
            · rw [getG hil]; exact ih (Or.inr rfl) _ (List.getElem_mem hil)
            · rw [getD_in hin]
              have := List.any_eq_false.1 hln.2 ns[i] (List.getElem_mem hin)
              simpa [badName] using this
          rw [read_membs l ns (ordN ns) s R (p + 1) (d + 1) n [] [] hne hI (by rw [List.nil_append]; exact hnd) hs2 hp2 (by simp only [List.length_nil]; omega) (by omega)]
          rw [List.nil_append, List.nil_append]
          congr 1
          omega
      rw [er]
      unfold valueE
      rw [hkind, show kindOf (123 : UInt8).toNat p = .ok 6 p from rfl]
      simp only [Rs.bind]
      rw [limE_is (by omega) (fun _ => h5.1) ha]
      simp only
      rw [if_neg (by decide), if_neg (by decide), if_neg (by decide), if_neg (by decide), if_neg (by decide), if_neg (by decide)]
      have hel2 := hel
      simp only [Rs.bind] at hel2
      rw [hel2]

/-- a printed value's text is read back -/
theorem parse_text {x : GV} (h : errG (twG ordN) x 0 = 0) : parseE (textG ordN x) = .ok (readG x) (textG ordN x).length := by
  have := reads_any _ x 0 (Nat.le_refl _) h (textG ordN x) [] 0 0 (2 * (textG ordN x).length + 10) (by simp) (Nat.zero_le _) Ends.nil (by decide) (by omega)
  unfold parseE
  rw [this]
  simp only [Rs.bind, Nat.zero_add]
  rw [skipE_end (Nat.le_refl _), if_neg (Nat.lt_irrefl _)]
end Go.Proofs.YtdhkpkojnokjdaaDoor

/-
  What a printed text is read as: printed, it is the same text; held against the value, it is the same.
-/
namespace Go.Proofs.YtdhkpkojnokjdaaDoor
open Go.RowKit Go.Shelf Sorted
set_option linter.unusedVariables false
set_option linter.unusedSimpArgs false

theorem read_kind {k : Int} {t : List UInt8} {l : List GV} {ns : List (List UInt8)} (hk : 0 ≤ k ∧ k ≤ 6) : toG (readG (.mk k t l ns)) = .mk k (if k = 3 ∨ k = 4 then t else []) (if k = 5 then (l.map readG).map toG else if k = 6 then ((ordN ns).map fun i => (readL l).getD i (.plain 0)).map toG else []) (if k = 6 then sortN ns else []) := by
  rcases kinds_of hk with rfl | rfl | rfl | rfl | rfl | rfl | rfl
  · simp [readG, toG]
  · simp [readG, toG]
  · simp [readG, toG]
  · simp [readG, toG]
  · simp [readG, toG]
  · simp [readG, toG_arr, readL_map]
  · simp [readG, toG_obj]

theorem sortN_at {ns : List (List UInt8)} {j : Nat} (h : j < (ordN ns).length) : (sortN ns).getD j [] = ns.getD (ordN ns)[j] [] := by
  unfold sortN
  simp only [List.getD, List.getElem?_map, List.getElem?_eq_getElem h, Option.map_some, Option.getD_some]

theorem tx_read : ∀ (m : Nat) (x : GV) (d : Nat), SizeOf.sizeOf x ≤ m → errG (twG ordN) x d = 0 → textG ordN (toG (readG x)) = textG ordN x
  | 0, x, d, hm, h => by cases x; simp at hm
  | m + 1, .mk k t l ns, d, hm, h => by
    obtain ⟨h1, h2⟩ := err_parts h
    obtain ⟨hk, hf, hd, htw⟩ := own_parts h1
    have ih : k = 5 ∨ k = 6 → ∀ x ∈ l, textG ordN (toG (readG x)) = textG ordN x := fun hk5 x hx => tx_read m x (d + 1) (by
      have := List.sizeOf_lt_of_mem hx
      simp at hm
      omega) (errL_mem (h2 hk5) x hx)
    rw [read_kind hk]
    rcases kinds_of hk with rfl | rfl | rfl | rfl | rfl | rfl | rfl
    · simp [textG]
    · simp [textG]
    · simp [textG]
    · simp [textG]
    · simp [textG]
    · have e : textL ordN ((l.map readG).map toG) = textL ordN l := by
        rw [textL_map, textL_map, List.map_map, List.map_map]
        exact List.map_congr_left fun x hx => ih (Or.inl rfl) x hx
      rw [textG, textG]
      simp [e]
      rw [← List.map_map, e]
    · have hln : ns.length = l.length := by simp [formG] at hf; exact hf.1
      have key : ∀ j (b : j < (ordN ns).length) i, (ordN ns)[j] = i → memG ordN (((ordN ns).map fun i => (readL l).getD i (.plain 0)).map toG) (sortN ns) j = memG ordN l ns i := fun j b i hi => by
        have hin := ordN_in (List.getElem_mem b)
        rw [hi] at hin
        have hil : i < l.length := by omega
        unfold memG
        rw [sortN_at b, hi]
        congr 2
        rw [textL_map, textL_map, List.map_map, List.map_map, readL_map]
        simp only [List.getD, List.getElem?_map, List.getElem?_eq_getElem b, Option.map_some, Function.comp, Option.getD_some, hi, List.getElem?_eq_getElem hil]
        exact ih (Or.inr rfl) _ (List.getElem_mem hil)
      have e : (ordN (sortN ns)).map (memG ordN (((ordN ns).map fun i => (readL l).getD i (.plain 0)).map toG) (sortN ns)) = (ordN ns).map (memG ordN l ns) := by
        rw [ordN_sortN]
        apply List.ext_getElem
        · simp [ordN_len]
        · intro j a b
          have b' : j < (ordN ns).length := by simpa using b
          rw [List.getElem_map, List.getElem_map, List.getElem_range', Nat.zero_add, Nat.one_mul]
          exact key j b' _ rfl
      have e1 : textG ordN (.mk 6 t l ns) = 123 :: (joinB ((ordN ns).map (memG ordN l ns)) ++ [125]) := by rw [textG]; simp; rfl
      have e2 : ∀ t' L N, textG ordN (.mk 6 t' L N) = 123 :: (joinB ((ordN N).map (memG ordN L N)) ++ [125]) := fun t' L N => by rw [textG]; simp; rfl
      rw [e1, if_neg (by decide), if_neg (by decide), if_pos rfl, if_pos rfl, e2, e]

theorem eqAll_map {f : GV → GV → Bool} {g : GV → GV} : ∀ {l : List GV}, (∀ x ∈ l, f x (g x) = true) → eqAll f l (l.map g) = true
  | [], _ => rfl
  | x :: l, h => by
    rw [List.map_cons, eqAll, h x (List.mem_cons_self ..), eqAll_map fun y hy => h y (List.mem_cons_of_mem _ hy)]; rfl
theorem eqAll_map2 {f : GV → GV → Bool} {g : GV → GV} : ∀ {l : List GV}, (∀ x ∈ l, f (g x) x = true) → eqAll f (l.map g) l = true
  | [], _ => rfl
  | x :: l, h => by
    rw [List.map_cons, eqAll, h x (List.mem_cons_self ..), eqAll_map2 fun y hy => h y (List.mem_cons_of_mem _ hy)]; rfl
theorem memAll_is {f : GV → GV → Bool} {l l2 : List GV} {ns ns2 : List (List UInt8)} : ∀ {os os2 : List Nat}, (∀ j (h : j < os.length) (h2 : j < os2.length), ns.getD os[j] [] = ns2.getD os2[j] [] ∧ f (l.getD os[j] gv0) (l2.getD os2[j] gv0) = true) → os.length = os2.length → memAll f l l2 ns ns2 os os2 = true
  | [], os2, _, _ => by cases os2 <;> rfl
  | i :: r, [], _, h => by simp at h
  | i :: r, j :: q, h, hl => by
    obtain ⟨a, b⟩ := h 0 (by simp) (by simp)
    simp only [List.getElem_cons_zero] at a b
    rw [memAll, a, b, memAll_is (fun k hk hk2 => by have := h (k + 1) (by simp; omega) (by simp; omega); simpa using this) (by simpa using hl)]
    simp

/-- a value and what its text is read as are the same, either way -/
theorem same_read : ∀ (n : Nat) (x : GV) (d : Nat), errG (twG ordN) x d = 0 → sameG n x (toG (readG x)) = true ∧ sameG n (toG (readG x)) x = true
  | 0, x, d, h => ⟨rfl, rfl⟩
  | n + 1, .mk k t l ns, d, h => by
    obtain ⟨h1, h2⟩ := err_parts h
    obtain ⟨hk, hf, hd, htw⟩ := own_parts h1
    have ih : k = 5 ∨ k = 6 → ∀ x ∈ l, sameG n x (toG (readG x)) = true ∧ sameG n (toG (readG x)) x = true := fun hk5 x hx => same_read n x (d + 1) (errL_mem (h2 hk5) x hx)
    rw [read_kind hk]
    rcases kinds_of hk with rfl | rfl | rfl | rfl | rfl | rfl | rfl
    · simp [sameG]
    · simp [sameG]
    · simp [sameG]
    · simp [sameG]
    · simp [sameG]
    · have e1 := eqAll_map (f := sameG n) (g := fun x => toG (readG x)) (l := l) fun x hx => (ih (Or.inl rfl) x hx).1
      have e2 := eqAll_map2 (f := sameG n) (g := fun x => toG (readG x)) (l := l) fun x hx => (ih (Or.inl rfl) x hx).2
      have e3 : (l.map readG).map toG = l.map fun x => toG (readG x) := by rw [List.map_map]; rfl
      rw [if_pos rfl, e3]
      simp [sameG, e1, e2]
    · have hln : ns.length = l.length := by simp [formG] at hf; exact hf.1
      rw [if_neg (by decide), if_neg (by decide), if_pos rfl, if_pos rfl]
      obtain ⟨L, hL⟩ : ∃ L, L = ((ordN ns).map fun i => (readL l).getD i (.plain 0)).map toG := ⟨_, rfl⟩
      rw [← hL]
      have hLl : L.length = l.length := by rw [hL, List.length_map, List.length_map, ordN_len, hln]
      have hsl := sortN_len ns
      have hLa : ∀ j (h : j < (ordN ns).length), L.getD j gv0 = toG (readG (l.getD (ordN ns)[j] gv0)) := fun j h => by
        have hin := ordN_in (List.getElem_mem h)
        have hil : (ordN ns)[j] < l.length := by omega
        rw [hL, readL_map]
        simp only [List.getD, List.getElem?_map, List.getElem?_eq_getElem h, Option.map_some, Option.getD_some, List.getElem?_eq_getElem hil]
      have hmem : ∀ j (h : j < (ordN ns).length), l.getD (ordN ns)[j] gv0 ∈ l := fun j h => by
        have hin := ordN_in (List.getElem_mem h)
        rw [getG (by omega)]; exact List.getElem_mem _
      have t1 : ns.take (min l.length ns.length) = ns := List.take_of_length_le (by omega)
      have t2 : (sortN ns).take (min l.length ns.length) = sortN ns := List.take_of_length_le (by omega)
      have t3 : ns.take (min L.length (sortN ns).length) = ns := List.take_of_length_le (by omega)
      have t4 : (sortN ns).take (min L.length (sortN ns).length) = sortN ns := List.take_of_length_le (by omega)
      refine ⟨?_, ?_⟩
      · rw [sameG, if_neg (by simp), if_neg (by decide), if_neg (by decide), if_pos rfl, if_neg (by omega), t1, t2, ordN_sortN]
        refine memAll_is (fun j a b => ?_) (by simp [ordN_len])
        rw [List.getElem_range', Nat.zero_add, Nat.one_mul, sortN_at a, hLa j a]
        exact ⟨rfl, (ih (Or.inr rfl) _ (hmem j a)).1⟩
      · rw [sameG, if_neg (by simp), if_neg (by decide), if_neg (by decide), if_pos rfl, if_neg (by omega), t3, t4, ordN_sortN]
        refine memAll_is (fun j a b => ?_) (by simp [ordN_len])
        rw [List.getElem_range', Nat.zero_add, Nat.one_mul, sortN_at b, hLa j b]
        exact ⟨rfl, (ih (Or.inr rfl) _ (hmem j b)).2⟩

mutual
theorem Well.fine : ∀ x : JV, Well x → Fine (toG x)
  | .plain k, h => by rw [toG]; unfold Fine; exact ⟨by simp, by simp, by simp, by simp, by unfold FineL; trivial⟩
  | .num t, h => by rw [toG]; unfold Well at h; unfold Fine; exact ⟨h, by simp, by simp, by simp, by unfold FineL; trivial⟩
  | .str t, h => by rw [toG]; unfold Well at h; unfold Fine; exact ⟨h, by simp, by simp, by simp, by unfold FineL; trivial⟩
  | .arr l, h => by rw [toG_arr]; unfold Well at h; unfold Fine; exact ⟨by simp, by rw [List.length_map]; omega, by simp, by simp, WellL.fine l h.2⟩
  | .obj ns l, h => by rw [toG_obj]; unfold Well at h; unfold Fine; obtain ⟨h1, h2, h3, h4, h5⟩ := h; exact ⟨by simp, by rw [List.length_map]; omega, by omega, h4, WellL.fine l h5⟩
theorem WellL.fine : ∀ l : List JV, WellL l → FineL (l.map toG)
  | [], h => by simp only [List.map_nil]; unfold FineL; trivial
  | x :: r, h => by unfold WellL at h; rw [List.map_cons]; unfold FineL; exact ⟨Well.fine x h.1, WellL.fine r h.2⟩
end
end Go.Proofs.YtdhkpkojnokjdaaDoor
