/-
  PLAIN, of the log: names of segments, and the numbers that names say.
-/
import Derived.Test.YtjjajnfkngfpjaaGreatDoorPlain
import Derived.Test.YtjjajnfkngfpjaaGreatDoorWPlain
import Derived.Lib.ItoaNum
namespace Go.Proofs.YtjjajnfkngfpjaaGreatDoor.Walp

/-- so many digits of a number -/
def dig : Nat → Nat → List UInt8
  | 0, _ => []
  | k + 1, n => dig k (n / 10) ++ [UInt8.ofNat (48 + n % 10)]

theorem dig_length (k n : Nat) : (dig k n).length = k := by
  induction k generalizing n with
  | zero => rfl
  | succ k ih => simp [dig, ih]

/-- '/', eight digits -/
def seg (dir : List UInt8) (n : Nat) : List UInt8 := dir ++ (47 :: dig 8 n)

theorem seg_length (dir : List UInt8) (n : Nat) : (seg dir n).length = dir.length + 9 := by simp [seg, dig_length]

theorem digit (n : Nat) : (UInt8.ofNat (48 + n % 10)).toNat = 48 + n % 10 := by
  rw [UInt8.toNat_ofNat']; omega

/-- a number's digits are zeros and its numeral -/
theorem dig_dec (k n : Nat) (h : n < 10 ^ k) (hk : 0 < k) : dig k n = List.replicate (k - (Lib.decDigits n).length) 48 ++ Lib.decDigits n ∧ (Lib.decDigits n).length ≤ k := by
  induction k generalizing n with
  | zero => omega
  | succ k ih =>
    by_cases h10 : n < 10
    · rw [Lib.decDigits, dif_pos h10]
      have e : ∀ j, dig j 0 = List.replicate j 48 := by
        intro j
        induction j with
        | zero => rfl
        | succ j ij => rw [dig, Nat.zero_div, ij, List.replicate_succ']; rfl
      rw [dig, Nat.div_eq_of_lt h10, e, Nat.mod_eq_of_lt h10]
      exact ⟨rfl, by simp⟩
    · rw [Lib.decDigits, dif_neg h10]
      have hk0 : 0 < k := by
        rcases Nat.eq_zero_or_pos k with e | e
        · subst e; omega
        · exact e
      obtain ⟨h1, h2⟩ := ih (n / 10) (by rw [Nat.pow_succ] at h; omega) hk0
      rw [dig, h1, List.append_assoc, List.length_append]
      refine ⟨?_, by simp; omega⟩
      congr 2
      simp

/-- the number that digits say -/
def val : List UInt8 → Nat := List.foldl (fun n c => n * 10 + (c.toNat - 48)) 0

theorem val_snoc (l : List UInt8) (c : UInt8) : val (l ++ [c]) = val l * 10 + (c.toNat - 48) := by unfold val; rw [List.foldl_append]; rfl

theorem val_dig (k n : Nat) (h : n < 10 ^ k) : val (dig k n) = n := by
  induction k generalizing n with
  | zero => simp at h; subst h; rfl
  | succ k ih => rw [dig, val_snoc, ih _ (by rw [Nat.pow_succ] at h; omega), digit]; omega

def isDig (c : UInt8) : Bool := 48 ≤ c && c ≤ 57

theorem isDig_iff (c : UInt8) : isDig c = true ↔ 48 ≤ c.toNat ∧ c.toNat ≤ 57 := by
  unfold isDig; simp [UInt8.le_iff_toNat_le]

theorem dig_all (k n : Nat) : (dig k n).all isDig = true := by
  induction k generalizing n with
  | zero => rfl
  | succ k ih =>
    rw [dig, List.all_append, ih, Bool.true_and]
    simp only [List.all_cons, List.all_nil, Bool.and_true]
    rw [isDig_iff, digit]; omega

theorem dig_val {l : List UInt8} (h : l.all isDig = true) : dig l.length (val l) = l ∧ val l < 10 ^ l.length := by
  induction hn : l.length generalizing l with
  | zero => rw [List.eq_nil_of_length_eq_zero hn]; exact ⟨rfl, by decide⟩
  | succ k ih =>
    obtain ⟨a, c, rfl⟩ : ∃ a c, l = a ++ [c] := ⟨l.dropLast, l.getLast (by intro e; simp [e] at hn), (List.dropLast_concat_getLast _).symm⟩
    rw [List.all_append] at h
    simp only [List.all_cons, List.all_nil, Bool.and_true, Bool.and_eq_true] at h
    obtain ⟨h1, h2⟩ := h
    have hc := (isDig_iff c).1 h2
    obtain ⟨i1, i2⟩ := ih h1 (by simp at hn; exact hn)
    rw [val_snoc, dig]
    have e1 : (val a * 10 + (c.toNat - 48)) / 10 = val a := by omega
    have e2 : (val a * 10 + (c.toNat - 48)) % 10 = c.toNat - 48 := by omega
    rw [e1, e2, i1]
    refine ⟨?_, by rw [Nat.pow_succ]; omega⟩
    congr 2
    apply UInt8.toNat_inj.1
    rw [UInt8.toNat_ofNat']; omega

/-- the number that a text says behind a segment's dir; 0 if it is none -/
def segNum (l : List UInt8) : Nat := if l.length = 8 ∧ l.all isDig = true then val l else 0

theorem segNum_dig (n : Nat) (h : n < 100000000) : segNum (dig 8 n) = n := by
  unfold segNum
  rw [if_pos ⟨dig_length _ _, dig_all _ _⟩, val_dig _ _ h]

theorem segNum_pos {l : List UInt8} (h : segNum l ≠ 0) : l = dig 8 (segNum l) ∧ segNum l < 100000000 := by
  unfold segNum at h ⊢
  by_cases hc : l.length = 8 ∧ l.all isDig = true
  · rw [if_pos hc]
    obtain ⟨h1, h2⟩ := dig_val hc.2
    rw [hc.1] at h1 h2
    exact ⟨h1.symm, h2⟩
  · rw [if_neg hc] at h; exact absurd rfl h

/-! ### their order -/
theorem append_lt (a : List UInt8) {b c : List UInt8} (h : b < c) : a ++ b < a ++ c := by
  induction a with
  | nil => exact h
  | cons x r ih => exact List.cons_lt_cons_iff.2 (Or.inr ⟨rfl, ih⟩)

theorem lt_append_of_lt {a b : List UInt8} (hl : a.length = b.length) (h : a < b) (c d : List UInt8) : a ++ c < b ++ d := by
  induction a generalizing b with
  | nil =>
    cases b with
    | nil => exact absurd h (List.lt_irrefl _)
    | cons y s => simp at hl
  | cons x r ih =>
    cases b with
    | nil => simp at hl
    | cons y s =>
      rcases List.cons_lt_cons_iff.1 h with h | ⟨h1, h2⟩
      · exact List.cons_lt_cons_iff.2 (Or.inl h)
      · exact List.cons_lt_cons_iff.2 (Or.inr ⟨h1, ih (by simpa using hl) h2⟩)

theorem dig_lt (k : Nat) {m n : Nat} (h : m < n) (hn : n < 10 ^ k) : dig k m < dig k n := by
  induction k generalizing m n with
  | zero => simp at hn; omega
  | succ k ih =>
    rw [dig, dig]
    by_cases e : m / 10 = n / 10
    · rw [e]
      apply append_lt
      refine List.cons_lt_cons_iff.2 (Or.inl ?_)
      rw [UInt8.lt_iff_toNat_lt, digit, digit]; omega
    · exact lt_append_of_lt (by rw [dig_length, dig_length]) (ih (by omega) (by rw [Nat.pow_succ] at hn; omega)) _ _

theorem seg_lt (dir : List UInt8) {m n : Nat} (h : m < n) (hn : n < 100000000) : seg dir m < seg dir n :=
  append_lt _ (List.cons_lt_cons_iff.2 (Or.inr ⟨rfl, dig_lt 8 h hn⟩))

theorem dig_lt_iff {k m n : Nat} (hm : m < 10 ^ k) (hn : n < 10 ^ k) : dig k m < dig k n ↔ m < n := by
  constructor
  · intro h
    rcases Nat.lt_trichotomy m n with e | e | e
    · exact e
    · subst e; exact absurd h (List.lt_irrefl _)
    · exact absurd (Fsp.lt_trans' h (dig_lt k e hm)) (List.lt_irrefl _)
  · exact fun h => dig_lt k h hn

theorem seg_inj {dir : List UInt8} {m n : Nat} (hm : m < 100000000) (hn : n < 100000000) (h : seg dir m = seg dir n) : m = n := by
  have h1 : dig 8 m = dig 8 n := by
    have := List.append_cancel_left h
    simpa using this
  rw [← val_dig 8 m hm, h1, val_dig 8 n hn]

/-- what a name says: the number of the segment of dir that it is; 0: it is none -/
def numOf (dir name : List UInt8) : Nat := if (dir ++ [47]).isPrefixOf name then segNum (name.drop (dir.length + 1)) else 0

theorem numOf_seg (dir : List UInt8) {n : Nat} (h : n < 100000000) : numOf dir (seg dir n) = n := by
  have e : seg dir n = (dir ++ [47]) ++ dig 8 n := by simp [seg]
  unfold numOf
  rw [e, if_pos (by rw [List.isPrefixOf_iff_prefix]; exact List.prefix_append _ _)]
  rw [List.drop_append_of_le_length (by simp), List.drop_of_length_le (by simp), List.nil_append, segNum_dig n h]

theorem numOf_pos {dir name : List UInt8} (h : numOf dir name ≠ 0) : name = seg dir (numOf dir name) ∧ numOf dir name < 100000000 := by
  unfold numOf at h ⊢
  by_cases hp : (dir ++ [47]).isPrefixOf name = true
  · rw [if_pos hp] at h ⊢
    obtain ⟨h1, h2⟩ := segNum_pos h
    rw [List.isPrefixOf_iff_prefix] at hp
    obtain ⟨r, rfl⟩ := hp
    have e : ((dir ++ [47]) ++ r).drop (dir.length + 1) = r := by
      rw [List.drop_append_of_le_length (by simp), List.drop_of_length_le (by simp), List.nil_append]
    rw [e] at h1 h2 ⊢
    refine ⟨?_, h2⟩
    have e2 : seg dir (segNum r) = (dir ++ [47]) ++ dig 8 (segNum r) := by simp [seg]
    rw [e2, ← h1]
  · rw [if_neg hp] at h; exact absurd rfl h

/-- the numbers of the segments of dir that are there -/
def numsOf (dir : List UInt8) (names : List (List UInt8)) : List Nat := (names.map (numOf dir)).filter (fun n => n != 0)

theorem mem_numsOf {dir : List UInt8} {names : List (List UInt8)} {n : Nat} : n ∈ numsOf dir names ↔ 0 < n ∧ n < 100000000 ∧ seg dir n ∈ names := by
  unfold numsOf
  rw [List.mem_filter, List.mem_map]
  constructor
  · rintro ⟨⟨x, hx, e⟩, h0⟩
    have h0' : n ≠ 0 := by simpa using h0
    obtain ⟨h1, h2⟩ := numOf_pos (dir := dir) (name := x) (by rw [e]; exact h0')
    rw [e] at h1 h2
    exact ⟨by omega, h2, by rw [← h1]; exact hx⟩
  · rintro ⟨h0, h1, h2⟩
    exact ⟨⟨_, h2, numOf_seg dir h1⟩, by simp; omega⟩

theorem numsOf_sorted {dir : List UInt8} {names : List (List UInt8)} (h : names.Pairwise (· < ·)) : (numsOf dir names).Pairwise (· < ·) := by
  induction names with
  | nil => exact List.Pairwise.nil
  | cons x r ih =>
    obtain ⟨h1, h2⟩ := List.pairwise_cons.1 h
    unfold numsOf
    rw [List.map_cons]
    by_cases hx : numOf dir x = 0
    · rw [List.filter_cons_of_neg (by simp [hx])]; exact ih h2
    · rw [List.filter_cons_of_pos (by simpa using hx)]
      refine List.pairwise_cons.2 ⟨fun m hm => ?_, ih h2⟩
      obtain ⟨hm0, hm1, hm2⟩ := mem_numsOf.1 (show m ∈ numsOf dir r from hm)
      obtain ⟨e1, e2⟩ := numOf_pos hx
      have hlt := h1 _ hm2
      rcases Nat.lt_trichotomy (numOf dir x) m with e | e | e
      · exact e
      · rw [e1, e] at hlt; exact absurd hlt (List.lt_irrefl _)
      · have := seg_lt dir e e2
        rw [← e1] at this
        exact absurd (Fsp.lt_trans' hlt this) (List.lt_irrefl _)

/-- two rising lists of the same numbers are the same -/
theorem sorted_ext : ∀ {a b : List Nat}, a.Pairwise (· < ·) → b.Pairwise (· < ·) → (∀ n, n ∈ a ↔ n ∈ b) → a = b
  | [], [], _, _, _ => rfl
  | [], y :: s, _, _, h => absurd ((h y).2 (by simp)) (by simp)
  | x :: r, [], _, _, h => absurd ((h x).1 (by simp)) (by simp)
  | x :: r, y :: s, ha, hb, h => by
    obtain ⟨a1, a2⟩ := List.pairwise_cons.1 ha
    obtain ⟨b1, b2⟩ := List.pairwise_cons.1 hb
    have e : x = y := by
      have h1 := (h x).1 (by simp)
      have h2 := (h y).2 (by simp)
      rcases List.mem_cons.1 h1 with e | e
      · exact e
      · rcases List.mem_cons.1 h2 with f | f
        · exact f.symm
        · have := a1 y f; have := b1 x e; omega
    subst e
    rw [sorted_ext a2 b2 fun n => ?_]
    constructor
    · intro hn
      have := (h n).1 (by simp [hn])
      rcases List.mem_cons.1 this with e | e
      · subst e; have := a1 n hn; omega
      · exact e
    · intro hn
      have := (h n).2 (by simp [hn])
      rcases List.mem_cons.1 this with e | e
      · subst e; have := b1 n hn; omega
      · exact e

theorem range'_sorted (a n : Nat) : (List.range' a n).Pairwise (· < ·) := by
  rw [List.pairwise_iff_getElem]
  intro i j hi hj hij
  simp only [List.getElem_range']
  omega

/-- the numbers that are there, where those from 'first' on are, so many -/
theorem numsOf_range {dir : List UInt8} {names : List (List UInt8)} {first count : Nat} (h : names.Pairwise (· < ·)) (h1 : 0 < first) (h2 : first + count ≤ 100000000)
    (hm : ∀ n, 0 < n → n < 100000000 → (seg dir n ∈ names ↔ first ≤ n ∧ n < first + count)) : numsOf dir names = List.range' first count := by
  apply sorted_ext (numsOf_sorted h) (range'_sorted _ _)
  intro n
  rw [mem_numsOf, List.mem_range'_1]
  constructor
  · rintro ⟨a, b, c⟩; exact (hm n a b).1 c
  · rintro ⟨a, b⟩; exact ⟨by omega, by omega, (hm n (by omega) (by omega)).2 ⟨a, b⟩⟩

end Go.Proofs.YtjjajnfkngfpjaaGreatDoor.Walp
