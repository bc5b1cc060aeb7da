/-
  Texts with their zeros told apart: replaced, counted, cut, as plain data.
-/
import Derived.Test.YtipcdbdlopmdoaaDoorKPlain
namespace Go.Proofs.YtipcdbdlopmdoaaDoor
open Go.Lib
set_option linter.unusedVariables false
set_option linter.unusedSimpArgs false

section
variable {sub : List UInt8}

theorem index_skip {b : UInt8} {l : List UInt8} (h : sub.isPrefixOf (b :: l) = false) : index (b :: l) sub = if index l sub = -1 then -1 else index l sub + 1 := by
  conv => lhs; unfold index
  rw [h]
  by_cases e : index l sub = -1
  · rw [e]; rfl
  · simp [e]
theorem index_head {s : List UInt8} (h : sub.isPrefixOf s = true) : index s sub = 0 := by
  cases s with
  | nil =>
    cases sub with
    | nil => rfl
    | cons a t => simp at h
  | cons b l => unfold index; rw [if_pos h]

theorem count_skip (hs : sub ≠ []) {b : UInt8} {l : List UInt8} (h : sub.isPrefixOf (b :: l) = false) : count (b :: l) sub = count l sub := by
  have hx := index_skip h
  by_cases e : index l sub = -1
  · rw [if_pos e] at hx; rw [count_miss hx, count_miss e]
  · have hge := index_ge l sub
    have e1 : index l sub = ((index l sub).toNat : Int) := by omega
    rw [if_neg e] at hx
    have e2 : index (b :: l) sub = (((index l sub).toNat + 1 : Nat) : Int) := by omega
    rw [count_hit hs e2, count_hit hs e1, show (index l sub).toNat + 1 + sub.length = (index l sub).toNat + sub.length + 1 by omega, List.drop_succ_cons]
theorem count_head (hs : sub ≠ []) {s : List UInt8} (h : sub.isPrefixOf s = true) : count s sub = 1 + count (s.drop sub.length) sub := by
  have := count_hit (i := 0) hs (index_head h)
  rwa [Nat.zero_add] at this
theorem count_empty (hs : sub ≠ []) : count [] sub = 0 := by
  cases sub with
  | nil => exact absurd rfl hs
  | cons a t => exact count_miss rfl

variable {new : List UInt8}
theorem repl_def (hn : sub ≠ new) (s : List UInt8) : replaceAll s sub new = replaceK sub new (count s sub) s := by
  unfold replaceAll replace
  rw [if_neg (by simpa using hn)]
  unfold replaceNum
  rw [if_pos (Or.inl (by omega))]
theorem repl_skip (hs : sub ≠ []) (hn : sub ≠ new) {b : UInt8} {l : List UInt8} (h : sub.isPrefixOf (b :: l) = false) : replaceAll (b :: l) sub new = b :: replaceAll l sub new := by
  rw [repl_def hn, repl_def hn, count_skip hs h]
  cases hk : count l sub with
  | zero => rfl
  | succ k =>
    obtain ⟨i, hi⟩ := index_of_count (s := l) (old := sub) (by omega)
    have hx := index_skip h
    rw [if_neg (by omega)] at hx
    rw [replaceK_hit _ _ _ _ i hi, replaceK_hit _ _ _ _ (i + 1) (by omega), show i + 1 + sub.length = i + sub.length + 1 by omega]
    rfl
theorem repl_head (hs : sub ≠ []) (hn : sub ≠ new) {s : List UInt8} (h : sub.isPrefixOf s = true) : replaceAll s sub new = new ++ replaceAll (s.drop sub.length) sub new := by
  rw [repl_def hn, repl_def hn, count_head hs h, Nat.add_comm, replaceK_hit _ _ _ _ 0 (index_head h)]
  simp
theorem repl_empty (hs : sub ≠ []) (hn : sub ≠ new) : replaceAll [] sub new = [] := by
  rw [repl_def hn, count_empty hs]; rfl
end

theorem esc_repl : ∀ s : List UInt8, replaceAll s [0] [0, 255] = esc s
  | [] => repl_empty (by simp) (by simp)
  | b :: s => by
    by_cases h : b = 0
    · subst h
      rw [repl_head (by simp) (by simp) (by simp)]
      simp only [List.length_singleton, List.drop_succ_cons, List.drop_zero, esc_repl s, esc, ↓reduceIte]
      rfl
    · have hp : List.isPrefixOf [0] (b :: s) = false := by
        rw [Bool.eq_false_iff]
        intro e
        simp [List.isPrefixOf] at e
        exact h e.symm
      rw [repl_skip (sub := [0]) (new := [0, 255]) (by simp) (by simp) hp, esc_repl s]
      simp only [esc, if_neg h]

theorem esc_length : ∀ s : List UInt8, (esc s).length = s.length + s.count 0
  | [] => rfl
  | b :: s => by
    by_cases h : b = 0
    · subst h
      simp only [esc, ↓reduceIte, List.length_cons, List.count_cons_self, esc_length s]; omega
    · have : ¬ (b == 0) = true := by simpa using h
      simp only [esc, if_neg h, List.length_cons, List.count_cons, this, esc_length s]; simp; omega

/-- each 0 with 255 behind it is a 0 -/
def unesc : List UInt8 → List UInt8
  | [] => []
  | [a] => [a]
  | a :: b :: r => if a = 0 ∧ b = 255 then 0 :: unesc r else a :: unesc (b :: r)
termination_by l => l.length
/-- does 255 stand behind each 0? -/
def good : List UInt8 → Bool
  | [] => true
  | [a] => a != 0
  | a :: b :: r => if a = 0 then b == 255 && good r else good (b :: r)
termination_by l => l.length

theorem pre2 (x y a b : UInt8) (r : List UInt8) : List.isPrefixOf [x, y] (a :: b :: r) = (x == a && y == b) := by simp [List.isPrefixOf]
theorem pre1 (x y a : UInt8) : List.isPrefixOf [x, y] [a] = false := by simp [List.isPrefixOf]

theorem pre0 {x a : UInt8} {r : List UInt8} (h : x ≠ a) : List.isPrefixOf [x] (a :: r) = false := by
  rw [Bool.eq_false_iff]
  intro e
  simp [List.isPrefixOf] at e
  exact h e
theorem preNe {x y a : UInt8} {r : List UInt8} (h : x ≠ a) : List.isPrefixOf [x, y] (a :: r) = false := by
  cases r with
  | nil => exact pre1 _ _ _
  | cons b r => rw [pre2]; simp [h]

theorem unesc_repl : ∀ (n : Nat) (s : List UInt8), s.length ≤ n → replaceAll s [0, 255] [0] = unesc s
  | n, [], _ => by
    have e := repl_empty (sub := [0, 255]) (new := [0]) (by simp) (by simp)
    rw [e, unesc]
  | n, [a], _ => by
    have e := repl_empty (sub := [0, 255]) (new := [0]) (by simp) (by simp)
    have e2 := repl_skip (sub := [0, 255]) (new := [0]) (b := a) (l := []) (by simp) (by simp) (pre1 _ _ _)
    rw [e2, e, unesc]
  | 0, _ :: _ :: _, h => by simp at h
  | n + 1, a :: b :: r, h => by
    rw [unesc]
    by_cases e : a = 0 ∧ b = 255
    · obtain ⟨rfl, rfl⟩ := e
      rw [if_pos ⟨rfl, rfl⟩, repl_head (by simp) (by simp) (by simp)]
      simp only [List.length_cons, List.length_nil, List.drop_succ_cons, List.drop_zero]
      rw [unesc_repl n r (by simp at h; omega)]; rfl
    · rw [if_neg e, repl_skip (by simp) (by simp), unesc_repl n (b :: r) (by simp at h ⊢; omega)]
      rw [pre2, Bool.and_eq_false_iff, beq_eq_false_iff_ne, beq_eq_false_iff_ne]
      by_cases h1 : a = 0
      · exact Or.inr fun h2 => e ⟨h1, h2.symm⟩
      · exact Or.inl fun h2 => h1 h2.symm

theorem good_count : ∀ (n : Nat) (s : List UInt8), s.length ≤ n → count s [0, 255] ≤ s.count 0 ∧ (s.count 0 = count s [0, 255] ↔ good s = true)
  | n, [], _ => by rw [count_empty (by simp), good]; simp
  | n, [a], _ => by
    rw [count_skip (by simp) (pre1 _ _ _), count_empty (by simp), good]
    by_cases h : a = 0 <;> simp [h, List.count_cons]
  | 0, _ :: _ :: _, h => by simp at h
  | n + 1, a :: b :: r, h => by
    rw [good]
    by_cases h1 : a = 0
    · subst h1
      rw [if_pos rfl, List.count_cons_self]
      by_cases h2 : b = 255
      · subst h2
        obtain ⟨g1, g2⟩ := good_count n r (by simp at h; omega)
        rw [count_head (by simp) (by simp)]
        simp only [List.length_cons, List.length_nil, List.drop_succ_cons, List.drop_zero]
        have e : List.count (0 : UInt8) (255 :: r) = List.count 0 r := by simp [List.count_cons]
        rw [e]
        simp only [beq_self_eq_true, Bool.true_and, ← g2]
        omega
      · obtain ⟨g1, _⟩ := good_count n (b :: r) (by simp at h ⊢; omega)
        rw [count_skip (by simp) (by rw [pre2]; simp; exact fun e => h2 e.symm)]
        have : (b == 255) = false := by simpa using h2
        rw [this, Bool.false_and]
        simp only [Bool.false_eq_true, iff_false]
        omega
    · obtain ⟨g1, g2⟩ := good_count n (b :: r) (by simp at h ⊢; omega)
      rw [if_neg h1, count_skip (by simp) (by rw [pre2]; simp; exact fun e => absurd e.symm h1)]
      have e : List.count (0 : UInt8) (a :: b :: r) = List.count 0 (b :: r) := by rw [List.count_cons]; simp [h1]
      rw [e]
      exact ⟨g1, g2⟩

/-- what takeText takes -/
def tk (s : List UInt8) : Option (List UInt8 × List UInt8) :=
  if index s [0, 1] = -1 then none else if good (s.take (index s [0, 1]).toNat) = true then some (unesc (s.take (index s [0, 1]).toNat), s.drop ((index s [0, 1]).toNat + 2)) else none

theorem tk_scan : ∀ (n : Nat) (s : List UInt8), s.length ≤ n → tk s = scan s
  | n, [], _ => by
    have : index [] [0, 1] = -1 := rfl
    rw [tk, if_pos this, scan]
  | n, [a], _ => by
    have : index [a] [0, 1] = -1 := by rw [index_skip (pre1 _ _ _)]; rfl
    rw [tk, if_pos this, scan]
  | 0, _ :: _ :: _, h => by simp at h
  | n + 1, a :: b :: r, h => by
    rw [scan]
    by_cases h1 : a = 0
    · subst h1
      rw [if_pos rfl]
      by_cases h3 : b = 1
      · subst h3
        have : index (0 :: 1 :: r) [0, 1] = 0 := index_head (by simp)
        rw [if_neg (by decide), if_pos rfl, tk, this]
        simp [good, unesc]
      · have p0 : List.isPrefixOf [0, 1] (0 :: b :: r) = false := by rw [pre2]; simp; exact fun e => h3 e.symm
        have x0 := index_skip p0
        by_cases h2 : b = 255
        · subst h2
          have ih := tk_scan n r (by simp at h; omega)
          have x1 := index_skip (sub := [0, 1]) (b := 255) (l := r) (preNe (by decide))
          rw [if_pos rfl, ← ih, tk, tk]
          have hge := index_ge r [0, 1]
          by_cases e : index r [0, 1] = -1
          · rw [if_pos e] at x1
            rw [if_pos x1] at x0
            rw [if_pos x0, if_pos e]; rfl
          · rw [if_neg e] at x1
            rw [if_neg (by omega), x1] at x0
            rw [if_neg (by omega), if_neg e, x0]
            have e1 : (index r [0, 1] + 1 + 1).toNat = (index r [0, 1]).toNat + 1 + 1 := by omega
            rw [e1]
            simp only [List.take_succ_cons, good, ↓reduceIte, beq_self_eq_true, Bool.true_and]
            split
            · simp only [unesc, and_self, ↓reduceIte, Option.map_some]
              rfl
            · rfl
        · rw [if_neg h2, if_neg h3, tk]
          by_cases e : index (b :: r) [0, 1] = -1
          · rw [if_pos e] at x0
            rw [if_pos x0]
          · have hge := index_ge (b :: r) [0, 1]
            rw [if_neg e] at x0
            rw [if_neg (by omega), x0]
            have e1 : (index (b :: r) [0, 1] + 1).toNat = (index (b :: r) [0, 1]).toNat + 1 := by omega
            rw [e1, List.take_succ_cons]
            cases (index (b :: r) [0, 1]).toNat with
            | zero => rw [List.take_zero, good]; rfl
            | succ k =>
              rw [List.take_succ_cons, good, if_pos rfl]
              have : (b == 255) = false := by simpa using h2
              rw [this]; rfl
    · rw [if_neg h1]
      have ih := tk_scan n (b :: r) (by simp at h ⊢; omega)
      have x0 := index_skip (sub := [0, 1]) (b := a) (l := b :: r) (by rw [pre2]; simp; exact fun e => absurd e.symm h1)
      rw [← ih, tk, tk]
      by_cases e : index (b :: r) [0, 1] = -1
      · rw [if_pos e] at x0
        rw [if_pos x0, if_pos e]; rfl
      · have hge := index_ge (b :: r) [0, 1]
        rw [if_neg e] at x0
        rw [if_neg (by omega), if_neg e, x0]
        have e1 : (index (b :: r) [0, 1] + 1).toNat = (index (b :: r) [0, 1]).toNat + 1 := by omega
        rw [e1, List.take_succ_cons]
        have hg : ∀ f : List UInt8, good (a :: f) = good f := fun f => by
          cases f with
          | nil => rw [good, good]; simpa using h1
          | cons c f => rw [good, if_neg h1]
        have hu : ∀ f : List UInt8, unesc (a :: f) = a :: unesc f := fun f => by
          cases f with
          | nil => rw [unesc, unesc]
          | cons c f => rw [unesc, if_neg (fun e => h1 e.1)]
        rw [hg]
        split
        · rw [hu]; rfl
        · rfl
end Go.Proofs.YtipcdbdlopmdoaaDoor
