/-
  A text's value never runs out of steps.
-/
import Derived.Test.YtdhkpkojnokjdaaDoorJParse
namespace Go.Proofs.YtdhkpkojnokjdaaDoor
open Go.RowKit Go.Shelf
set_option linter.unusedVariables false
set_option linter.unusedSimpArgs false

/-- it goes on, and its faults are those of the document -/
def Sound {α : Type} (p : Nat) (r : Rs α) : Prop := match r with | .ok _ q => p ≤ q | .bad _ b => b ≠ 99 ∧ b ≠ 0
theorem Sound.bind {α β : Type} {p : Nat} {r : Rs α} {f : α → Nat → Rs β} (h : Sound p r) (k : ∀ a q, r = .ok a q → p ≤ q → Sound p (f a q)) : Sound p (r.bind f) := by
  cases r with
  | ok a q => exact k a q rfl h
  | bad a b => exact h
theorem Sound.mono {α : Type} {p q : Nat} {r : Rs α} (h : Sound q r) (hpq : p ≤ q) : Sound p r := by
  cases r with
  | ok a t => exact Nat.le_trans hpq h
  | bad a b => exact h
theorem Sound.ok {α : Type} {p q : Nat} {a : α} (h : p ≤ q) : Sound p (Rs.ok a q) := h
theorem Sound.bad {α : Type} {p a b : Nat} (h : b ≠ 99 ∧ b ≠ 0) : Sound p (Rs.bad a b : Rs α) := h

variable {s : List UInt8}
theorem byteE_sound (p : Nat) : Sound p (byteE s p) := by
  unfold byteE; cases s[p]? with
  | some c => exact Nat.le_refl _
  | none => exact Sound.bad (by decide)
theorem byteE_lt {p q c : Nat} (h : byteE s p = .ok c q) : q = p ∧ p < s.length := by
  unfold byteE at h
  cases hs : s[p]? with
  | none => rw [hs] at h; cases h
  | some x => rw [hs] at h; simp only [Rs.ok.injEq] at h; exact ⟨h.2.symm, (List.getElem?_eq_some_iff.1 hs).1⟩
theorem wordE_sound : ∀ (t : List UInt8) (p : Nat), Sound p (wordE s t p)
  | [], p => Nat.le_refl _
  | x :: t, p => by
    unfold wordE
    refine (byteE_sound p).bind fun a q _ _ => ?_
    split
    · exact (wordE_sound t (p + 1)).mono (by omega)
    · exact Sound.bad (by decide)
theorem literalE_sound {p : Nat} (hp : p ≤ s.length) : Sound p (literalE s p) := by
  unfold literalE
  split
  · exact (litE_le hp).1
  · exact Sound.bad (by decide)
theorem unitE_sound {f : Nat} : ∀ (k p acc : Nat), Sound p (unitE s f k p acc)
  | 0, p, acc => Nat.le_refl _
  | k + 1, p, acc => by
    unfold unitE
    refine (byteE_sound p).bind fun a q _ _ => ?_
    split
    · exact (unitE_sound k (p + 1) _).mono (by omega)
    · exact Sound.bad (by decide)
theorem cpE_sound (f p : Nat) : Sound p (cpE s f p) := by
  unfold cpE
  refine (unitE_sound 4 p 0).bind fun c q _ hq => ?_
  split
  · exact hq
  split
  · exact Sound.bad (by decide)
  unfold fstE
  refine ((byteE_sound q).mono hq).bind fun y r _ _ => ?_
  split
  · unfold sndE
    refine ((byteE_sound (q + 1)).mono (by omega)).bind fun y r _ _ => ?_
    split
    · unfold lowE
      refine ((unitE_sound 4 (q + 1 + 1) 0).mono (by omega)).bind fun l r _ hr => ?_
      split
      · exact hr
      · exact Sound.bad (by decide)
    · exact Sound.bad (by decide)
  · exact Sound.bad (by decide)
theorem escE_sound (p : Nat) : Sound p (escE s p) := by
  unfold escE
  refine ((byteE_sound (p + 1)).mono (by omega)).bind fun c q _ _ => ?_
  unfold escOf
  split
  · exact Sound.ok (by omega)
  · split
    · exact ((cpE_sound p (p + 2)).mono (by omega)).bind fun r q _ hq => hq
    · exact Sound.bad (by decide)
theorem charE_sound (p : Nat) : Sound p (charE s p) := by
  unfold charE
  split
  · exact Sound.bad (by decide)
  · exact Nat.le_add_right _ _
theorem qE_sound : ∀ (n p : Nat) (acc : List UInt8), Sound p (qE s n p acc)
  | 0, p, acc => Sound.bad (by decide)
  | n + 1, p, acc => by
    unfold qE
    refine (byteE_sound p).bind fun c q _ _ => ?_
    split
    · exact Nat.le_succ _
    split
    · exact (escE_sound p).bind fun y q _ hq => (qE_sound n q _).mono hq
    split
    · exact Sound.bad (by decide)
    · exact (charE_sound p).bind fun y q _ hq => (qE_sound n q _).mono hq
theorem quotedE_sound (p : Nat) : Sound p (quotedE s p) := (qE_sound _ _ _).mono (Nat.le_succ _)
theorem kindE_sound (p : Nat) : Sound p (kindE s p) := by
  unfold kindE
  refine ((byteE_sound _).mono (skipE_ge blankL s p)).bind fun c q _ hq => ?_
  unfold kindOf
  repeat' split
  all_goals first | exact hq | exact Sound.bad (by decide)
theorem limE_sound {p k depth ahead : Nat} : Sound p (limE s p k depth ahead) := by
  unfold limE
  repeat' split
  all_goals first | exact Nat.le_refl _ | exact Sound.bad (by decide)
theorem markE_sound {c p : Nat} : Sound (p + 1) (markE c s p) := by
  unfold markE
  have := skipE_ge blankL s p
  unfold byteE
  cases s[skipE blankL s p]? with
  | none => exact Sound.bad (by decide)
  | some x =>
    simp only [Rs.bind]
    split
    · exact Sound.ok (by omega)
    · exact Sound.bad (by decide)
theorem endsE_sound {c p : Nat} : Sound p (endsE c s p) := by
  unfold endsE
  refine ((byteE_sound _).mono (skipE_ge blankL s p)).bind fun x q _ hq => ?_
  split
  · exact Sound.ok (by omega)
  · exact hq
theorem nameE_sound {p : Nat} {ns : List (List UInt8)} : Sound p (nameE s p ns) := by
  unfold nameE
  refine ((byteE_sound _).mono (skipE_ge blankL s p)).bind fun c q _ hq => ?_
  unfold nameOf
  split
  · split
    · exact Sound.bad (by decide)
    · refine ((quotedE_sound q).mono hq).bind fun t r _ hr => ?_
      split
      · exact Sound.bad (by decide)
      · exact hr
  · exact Sound.bad (by decide)
theorem nameE_lt {p q : Nat} {ns : List (List UInt8)} {t : List UInt8} (h : nameE s p ns = .ok t q) : p < s.length := by
  unfold nameE at h
  cases h1 : byteE s (skipE blankL s p) with
  | bad a b => rw [h1] at h; cases h
  | ok c r => have := byteE_lt h1; have := skipE_ge blankL s p; omega
theorem valueE_lt {n p d a q : Nat} {x : JV} (h : valueE s n p d a = .ok x q) : p < s.length := by
  cases n with
  | zero => unfold valueE at h; cases h
  | succ n =>
    unfold valueE at h
    cases h1 : kindE s p with
    | bad a b => rw [h1] at h; cases h
    | ok k r => have := kindE_at h1; omega

mutual
theorem valueE_sound : ∀ (n p d a : Nat), 2 * (s.length - p) + 1 ≤ n → Sound p (valueE s n p d a)
  | 0, p, d, a, h => absurd h (by omega)
  | n + 1, p, d, a, h => by
    unfold valueE
    refine (kindE_sound p).bind fun k q h1 hq => ?_
    obtain ⟨-, hql, -⟩ := kindE_at h1
    refine (limE_sound.mono hq).bind fun u q2 h2 _ => ?_
    obtain ⟨rfl, -⟩ := limE_at h2
    split
    · exact ((wordE_sound _ q2).mono hq).bind fun _ r _ hr => hr
    split
    · exact ((wordE_sound _ q2).mono hq).bind fun _ r _ hr => hr
    split
    · exact ((wordE_sound _ q2).mono hq).bind fun _ r _ hr => hr
    split
    · exact ((literalE_sound (Nat.le_of_lt hql)).mono hq).bind fun _ r _ hr => hr
    split
    · exact ((quotedE_sound q2).mono hq).bind fun _ r _ hr => hr
    split
    · refine Sound.bind ?_ fun _ r _ hr => hr
      refine ((endsE_sound (p := q2 + 1)).mono (by omega)).bind fun b r h3 _ => ?_
      have h4 : q2 + 1 ≤ r := by have := endsE_sound (s := s) (c := 93) (p := q2 + 1); rw [h3] at this; exact this
      split
      · exact Sound.ok (by omega)
      · exact (elemE_sound n r (d + 1) [] (by omega)).mono (by omega)
    · refine Sound.bind ?_ fun _ r _ hr => hr
      refine ((endsE_sound (p := q2 + 1)).mono (by omega)).bind fun b r h3 _ => ?_
      have h4 : q2 + 1 ≤ r := by have := endsE_sound (s := s) (c := 125) (p := q2 + 1); rw [h3] at this; exact this
      split
      · exact Sound.ok (by omega)
      · exact (membE_sound n r (d + 1) [] [] (by omega)).mono (by omega)
theorem elemE_sound : ∀ (n p d : Nat) (acc : List JV), 2 * (s.length - p) + 2 ≤ n → Sound p (elemE s n p d acc)
  | 0, p, d, acc, h => absurd h (by omega)
  | n + 1, p, d, acc, h => by
    unfold elemE
    refine (valueE_sound n p d acc.length (by omega)).bind fun x q h1 hq => ?_
    have hl := valueE_lt h1
    refine (endsE_sound.mono hq).bind fun b r h2 hr => ?_
    split
    · exact hr
    · refine (markE_sound.mono (by omega)).bind fun u t h3 ht => ?_
      have h4 : r + 1 ≤ t := by have := markE_sound (s := s) (c := 44) (p := r); rw [h3] at this; exact this
      exact (elemE_sound n t d _ (by omega)).mono ht
theorem membE_sound : ∀ (n p d : Nat) (ns : List (List UInt8)) (acc : List JV), 2 * (s.length - p) + 2 ≤ n → Sound p (membE s n p d ns acc)
  | 0, p, d, ns, acc, h => absurd h (by omega)
  | n + 1, p, d, ns, acc, h => by
    unfold membE
    refine nameE_sound.bind fun t q h1 hq => ?_
    have hl := nameE_lt h1
    refine ((markE_sound (p := q)).mono (by omega)).bind fun u q2 h2 hq2 => ?_
    have h3 : q + 1 ≤ q2 := by have := markE_sound (s := s) (c := 58) (p := q); rw [h2] at this; exact this
    refine ((valueE_sound n q2 d 0 (by omega)).mono hq2).bind fun x q3 h4 hq3 => ?_
    refine (endsE_sound.mono hq3).bind fun b r h5 hr => ?_
    split
    · exact hr
    · refine (markE_sound.mono (by omega)).bind fun u2 t2 h6 ht2 => ?_
      have h7 : r + 1 ≤ t2 := by have := markE_sound (s := s) (c := 44) (p := r); rw [h6] at this; exact this
      exact (membE_sound n t2 d _ _ (by omega)).mono ht2
end

/-- Parse's steps are enough -/
theorem valueE_steps (l : List UInt8) (a : Nat) : valueE l (2 * l.length + 10) 0 0 0 ≠ .bad a 99 := by
  intro h
  have := valueE_sound (s := l) (2 * l.length + 10) 0 0 0 (by omega)
  rw [h] at this
  exact this.1 rfl
/-- a text that is refused has an error -/
theorem parseE_err {l : List UInt8} {a b : Nat} (h : parseE l = .bad a b) : b ≠ 0 := by
  unfold parseE at h
  have := valueE_sound (s := l) (2 * l.length + 10) 0 0 0 (by omega)
  cases h1 : valueE l (2 * l.length + 10) 0 0 0 with
  | bad c d =>
    rw [h1] at h this
    simp only [Rs.bind, Rs.bad.injEq] at h
    rw [← h.2]; exact this.2
  | ok x q =>
    rw [h1] at h
    simp only [Rs.bind] at h
    split at h
    · simp only [Rs.bad.injEq] at h; omega
    · cases h
end Go.Proofs.YtdhkpkojnokjdaaDoor
