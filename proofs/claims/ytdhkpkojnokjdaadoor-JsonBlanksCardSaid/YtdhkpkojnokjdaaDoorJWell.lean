/-
  What a text's value looks like: lists, names and strings are of a size, no name twice.
-/
import Derived.Test.YtdhkpkojnokjdaaDoorJFuel
import Derived.Test.YtdhkpkojnokjdaaDoorJGet
namespace Go.Proofs.YtdhkpkojnokjdaaDoor
open Go.RowKit Go.Shelf
set_option linter.unusedVariables false
set_option linter.unusedSimpArgs false

mutual
def Well : JV → Prop
  | .plain _ => True
  | .num t => t.length ≤ 1000000
  | .str t => t.length ≤ 1000000
  | .arr l => l.length ≤ 1000 ∧ WellL l
  | .obj ns l => l.length ≤ 1000 ∧ ns.length = l.length ∧ ns.Nodup ∧ (∀ s ∈ ns, s.length ≤ 1000000) ∧ WellL l
def WellL : List JV → Prop
  | [] => True
  | x :: r => Well x ∧ WellL r
end
theorem WellL.snoc {x : JV} (hx : Well x) : ∀ {l : List JV}, WellL l → WellL (l ++ [x])
  | [], _ => by unfold WellL; exact ⟨hx, by unfold WellL; trivial⟩
  | y :: r, h => by
    unfold WellL at h
    rw [List.cons_append]
    unfold WellL
    exact ⟨h.1, WellL.snoc hx h.2⟩

theorem Rs.bind_ok {α β : Type} {r : Rs α} {f : α → Nat → Rs β} {b : β} {t : Nat} (h : r.bind f = .ok b t) : ∃ a p, r = .ok a p ∧ f a p = .ok b t := by
  cases r with
  | ok a p => exact ⟨a, p, rfl, h⟩
  | bad a b => cases h

variable {s : List UInt8}
theorem qE_len : ∀ (n p : Nat) (acc : List UInt8) {t : List UInt8} {q : Nat}, qE s n p acc = .ok t q → t.length ≤ acc.length + 2 * (s.length - p)
  | 0, p, acc, t, q, h => by unfold qE at h; cases h
  | n + 1, p, acc, t, q, h => by
    unfold qE at h
    obtain ⟨c, r, h1, h⟩ := Rs.bind_ok h
    have hp := (byteE_lt h1).2
    split at h
    · simp only [Rs.ok.injEq] at h; obtain ⟨rfl, -⟩ := h; omega
    split at h
    · obtain ⟨y, q2, h2, h⟩ := Rs.bind_ok h
      have h3 := escE_at h2
      unfold escE at h2
      obtain ⟨c2, r2, h4, -⟩ := Rs.bind_ok h2
      have h5 := (byteE_lt h4).2
      have := qE_len n q2 _ h
      rw [List.length_append] at this
      omega
    split at h
    · cases h
    · obtain ⟨y, q2, h2, h⟩ := Rs.bind_ok h
      have h3 := charE_at hp h2
      have h4 : y.length ≤ s.length - p := by
        unfold charE at h2
        split at h2
        · cases h2
        · simp only [Rs.ok.injEq] at h2
          rw [← h2.1, List.length_take, List.length_drop]
          omega
      have := qE_len n q2 _ h
      rw [List.length_append] at this
      omega
theorem quotedE_len {p q : Nat} {t : List UInt8} (h : quotedE s p = .ok t q) : t.length ≤ 2 * s.length := by
  have := qE_len _ _ _ h
  simp at this; omega
theorem literalE_len {p q : Nat} {t : List UInt8} (h : literalE s p = .ok t q) : t.length ≤ s.length := by
  unfold literalE at h
  split at h
  · simp only [Rs.ok.injEq] at h
    rw [← h.1, List.length_take, List.length_drop]; omega
  · cases h
theorem nameE_ok {p q : Nat} {ns : List (List UInt8)} {t : List UInt8} (h : nameE s p ns = .ok t q) : ns.length < 1000 ∧ t.length ≤ 2 * s.length ∧ ¬ t ∈ ns := by
  unfold nameE at h
  obtain ⟨c, r, h1, h⟩ := Rs.bind_ok h
  unfold nameOf at h
  split at h
  · split at h
    · cases h
    · rename_i h2
      obtain ⟨t2, r2, h3, h⟩ := Rs.bind_ok h
      split at h
      · cases h
      · rename_i h4
        simp only [Rs.ok.injEq] at h
        obtain ⟨rfl, -⟩ := h
        exact ⟨by simpa using h2, quotedE_len h3, by simpa using h4⟩
  · cases h

theorem nodup_snoc {α : Type} {l : List α} {x : α} (h : l.Nodup) (hx : ¬ x ∈ l) : (l ++ [x]).Nodup := by
  rw [List.nodup_append]
  exact ⟨h, by simp, fun a ha b hb e => by simp at hb; subst hb; subst e; exact hx ha⟩

mutual
theorem valueE_well (hs : s.length ≤ 65536) : ∀ (n p d a : Nat) {x : JV} {q : Nat}, valueE s n p d a = .ok x q → Well x
  | 0, p, d, a, x, q, h => by unfold valueE at h; cases h
  | n + 1, p, d, a, x, q, h => by
    unfold valueE at h
    obtain ⟨k, q1, h1, h⟩ := Rs.bind_ok h
    obtain ⟨u, q2, h2, h⟩ := Rs.bind_ok h
    split at h
    · obtain ⟨y, r, h3, h⟩ := Rs.bind_ok h
      simp only [Rs.ok.injEq] at h; rw [← h.1]; unfold Well; trivial
    split at h
    · obtain ⟨y, r, h3, h⟩ := Rs.bind_ok h
      simp only [Rs.ok.injEq] at h; rw [← h.1]; unfold Well; trivial
    split at h
    · obtain ⟨y, r, h3, h⟩ := Rs.bind_ok h
      simp only [Rs.ok.injEq] at h; rw [← h.1]; unfold Well; trivial
    split at h
    · obtain ⟨y, r, h3, h⟩ := Rs.bind_ok h
      have := literalE_len h3
      simp only [Rs.ok.injEq] at h; rw [← h.1]; unfold Well; omega
    split at h
    · obtain ⟨y, r, h3, h⟩ := Rs.bind_ok h
      have := quotedE_len h3
      simp only [Rs.ok.injEq] at h; rw [← h.1]; unfold Well; omega
    split at h
    · obtain ⟨l, t, h3, h⟩ := Rs.bind_ok h
      simp only [Rs.ok.injEq] at h; rw [← h.1]
      obtain ⟨b, r, h4, h3⟩ := Rs.bind_ok h3
      unfold Well
      split at h3
      · simp only [Rs.ok.injEq] at h3; rw [← h3.1]; exact ⟨by simp, by unfold WellL; trivial⟩
      · exact elemE_well hs n r (d + 1) [] (by unfold WellL; trivial) h3
    · obtain ⟨m, t, h3, h⟩ := Rs.bind_ok h
      simp only [Rs.ok.injEq] at h; rw [← h.1]
      obtain ⟨b, r, h4, h3⟩ := Rs.bind_ok h3
      unfold Well
      split at h3
      · simp only [Rs.ok.injEq] at h3; rw [← h3.1]; exact ⟨by simp, by simp, by simp, by simp, by unfold WellL; trivial⟩
      · exact membE_well hs n r (d + 1) [] [] rfl (by simp) (by simp) (by unfold WellL; trivial) h3
theorem elemE_well (hs : s.length ≤ 65536) : ∀ (n p d : Nat) (acc : List JV) {l : List JV} {q : Nat}, WellL acc → elemE s n p d acc = .ok l q → l.length ≤ 1000 ∧ WellL l
  | 0, p, d, acc, l, q, hw, h => by unfold elemE at h; cases h
  | n + 1, p, d, acc, l, q, hw, h => by
    unfold elemE at h
    obtain ⟨x, q1, h1, h⟩ := Rs.bind_ok h
    have hx := valueE_well hs n p d acc.length h1
    have ha := valueE_ahead h1
    obtain ⟨b, r, h2, h⟩ := Rs.bind_ok h
    split at h
    · simp only [Rs.ok.injEq] at h; rw [← h.1]
      exact ⟨by rw [List.length_append]; simp; omega, hw.snoc hx⟩
    · obtain ⟨u, t, h3, h⟩ := Rs.bind_ok h
      exact elemE_well hs n t d _ (hw.snoc hx) h
theorem membE_well (hs : s.length ≤ 65536) : ∀ (n p d : Nat) (ns : List (List UInt8)) (acc : List JV) {m : List (List UInt8) × List JV} {q : Nat}, ns.length = acc.length → ns.Nodup → (∀ t ∈ ns, t.length ≤ 1000000) → WellL acc →
    membE s n p d ns acc = .ok m q → m.2.length ≤ 1000 ∧ m.1.length = m.2.length ∧ m.1.Nodup ∧ (∀ t ∈ m.1, t.length ≤ 1000000) ∧ WellL m.2
  | 0, p, d, ns, acc, m, q, h1, h2, h3, h4, h => by unfold membE at h; cases h
  | n + 1, p, d, ns, acc, m, q, a1, a2, a3, a4, h => by
    unfold membE at h
    obtain ⟨t, q1, h1, h⟩ := Rs.bind_ok h
    obtain ⟨n1, n2, n3⟩ := nameE_ok h1
    obtain ⟨u, q2, h2, h⟩ := Rs.bind_ok h
    obtain ⟨x, q3, h3, h⟩ := Rs.bind_ok h
    have hx := valueE_well hs n q2 d 0 h3
    have b1 : (ns ++ [t]).length = (acc ++ [x]).length := by simp [a1]
    have b2 := nodup_snoc a2 n3
    have b3 : ∀ t' ∈ ns ++ [t], t'.length ≤ 1000000 := fun t' ht => by
      rcases List.mem_append.1 ht with ht | ht
      · exact a3 _ ht
      · simp at ht; subst ht; omega
    have b4 := a4.snoc hx
    obtain ⟨b, r, h5, h⟩ := Rs.bind_ok h
    split at h
    · simp only [Rs.ok.injEq] at h; rw [← h.1]
      exact ⟨by rw [List.length_append]; simp; omega, b1, b2, b3, b4⟩
    · obtain ⟨u2, t2, h6, h⟩ := Rs.bind_ok h
      exact membE_well hs n t2 d _ _ b1 b2 b3 b4 h
end
theorem parseE_well (hs : s.length ≤ 65536) {x : JV} {q : Nat} (h : parseE s = .ok x q) : Well x := by
  unfold parseE at h
  obtain ⟨y, r, h1, h⟩ := Rs.bind_ok h
  split at h
  · cases h
  · simp only [Rs.ok.injEq] at h; rw [← h.1]; exact valueE_well hs _ _ _ _ h1

mutual
theorem Well.slim : ∀ x : JV, Well x → Slim (toG x)
  | .plain k, h => by rw [toG]; unfold Slim; exact ⟨by simp, by simp, by simp, by simp, by unfold SlimL; trivial⟩
  | .num t, h => by rw [toG]; unfold Well at h; unfold Slim; exact ⟨h, by simp, by simp, by simp, by unfold SlimL; trivial⟩
  | .str t, h => by rw [toG]; unfold Well at h; unfold Slim; exact ⟨h, by simp, by simp, by simp, by unfold SlimL; trivial⟩
  | .arr l, h => by rw [toG_arr]; unfold Well at h; unfold Slim; exact ⟨by simp, by rw [List.length_map]; omega, by simp, by simp, WellL.slim l h.2⟩
  | .obj ns l, h => by rw [toG_obj]; unfold Well at h; unfold Slim; obtain ⟨h1, h2, h3, h4, h5⟩ := h; exact ⟨by simp, by rw [List.length_map]; omega, by omega, h4, WellL.slim l h5⟩
theorem WellL.slim : ∀ l : List JV, WellL l → SlimL (l.map toG)
  | [], h => by simp only [List.map_nil]; unfold SlimL; trivial
  | x :: r, h => by unfold WellL at h; rw [List.map_cons]; unfold SlimL; exact ⟨Well.slim x h.1, WellL.slim r h.2⟩
end
/-- the fields of what was read -/
theorem Well.parts {x : JV} (h : Well x) : ∃ (k : Int) (t : List UInt8) (l : List GV) (ns : List (List UInt8)), toG x = .mk k t l ns ∧ Slim (.mk k t l ns) ∧ ns.length ≤ l.length ∧ ns.Nodup ∧ (k = 6 → ns.length = l.length) ∧ (k ≠ 6 → ns = []) := by
  have hs := Well.slim x h
  cases x with
  | plain k => rw [toG] at hs ⊢; exact ⟨_, _, _, _, rfl, hs, by simp, by simp, fun _ => rfl, fun _ => rfl⟩
  | num t => rw [toG] at hs ⊢; exact ⟨_, _, _, _, rfl, hs, by simp, by simp, fun _ => rfl, fun _ => rfl⟩
  | str t => rw [toG] at hs ⊢; exact ⟨_, _, _, _, rfl, hs, by simp, by simp, fun _ => rfl, fun _ => rfl⟩
  | arr l => rw [toG_arr] at hs ⊢; exact ⟨_, _, _, _, rfl, hs, by simp, by simp, fun e => absurd e (by decide), fun _ => rfl⟩
  | obj ns l =>
    unfold Well at h
    rw [toG_obj] at hs ⊢
    exact ⟨_, _, _, _, rfl, hs, by rw [List.length_map]; omega, h.2.2.1, fun _ => by rw [List.length_map]; exact h.2.1, fun e => absurd rfl e⟩

theorem idxL_at : ∀ {ns : List (List UInt8)}, ns.Nodup → ∀ i (h : i < ns.length), idxL ns[i] ns = (i : Int)
  | s :: r, hn, 0, h => by simp [idxL]
  | s :: r, hn, i + 1, h => by
    have hi : i < r.length := by simpa using h
    have ih := idxL_at (List.nodup_cons.1 hn).2 i hi
    have h1 : (r[i] == s) = false := by
      rw [beq_eq_false_iff_ne]
      intro e
      exact (List.nodup_cons.1 hn).1 (e ▸ List.getElem_mem hi)
    simp only [List.getElem_cons_succ]
    unfold idxL
    rw [if_neg (by rw [h1]; decide), ih, if_neg (by omega)]
    push_cast; rfl
theorem idxL_is {t : List UInt8} : ∀ {ns : List (List UInt8)} {i : Nat}, idxL t ns = (i : Int) → ∃ h : i < ns.length, ns[i] = t
  | [], i, h => by simp [idxL] at h
  | s :: r, i, h => by
    unfold idxL at h
    split at h
    · rename_i e
      obtain rfl : i = 0 := by omega
      exact ⟨by simp, by simpa using (beq_iff_eq.1 e).symm⟩
    · split at h
      · omega
      · cases i with
        | zero => have := idxL_range t r; omega
        | succ i =>
          obtain ⟨h2, h3⟩ := idxL_is (t := t) (ns := r) (i := i) (by push_cast at h; omega)
          exact ⟨by simp; omega, by simpa using h3⟩
theorem idxL_eq {t : List UInt8} {ns : List (List UInt8)} (hn : ns.Nodup) {j : Nat} (h : j < ns.length) : (ns[j] = t) ↔ idxL t ns = (j : Int) := by
  constructor
  · rintro rfl; exact idxL_at hn j h
  · intro e; obtain ⟨_, h2⟩ := idxL_is e; exact h2
end Go.Proofs.YtdhkpkojnokjdaaDoor
