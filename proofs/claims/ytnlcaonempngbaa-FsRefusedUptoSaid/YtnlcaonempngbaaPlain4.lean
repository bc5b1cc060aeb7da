/-
  Files of some names, as plain data: what a copy has while it grows.
-/
import Derived.Test.YtnlcaonempngbaaFsA
namespace Go.Proofs.Ytnlcaonempngbaa.Fsp

/-- the files of these names -/
def only (L : List (List UInt8 × File)) (P : List UInt8 → Bool) : List (List UInt8 × File) := L.filter fun x => P x.1

theorem only_sorted {L : List (List UInt8 × File)} (h : Sorted L) (P : List UInt8 → Bool) : Sorted (only L P) := List.Pairwise.filter _ h

theorem only_length (L : List (List UInt8 × File)) (P : List UInt8 → Bool) : (only L P).length ≤ L.length := List.length_filter_le _ _

theorem only_used (L : List (List UInt8 × File)) (P : List UInt8 → Bool) : usedOf (only L P) ≤ usedOf L := by
  induction L with
  | nil => simp [only, usedOf]
  | cons x r ih =>
    unfold only at ih ⊢
    rw [List.filter_cons]
    split
    · simp only [usedOf]; omega
    · simp only [usedOf]; omega

theorem only_find (L : List (List UInt8 × File)) (P : List UInt8 → Bool) (n : List UInt8) : find (only L P) n = if P n then find L n else none := by
  induction L with
  | nil => simp [only, find]
  | cons x r ih =>
    unfold only at ih ⊢
    rw [List.filter_cons]
    by_cases hx : x.1 = n
    · subst hx
      cases hp : P x.1 with
      | true => simp [find]
      | false =>
        rw [hp] at ih
        simpa using ih
    · by_cases hp : P x.1 = true
      · rw [if_pos hp]
        simp only [find, if_neg hx]
        exact ih
      · rw [if_neg hp]
        simp only [find, if_neg hx]
        exact ih

theorem put_front {M : List (List UInt8 × File)} {n : List UInt8} (h : ∀ y ∈ M, n < y.1) (f : File) : put M n f = (n, f) :: M := by
  cases M with
  | nil => rfl
  | cons y r =>
    have hlt := h y (by simp)
    have hne2 : ¬ y.1 = n := fun e => lt_irrefl' _ (by rw [e] at hlt; exact hlt)
    simp [put, hne2, hlt]

theorem only_put {L : List (List UInt8 × File)} (hs : Sorted L) {P P' : List UInt8 → Bool} {n : List UInt8} {f : File} (hf : find L n = some f) (hn : P n = false) (hn' : P' n = true) (hP : ∀ m, m ≠ n → P' m = P m) : put (only L P) n f = only L P' := by
  induction L with
  | nil => simp [find] at hf
  | cons x r ih =>
    obtain ⟨h1, h2⟩ := List.pairwise_cons.1 hs
    unfold only at ih ⊢
    rw [List.filter_cons, List.filter_cons]
    by_cases hx : x.1 = n
    · have hfx : x.2 = f := by simpa [find, hx] using hf
      rw [hx, hn, hn']
      simp only [Bool.false_eq_true, if_false, if_true]
      have e : r.filter (fun x => P x.1) = r.filter (fun x => P' x.1) := List.filter_congr fun y hy => by
        have hlt := h1 y hy
        have : y.1 ≠ n := fun e => lt_irrefl' _ (by rw [e, ← hx] at hlt; exact hlt)
        exact (hP _ this).symm
      rw [put_front (fun y hy => by rw [← hx]; exact h1 y (List.mem_filter.1 hy).1) f, e, ← hfx, ← hx]
    · have hfr : find r n = some f := by simpa [find, hx] using hf
      have hlt : x.1 < n := h1 _ (find_mem hfr)
      rw [hP _ hx]
      cases hp : P x.1 with
      | true =>
        simp only [if_true]
        have := ih h2 hfr
        simp only [put, hx, if_false, if_neg (lt_asymm' hlt)]
        rw [this]
      | false =>
        simp only [Bool.false_eq_true, if_false]
        exact ih h2 hfr

theorem only_all {L : List (List UInt8 × File)} {P : List UInt8 → Bool} (h : ∀ x ∈ L, P x.1 = true) : only L P = L := List.filter_eq_self.2 h
theorem only_none (L : List (List UInt8 × File)) : only L (fun _ => false) = [] := by simp [only]

theorem good_only {S : Fs} (h : Good S) (P : List UInt8 → Bool) : Good { S with L := only S.L P } := by
  obtain ⟨h1, h2, h3, h4, h5, h6⟩ := h
  refine ⟨only_sorted h1 P, Nat.le_trans (only_used _ _) h2, h3, Nat.le_trans (only_length _ _) h4, h5, fun n f hf => ?_⟩
  have : find (only S.L P) n = some f := hf
  rw [only_find] at this
  split at this
  · exact h6 n f this
  · cases this
end Go.Proofs.Ytnlcaonempngbaa.Fsp
