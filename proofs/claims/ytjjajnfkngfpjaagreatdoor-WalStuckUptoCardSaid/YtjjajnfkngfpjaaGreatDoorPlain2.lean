/-
  PLAIN: a crash, file by file.
-/
import Derived.Test.YtjjajnfkngfpjaaGreatDoorPlain
namespace Go.Proofs.YtjjajnfkngfpjaaGreatDoor.Fsp

/-- the first k files torn -/
def tornAt (kf : List UInt8 → Nat → Int) (x : List UInt8 × File) : List UInt8 × File := (x.1, torn x.2 (kf x.1 (x.2.data.length - x.2.synced)))
def crashTo (L : List (List UInt8 × File)) (kf : List UInt8 → Nat → Int) (k : Nat) : List (List UInt8 × File) := (L.take k).map (tornAt kf) ++ L.drop k

theorem sorted_of_names {L M : List (List UInt8 × File)} (h : L.map (·.1) = M.map (·.1)) (hs : Sorted L) : Sorted M := by
  unfold Sorted at *
  have h1 : (L.map (·.1)).Pairwise (· < ·) := List.pairwise_map.2 hs
  rw [h] at h1
  exact List.pairwise_map.1 h1

theorem crashTo_names (L : List (List UInt8 × File)) (kf : List UInt8 → Nat → Int) (k : Nat) : (crashTo L kf k).map (·.1) = L.map (·.1) := by
  unfold crashTo
  rw [List.map_append, List.map_map]
  have : ((fun x : List UInt8 × File => x.1) ∘ tornAt kf) = fun x => x.1 := rfl
  rw [this, ← List.map_append, List.take_append_drop]

theorem find_mid {A B : List (List UInt8 × File)} {x : List UInt8 × File} (hs : Sorted (A ++ x :: B)) : find (A ++ x :: B) x.1 = some x.2 :=
  mem_find hs (by simp)

theorem put_mid {A B : List (List UInt8 × File)} {x : List UInt8 × File} (hs : Sorted (A ++ x :: B)) (f : File) : put (A ++ x :: B) x.1 f = A ++ (x.1, f) :: B := by
  induction A with
  | nil => simp [put]
  | cons a A ih =>
    obtain ⟨h1, h2⟩ := List.pairwise_cons.1 hs
    have hlt : a.1 < x.1 := h1 x (by simp)
    have hne : ¬ a.1 = x.1 := fun e => lt_irrefl' _ (by rw [e] at hlt; exact hlt)
    simp only [List.cons_append, put, if_neg hne, if_neg (lt_asymm' hlt), ih h2]

theorem crashTo_mid (L : List (List UInt8 × File)) (kf : List UInt8 → Nat → Int) {k : Nat} {x : List UInt8 × File} (hx : L[k]? = some x) :
    crashTo L kf k = (L.take k).map (tornAt kf) ++ x :: L.drop (k + 1) ∧ crashTo L kf (k + 1) = (L.take k).map (tornAt kf) ++ tornAt kf x :: L.drop (k + 1) := by
  obtain ⟨hk, hx'⟩ := List.getElem?_eq_some_iff.1 hx
  unfold crashTo
  constructor
  · rw [List.drop_eq_getElem_cons hk, hx']
  · rw [List.take_succ_eq_append_getElem hk, List.map_append, hx']; simp

theorem crashTo_find {L : List (List UInt8 × File)} (hs : Sorted L) (kf : List UInt8 → Nat → Int) {k : Nat} {x : List UInt8 × File} (hx : L[k]? = some x) : find (crashTo L kf k) x.1 = some x.2 := by
  have hs' := sorted_of_names (crashTo_names L kf k).symm hs
  rw [(crashTo_mid L kf hx).1] at hs' ⊢
  exact find_mid hs'

theorem crashTo_put {L : List (List UInt8 × File)} (hs : Sorted L) (kf : List UInt8 → Nat → Int) {k : Nat} {x : List UInt8 × File} (hx : L[k]? = some x) :
    put (crashTo L kf k) x.1 (torn x.2 (kf x.1 (x.2.data.length - x.2.synced))) = crashTo L kf (k + 1) := by
  have hs' := sorted_of_names (crashTo_names L kf k).symm hs
  rw [(crashTo_mid L kf hx).2]
  rw [(crashTo_mid L kf hx).1] at hs' ⊢
  exact put_mid hs' _

theorem crashTo_zero (L : List (List UInt8 × File)) (kf : List UInt8 → Nat → Int) : crashTo L kf 0 = L := by simp [crashTo]
theorem crashTo_end (L : List (List UInt8 × File)) (kf : List UInt8 → Nat → Int) : crashTo L kf L.length = L.map (tornAt kf) := by simp [crashTo]

theorem names_all (S : Fs) : names S [] = S.L.map (·.1) := by
  unfold names
  rw [List.filter_eq_self.2 (fun x _ => by simp [List.isPrefixOf])]

theorem valid_len {l : List UInt8} (h : valid l = true) : l.length ≤ 100 := by
  simp only [valid, Bool.and_eq_true, decide_eq_true_eq] at h
  omega

theorem crash_L (S : Fs) (kf : List UInt8 → Nat → Int) : (crash S kf).L = S.L.map (tornAt kf) := rfl

end Go.Proofs.YtjjajnfkngfpjaaGreatDoor.Fsp
