/-
  PLAIN, of WalApart: an append to a log leaves all names but its own segments.
-/
import Derived.Test.YtkhlejficonhpaaGreatDoorWA
import Derived.Test.YtkhlejficonhpaaGreatDoorWJ
import Derived.Test.YtkhlejficonhpaaGreatDoorFsB
namespace Go.Proofs.YtkhlejficonhpaaGreatDoor

theorem create_other {S : Fsp.Fs} {n m : List UInt8} (h : n ≠ m) : Fsp.find (Fsp.create S m).1.L n = Fsp.find S.L n := by
  unfold Fsp.create
  repeat' split
  all_goals first | rfl | (rw [stepped_L]) | (show Fsp.find (Fsp.put _ _ _) n = _; exact Fsp.find_put_other _ h _)

theorem append_other {S : Fsp.Fs} {n m b : List UInt8} (h : n ≠ m) : Fsp.find (Fsp.append S m b).1.L n = Fsp.find S.L n := by
  unfold Fsp.append
  repeat' split
  all_goals first | rfl | (rw [stepped_L]) | (show Fsp.find (Fsp.put _ _ _) n = _; exact Fsp.find_put_other _ h _)

theorem sync_other {S : Fsp.Fs} {n m : List UInt8} (h : n ≠ m) : Fsp.find (Fsp.sync S m).1.L n = Fsp.find S.L n := by
  unfold Fsp.sync
  repeat' split
  all_goals first | rfl | (rw [stepped_L]) | (show Fsp.find (Fsp.put _ _ _) n = _; exact Fsp.find_put_other _ h _)

theorem write_other {S : Fsp.Fs} {l : Walp.Lg} {p n : List UInt8} (h : ∀ k, n ≠ Walp.seg l.dir k) : Fsp.find (Walp.write S l p).1.1.L n = Fsp.find S.L n := by
  unfold Walp.write
  split
  · show Fsp.find (Fsp.sync _ _).1.L n = _
    rw [sync_other (h _), append_other (h _)]
  · exact append_other (h _)

theorem met_dir' (l : Walp.Lg) (e : Nat) : (Walp.met l e).dir = l.dir := Walp.met_dir l e

theorem rotate_other {S : Fsp.Fs} {l : Walp.Lg} {n : List UInt8} (h : ∀ k, n ≠ Walp.seg l.dir k) : Fsp.find (Walp.rotate S l).1.1.L n = Fsp.find S.L n ∧ (Walp.rotate S l).1.2.dir = l.dir := by
  unfold Walp.rotate
  split
  · exact ⟨rfl, rfl⟩
  · split
    · exact ⟨rfl, rfl⟩
    · split
      · exact ⟨create_other (h _), rfl⟩
      · exact ⟨create_other (h _), met_dir' _ _⟩

theorem wappend_other {S : Fsp.Fs} {l : Walp.Lg} {p n : List UInt8} (h : ∀ k, n ≠ Walp.seg l.dir k) : Fsp.find (Walp.append S l p).1.1.L n = Fsp.find S.L n := by
  have hr := rotate_other (S := S) (l := l) h
  unfold Walp.append
  split
  · rfl
  · split
    · rfl
    · split
      · split
        · rw [write_other (fun k => by rw [hr.2]; exact h k)]; exact hr.1
        · exact hr.1
      · exact write_other h

theorem Has.elsewhere {S S' : Fsp.Fs} {d : List UInt8} {first : Nat} {fs : List Fsp.File} (h : Walp.Has S d first fs) (ho : ∀ n, Fsp.find S'.L (Walp.seg d n) = Fsp.find S.L (Walp.seg d n)) : Walp.Has S' d first fs :=
  ⟨h.pos, h.last, fun n h1 h2 => by rw [ho]; exact h.find n h1 h2⟩

theorem seg_length_ne {a b : List UInt8} (h : a.length ≠ b.length) (m n : Nat) : Walp.seg a m ≠ Walp.seg b n := fun e => by
  have := congrArg List.length e
  rw [Walp.seg_length, Walp.seg_length] at this
  omega

/-- what records take, framed -/
def cost (l : List (List UInt8)) : Nat := (l.map fun q => 8 + q.length).sum
theorem cost_take {l : List (List UInt8)} {i : Nat} (h : i < l.length) : cost (l.take (i + 1)) = cost (l.take i) + (8 + l[i].length) := by
  unfold cost
  rw [List.take_succ_eq_append_getElem h, List.map_append, List.sum_append]; simp
theorem cost_sum (l : List (List UInt8)) : cost l = (l.map fun q => q.length + 1).sum + 7 * l.length := by
  unfold cost
  induction l with
  | nil => rfl
  | cons x r ih => simp only [List.map_cons, List.sum_cons, List.length_cons]; omega
theorem cost_le (l : List (List UInt8)) (i : Nat) : cost (l.take i) ≤ cost l := by
  induction l generalizing i with
  | nil => simp [cost]
  | cons x r ih =>
    cases i with
    | zero => simp [cost]
    | succ i =>
      have := ih i
      unfold cost at this ⊢
      simp only [List.take_succ_cons, List.map_cons, List.sum_cons]
      omega

end Go.Proofs.YtkhlejficonhpaaGreatDoor
