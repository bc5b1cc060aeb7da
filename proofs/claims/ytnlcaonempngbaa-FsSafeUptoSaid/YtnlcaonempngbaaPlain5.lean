/-
  PLAIN: an armed file system beside one that is not.
-/
import Derived.Test.YtnlcaonempngbaaRefused
namespace Go.Proofs.Ytnlcaonempngbaa.Fsp

def withArm (S : Fs) (k : Nat) : Fs := { S with armed := k }

/-- what the armed one does, by what the other does -/
def ArmedOk (A : Fs) (r : Fs × Nat) (k : Nat) (g : Fs × Nat) : Prop :=
  r.1.armed = 0 ∧ r.1.down = false ∧ ((r.1.steps = A.steps ∧ g = (withArm r.1 k, r.2)) ∨ (r.1.steps = A.steps + 1 ∧ ((k = 1 ∧ g = (stepped (withArm A 1), 5)) ∨ (1 < k ∧ g = (withArm r.1 (k - 1), r.2)))))

theorem armed_same {A : Fs} (ha : A.armed = 0) (hd : A.down = false) (k e : Nat) : ArmedOk A (A, e) k (withArm A k, e) := ⟨ha, hd, Or.inl ⟨rfl, rfl⟩⟩

/-- a write that is done -/
theorem armed_step {A : Fs} (hd : A.down = false) (ha : A.armed = 0) {k : Nat} (hk : 1 ≤ k) (L : List (List UInt8 × File)) (e : Nat) :
    ArmedOk A ({ stepped A with L := L }, e) k (if (withArm A k).armed = 1 then (stepped (withArm A k), 5) else ({ stepped (withArm A k) with L := L }, e)) := by
  have h0 : ¬ A.armed = 1 := by omega
  by_cases h1 : k = 1
  · subst h1
    refine ⟨by simp [stepped, ha], by simp [stepped, ha, hd], Or.inr ⟨by simp [stepped, ha], Or.inl ⟨rfl, ?_⟩⟩⟩
    rw [if_pos (show (withArm A 1).armed = 1 from rfl)]
  · refine ⟨by simp [stepped, ha], by simp [stepped, ha, hd], Or.inr ⟨by simp [stepped, ha], Or.inr ⟨by omega, ?_⟩⟩⟩
    rw [if_neg (show ¬ (withArm A k).armed = 1 from h1)]
    simp [stepped, withArm, ha, h1]

theorem create_armed {A : Fs} (ha : A.armed = 0) (hd : A.down = false) {k : Nat} (hk : 1 ≤ k) (n : List UInt8) : ArmedOk A (create A n) k (create (withArm A k) n) := by
  have h0 : ¬ A.armed = 1 := by omega
  have e : create (withArm A k) n = if valid n = false then (withArm A k, 1) else if (find A.L n).isSome then (withArm A k, 3) else if 400 ≤ A.L.length then (withArm A k, 4) else if (withArm A k).armed = 1 then (stepped (withArm A k), 5) else ({ stepped (withArm A k) with L := put A.L n ⟨[], 0⟩ }, 0) := by
    simp [create, withArm, hd]
  rw [e]
  simp only [create, hd, Bool.false_eq_true, if_false, if_neg h0]
  split
  · exact armed_same ha hd k _
  · split
    · exact armed_same ha hd k _
    · split
      · exact armed_same ha hd k _
      · exact armed_step hd ha hk _ _

theorem append_armed {A : Fs} (ha : A.armed = 0) (hd : A.down = false) {k : Nat} (hk : 1 ≤ k) (n b : List UInt8) : ArmedOk A (append A n b) k (append (withArm A k) n b) := by
  have h0 : ¬ A.armed = 1 := by omega
  have hd' : (withArm A k).down = false := hd
  have hL : (withArm A k).L = A.L := rfl
  have hR : (withArm A k).room = A.room := rfl
  simp only [append, hd, hd', hL, hR, Bool.false_eq_true, if_false, if_neg h0]
  cases hf : find A.L n with
  | none => exact armed_same ha hd k _
  | some f =>
    simp only
    split
    · exact armed_same ha hd k _
    · exact armed_step hd ha hk _ _

theorem sync_armed {A : Fs} (ha : A.armed = 0) (hd : A.down = false) {k : Nat} (hk : 1 ≤ k) (n : List UInt8) : ArmedOk A (sync A n) k (sync (withArm A k) n) := by
  have h0 : ¬ A.armed = 1 := by omega
  have hd' : (withArm A k).down = false := hd
  have hL : (withArm A k).L = A.L := rfl
  simp only [sync, hd, hd', hL, Bool.false_eq_true, if_false, if_neg h0]
  cases hf : find A.L n with
  | none => exact armed_same ha hd k _
  | some f => exact armed_step hd ha hk _ _

theorem truncate_armed {A : Fs} (ha : A.armed = 0) (hd : A.down = false) {k : Nat} (hk : 1 ≤ k) (n : List UInt8) (z : Int) : ArmedOk A (truncate A n z) k (truncate (withArm A k) n z) := by
  have h0 : ¬ A.armed = 1 := by omega
  have hd' : (withArm A k).down = false := hd
  have hL : (withArm A k).L = A.L := rfl
  simp only [truncate, hd, hd', hL, Bool.false_eq_true, if_false, if_neg h0]
  cases hf : find A.L n with
  | none => exact armed_same ha hd k _
  | some f =>
    simp only
    split
    · exact armed_same ha hd k _
    · exact armed_step hd ha hk _ _

theorem remove_armed {A : Fs} (ha : A.armed = 0) (hd : A.down = false) {k : Nat} (hk : 1 ≤ k) (n : List UInt8) : ArmedOk A (remove A n) k (remove (withArm A k) n) := by
  have h0 : ¬ A.armed = 1 := by omega
  have hd' : (withArm A k).down = false := hd
  have hL : (withArm A k).L = A.L := rfl
  simp only [remove, hd, hd', hL, Bool.false_eq_true, if_false, if_neg h0]
  cases hf : find A.L n with
  | none => exact armed_same ha hd k _
  | some f => exact armed_step hd ha hk _ _

theorem rename_armed {A : Fs} (ha : A.armed = 0) (hd : A.down = false) {k : Nat} (hk : 1 ≤ k) (a b : List UInt8) : ArmedOk A (rename A a b) k (rename (withArm A k) a b) := by
  have h0 : ¬ A.armed = 1 := by omega
  have hd' : (withArm A k).down = false := hd
  have hL : (withArm A k).L = A.L := rfl
  simp only [rename, hd, hd', hL, Bool.false_eq_true, if_false, if_neg h0]
  cases hf : find A.L a with
  | none => exact armed_same ha hd k _
  | some f =>
    simp only
    split
    · exact armed_same ha hd k _
    · split
      · have := armed_step hd ha hk A.L 0
        have e1 : ({ stepped A with L := A.L } : Fs) = stepped A := by rw [← stepped_L A]
        have e2 : ({ stepped (withArm A k) with L := A.L } : Fs) = stepped (withArm A k) := by rw [← hL, ← stepped_L (withArm A k)]
        rw [e1, e2] at this
        exact this
      · exact armed_step hd ha hk _ _
end Go.Proofs.Ytnlcaonempngbaa.Fsp
namespace Go.Proofs.Ytnlcaonempngbaa

theorem told_armed {A : Fsp.Fs} (ha : A.armed = 0) (hd : A.down = false) {k : Nat} (hk : 1 ≤ k) (o : OpD) (h5 : o.kind ≤ 5) : Fsp.ArmedOk A (toldS A o) k (toldS (Fsp.withArm A k) o) := by
  unfold toldS
  repeat' split
  · exact Fsp.create_armed ha hd hk _
  · exact Fsp.append_armed ha hd hk _ _
  · exact Fsp.sync_armed ha hd hk _
  · exact Fsp.truncate_armed ha hd hk _ _
  · exact Fsp.rename_armed ha hd hk _ _
  · exact Fsp.remove_armed ha hd hk _
  · omega
  · omega
  · exact Fsp.armed_same ha hd k _
end Go.Proofs.Ytnlcaonempngbaa
