/-
  PLAIN: what stands behind a crash.
-/
import Derived.Test.YtjjajnfkngfpjaaGreatDoorPlain2
namespace Go.Proofs.YtjjajnfkngfpjaaGreatDoor.Fsp

def AllSynced (L : List (List UInt8 × File)) : Prop := ∀ x ∈ L, x.2.synced = x.2.data.length

theorem torn_synced (f : File) (k : Int) (h : f.synced ≤ f.data.length) : (torn f k).synced = (torn f k).data.length := by
  unfold torn
  split
  · simp; omega
  · omega

theorem torn_same (f : File) (k : Int) (h : f.synced = f.data.length) : torn f k = f := by unfold torn; rw [if_neg (by omega)]

theorem crash_synced {S : Fs} (hg : Good S) (kf : List UInt8 → Nat → Int) : AllSynced (crash S kf).L := by
  intro x hx
  rw [crash_L] at hx
  obtain ⟨y, hy, rfl⟩ := List.mem_map.1 hx
  exact torn_synced _ _ (hg.2.2.2.2.2 y.1 y.2 (mem_find hg.1 hy)).2

theorem crash_same {S : Fs} (h : AllSynced S.L) (kf : List UInt8 → Nat → Int) : (crash S kf).L = S.L := by
  rw [crash_L]
  have : ∀ x ∈ S.L, tornAt kf x = x := fun x hx => by
    unfold tornAt
    rw [torn_same _ _ (h x hx)]
  rw [List.map_congr_left this, List.map_id']

theorem put_synced {L : List (List UInt8 × File)} (h : AllSynced L) {n : List UInt8} {f : File} (hf : f.synced = f.data.length) : AllSynced (put L n f) := by
  intro x hx
  rcases mem_put hx with e | e
  · rw [e]; exact hf
  · exact h x e

theorem del_synced {L : List (List UInt8 × File)} (h : AllSynced L) (n : List UInt8) : AllSynced (del L n) := fun x hx => h x (mem_del hx)

theorem find_synced {L : List (List UInt8 × File)} (h : AllSynced L) {n : List UInt8} {f : File} (hf : find L n = some f) : f.synced = f.data.length := h (n, f) (find_mem hf)

theorem crash_find (S : Fs) (kf : List UInt8 → Nat → Int) (n : List UInt8) : find (crash S kf).L n = (find S.L n).map fun f => torn f (kf n (f.data.length - f.synced)) := by
  have key : ∀ L : List (List UInt8 × File), find (L.map (tornAt kf)) n = (find L n).map fun f => torn f (kf n (f.data.length - f.synced)) := by
    intro L
    induction L with
    | nil => rfl
    | cons x r ih =>
      simp only [List.map_cons, find]
      by_cases hx : x.1 = n
      · subst hx; simp [tornAt]
      · have : ¬ (tornAt kf x).1 = n := hx
        rw [if_neg this, if_neg hx, ih]
  rw [crash_L]; exact key S.L

theorem crash_plain (S : Fs) (kf : List UInt8 → Nat → Int) : (crash S kf).armed = 0 ∧ (crash S kf).down = false ∧ (crash S kf).steps = S.steps ∧ (crash S kf).room = S.room := ⟨rfl, rfl, rfl, rfl⟩

end Go.Proofs.YtjjajnfkngfpjaaGreatDoor.Fsp
