/-
  PLAIN, of the log: what stands in bytes in the form of frames, sound or spoilt; and of it, what is sound.
-/
import Derived.Test.YtjjajnfkngfpjaaGreatDoorWPlain
namespace Go.Proofs.YtjjajnfkngfpjaaGreatDoor.Walp

/-- the first thing that stands in b in the form of a frame: its sum, its bytes -/
def raw1 (b : List UInt8) : Option (Nat × List UInt8) :=
  if b.length < 8 then none
  else if b.length - 8 < num (b.take 4) then none
  else some (num ((b.drop 4).take 4), (b.drop 8).take (num (b.take 4)))

theorem raw1_some {b : List UInt8} {x : Nat × List UInt8} (h : raw1 b = some x) : 8 ≤ b.length ∧ x.2.length = num (b.take 4) ∧ 8 + x.2.length ≤ b.length ∧ x.1 = num ((b.drop 4).take 4) ∧ x.2 = (b.drop 8).take x.2.length ∧ x.1 < 4294967296 := by
  unfold raw1 at h
  by_cases h1 : b.length < 8
  · rw [if_pos h1] at h; cases h
  rw [if_neg h1] at h
  by_cases h2 : b.length - 8 < num (b.take 4)
  · rw [if_pos h2] at h; cases h
  rw [if_neg h2] at h
  cases h
  have hl : ((b.drop 8).take (num (b.take 4))).length = num (b.take 4) := by simp; omega
  refine ⟨by omega, hl, by rw [hl]; omega, rfl, by rw [hl], ?_⟩
  have := num_lt ((b.drop 4).take 4)
  have e : ((b.drop 4).take 4).length = 4 := by simp; omega
  rw [e] at this
  exact this

def raw (b : List UInt8) : List (Nat × List UInt8) :=
  match h : raw1 b with
  | none => []
  | some x => x :: raw (b.drop (8 + x.2.length))
termination_by b.length
decreasing_by
  have := raw1_some h
  rw [List.length_drop]; omega

theorem raw_none {b : List UInt8} (h : raw1 b = none) : raw b = [] := by
  rw [raw]; split
  · rfl
  · rename_i p hp; rw [h] at hp; cases hp

theorem raw_some {b : List UInt8} {x : Nat × List UInt8} (h : raw1 b = some x) : raw b = x :: raw (b.drop (8 + x.2.length)) := by
  rw [raw]; split
  · rename_i hp; rw [h] at hp; cases hp
  · rename_i q hp; rw [h] at hp; cases hp; rfl

/-- is it sound? -/
def sound (x : Nat × List UInt8) : Bool := decide (x.2.length ≤ 1048576) && decide (sum x.2 = x.1)

theorem rec1_raw (b : List UInt8) : rec1 b = match raw1 b with
    | none => none
    | some x => if sound x = true then some x.2 else none := by
  unfold rec1 raw1 sound
  by_cases h1 : b.length < 8
  · rw [if_pos h1, if_pos h1]
  rw [if_neg h1, if_neg h1]
  by_cases h2 : b.length - 8 < num (b.take 4)
  · rw [if_pos (Or.inr h2), if_pos h2]
  rw [if_neg h2]
  have hl : ((b.drop 8).take (num (b.take 4))).length = num (b.take 4) := by simp; omega
  simp only [hl]
  by_cases h3 : 1048576 < num (b.take 4)
  · rw [if_pos (Or.inl h3), if_neg (by simp; intro; omega)]
  · rw [if_neg (by omega)]
    by_cases h4 : sum ((b.drop 8).take (num (b.take 4))) = num ((b.drop 4).take 4)
    · rw [if_pos h4, if_pos (by simp [h4]; omega)]
    · rw [if_neg h4, if_neg (by simp [h4])]

theorem scan_raw (b : List UInt8) : scan b = ((raw b).takeWhile sound).map (·.2) := by
  induction hn : b.length using Nat.strongRecOn generalizing b with
  | _ n ih =>
    have hr := rec1_raw b
    cases h : raw1 b with
    | none =>
      rw [h] at hr
      rw [scan_none hr, raw_none h]; rfl
    | some x =>
      rw [h] at hr
      have hx := raw1_some h
      rw [raw_some h, List.takeWhile_cons]
      by_cases hs : sound x = true
      · rw [if_pos hs]
        simp only [hs, if_true] at hr
        rw [scan_some hr, ih _ (by rw [List.length_drop]; omega) _ rfl]; rfl
      · rw [if_neg hs]
        simp only [if_neg hs] at hr
        rw [scan_none hr]; rfl

theorem takeWhile_all {α : Type} {p : α → Bool} {l : List α} (h : l.all p = true) : l.takeWhile p = l := by
  induction l with
  | nil => rfl
  | cons x r ih =>
    rw [List.all_cons, Bool.and_eq_true] at h
    rw [List.takeWhile_cons, if_pos h.1, ih h.2]

theorem takeWhile_stop {α : Type} {p : α → Bool} {a : List α} {x : α} {l : List α} (h : a.all p = true) (hx : p x = false) (hl : (a ++ [x]) <+: l) : l.takeWhile p = a := by
  obtain ⟨r, rfl⟩ := hl
  induction a with
  | nil => simp [hx]
  | cons y a ih =>
    rw [List.all_cons, Bool.and_eq_true] at h
    rw [List.cons_append, List.cons_append, List.takeWhile_cons, if_pos h.1, ih h.2]

theorem frames_length (l : List (List UInt8)) : (frames l).length = (l.map fun p => 8 + p.length).sum := by
  induction l with
  | nil => rfl
  | cons p l ih => rw [frames_cons, List.length_append, frame_length, ih]; simp

theorem frames_snoc_length (l : List (List UInt8)) (p : List UInt8) : (frames (l ++ [p])).length = (frames l).length + (8 + p.length) := by
  rw [frames_append, List.length_append, frames_one, frame_length]

/-- so many bytes hold few of them -/
theorem raw_length (b : List UInt8) : 8 * (raw b).length ≤ b.length := by
  induction hn : b.length using Nat.strongRecOn generalizing b with
  | _ n ih =>
    cases h : raw1 b with
    | none => rw [raw_none h]; simp
    | some x =>
      have hx := raw1_some h
      have := ih _ (by rw [List.length_drop]; omega) (b.drop (8 + x.2.length)) rfl
      rw [List.length_drop] at this
      rw [raw_some h, List.length_cons]; omega

end Go.Proofs.YtjjajnfkngfpjaaGreatDoor.Walp
