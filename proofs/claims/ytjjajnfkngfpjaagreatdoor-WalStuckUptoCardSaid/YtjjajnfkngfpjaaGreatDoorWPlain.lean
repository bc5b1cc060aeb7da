/-
  PLAIN, of the log: sums, frames, what stands in bytes. No program, no memory.
-/
namespace Go.Proofs.YtjjajnfkngfpjaaGreatDoor.Walp

/-! ### the sum -/
def tab (i : Nat) : Nat :=
  match i with
  | 0 => 0x00000000 | 1 => 0x1db71064 | 2 => 0x3b6e20c8 | 3 => 0x26d930ac
  | 4 => 0x76dc4190 | 5 => 0x6b6b51f4 | 6 => 0x4db26158 | 7 => 0x5005713c
  | 8 => 0xedb88320 | 9 => 0xf00f9344 | 10 => 0xd6d6a3e8 | 11 => 0xcb61b38c
  | 12 => 0x9b64c2b0 | 13 => 0x86d3d2d4 | 14 => 0xa00ae278 | _ => 0xbdbdf21c

def half (s : Nat) : Nat := tab (s % 16) ^^^ (s / 16)
def bitS (s : Nat) : Nat := if s % 2 = 1 then (s / 2) ^^^ 0xedb88320 else s / 2

theorem xor_div (a b : Nat) : (a ^^^ b) / 2 = (a / 2) ^^^ (b / 2) := by
  apply Nat.eq_of_testBit_eq
  intro i
  rw [Nat.testBit_xor, Nat.testBit_div_two, Nat.testBit_div_two, Nat.testBit_div_two, Nat.testBit_xor]

theorem xor_mod (a b : Nat) : (a ^^^ b) % 2 = (a % 2 + b % 2) % 2 := by
  have h : (a ^^^ b) % 2 = (a % 2) ^^^ (b % 2) := Nat.xor_mod_two_pow (n := 1)
  rw [h]
  rcases (show a % 2 = 0 ∨ a % 2 = 1 by omega) with e | e <;> rcases (show b % 2 = 0 ∨ b % 2 = 1 by omega) with f | f <;> rw [e, f] <;> rfl

theorem bitS_xor (a b : Nat) : bitS (a ^^^ b) = bitS a ^^^ bitS b := by
  unfold bitS
  rw [xor_mod, xor_div]
  rcases (show a % 2 = 0 ∨ a % 2 = 1 by omega) with e | e <;> rcases (show b % 2 = 0 ∨ b % 2 = 1 by omega) with f | f <;> rw [e, f] <;> simp
  · rw [Nat.xor_assoc]
  · rw [Nat.xor_assoc, Nat.xor_assoc, Nat.xor_comm (b / 2)]
  · rw [Nat.xor_assoc (a / 2), ← Nat.xor_assoc 3988292384, Nat.xor_comm 3988292384 (b / 2), Nat.xor_assoc (b / 2), Nat.xor_self, Nat.xor_zero]

theorem bitS_even (k : Nat) : bitS (2 * k) = k := by
  unfold bitS
  rw [if_neg (by omega)]; omega

theorem split16 (s : Nat) : (16 * (s / 16)) ^^^ (s % 16) = s := by
  have h := Nat.two_pow_add_eq_or_of_lt (i := 4) (b := s % 16) (Nat.mod_lt _ (by decide)) (s / 16)
  have hx : (16 * (s / 16)) ^^^ (s % 16) = (16 * (s / 16)) ||| (s % 16) := by
    apply Nat.eq_of_testBit_eq
    intro i
    rw [Nat.testBit_xor, Nat.testBit_or]
    have e : 16 * (s / 16) = 2 ^ 4 * (s / 16) := rfl
    have e2 : s % 16 = s % 2 ^ 4 := rfl
    rw [e, e2, Nat.testBit_two_pow_mul, Nat.testBit_mod_two_pow]
    by_cases hi : i < 4
    · have : ¬ 4 ≤ i := by omega
      simp [hi, this]
    · simp [hi]
  rw [hx, ← h]
  show 16 * (s / 16) + s % 16 = s
  omega

theorem half_eq (s : Nat) : half s = bitS (bitS (bitS (bitS s))) := by
  have e : ∀ k, bitS (bitS (bitS (bitS (16 * k)))) = k := fun k => by
    rw [show 16 * k = 2 * (2 * (2 * (2 * k))) by omega, bitS_even, bitS_even, bitS_even, bitS_even]
  have d : ∀ x, x < 16 → bitS (bitS (bitS (bitS x))) = tab x := by decide
  have h : bitS (bitS (bitS (bitS s))) = (s / 16) ^^^ tab (s % 16) := by
    have h2 : bitS (bitS (bitS (bitS ((16 * (s / 16)) ^^^ (s % 16))))) = (s / 16) ^^^ tab (s % 16) := by
      rw [bitS_xor, bitS_xor, bitS_xor, bitS_xor, e, d _ (Nat.mod_lt _ (by decide))]
    rw [split16] at h2; exact h2
  rw [h]; unfold half
  exact Nat.xor_comm _ _

theorem tab_lt (i : Nat) : tab i < 4294967296 := by
  unfold tab; split <;> decide

theorem half_lt {s : Nat} (h : s < 4294967296) : half s < 4294967296 :=
  Nat.xor_lt_two_pow (n := 32) (tab_lt _) (by show s / 16 < 4294967296; omega)

theorem bitS_lt {s : Nat} (h : s < 4294967296) : bitS s < 4294967296 := by
  unfold bitS
  split
  · exact Nat.xor_lt_two_pow (n := 32) (by show s / 2 < 4294967296; omega) (by decide)
  · omega

def byteS (s : Nat) (b : UInt8) : Nat := half (half (s ^^^ b.toNat))

theorem byte_xor_lt {s : Nat} (h : s < 4294967296) (b : UInt8) : s ^^^ b.toNat < 4294967296 :=
  Nat.xor_lt_two_pow (n := 32) h (by have := b.toNat_lt; show b.toNat < 4294967296; omega)

theorem byteS_lt {s : Nat} (h : s < 4294967296) (b : UInt8) : byteS s b < 4294967296 := half_lt (half_lt (byte_xor_lt h b))

def run (l : List UInt8) : Nat := l.foldl byteS 4294967295
def sum (l : List UInt8) : Nat := 4294967295 - run l

theorem run_lt (l : List UInt8) : run l < 4294967296 := by
  have : ∀ (l : List UInt8) s, s < 4294967296 → l.foldl byteS s < 4294967296 := by
    intro l
    induction l with
    | nil => exact fun s h => h
    | cons x r ih => exact fun s h => ih _ (byteS_lt h x)
  exact this l _ (by decide)

theorem sum_lt (l : List UInt8) : sum l < 4294967296 := by unfold sum; omega
theorem run_nil : run [] = 4294967295 := rfl
theorem run_snoc (l : List UInt8) (b : UInt8) : run (l ++ [b]) = byteS (run l) b := by unfold run; rw [List.foldl_append]; rfl

/-! ### words of four bytes, the low one first -/
def num : List UInt8 → Nat
  | [] => 0
  | x :: r => x.toNat + 256 * num r

def le : Nat → Nat → List UInt8
  | _, 0 => []
  | n, k + 1 => UInt8.ofNat n :: le (n / 256) k

abbrev le4 (n : Nat) : List UInt8 := le n 4

theorem le_length (n k : Nat) : (le n k).length = k := by
  induction k generalizing n with
  | zero => rfl
  | succ k ih => simp [le, ih]

theorem num_le (n k : Nat) (h : n < 256 ^ k) : num (le n k) = n := by
  induction k generalizing n with
  | zero => simp at h; simp [le, num, h]
  | succ k ih =>
    have h1 : n / 256 < 256 ^ k := by rw [Nat.pow_succ] at h; omega
    simp only [le, num, ih _ h1, UInt8.toNat_ofNat']
    omega

theorem num_lt (l : List UInt8) : num l < 256 ^ l.length := by
  induction l with
  | nil => simp [num]
  | cons x r ih =>
    have := x.toNat_lt
    simp only [num, List.length_cons, Nat.pow_succ]
    omega

/-! ### frames -/
def frame (p : List UInt8) : List UInt8 := le4 p.length ++ (le4 (sum p) ++ p)
def maxRec : Nat := 1048576

theorem frame_length (p : List UInt8) : (frame p).length = 8 + p.length := by
  simp [frame, le_length]; omega

/-- the first record that stands in b -/
def rec1 (b : List UInt8) : Option (List UInt8) :=
  if b.length < 8 then none
  else if 1048576 < num (b.take 4) ∨ b.length - 8 < num (b.take 4) then none
  else if sum ((b.drop 8).take (num (b.take 4))) = num ((b.drop 4).take 4) then some ((b.drop 8).take (num (b.take 4))) else none

theorem num_inj : ∀ {l m : List UInt8}, l.length = m.length → num l = num m → l = m := by
  intro l
  induction l with
  | nil => intro m h _; cases m with
    | nil => rfl
    | cons => simp at h
  | cons x r ih =>
    intro m h e
    cases m with
    | nil => simp at h
    | cons y s =>
      simp only [num] at e
      have h1 := x.toNat_lt
      have h2 := y.toNat_lt
      have e1 : x.toNat = y.toNat := by omega
      have e2 : num r = num s := by omega
      rw [UInt8.toNat_inj.1 e1, ih (by simpa using h) e2]

theorem le_num (l : List UInt8) : le (num l) l.length = l := by
  apply num_inj (le_length _ _)
  exact num_le _ _ (num_lt _)

theorem rec1_some {b p : List UInt8} (h : rec1 b = some p) : p.length ≤ maxRec ∧ b = frame p ++ b.drop (8 + p.length) := by
  unfold rec1 at h
  by_cases h1 : b.length < 8
  · rw [if_pos h1] at h; cases h
  rw [if_neg h1] at h
  by_cases h2 : 1048576 < num (b.take 4) ∨ b.length - 8 < num (b.take 4)
  · rw [if_pos h2] at h; cases h
  rw [if_neg h2] at h
  by_cases h3 : sum ((b.drop 8).take (num (b.take 4))) = num ((b.drop 4).take 4)
  · rw [if_pos h3] at h
    simp only [Option.some.injEq] at h
    have hl : p.length = num (b.take 4) := by rw [← h]; simp; omega
    rw [h] at h3
    refine ⟨by unfold maxRec; omega, ?_⟩
    unfold frame
    have e1 : le4 p.length = b.take 4 := by
      rw [hl]
      have := le_num (b.take 4)
      rwa [show (b.take 4).length = 4 by simp; omega] at this
    have e2 : le4 (sum p) = (b.drop 4).take 4 := by
      rw [h3]
      have := le_num ((b.drop 4).take 4)
      rwa [show ((b.drop 4).take 4).length = 4 by simp; omega] at this
    rw [e1, e2]
    have e3 : b.drop (8 + p.length) = (b.drop 8).drop p.length := by rw [List.drop_drop]
    rw [List.append_assoc, List.append_assoc, e3]
    have e4 : p ++ (b.drop 8).drop p.length = b.drop 8 := by
      rw [hl]; conv => lhs; lhs; rw [← h]
      exact List.take_append_drop _ _
    rw [e4]
    have e5 : (b.drop 4).take 4 ++ b.drop 8 = b.drop 4 := by
      have : b.drop 8 = (b.drop 4).drop 4 := by rw [List.drop_drop]
      rw [this]; exact List.take_append_drop _ _
    rw [e5]; exact (List.take_append_drop _ _).symm
  · rw [if_neg h3] at h; cases h

theorem rec1_frame {p : List UInt8} (hp : p.length ≤ maxRec) (r : List UInt8) : rec1 (frame p ++ r) = some p := by
  have hp' := hp
  unfold maxRec at hp'
  have e1 : (frame p ++ r).take 4 = le4 p.length := by
    unfold frame
    rw [List.append_assoc, List.take_append_of_le_length (by rw [le_length]; omega), List.take_of_length_le (by rw [le_length]; omega)]
  have e2 : (frame p ++ r).drop 4 = le4 (sum p) ++ p ++ r := by
    unfold frame
    rw [List.append_assoc, List.drop_append_of_le_length (by rw [le_length]; omega), List.drop_of_length_le (by rw [le_length]; omega), List.nil_append]
  have e3 : (frame p ++ r).drop 8 = p ++ r := by
    have : (frame p ++ r).drop 8 = ((frame p ++ r).drop 4).drop 4 := by rw [List.drop_drop]
    rw [this, e2, List.append_assoc, List.drop_append_of_le_length (by rw [le_length]; omega), List.drop_of_length_le (by rw [le_length]; omega), List.nil_append]
  have e4 : ((frame p ++ r).drop 4).take 4 = le4 (sum p) := by
    rw [e2, List.append_assoc, List.take_append_of_le_length (by rw [le_length]; omega), List.take_of_length_le (by rw [le_length]; omega)]
  have n1 : num (le4 p.length) = p.length := num_le _ _ (by omega)
  have n2 : num (le4 (sum p)) = sum p := num_le _ _ (by have := sum_lt p; omega)
  have hl : (frame p ++ r).length = 8 + p.length + r.length := by rw [List.length_append, frame_length]
  have e5 : (p ++ r).take p.length = p := by rw [List.take_append_of_le_length (Nat.le_refl _), List.take_length]
  unfold rec1
  rw [e4, e1, e3, n1, n2, hl, if_neg (by omega), if_neg (by omega), e5, if_pos rfl]

/-- the records that stand at b's beginning -/
def scan (b : List UInt8) : List (List UInt8) :=
  match h : rec1 b with
  | none => []
  | some p => p :: scan (b.drop (8 + p.length))
termination_by b.length
decreasing_by
  have h2 := (rec1_some h).2
  have h3 : b.length = (frame p ++ b.drop (8 + p.length)).length := by rw [← h2]
  rw [List.length_append, frame_length] at h3
  omega

theorem scan_none {b : List UInt8} (h : rec1 b = none) : scan b = [] := by
  rw [scan]; split
  · rfl
  · rename_i p hp; rw [h] at hp; cases hp

theorem scan_some {b p : List UInt8} (h : rec1 b = some p) : scan b = p :: scan (b.drop (8 + p.length)) := by
  rw [scan]; split
  · rename_i hp; rw [h] at hp; cases hp
  · rename_i q hp; rw [h] at hp; cases hp; rfl

def frames (l : List (List UInt8)) : List UInt8 := l.flatMap frame
theorem frames_nil : frames [] = [] := rfl
theorem frames_cons (p : List UInt8) (l : List (List UInt8)) : frames (p :: l) = frame p ++ frames l := rfl
theorem frames_append (a b : List (List UInt8)) : frames (a ++ b) = frames a ++ frames b := by unfold frames; rw [List.flatMap_append]
theorem frames_one (p : List UInt8) : frames [p] = frame p := by simp [frames]

def Short (l : List (List UInt8)) : Prop := ∀ p ∈ l, p.length ≤ maxRec

theorem scan_frame {p : List UInt8} (hp : p.length ≤ maxRec) (r : List UInt8) : scan (frame p ++ r) = p :: scan r := by
  rw [scan_some (rec1_frame hp r), List.drop_append_of_le_length (by rw [frame_length]; omega), List.drop_of_length_le (by rw [frame_length]; omega), List.nil_append]

theorem scan_frames {l : List (List UInt8)} (h : Short l) (r : List UInt8) : scan (frames l ++ r) = l ++ scan r := by
  induction l with
  | nil => rfl
  | cons p l ih =>
    rw [frames_cons, List.append_assoc, scan_frame (h p (by simp)), ih fun q hq => h q (by simp [hq])]; rfl

/-- what stands behind the records that stand in b -/
theorem scan_rest (b : List UInt8) : b = frames (scan b) ++ b.drop (frames (scan b)).length ∧ rec1 (b.drop (frames (scan b)).length) = none ∧ Short (scan b) := by
  induction hn : b.length using Nat.strongRecOn generalizing b with
  | _ n ih =>
    cases h : rec1 b with
    | none => rw [scan_none h]; exact ⟨rfl, h, fun p hp => by cases hp⟩
    | some p =>
      obtain ⟨h1, h2⟩ := rec1_some h
      have hl : b.length = (frame p ++ b.drop (8 + p.length)).length := by rw [← h2]
      rw [List.length_append, frame_length] at hl
      obtain ⟨i1, i2, i3⟩ := ih _ (by omega) (b.drop (8 + p.length)) rfl
      rw [scan_some h, frames_cons]
      have e : b.drop (frame p ++ frames (scan (b.drop (8 + p.length)))).length = (b.drop (8 + p.length)).drop (frames (scan (b.drop (8 + p.length)))).length := by
        rw [List.length_append, frame_length, List.drop_drop]
      rw [e]
      refine ⟨?_, i2, ?_⟩
      · rw [List.append_assoc, ← i1]; exact h2
      · intro q hq
        rcases List.mem_cons.1 hq with hq | hq
        · rw [hq]; exact h1
        · exact i3 q hq

theorem scan_short (b : List UInt8) : Short (scan b) := (scan_rest b).2.2
theorem frames_scan_le (b : List UInt8) : (frames (scan b)).length ≤ b.length := by
  have h := (scan_rest b).1
  have h2 : b.length = (frames (scan b) ++ b.drop (frames (scan b)).length).length := by rw [← h]
  rw [List.length_append] at h2; omega
theorem frames_take (b : List UInt8) : b.take (frames (scan b)).length = frames (scan b) := by
  have h := (scan_rest b).1
  have e : (frames (scan b) ++ b.drop (frames (scan b)).length).take (frames (scan b)).length = frames (scan b) := by
    rw [List.take_append_of_le_length (Nat.le_refl _), List.take_length]
  rw [← h] at e; exact e

theorem scan_frames_self {l : List (List UInt8)} (h : Short l) : scan (frames l) = l := by
  have := scan_frames h []
  rw [List.append_nil, scan_none (b := []) rfl, List.append_nil] at this
  exact this

/-- what stands in a front of b stands in b -/
theorem rec1_take {b : List UInt8} {c : Nat} {p : List UInt8} (h : rec1 (b.take c) = some p) : rec1 b = some p := by
  obtain ⟨h1, h2⟩ := rec1_some h
  have e : b = frame p ++ ((b.take c).drop (8 + p.length) ++ b.drop c) := by
    rw [← List.append_assoc, ← h2, List.take_append_drop]
  rw [e]; exact rec1_frame h1 _

theorem scan_take (b : List UInt8) (c : Nat) : scan (b.take c) <+: scan b := by
  induction hn : b.length using Nat.strongRecOn generalizing b c with
  | _ n ih =>
    cases h : rec1 (b.take c) with
    | none => rw [scan_none h]; exact List.nil_prefix
    | some p =>
      have h0 := rec1_take h
      obtain ⟨h1, h2⟩ := rec1_some h0
      have hl : b.length = (frame p ++ b.drop (8 + p.length)).length := by rw [← h2]
      rw [List.length_append, frame_length] at hl
      rw [scan_some h, scan_some h0, List.drop_take]
      exact List.prefix_cons_inj p |>.2 (ih _ (by omega) (b.drop (8 + p.length)) (c - (8 + p.length)) rfl)

/-- a front of one frame has no record -/
theorem rec1_torn {p : List UInt8} (hp : p.length ≤ maxRec) {k : Nat} (hk : k < 8 + p.length) : rec1 ((frame p).take k) = none := by
  cases h : rec1 ((frame p).take k) with
  | none => rfl
  | some q =>
    have h0 := rec1_take h
    have h1 := rec1_frame hp []
    rw [List.append_nil] at h1
    rw [h1] at h0; cases h0
    obtain ⟨_, h2⟩ := rec1_some h
    have h3 : ((frame p).take k).length = (frame p ++ ((frame p).take k).drop (8 + p.length)).length := by rw [← h2]
    rw [List.length_append, List.length_take, frame_length] at h3
    omega

theorem scan_torn {l : List (List UInt8)} (h : Short l) {p : List UInt8} (hp : p.length ≤ maxRec) {k : Nat} (hk : k < 8 + p.length) : scan (frames l ++ (frame p).take k) = l := by
  rw [scan_frames h, scan_none (rec1_torn hp hk), List.append_nil]

end Go.Proofs.YtjjajnfkngfpjaaGreatDoor.Walp
