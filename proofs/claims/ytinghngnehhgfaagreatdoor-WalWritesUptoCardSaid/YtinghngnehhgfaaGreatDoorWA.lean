/-
  PARTS: WPlain, WNames, WOps, WLive, WRaw.
-/
import Derived.Test.YtinghngnehhgfaaGreatDoorFsA
import Derived.Lib.ItoaNum
/-
  PLAIN, of the log: sums, frames, what stands in bytes. No program, no memory.
-/
namespace Go.Proofs.YtinghngnehhgfaaGreatDoor.Walp

/-! ### the sum -/
def tab (i : Nat) : Nat :=
  match i with
  | 0 => 0x00000000 | 1 => 0x1db71064 | 2 => 0x3b6e20c8 | 3 => 0x26d930ac
  | 4 => 0x76dc4190 | 5 => 0x6b6b51f4 | 6 => 0x4db26158 | 7 => 0x5005713c
  | 8 => 0xedb88320 | 9 => 0xf00f9344 | 10 => 0xd6d6a3e8 | 11 => 0xcb61b38c
  | 12 => 0x9b64c2b0 | 13 => 0x86d3d2d4 | 14 => 0xa00ae278 | _ => 0xbdbdf21c

def half (s : Nat) : Nat := tab (s % 16) ^^^ (s / 16)
def bitS (s : Nat) : Nat := if s % 2 = 1 then (s / 2) ^^^ 0xedb88320 else s / 2

theorem xor_div (a b : Nat) : (a ^^^ b) / 2 = (a / 2) ^^^ (b / 2) := by
  apply Nat.eq_of_testBit_eq
  intro i
  rw [Nat.testBit_xor, Nat.testBit_div_two, Nat.testBit_div_two, Nat.testBit_div_two, Nat.testBit_xor]

theorem xor_mod (a b : Nat) : (a ^^^ b) % 2 = (a % 2 + b % 2) % 2 := by
  have h : (a ^^^ b) % 2 = (a % 2) ^^^ (b % 2) := Nat.xor_mod_two_pow (n := 1)
  rw [h]
  rcases (show a % 2 = 0 ∨ a % 2 = 1 by omega) with e | e <;> rcases (show b % 2 = 0 ∨ b % 2 = 1 by omega) with f | f <;> rw [e, f] <;> rfl

theorem bitS_xor (a b : Nat) : bitS (a ^^^ b) = bitS a ^^^ bitS b := by
  unfold bitS
  rw [xor_mod, xor_div]
  rcases (show a % 2 = 0 ∨ a % 2 = 1 by omega) with e | e <;> rcases (show b % 2 = 0 ∨ b % 2 = 1 by omega) with f | f <;> rw [e, f] <;> simp
  · rw [Nat.xor_assoc]
  · rw [Nat.xor_assoc, Nat.xor_assoc, Nat.xor_comm (b / 2)]
  · rw [Nat.xor_assoc (a / 2), ← Nat.xor_assoc 3988292384, Nat.xor_comm 3988292384 (b / 2), Nat.xor_assoc (b / 2), Nat.xor_self, Nat.xor_zero]

theorem bitS_even (k : Nat) : bitS (2 * k) = k := by
  unfold bitS
  rw [if_neg (by omega)]; omega

theorem split16 (s : Nat) : (16 * (s / 16)) ^^^ (s % 16) = s := by
  have h := Nat.two_pow_add_eq_or_of_lt (i := 4) (b := s % 16) (Nat.mod_lt _ (by decide)) (s / 16)
  have hx : (16 * (s / 16)) ^^^ (s % 16) = (16 * (s / 16)) ||| (s % 16) := by
    apply Nat.eq_of_testBit_eq
    intro i
    rw [Nat.testBit_xor, Nat.testBit_or]
    have e : 16 * (s / 16) = 2 ^ 4 * (s / 16) := rfl
    have e2 : s % 16 = s % 2 ^ 4 := rfl
    rw [e, e2, Nat.testBit_two_pow_mul, Nat.testBit_mod_two_pow]
    by_cases hi : i < 4
    · have : ¬ 4 ≤ i := by omega
      simp [hi, this]
    · simp [hi]
  rw [hx, ← h]
  show 16 * (s / 16) + s % 16 = s
  omega

theorem half_eq (s : Nat) : half s = bitS (bitS (bitS (bitS s))) := by
  have e : ∀ k, bitS (bitS (bitS (bitS (16 * k)))) = k := fun k => by
    rw [show 16 * k = 2 * (2 * (2 * (2 * k))) by omega, bitS_even, bitS_even, bitS_even, bitS_even]
  have d : ∀ x, x < 16 → bitS (bitS (bitS (bitS x))) = tab x := by decide
  have h : bitS (bitS (bitS (bitS s))) = (s / 16) ^^^ tab (s % 16) := by
    have h2 : bitS (bitS (bitS (bitS ((16 * (s / 16)) ^^^ (s % 16))))) = (s / 16) ^^^ tab (s % 16) := by
      rw [bitS_xor, bitS_xor, bitS_xor, bitS_xor, e, d _ (Nat.mod_lt _ (by decide))]
    rw [split16] at h2; exact h2
  rw [h]; unfold half
  exact Nat.xor_comm _ _

theorem tab_lt (i : Nat) : tab i < 4294967296 := by
  unfold tab; split <;> decide

theorem half_lt {s : Nat} (h : s < 4294967296) : half s < 4294967296 :=
  Nat.xor_lt_two_pow (n := 32) (tab_lt _) (by show s / 16 < 4294967296; omega)

theorem bitS_lt {s : Nat} (h : s < 4294967296) : bitS s < 4294967296 := by
  unfold bitS
  split
  · exact Nat.xor_lt_two_pow (n := 32) (by show s / 2 < 4294967296; omega) (by decide)
  · omega

def byteS (s : Nat) (b : UInt8) : Nat := half (half (s ^^^ b.toNat))

theorem byte_xor_lt {s : Nat} (h : s < 4294967296) (b : UInt8) : s ^^^ b.toNat < 4294967296 :=
  Nat.xor_lt_two_pow (n := 32) h (by have := b.toNat_lt; show b.toNat < 4294967296; omega)

theorem byteS_lt {s : Nat} (h : s < 4294967296) (b : UInt8) : byteS s b < 4294967296 := half_lt (half_lt (byte_xor_lt h b))

def run (l : List UInt8) : Nat := l.foldl byteS 4294967295
def sum (l : List UInt8) : Nat := 4294967295 - run l

theorem run_lt (l : List UInt8) : run l < 4294967296 := by
  have : ∀ (l : List UInt8) s, s < 4294967296 → l.foldl byteS s < 4294967296 := by
    intro l
    induction l with
    | nil => exact fun s h => h
    | cons x r ih => exact fun s h => ih _ (byteS_lt h x)
  exact this l _ (by decide)

theorem sum_lt (l : List UInt8) : sum l < 4294967296 := by unfold sum; omega
theorem run_nil : run [] = 4294967295 := rfl
theorem run_snoc (l : List UInt8) (b : UInt8) : run (l ++ [b]) = byteS (run l) b := by unfold run; rw [List.foldl_append]; rfl

/-! ### words of four bytes, the low one first -/
def num : List UInt8 → Nat
  | [] => 0
  | x :: r => x.toNat + 256 * num r

def le : Nat → Nat → List UInt8
  | _, 0 => []
  | n, k + 1 => UInt8.ofNat n :: le (n / 256) k

abbrev le4 (n : Nat) : List UInt8 := le n 4

theorem le_length (n k : Nat) : (le n k).length = k := by
  induction k generalizing n with
  | zero => rfl
  | succ k ih => simp [le, ih]

theorem num_le (n k : Nat) (h : n < 256 ^ k) : num (le n k) = n := by
  induction k generalizing n with
  | zero => simp at h; simp [le, num, h]
  | succ k ih =>
    have h1 : n / 256 < 256 ^ k := by rw [Nat.pow_succ] at h; omega
    simp only [le, num, ih _ h1, UInt8.toNat_ofNat']
    omega

theorem num_lt (l : List UInt8) : num l < 256 ^ l.length := by
  induction l with
  | nil => simp [num]
  | cons x r ih =>
    have := x.toNat_lt
    simp only [num, List.length_cons, Nat.pow_succ]
    omega

/-! ### frames -/
def frame (p : List UInt8) : List UInt8 := le4 p.length ++ (le4 (sum p) ++ p)
def maxRec : Nat := 1048576

theorem frame_length (p : List UInt8) : (frame p).length = 8 + p.length := by
  simp [frame, le_length]; omega

/-- the first record that stands in b -/
def rec1 (b : List UInt8) : Option (List UInt8) :=
  if b.length < 8 then none
  else if 1048576 < num (b.take 4) ∨ b.length - 8 < num (b.take 4) then none
  else if sum ((b.drop 8).take (num (b.take 4))) = num ((b.drop 4).take 4) then some ((b.drop 8).take (num (b.take 4))) else none

theorem num_inj : ∀ {l m : List UInt8}, l.length = m.length → num l = num m → l = m := by
  intro l
  induction l with
  | nil => intro m h _; cases m with
    | nil => rfl
    | cons => simp at h
  | cons x r ih =>
    intro m h e
    cases m with
    | nil => simp at h
    | cons y s =>
      simp only [num] at e
      have h1 := x.toNat_lt
      have h2 := y.toNat_lt
      have e1 : x.toNat = y.toNat := by omega
      have e2 : num r = num s := by omega
      rw [UInt8.toNat_inj.1 e1, ih (by simpa using h) e2]

theorem le_num (l : List UInt8) : le (num l) l.length = l := by
  apply num_inj (le_length _ _)
  exact num_le _ _ (num_lt _)

theorem rec1_some {b p : List UInt8} (h : rec1 b = some p) : p.length ≤ maxRec ∧ b = frame p ++ b.drop (8 + p.length) := by
  unfold rec1 at h
  by_cases h1 : b.length < 8
  · rw [if_pos h1] at h; cases h
  rw [if_neg h1] at h
  by_cases h2 : 1048576 < num (b.take 4) ∨ b.length - 8 < num (b.take 4)
  · rw [if_pos h2] at h; cases h
  rw [if_neg h2] at h
  by_cases h3 : sum ((b.drop 8).take (num (b.take 4))) = num ((b.drop 4).take 4)
  · rw [if_pos h3] at h
    simp only [Option.some.injEq] at h
    have hl : p.length = num (b.take 4) := by rw [← h]; simp; omega
    rw [h] at h3
    refine ⟨by unfold maxRec; omega, ?_⟩
    unfold frame
    have e1 : le4 p.length = b.take 4 := by
      rw [hl]
      have := le_num (b.take 4)
      rwa [show (b.take 4).length = 4 by simp; omega] at this
    have e2 : le4 (sum p) = (b.drop 4).take 4 := by
      rw [h3]
      have := le_num ((b.drop 4).take 4)
      rwa [show ((b.drop 4).take 4).length = 4 by simp; omega] at this
    rw [e1, e2]
    have e3 : b.drop (8 + p.length) = (b.drop 8).drop p.length := by rw [List.drop_drop]
    rw [List.append_assoc, List.append_assoc, e3]
    have e4 : p ++ (b.drop 8).drop p.length = b.drop 8 := by
      rw [hl]; conv => lhs; lhs; rw [← h]
      exact List.take_append_drop _ _
    rw [e4]
    have e5 : (b.drop 4).take 4 ++ b.drop 8 = b.drop 4 := by
      have : b.drop 8 = (b.drop 4).drop 4 := by rw [List.drop_drop]
      rw [this]; exact List.take_append_drop _ _
    rw [e5]; exact (List.take_append_drop _ _).symm
  · rw [if_neg h3] at h; cases h

theorem rec1_frame {p : List UInt8} (hp : p.length ≤ maxRec) (r : List UInt8) : rec1 (frame p ++ r) = some p := by
  have hp' := hp
  unfold maxRec at hp'
  have e1 : (frame p ++ r).take 4 = le4 p.length := by
    unfold frame
    rw [List.append_assoc, List.take_append_of_le_length (by rw [le_length]; omega), List.take_of_length_le (by rw [le_length]; omega)]
  have e2 : (frame p ++ r).drop 4 = le4 (sum p) ++ p ++ r := by
    unfold frame
    rw [List.append_assoc, List.drop_append_of_le_length (by rw [le_length]; omega), List.drop_of_length_le (by rw [le_length]; omega), List.nil_append]
  have e3 : (frame p ++ r).drop 8 = p ++ r := by
    have : (frame p ++ r).drop 8 = ((frame p ++ r).drop 4).drop 4 := by rw [List.drop_drop]
    rw [this, e2, List.append_assoc, List.drop_append_of_le_length (by rw [le_length]; omega), List.drop_of_length_le (by rw [le_length]; omega), List.nil_append]
  have e4 : ((frame p ++ r).drop 4).take 4 = le4 (sum p) := by
    rw [e2, List.append_assoc, List.take_append_of_le_length (by rw [le_length]; omega), List.take_of_length_le (by rw [le_length]; omega)]
  have n1 : num (le4 p.length) = p.length := num_le _ _ (by omega)
  have n2 : num (le4 (sum p)) = sum p := num_le _ _ (by have := sum_lt p; omega)
  have hl : (frame p ++ r).length = 8 + p.length + r.length := by rw [List.length_append, frame_length]
  have e5 : (p ++ r).take p.length = p := by rw [List.take_append_of_le_length (Nat.le_refl _), List.take_length]
  unfold rec1
  rw [e4, e1, e3, n1, n2, hl, if_neg (by omega), if_neg (by omega), e5, if_pos rfl]

/-- the records that stand at b's beginning -/
def scan (b : List UInt8) : List (List UInt8) :=
  match h : rec1 b with
  | none => []
  | some p => p :: scan (b.drop (8 + p.length))
termination_by b.length
decreasing_by
  have h2 := (rec1_some h).2
  have h3 : b.length = (frame p ++ b.drop (8 + p.length)).length := by rw [← h2]
  rw [List.length_append, frame_length] at h3
  omega

theorem scan_none {b : List UInt8} (h : rec1 b = none) : scan b = [] := by
  rw [scan]; split
  · rfl
  · rename_i p hp; rw [h] at hp; cases hp

theorem scan_some {b p : List UInt8} (h : rec1 b = some p) : scan b = p :: scan (b.drop (8 + p.length)) := by
  rw [scan]; split
  · rename_i hp; rw [h] at hp; cases hp
  · rename_i q hp; rw [h] at hp; cases hp; rfl

def frames (l : List (List UInt8)) : List UInt8 := l.flatMap frame
theorem frames_nil : frames [] = [] := rfl
theorem frames_cons (p : List UInt8) (l : List (List UInt8)) : frames (p :: l) = frame p ++ frames l := rfl
theorem frames_append (a b : List (List UInt8)) : frames (a ++ b) = frames a ++ frames b := by unfold frames; rw [List.flatMap_append]
theorem frames_one (p : List UInt8) : frames [p] = frame p := by simp [frames]

def Short (l : List (List UInt8)) : Prop := ∀ p ∈ l, p.length ≤ maxRec

theorem scan_frame {p : List UInt8} (hp : p.length ≤ maxRec) (r : List UInt8) : scan (frame p ++ r) = p :: scan r := by
  rw [scan_some (rec1_frame hp r), List.drop_append_of_le_length (by rw [frame_length]; omega), List.drop_of_length_le (by rw [frame_length]; omega), List.nil_append]

theorem scan_frames {l : List (List UInt8)} (h : Short l) (r : List UInt8) : scan (frames l ++ r) = l ++ scan r := by
  induction l with
  | nil => rfl
  | cons p l ih =>
    rw [frames_cons, List.append_assoc, scan_frame (h p (by simp)), ih fun q hq => h q (by simp [hq])]; rfl

/-- what stands behind the records that stand in b -/
theorem scan_rest (b : List UInt8) : b = frames (scan b) ++ b.drop (frames (scan b)).length ∧ rec1 (b.drop (frames (scan b)).length) = none ∧ Short (scan b) := by
  induction hn : b.length using Nat.strongRecOn generalizing b with
  | _ n ih =>
    cases h : rec1 b with
    | none => rw [scan_none h]; exact ⟨rfl, h, fun p hp => by cases hp⟩
    | some p =>
      obtain ⟨h1, h2⟩ := rec1_some h
      have hl : b.length = (frame p ++ b.drop (8 + p.length)).length := by rw [← h2]
      rw [List.length_append, frame_length] at hl
      obtain ⟨i1, i2, i3⟩ := ih _ (by omega) (b.drop (8 + p.length)) rfl
      rw [scan_some h, frames_cons]
      have e : b.drop (frame p ++ frames (scan (b.drop (8 + p.length)))).length = (b.drop (8 + p.length)).drop (frames (scan (b.drop (8 + p.length)))).length := by
        rw [List.length_append, frame_length, List.drop_drop]
      rw [e]
      refine ⟨?_, i2, ?_⟩
      · rw [List.append_assoc, ← i1]; exact h2
      · intro q hq
        rcases List.mem_cons.1 hq with hq | hq
        · rw [hq]; exact h1
        · exact i3 q hq

theorem scan_short (b : List UInt8) : Short (scan b) := (scan_rest b).2.2
theorem frames_scan_le (b : List UInt8) : (frames (scan b)).length ≤ b.length := by
  have h := (scan_rest b).1
  have h2 : b.length = (frames (scan b) ++ b.drop (frames (scan b)).length).length := by rw [← h]
  rw [List.length_append] at h2; omega
theorem frames_take (b : List UInt8) : b.take (frames (scan b)).length = frames (scan b) := by
  have h := (scan_rest b).1
  have e : (frames (scan b) ++ b.drop (frames (scan b)).length).take (frames (scan b)).length = frames (scan b) := by
    rw [List.take_append_of_le_length (Nat.le_refl _), List.take_length]
  rw [← h] at e; exact e

theorem scan_frames_self {l : List (List UInt8)} (h : Short l) : scan (frames l) = l := by
  have := scan_frames h []
  rw [List.append_nil, scan_none (b := []) rfl, List.append_nil] at this
  exact this

/-- what stands in a front of b stands in b -/
theorem rec1_take {b : List UInt8} {c : Nat} {p : List UInt8} (h : rec1 (b.take c) = some p) : rec1 b = some p := by
  obtain ⟨h1, h2⟩ := rec1_some h
  have e : b = frame p ++ ((b.take c).drop (8 + p.length) ++ b.drop c) := by
    rw [← List.append_assoc, ← h2, List.take_append_drop]
  rw [e]; exact rec1_frame h1 _

theorem scan_take (b : List UInt8) (c : Nat) : scan (b.take c) <+: scan b := by
  induction hn : b.length using Nat.strongRecOn generalizing b c with
  | _ n ih =>
    cases h : rec1 (b.take c) with
    | none => rw [scan_none h]; exact List.nil_prefix
    | some p =>
      have h0 := rec1_take h
      obtain ⟨h1, h2⟩ := rec1_some h0
      have hl : b.length = (frame p ++ b.drop (8 + p.length)).length := by rw [← h2]
      rw [List.length_append, frame_length] at hl
      rw [scan_some h, scan_some h0, List.drop_take]
      exact List.prefix_cons_inj p |>.2 (ih _ (by omega) (b.drop (8 + p.length)) (c - (8 + p.length)) rfl)

/-- a front of one frame has no record -/
theorem rec1_torn {p : List UInt8} (hp : p.length ≤ maxRec) {k : Nat} (hk : k < 8 + p.length) : rec1 ((frame p).take k) = none := by
  cases h : rec1 ((frame p).take k) with
  | none => rfl
  | some q =>
    have h0 := rec1_take h
    have h1 := rec1_frame hp []
    rw [List.append_nil] at h1
    rw [h1] at h0; cases h0
    obtain ⟨_, h2⟩ := rec1_some h
    have h3 : ((frame p).take k).length = (frame p ++ ((frame p).take k).drop (8 + p.length)).length := by rw [← h2]
    rw [List.length_append, List.length_take, frame_length] at h3
    omega

theorem scan_torn {l : List (List UInt8)} (h : Short l) {p : List UInt8} (hp : p.length ≤ maxRec) {k : Nat} (hk : k < 8 + p.length) : scan (frames l ++ (frame p).take k) = l := by
  rw [scan_frames h, scan_none (rec1_torn hp hk), List.append_nil]

end Go.Proofs.YtinghngnehhgfaaGreatDoor.Walp

/-
  PLAIN, of the log: names of segments, and the numbers that names say.
-/
namespace Go.Proofs.YtinghngnehhgfaaGreatDoor.Walp

/-- so many digits of a number -/
def dig : Nat → Nat → List UInt8
  | 0, _ => []
  | k + 1, n => dig k (n / 10) ++ [UInt8.ofNat (48 + n % 10)]

theorem dig_length (k n : Nat) : (dig k n).length = k := by
  induction k generalizing n with
  | zero => rfl
  | succ k ih => simp [dig, ih]

/-- '/', eight digits -/
def seg (dir : List UInt8) (n : Nat) : List UInt8 := dir ++ (47 :: dig 8 n)

theorem seg_length (dir : List UInt8) (n : Nat) : (seg dir n).length = dir.length + 9 := by simp [seg, dig_length]

theorem digit (n : Nat) : (UInt8.ofNat (48 + n % 10)).toNat = 48 + n % 10 := by
  rw [UInt8.toNat_ofNat']; omega

/-- a number's digits are zeros and its numeral -/
theorem dig_dec (k n : Nat) (h : n < 10 ^ k) (hk : 0 < k) : dig k n = List.replicate (k - (Lib.decDigits n).length) 48 ++ Lib.decDigits n ∧ (Lib.decDigits n).length ≤ k := by
  induction k generalizing n with
  | zero => omega
  | succ k ih =>
    by_cases h10 : n < 10
    · rw [Lib.decDigits, dif_pos h10]
      have e : ∀ j, dig j 0 = List.replicate j 48 := by
        intro j
        induction j with
        | zero => rfl
        | succ j ij => rw [dig, Nat.zero_div, ij, List.replicate_succ']; rfl
      rw [dig, Nat.div_eq_of_lt h10, e, Nat.mod_eq_of_lt h10]
      exact ⟨rfl, by simp⟩
    · rw [Lib.decDigits, dif_neg h10]
      have hk0 : 0 < k := by
        rcases Nat.eq_zero_or_pos k with e | e
        · subst e; omega
        · exact e
      obtain ⟨h1, h2⟩ := ih (n / 10) (by rw [Nat.pow_succ] at h; omega) hk0
      rw [dig, h1, List.append_assoc, List.length_append]
      refine ⟨?_, by simp; omega⟩
      congr 2
      simp

/-- the number that digits say -/
def val : List UInt8 → Nat := List.foldl (fun n c => n * 10 + (c.toNat - 48)) 0

theorem val_snoc (l : List UInt8) (c : UInt8) : val (l ++ [c]) = val l * 10 + (c.toNat - 48) := by unfold val; rw [List.foldl_append]; rfl

theorem val_dig (k n : Nat) (h : n < 10 ^ k) : val (dig k n) = n := by
  induction k generalizing n with
  | zero => simp at h; subst h; rfl
  | succ k ih => rw [dig, val_snoc, ih _ (by rw [Nat.pow_succ] at h; omega), digit]; omega

def isDig (c : UInt8) : Bool := 48 ≤ c && c ≤ 57

theorem isDig_iff (c : UInt8) : isDig c = true ↔ 48 ≤ c.toNat ∧ c.toNat ≤ 57 := by
  unfold isDig; simp [UInt8.le_iff_toNat_le]

theorem dig_all (k n : Nat) : (dig k n).all isDig = true := by
  induction k generalizing n with
  | zero => rfl
  | succ k ih =>
    rw [dig, List.all_append, ih, Bool.true_and]
    simp only [List.all_cons, List.all_nil, Bool.and_true]
    rw [isDig_iff, digit]; omega

theorem dig_val {l : List UInt8} (h : l.all isDig = true) : dig l.length (val l) = l ∧ val l < 10 ^ l.length := by
  induction hn : l.length generalizing l with
  | zero => rw [List.eq_nil_of_length_eq_zero hn]; exact ⟨rfl, by decide⟩
  | succ k ih =>
    obtain ⟨a, c, rfl⟩ : ∃ a c, l = a ++ [c] := ⟨l.dropLast, l.getLast (by intro e; simp [e] at hn), (List.dropLast_concat_getLast _).symm⟩
    rw [List.all_append] at h
    simp only [List.all_cons, List.all_nil, Bool.and_true, Bool.and_eq_true] at h
    obtain ⟨h1, h2⟩ := h
    have hc := (isDig_iff c).1 h2
    obtain ⟨i1, i2⟩ := ih h1 (by simp at hn; exact hn)
    rw [val_snoc, dig]
    have e1 : (val a * 10 + (c.toNat - 48)) / 10 = val a := by omega
    have e2 : (val a * 10 + (c.toNat - 48)) % 10 = c.toNat - 48 := by omega
    rw [e1, e2, i1]
    refine ⟨?_, by rw [Nat.pow_succ]; omega⟩
    congr 2
    apply UInt8.toNat_inj.1
    rw [UInt8.toNat_ofNat']; omega

/-- the number that a text says behind a segment's dir; 0 if it is none -/
def segNum (l : List UInt8) : Nat := if l.length = 8 ∧ l.all isDig = true then val l else 0

theorem segNum_dig (n : Nat) (h : n < 100000000) : segNum (dig 8 n) = n := by
  unfold segNum
  rw [if_pos ⟨dig_length _ _, dig_all _ _⟩, val_dig _ _ h]

theorem segNum_pos {l : List UInt8} (h : segNum l ≠ 0) : l = dig 8 (segNum l) ∧ segNum l < 100000000 := by
  unfold segNum at h ⊢
  by_cases hc : l.length = 8 ∧ l.all isDig = true
  · rw [if_pos hc]
    obtain ⟨h1, h2⟩ := dig_val hc.2
    rw [hc.1] at h1 h2
    exact ⟨h1.symm, h2⟩
  · rw [if_neg hc] at h; exact absurd rfl h

/-! ### their order -/
theorem append_lt (a : List UInt8) {b c : List UInt8} (h : b < c) : a ++ b < a ++ c := by
  induction a with
  | nil => exact h
  | cons x r ih => exact List.cons_lt_cons_iff.2 (Or.inr ⟨rfl, ih⟩)

theorem lt_append_of_lt {a b : List UInt8} (hl : a.length = b.length) (h : a < b) (c d : List UInt8) : a ++ c < b ++ d := by
  induction a generalizing b with
  | nil =>
    cases b with
    | nil => exact absurd h (List.lt_irrefl _)
    | cons y s => simp at hl
  | cons x r ih =>
    cases b with
    | nil => simp at hl
    | cons y s =>
      rcases List.cons_lt_cons_iff.1 h with h | ⟨h1, h2⟩
      · exact List.cons_lt_cons_iff.2 (Or.inl h)
      · exact List.cons_lt_cons_iff.2 (Or.inr ⟨h1, ih (by simpa using hl) h2⟩)

theorem dig_lt (k : Nat) {m n : Nat} (h : m < n) (hn : n < 10 ^ k) : dig k m < dig k n := by
  induction k generalizing m n with
  | zero => simp at hn; omega
  | succ k ih =>
    rw [dig, dig]
    by_cases e : m / 10 = n / 10
    · rw [e]
      apply append_lt
      refine List.cons_lt_cons_iff.2 (Or.inl ?_)
      rw [UInt8.lt_iff_toNat_lt, digit, digit]; omega
    · exact lt_append_of_lt (by rw [dig_length, dig_length]) (ih (by omega) (by rw [Nat.pow_succ] at hn; omega)) _ _

theorem seg_lt (dir : List UInt8) {m n : Nat} (h : m < n) (hn : n < 100000000) : seg dir m < seg dir n :=
  append_lt _ (List.cons_lt_cons_iff.2 (Or.inr ⟨rfl, dig_lt 8 h hn⟩))

theorem dig_lt_iff {k m n : Nat} (hm : m < 10 ^ k) (hn : n < 10 ^ k) : dig k m < dig k n ↔ m < n := by
  constructor
  · intro h
    rcases Nat.lt_trichotomy m n with e | e | e
    · exact e
    · subst e; exact absurd h (List.lt_irrefl _)
    · exact absurd (Fsp.lt_trans' h (dig_lt k e hm)) (List.lt_irrefl _)
  · exact fun h => dig_lt k h hn

theorem seg_inj {dir : List UInt8} {m n : Nat} (hm : m < 100000000) (hn : n < 100000000) (h : seg dir m = seg dir n) : m = n := by
  have h1 : dig 8 m = dig 8 n := by
    have := List.append_cancel_left h
    simpa using this
  rw [← val_dig 8 m hm, h1, val_dig 8 n hn]

/-- what a name says: the number of the segment of dir that it is; 0: it is none -/
def numOf (dir name : List UInt8) : Nat := if (dir ++ [47]).isPrefixOf name then segNum (name.drop (dir.length + 1)) else 0

theorem numOf_seg (dir : List UInt8) {n : Nat} (h : n < 100000000) : numOf dir (seg dir n) = n := by
  have e : seg dir n = (dir ++ [47]) ++ dig 8 n := by simp [seg]
  unfold numOf
  rw [e, if_pos (by rw [List.isPrefixOf_iff_prefix]; exact List.prefix_append _ _)]
  rw [List.drop_append_of_le_length (by simp), List.drop_of_length_le (by simp), List.nil_append, segNum_dig n h]

theorem numOf_pos {dir name : List UInt8} (h : numOf dir name ≠ 0) : name = seg dir (numOf dir name) ∧ numOf dir name < 100000000 := by
  unfold numOf at h ⊢
  by_cases hp : (dir ++ [47]).isPrefixOf name = true
  · rw [if_pos hp] at h ⊢
    obtain ⟨h1, h2⟩ := segNum_pos h
    rw [List.isPrefixOf_iff_prefix] at hp
    obtain ⟨r, rfl⟩ := hp
    have e : ((dir ++ [47]) ++ r).drop (dir.length + 1) = r := by
      rw [List.drop_append_of_le_length (by simp), List.drop_of_length_le (by simp), List.nil_append]
    rw [e] at h1 h2 ⊢
    refine ⟨?_, h2⟩
    have e2 : seg dir (segNum r) = (dir ++ [47]) ++ dig 8 (segNum r) := by simp [seg]
    rw [e2, ← h1]
  · rw [if_neg hp] at h; exact absurd rfl h

/-- the numbers of the segments of dir that are there -/
def numsOf (dir : List UInt8) (names : List (List UInt8)) : List Nat := (names.map (numOf dir)).filter (fun n => n != 0)

theorem mem_numsOf {dir : List UInt8} {names : List (List UInt8)} {n : Nat} : n ∈ numsOf dir names ↔ 0 < n ∧ n < 100000000 ∧ seg dir n ∈ names := by
  unfold numsOf
  rw [List.mem_filter, List.mem_map]
  constructor
  · rintro ⟨⟨x, hx, e⟩, h0⟩
    have h0' : n ≠ 0 := by simpa using h0
    obtain ⟨h1, h2⟩ := numOf_pos (dir := dir) (name := x) (by rw [e]; exact h0')
    rw [e] at h1 h2
    exact ⟨by omega, h2, by rw [← h1]; exact hx⟩
  · rintro ⟨h0, h1, h2⟩
    exact ⟨⟨_, h2, numOf_seg dir h1⟩, by simp; omega⟩

theorem numsOf_sorted {dir : List UInt8} {names : List (List UInt8)} (h : names.Pairwise (· < ·)) : (numsOf dir names).Pairwise (· < ·) := by
  induction names with
  | nil => exact List.Pairwise.nil
  | cons x r ih =>
    obtain ⟨h1, h2⟩ := List.pairwise_cons.1 h
    unfold numsOf
    rw [List.map_cons]
    by_cases hx : numOf dir x = 0
    · rw [List.filter_cons_of_neg (by simp [hx])]; exact ih h2
    · rw [List.filter_cons_of_pos (by simpa using hx)]
      refine List.pairwise_cons.2 ⟨fun m hm => ?_, ih h2⟩
      obtain ⟨hm0, hm1, hm2⟩ := mem_numsOf.1 (show m ∈ numsOf dir r from hm)
      obtain ⟨e1, e2⟩ := numOf_pos hx
      have hlt := h1 _ hm2
      rcases Nat.lt_trichotomy (numOf dir x) m with e | e | e
      · exact e
      · rw [e1, e] at hlt; exact absurd hlt (List.lt_irrefl _)
      · have := seg_lt dir e e2
        rw [← e1] at this
        exact absurd (Fsp.lt_trans' hlt this) (List.lt_irrefl _)

/-- two rising lists of the same numbers are the same -/
theorem sorted_ext : ∀ {a b : List Nat}, a.Pairwise (· < ·) → b.Pairwise (· < ·) → (∀ n, n ∈ a ↔ n ∈ b) → a = b
  | [], [], _, _, _ => rfl
  | [], y :: s, _, _, h => absurd ((h y).2 (by simp)) (by simp)
  | x :: r, [], _, _, h => absurd ((h x).1 (by simp)) (by simp)
  | x :: r, y :: s, ha, hb, h => by
    obtain ⟨a1, a2⟩ := List.pairwise_cons.1 ha
    obtain ⟨b1, b2⟩ := List.pairwise_cons.1 hb
    have e : x = y := by
      have h1 := (h x).1 (by simp)
      have h2 := (h y).2 (by simp)
      rcases List.mem_cons.1 h1 with e | e
      · exact e
      · rcases List.mem_cons.1 h2 with f | f
        · exact f.symm
        · have := a1 y f; have := b1 x e; omega
    subst e
    rw [sorted_ext a2 b2 fun n => ?_]
    constructor
    · intro hn
      have := (h n).1 (by simp [hn])
      rcases List.mem_cons.1 this with e | e
      · subst e; have := a1 n hn; omega
      · exact e
    · intro hn
      have := (h n).2 (by simp [hn])
      rcases List.mem_cons.1 this with e | e
      · subst e; have := b1 n hn; omega
      · exact e

theorem range'_sorted (a n : Nat) : (List.range' a n).Pairwise (· < ·) := by
  rw [List.pairwise_iff_getElem]
  intro i j hi hj hij
  simp only [List.getElem_range']
  omega

/-- the numbers that are there, where those from 'first' on are, so many -/
theorem numsOf_range {dir : List UInt8} {names : List (List UInt8)} {first count : Nat} (h : names.Pairwise (· < ·)) (h1 : 0 < first) (h2 : first + count ≤ 100000000)
    (hm : ∀ n, 0 < n → n < 100000000 → (seg dir n ∈ names ↔ first ≤ n ∧ n < first + count)) : numsOf dir names = List.range' first count := by
  apply sorted_ext (numsOf_sorted h) (range'_sorted _ _)
  intro n
  rw [mem_numsOf, List.mem_range'_1]
  constructor
  · rintro ⟨a, b, c⟩; exact (hm n a b).1 c
  · rintro ⟨a, b⟩; exact ⟨by omega, by omega, (hm n (by omega) (by omega)).2 ⟨a, b⟩⟩

end Go.Proofs.YtinghngnehhgfaaGreatDoor.Walp

/-
  PLAIN, of the log: what each of its calls makes of it and of the files.
-/
namespace Go.Proofs.YtinghngnehhgfaaGreatDoor.Walp
open Fsp (Fs File find put del)

structure Lg where
  dir : List UInt8
  size : Nat
  first : Nat
  last : Nat
  cut : Nat
  stuck : Bool

/-- what an error of the files makes of a log -/
def met (l : Lg) (e : Nat) : Lg := if e = 5 then { l with stuck := true } else l
theorem met_0 (l : Lg) : met l 0 = l := rfl
theorem met_dir (l : Lg) (e : Nat) : (met l e).dir = l.dir := by unfold met; split <;> rfl
theorem met_last (l : Lg) (e : Nat) : (met l e).last = l.last := by unfold met; split <;> rfl
theorem met_first (l : Lg) (e : Nat) : (met l e).first = l.first := by unfold met; split <;> rfl

def rotate (S : Fs) (l : Lg) : (Fs × Lg) × Nat :=
  if l.stuck = true then ((S, l), 25) else if 99999999 ≤ l.last then ((S, l), 6)
  else if (Fsp.create S (seg l.dir (l.last + 1))).2 = 0 then (((Fsp.create S (seg l.dir (l.last + 1))).1, { l with last := l.last + 1 }), 0)
  else (((Fsp.create S (seg l.dir (l.last + 1))).1, met l (Fsp.create S (seg l.dir (l.last + 1))).2), (Fsp.create S (seg l.dir (l.last + 1))).2)

def full (S : Fs) (l : Lg) : Bool := match find S.L (seg l.dir l.last) with
  | none => false
  | some f => decide (l.size ≤ f.data.length)

def write (S : Fs) (l : Lg) (p : List UInt8) : (Fs × Lg) × Nat :=
  if (Fsp.append S (seg l.dir l.last) (frame p)).2 = 0 then
    (((Fsp.sync (Fsp.append S (seg l.dir l.last) (frame p)).1 (seg l.dir l.last)).1, met l (Fsp.sync (Fsp.append S (seg l.dir l.last) (frame p)).1 (seg l.dir l.last)).2), (Fsp.sync (Fsp.append S (seg l.dir l.last) (frame p)).1 (seg l.dir l.last)).2)
  else (((Fsp.append S (seg l.dir l.last) (frame p)).1, met l (Fsp.append S (seg l.dir l.last) (frame p)).2), (Fsp.append S (seg l.dir l.last) (frame p)).2)

def append (S : Fs) (l : Lg) (p : List UInt8) : (Fs × Lg) × Nat :=
  if l.stuck = true then ((S, l), 25) else if 1048576 < p.length then ((S, l), 8)
  else if full S l = true then (if (rotate S l).2 = 0 then write (rotate S l).1.1 (rotate S l).1.2 p else rotate S l)
  else write S l p

def dropN : Nat → Fs → Lg → (Fs × Lg) × Nat
  | 0, S, l => ((S, l), 0)
  | k + 1, S, l => if (Fsp.remove S (seg l.dir l.first)).2 = 0 then dropN k (Fsp.remove S (seg l.dir l.first)).1 { l with first := l.first + 1 }
    else (((Fsp.remove S (seg l.dir l.first)).1, met l (Fsp.remove S (seg l.dir l.first)).2), (Fsp.remove S (seg l.dir l.first)).2)

def drop (S : Fs) (l : Lg) (below : Int) : (Fs × Lg) × Nat :=
  if l.stuck = true then ((S, l), 25) else if (l.last : Int) < below then ((S, l), 6) else dropN (below - l.first).toNat S l

/-! ### a log's segments -/
/-- the files of dir's segments are these, from number first on -/
structure Has (S : Fs) (dir : List UInt8) (first : Nat) (fs : List File) : Prop where
  pos : 0 < first
  last : first + fs.length ≤ 100000000
  find : ∀ n, 0 < n → n < 100000000 → Fsp.find S.L (seg dir n) = if n < first then none else fs[n - first]?

/-- all of it is durable -/
def whole (rs : List (List UInt8)) : File := ⟨frames rs, (frames rs).length⟩

section
variable {S S' : Fs} {dir : List UInt8} {first : Nat} {fs : List File}

theorem Has.same (h : Has S dir first fs) (hL : S'.L = S.L) : Has S' dir first fs := ⟨h.pos, h.last, by rw [hL]; exact h.find⟩

/-- the file of another name turns -/
theorem Has.put_other (h : Has S dir first fs) {n : List UInt8} {f : File} (hL : S'.L = put S.L n f) (hn : ∀ k, 0 < k → k < 100000000 → n ≠ seg dir k) : Has S' dir first fs :=
  ⟨h.pos, h.last, fun k h0 h1 => by rw [hL, Fsp.find_put_other _ (Ne.symm (hn k h0 h1))]; exact h.find k h0 h1⟩

theorem Has.lastFile {f : File} (h : Has S dir first (fs ++ [f])) : Fsp.find S.L (seg dir (first + fs.length)) = some f := by
  have h1 := h.pos
  have h2 := h.last
  simp only [List.length_append, List.length_cons, List.length_nil] at h2
  rw [h.find _ (by omega) (by omega), if_neg (by omega)]
  rw [show first + fs.length - first = fs.length by omega, List.getElem?_append_right (Nat.le_refl _), Nat.sub_self]; rfl

/-- the last file turns -/
theorem Has.setLast {f g : File} (h : Has S dir first (fs ++ [f])) (hL : S'.L = put S.L (seg dir (first + fs.length)) g) : Has S' dir first (fs ++ [g]) := by
  have h1 := h.pos
  have h2 := h.last
  simp only [List.length_append, List.length_cons, List.length_nil] at h2
  refine ⟨h1, by simp; omega, fun n h0 hn => ?_⟩
  rw [hL]
  by_cases e : n = first + fs.length
  · subst e
    rw [Fsp.find_put_same, if_neg (by omega), show first + fs.length - first = fs.length by omega, List.getElem?_append_right (Nat.le_refl _), Nat.sub_self]; rfl
  · rw [Fsp.find_put_other _ (fun q => e (seg_inj hn (by omega) q)), h.find n h0 hn]
    by_cases hlt : n < first
    · rw [if_pos hlt, if_pos hlt]
    · rw [if_neg hlt, if_neg hlt]
      by_cases hl : n - first < fs.length
      · rw [List.getElem?_append_left hl, List.getElem?_append_left hl]
      · rw [List.getElem?_eq_none (by simp; omega), List.getElem?_eq_none (by simp; omega)]

/-- a file more behind the last one -/
theorem Has.addLast (h : Has S dir first fs) (hl : first + fs.length < 100000000) {g : File} (hL : S'.L = put S.L (seg dir (first + fs.length)) g) : Has S' dir first (fs ++ [g]) := by
  have h1 := h.pos
  refine ⟨h1, by simp; omega, fun n h0 hn => ?_⟩
  rw [hL]
  by_cases e : n = first + fs.length
  · subst e
    rw [Fsp.find_put_same, if_neg (by omega), show first + fs.length - first = fs.length by omega, List.getElem?_append_right (Nat.le_refl _), Nat.sub_self]; rfl
  · rw [Fsp.find_put_other _ (fun q => e (seg_inj hn (by omega) q)), h.find n h0 hn]
    by_cases hlt : n < first
    · rw [if_pos hlt, if_pos hlt]
    · rw [if_neg hlt, if_neg hlt]
      by_cases hl : n - first < fs.length
      · rw [List.getElem?_append_left hl]
      · rw [List.getElem?_eq_none (by omega), List.getElem?_eq_none (by simp; omega)]

theorem Has.free (h : Has S dir first fs) (hl : first + fs.length < 100000000) : Fsp.find S.L (seg dir (first + fs.length)) = none := by
  have h1 := h.pos
  rw [h.find _ (by omega) hl, if_neg (by omega), List.getElem?_eq_none (by omega)]

/-- the first file goes -/
theorem Has.delFirst {f : File} (hs : Fsp.Sorted S.L) (h : Has S dir first (f :: fs)) (hL : S'.L = del S.L (seg dir first)) : Has S' dir (first + 1) fs := by
  have h1 := h.pos
  have h2 := h.last
  simp only [List.length_cons] at h2
  refine ⟨by omega, by omega, fun n h0 hn => ?_⟩
  rw [hL]
  by_cases e : n = first
  · subst e
    rw [Fsp.find_del_same hs, if_pos (by omega)]
  · rw [Fsp.find_del_other _ (fun q => e (seg_inj hn (by omega) q)), h.find n h0 hn]
    by_cases hlt : n < first
    · rw [if_pos hlt, if_pos (by omega)]
    · rw [if_neg hlt, if_neg (by omega)]
      rw [show n - first = (n - (first + 1)) + 1 by omega, List.getElem?_cons_succ]

theorem Has.firstFile {f : File} (h : Has S dir first (f :: fs)) : Fsp.find S.L (seg dir first) = some f := by
  have h1 := h.pos
  have h2 := h.last
  simp only [List.length_cons] at h2
  rw [h.find _ h1 (by omega), if_neg (by omega), Nat.sub_self]; rfl

theorem Has.at_ (h : Has S dir first fs) {i : Nat} {f : File} (hi : fs[i]? = some f) : Fsp.find S.L (seg dir (first + i)) = some f := by
  have h1 := h.pos
  have h2 := h.last
  have h3 : i < fs.length := (List.getElem?_eq_some_iff.1 hi).1
  rw [h.find _ (by omega) (by omega), if_neg (by omega), show first + i - first = i by omega]; exact hi

/-- the numbers that are there -/
theorem Has.nums (h : Has S dir first fs) (hs : Fsp.Sorted S.L) : numsOf dir (S.L.map (·.1)) = List.range' first fs.length := by
  refine numsOf_range (List.pairwise_map.2 hs) h.pos h.last fun n h0 hn => ?_
  rw [← Fsp.find_isSome, h.find n h0 hn]
  by_cases hlt : n < first
  · rw [if_pos hlt]; simp; omega
  · rw [if_neg hlt]
    by_cases hl : n - first < fs.length
    · rw [List.getElem?_eq_getElem hl]
      exact ⟨fun _ => ⟨by omega, by omega⟩, fun _ => rfl⟩
    · rw [List.getElem?_eq_none (by omega)]
      exact ⟨fun q => (by cases q), fun q => absurd q (by omega)⟩

end
end Go.Proofs.YtinghngnehhgfaaGreatDoor.Walp

/-
  PLAIN, of the log: a log all of whose records are durable, and what an append makes of it.
-/
namespace Go.Proofs.YtinghngnehhgfaaGreatDoor.Walp
open Fsp (Fs File put del)

theorem okByte_digit (n : Nat) : Fsp.okByte (UInt8.ofNat (48 + n % 10)) = true := by
  have h : (UInt8.ofNat (48 + n % 10)).toNat = 48 + n % 10 := digit n
  unfold Fsp.okByte
  simp only [Bool.or_eq_true, Bool.and_eq_true, decide_eq_true_eq, UInt8.le_iff_toNat_le, h]
  left; left; left; right
  exact ⟨by show (48 : UInt8).toNat ≤ _; simp, by show _ ≤ (57 : UInt8).toNat; simp; omega⟩

theorem dig_ok (k n : Nat) : (dig k n).all Fsp.okByte = true := by
  induction k generalizing n with
  | zero => rfl
  | succ k ih => rw [dig, List.all_append, ih, Bool.true_and]; simp only [List.all_cons, List.all_nil, Bool.and_true, okByte_digit]

theorem seg_last (dir : List UInt8) (n : Nat) : (seg dir n).getLast? = some (UInt8.ofNat (48 + n % 10)) := by
  have e : seg dir n = (dir ++ (47 :: dig 7 (n / 10))) ++ [UInt8.ofNat (48 + n % 10)] := by
    unfold seg; rw [show dig 8 n = dig 7 (n / 10) ++ [UInt8.ofNat (48 + n % 10)] from rfl]; simp
  rw [e, List.getLast?_append]; rfl

theorem valid_seg {dir : List UInt8} (h : Fsp.valid (seg dir 1) = true) (n : Nat) : Fsp.valid (seg dir n) = true := by
  unfold Fsp.valid at h ⊢
  simp only [Bool.and_eq_true, decide_eq_true_eq, seg_length] at h ⊢
  obtain ⟨⟨⟨⟨h1, h2⟩, h3⟩, h4⟩, h5⟩ := h
  refine ⟨⟨⟨⟨h1, h2⟩, ?_⟩, ?_⟩, ?_⟩
  · unfold seg at h3 ⊢
    rw [List.all_append, Bool.and_eq_true] at h3 ⊢
    refine ⟨h3.1, ?_⟩
    rw [List.all_cons, dig_ok, Bool.and_true]; rfl
  · cases dir with
    | nil => exact absurd h4 (by decide)
    | cons x r => exact h4
  · rw [seg_last, bne_iff_ne]
    intro e
    have := congrArg (Option.map UInt8.toNat) e
    simp only [Option.map_some, digit, Option.some.injEq] at this
    have e2 : (47 : UInt8).toNat = 47 := rfl
    omega

/-- a log all of whose records are durable: by segments -/
structure Live (S : Fs) (l : Lg) (ls : List (List (List UInt8))) : Prop where
  has : Has S l.dir l.first (ls.map whole)
  last : l.first + ls.length = l.last + 1
  any : 0 < ls.length
  short : ∀ rs ∈ ls, Short rs
  up : S.down = false
  free : l.stuck = false
  valid : Fsp.valid (seg l.dir 1) = true

/-- with a segment more, if the last one is full -/
def rot (size : Nat) (ls : List (List (List UInt8))) : List (List (List UInt8)) := if size ≤ (frames (ls.getLastD [])).length then ls ++ [[]] else ls
def addTo (ls : List (List (List UInt8))) (p : List UInt8) : List (List (List UInt8)) := ls.dropLast ++ [ls.getLastD [] ++ [p]]

theorem rot_flatten (size : Nat) (ls : List (List (List UInt8))) : (rot size ls).flatten = ls.flatten := by
  unfold rot; split
  · simp
  · rfl
theorem rot_length (size : Nat) (ls : List (List (List UInt8))) : ls.length ≤ (rot size ls).length ∧ (rot size ls).length ≤ ls.length + 1 := by
  unfold rot; split
  · simp
  · omega
theorem addTo_snoc (init : List (List (List UInt8))) (rs : List (List UInt8)) (p : List UInt8) : addTo (init ++ [rs]) p = init ++ [rs ++ [p]] := by
  unfold addTo; simp
theorem snoc_of {α : Type} {l : List α} (h : 0 < l.length) : ∃ a c, l = a ++ [c] :=
  ⟨l.dropLast, l.getLast (by intro e; simp [e] at h), (List.dropLast_concat_getLast _).symm⟩
theorem addTo_flatten {ls : List (List (List UInt8))} (h : 0 < ls.length) (p : List UInt8) : (addTo ls p).flatten = ls.flatten ++ [p] := by
  obtain ⟨a, c, rfl⟩ := snoc_of h
  rw [addTo_snoc]; simp
theorem addTo_length {ls : List (List (List UInt8))} (h : 0 < ls.length) (p : List UInt8) : (addTo ls p).length = ls.length := by
  obtain ⟨a, c, rfl⟩ := snoc_of h
  rw [addTo_snoc]; simp

/-- what is torn: the last segment has a frame more that is not durable -/
def tornFs (init : List (List (List UInt8))) (rs : List (List UInt8)) (p : List UInt8) : List File := init.map whole ++ [⟨frames rs ++ frame p, (frames rs).length⟩]

/-- how an append may end -/
structure Ends (S : Fs) (l : Lg) (size : Nat) (ls : List (List (List UInt8))) (p : List UInt8) (S' : Fs) (l' : Lg) (e : Nat) : Prop where
  hdir : l'.dir = l.dir
  hfirst : l'.first = l.first
  hsize : l'.size = l.size
  room : S'.room = S.room
  more : S'.L.length ≤ S.L.length + 1
  steps : S'.steps ≤ S.steps + 3
  unarmed : S.armed = 0 → S'.armed = 0 ∧ e ≠ 5
  ways : (e = 0 ∧ Live S' l' (addTo (rot size ls) p) ∧ Fsp.usedOf S'.L = Fsp.usedOf S.L + (8 + p.length)) ∨ (e = 4 ∧ Live S' l' (rot size ls) ∧ Fsp.usedOf S'.L = Fsp.usedOf S.L ∧ S.room < Fsp.usedOf S.L + (8 + p.length))
    ∨ (e = 5 ∧ S'.down = true ∧ l'.stuck = true ∧ ∃ ls', (ls' = ls ∨ ls' = rot size ls) ∧ (Has S' l.dir l.first (ls'.map whole) ∨ ∃ init rs, ls' = init ++ [rs] ∧ Has S' l.dir l.first (tornFs init rs p)))

theorem stepped_of {S : Fs} (h : S.armed ≠ 1) : Fsp.stepped S = { S with armed := S.armed - 1, steps := S.steps + 1 } := by unfold Fsp.stepped; rw [if_neg h]
theorem stepped_one {S : Fs} (h : S.armed = 1) : Fsp.stepped S = { S with armed := 0, down := true } := by unfold Fsp.stepped; rw [if_pos h]

section
variable {S : Fs} {l : Lg} {ls : List (List (List UInt8))} {p : List UInt8}

theorem whole_snoc (rs : List (List UInt8)) (p : List UInt8) : whole (rs ++ [p]) = ⟨frames rs ++ frame p, (frames rs ++ frame p).length⟩ := by
  unfold whole; rw [frames_append, frames_one]

theorem Live.lastIs {init : List (List (List UInt8))} {rs : List (List UInt8)} (h : Live S l (init ++ [rs])) : l.last = l.first + (init.map whole).length ∧ Fsp.find S.L (seg l.dir l.last) = some (whole rs) := by
  have h1 := h.last
  simp only [List.length_append, List.length_cons, List.length_nil] at h1
  have e : l.last = l.first + (init.map whole).length := by simp; omega
  refine ⟨e, ?_⟩
  have h2 := h.has
  rw [List.map_append] at h2
  rw [e]; exact h2.lastFile

/-- the write to the last segment -/
theorem write_ends (hs : Fsp.Sorted S.L) (h : Live S l ls) (hp : p.length ≤ maxRec) : 
    let r := write S l p
    r.1.2.dir = l.dir ∧ r.1.2.first = l.first ∧ r.1.2.size = l.size ∧ r.1.1.room = S.room ∧ r.1.1.L.length ≤ S.L.length ∧ r.1.1.steps ≤ S.steps + 2 ∧ (S.armed = 0 → r.1.1.armed = 0 ∧ r.2 ≠ 5) ∧
    ((r.2 = 0 ∧ Live r.1.1 r.1.2 (addTo ls p) ∧ Fsp.usedOf r.1.1.L = Fsp.usedOf S.L + (8 + p.length)) ∨ (r.2 = 4 ∧ Live r.1.1 r.1.2 ls ∧ Fsp.usedOf r.1.1.L = Fsp.usedOf S.L ∧ S.room < Fsp.usedOf S.L + (8 + p.length))
      ∨ (r.2 = 5 ∧ r.1.1.down = true ∧ r.1.2.stuck = true ∧ (Has r.1.1 l.dir l.first (ls.map whole) ∨ ∃ init rs, ls = init ++ [rs] ∧ Has r.1.1 l.dir l.first (tornFs init rs p)))) := by
  obtain ⟨init, rs, rfl⟩ := snoc_of h.any
  obtain ⟨hl, hf⟩ := h.lastIs
  have hfl := frame_length p
  intro r
  by_cases h1 : S.room < Fsp.usedOf S.L + (8 + p.length)
  · have ea : Fsp.append S (seg l.dir l.last) (frame p) = (S, 4) := by
      simp only [Fsp.append, h.up, hf, hfl, if_pos h1, Bool.false_eq_true, if_false]
    have er : r = ((S, l), 4) := by show write S l p = _; simp only [write, ea, met]; rfl
    rw [er]
    exact ⟨rfl, rfl, rfl, rfl, Nat.le_refl _, by show S.steps ≤ S.steps + 2; omega, fun q => ⟨q, by show (4 : Nat) ≠ 5; decide⟩, Or.inr (Or.inl ⟨rfl, h, rfl, h1⟩)⟩
  · by_cases h2 : S.armed = 1
    · have ea : Fsp.append S (seg l.dir l.last) (frame p) = (Fsp.stepped S, 5) := by
        simp only [Fsp.append, h.up, hf, hfl, if_neg h1, if_pos h2, Bool.false_eq_true, if_false]
      have er : r = ((Fsp.stepped S, { l with stuck := true }), 5) := by show write S l p = _; simp only [write, ea, met]; rfl
      rw [er, stepped_one h2]
      exact ⟨rfl, rfl, rfl, rfl, Nat.le_refl _, by show S.steps ≤ S.steps + 2; omega, fun q => by omega, Or.inr (Or.inr ⟨rfl, rfl, rfl, Or.inl (h.has.same rfl)⟩)⟩
    · have ea : Fsp.append S (seg l.dir l.last) (frame p) = ({ Fsp.stepped S with L := put S.L (seg l.dir l.last) ⟨frames rs ++ frame p, (frames rs).length⟩ }, 0) := by
        simp only [Fsp.append, h.up, hf, hfl, if_neg h1, if_neg h2, Bool.false_eq_true, if_false]; rfl
      rw [stepped_of h2] at ea
      have hfind : Fsp.find (put S.L (seg l.dir l.last) ⟨frames rs ++ frame p, (frames rs).length⟩) (seg l.dir l.last) = some ⟨frames rs ++ frame p, (frames rs).length⟩ := Fsp.find_put_same _ _ _
      have hlen := Fsp.length_put S.L hs (seg l.dir l.last) ⟨frames rs ++ frame p, (frames rs).length⟩
      rw [if_pos (by rw [hf]; rfl)] at hlen
      have hh := h.has
      rw [List.map_append] at hh
      have hu := Fsp.used_put_some hs hf ⟨frames rs ++ frame p, (frames rs).length⟩
      simp only [whole, List.length_append, hfl] at hu
      by_cases h3 : S.armed - 1 = 1
      · have eb : Fsp.sync { S with armed := S.armed - 1, steps := S.steps + 1, L := put S.L (seg l.dir l.last) ⟨frames rs ++ frame p, (frames rs).length⟩ } (seg l.dir l.last) = ({ S with armed := 0, steps := S.steps + 1, down := true, L := put S.L (seg l.dir l.last) ⟨frames rs ++ frame p, (frames rs).length⟩ }, 5) := by
          simp only [Fsp.sync, h.up, hfind, h3, Bool.false_eq_true, if_false, if_true]; rfl
        have er : r = (({ S with armed := 0, steps := S.steps + 1, down := true, L := put S.L (seg l.dir l.last) ⟨frames rs ++ frame p, (frames rs).length⟩ }, { l with stuck := true }), 5) := by
          show write S l p = _
          simp only [write, ea, if_true, eb, met]
        rw [er]
        refine ⟨rfl, rfl, rfl, rfl, by show (put _ _ _).length ≤ _; omega, by show S.steps + 1 ≤ S.steps + 2; omega, fun q => by omega, Or.inr (Or.inr ⟨rfl, rfl, rfl, Or.inr ⟨init, rs, rfl, ?_⟩⟩)⟩
        refine hh.setLast ?_
        show put S.L (seg l.dir l.last) _ = _
        rw [hl]
      · have eb : Fsp.sync { S with armed := S.armed - 1, steps := S.steps + 1, L := put S.L (seg l.dir l.last) ⟨frames rs ++ frame p, (frames rs).length⟩ } (seg l.dir l.last) = ({ S with armed := S.armed - 1 - 1, steps := S.steps + 1 + 1, L := put (put S.L (seg l.dir l.last) ⟨frames rs ++ frame p, (frames rs).length⟩) (seg l.dir l.last) ⟨frames rs ++ frame p, (frames rs ++ frame p).length⟩ }, 0) := by
          simp only [Fsp.sync, h.up, hfind, if_neg h3, Bool.false_eq_true, if_false, Fsp.stepped]
        have er : r = (({ S with armed := S.armed - 1 - 1, steps := S.steps + 1 + 1, L := put (put S.L (seg l.dir l.last) ⟨frames rs ++ frame p, (frames rs).length⟩) (seg l.dir l.last) ⟨frames rs ++ frame p, (frames rs ++ frame p).length⟩ }, l), 0) := by
          show write S l p = _
          simp only [write, ea, if_true, eb, met_0]
        have hs1 : Fsp.Sorted (put S.L (seg l.dir l.last) ⟨frames rs ++ frame p, (frames rs).length⟩) := Fsp.put_sorted hs _ _
        have hlen2 := Fsp.length_put _ hs1 (seg l.dir l.last) ⟨frames rs ++ frame p, (frames rs ++ frame p).length⟩
        rw [if_pos (by rw [hfind]; rfl)] at hlen2
        have hu2 := Fsp.used_put_some hs1 hfind ⟨frames rs ++ frame p, (frames rs ++ frame p).length⟩
        simp only at hu2
        rw [er]
        refine ⟨rfl, rfl, rfl, rfl, by show (put _ _ _).length ≤ _; omega, Nat.le_refl _, fun q => ⟨by show S.armed - 1 - 1 = 0; omega, by show (0 : Nat) ≠ 5; decide⟩, Or.inl ⟨rfl, ?_, ?_⟩⟩
        · rw [addTo_snoc]
          refine ⟨?_, by have := h.last; simp at this ⊢; omega, by simp, ?_, h.up, h.free, h.valid⟩
          · rw [List.map_append]
            show Has _ _ _ (_ ++ [whole (rs ++ [p])])
            rw [whole_snoc]
            have t1 := Has.setLast (S' := { S with L := put S.L (seg l.dir l.last) ⟨frames rs ++ frame p, (frames rs).length⟩ }) (g := ⟨frames rs ++ frame p, (frames rs).length⟩) hh (by show put _ _ _ = _; rw [← hl])
            exact Has.setLast t1 (by show put _ _ _ = _; rw [← hl])
          · intro q hq
            rcases List.mem_append.1 hq with hq | hq
            · exact h.short q (by simp [hq])
            · rw [List.mem_singleton.1 hq]
              intro x hx
              rcases List.mem_append.1 hx with hx | hx
              · exact h.short rs (by simp) x hx
              · rw [List.mem_singleton.1 hx]; exact hp
        · show Fsp.usedOf (put _ _ _) = _
          omega

/-- a segment more -/
theorem rotate_ends (hs : Fsp.Sorted S.L) (h : Live S l ls) (hlast : l.last < 99999999) (hn : S.L.length < 400) :
    let r := rotate S l
    r.1.2.dir = l.dir ∧ r.1.2.first = l.first ∧ r.1.2.size = l.size ∧ r.1.1.room = S.room ∧ r.1.1.L.length ≤ S.L.length + 1 ∧ r.1.1.steps ≤ S.steps + 1 ∧ (S.armed = 0 → r.1.1.armed = 0 ∧ r.2 ≠ 5) ∧ Fsp.usedOf r.1.1.L = Fsp.usedOf S.L ∧
    ((r.2 = 0 ∧ Live r.1.1 r.1.2 (ls ++ [[]])) ∨ (r.2 = 5 ∧ r.1.1.down = true ∧ r.1.2.stuck = true ∧ Has r.1.1 l.dir l.first (ls.map whole))) := by
  intro r
  have h1 := h.last
  have hml : (ls.map whole).length = ls.length := by simp
  have hnum : l.last + 1 = l.first + (ls.map whole).length := by omega
  have hfree : Fsp.find S.L (seg l.dir (l.last + 1)) = none := by rw [hnum]; exact h.has.free (by omega)
  have hv := valid_seg h.valid (l.last + 1)
  by_cases ha : S.armed = 1
  · have ec : Fsp.create S (seg l.dir (l.last + 1)) = (Fsp.stepped S, 5) := by
      unfold Fsp.create
      rw [h.up, if_neg Bool.false_ne_true, if_neg (by rw [hv]; exact Bool.noConfusion), hfree, if_neg (by simp), if_neg (by omega), if_pos ha]
    have er : r = ((Fsp.stepped S, { l with stuck := true }), 5) := by
      show rotate S l = _
      unfold rotate
      rw [h.free, if_neg Bool.false_ne_true, if_neg (by omega), ec]; rfl
    rw [er, stepped_one ha]
    exact ⟨rfl, rfl, rfl, rfl, by show S.L.length ≤ _; omega, by show S.steps ≤ S.steps + 1; omega, fun q => by omega, rfl, Or.inr ⟨rfl, rfl, rfl, h.has.same rfl⟩⟩
  · have ec : Fsp.create S (seg l.dir (l.last + 1)) = ({ Fsp.stepped S with L := put S.L (seg l.dir (l.last + 1)) ⟨[], 0⟩ }, 0) := by
      unfold Fsp.create
      rw [h.up, if_neg Bool.false_ne_true, if_neg (by rw [hv]; exact Bool.noConfusion), hfree, if_neg (by simp), if_neg (by omega), if_neg ha]
    rw [stepped_of ha] at ec
    have er : r = (({ S with armed := S.armed - 1, steps := S.steps + 1, L := put S.L (seg l.dir (l.last + 1)) ⟨[], 0⟩ }, { l with last := l.last + 1 }), 0) := by
      show rotate S l = _
      unfold rotate
      rw [h.free, if_neg Bool.false_ne_true, if_neg (by omega), ec]; rfl
    have hlen := Fsp.length_put S.L hs (seg l.dir (l.last + 1)) ⟨[], 0⟩
    rw [if_neg (by rw [hfree]; simp)] at hlen
    have hu := Fsp.used_put_none hfree ⟨[], 0⟩
    rw [er]
    refine ⟨rfl, rfl, rfl, rfl, by show (put _ _ _).length ≤ _; omega, Nat.le_refl _, fun q => ⟨by show S.armed - 1 = 0; omega, by show (0 : Nat) ≠ 5; decide⟩, hu, Or.inl ⟨rfl, ?_⟩⟩
    refine ⟨?_, by simp; omega, by simp, ?_, h.up, h.free, h.valid⟩
    · rw [List.map_append]
      exact h.has.addLast (by omega) (g := ⟨[], 0⟩) (by show put _ _ _ = _; rw [hnum])
    · intro q hq
      rcases List.mem_append.1 hq with hq | hq
      · exact h.short q hq
      · rw [List.mem_singleton.1 hq]; intro x hx; cases hx

theorem full_is (h : Live S l ls) : full S l = decide (l.size ≤ (frames (ls.getLastD [])).length) := by
  obtain ⟨init, rs, rfl⟩ := snoc_of h.any
  unfold full
  rw [h.lastIs.2]
  have e : (init ++ [rs]).getLastD [] = rs := by simp
  rw [e]; rfl

theorem append_ends (hs : Fsp.Sorted S.L) (h : Live S l ls) (hp : p.length ≤ maxRec) (hlast : l.last < 99999999) (hn : S.L.length < 400) :
    Ends S l l.size ls p (append S l p).1.1 (append S l p).1.2 (append S l p).2 := by
  have hm := hp
  unfold maxRec at hm
  have hf := full_is h
  by_cases hfull : l.size ≤ (frames (ls.getLastD [])).length
  · have erot : rot l.size ls = ls ++ [[]] := by unfold rot; rw [if_pos hfull]
    have e1 : append S l p = if (rotate S l).2 = 0 then write (rotate S l).1.1 (rotate S l).1.2 p else rotate S l := by
      unfold append
      rw [h.free, if_neg Bool.false_ne_true, if_neg (by omega), hf, if_pos (by simpa using hfull)]
    obtain ⟨r1, r2, r3, r4, r5, r6, r7, r8, r9⟩ := rotate_ends hs h hlast hn
    rcases r9 with ⟨re, rl⟩ | ⟨re, rd, rs, rh⟩
    · rw [if_pos re] at e1
      have hs2 : Fsp.Sorted (rotate S l).1.1.L := by
        have : (rotate S l).1.1.L = S.L ∨ ∃ n f, (rotate S l).1.1.L = put S.L n f := by
          unfold rotate
          split
          · exact Or.inl rfl
          · split
            · exact Or.inl rfl
            · have key : ∀ n, (Fsp.create S n).1.L = S.L ∨ ∃ m f, (Fsp.create S n).1.L = put S.L m f := by
                intro n
                unfold Fsp.create
                repeat' split
                all_goals first | exact Or.inl rfl | exact Or.inr ⟨_, _, rfl⟩ | (left; unfold Fsp.stepped; split <;> rfl)
              split <;> exact key _
        rcases this with e | ⟨n, f, e⟩
        · rw [e]; exact hs
        · rw [e]; exact Fsp.put_sorted hs _ _
      obtain ⟨w1, w2, w3, w4, w5, w6, w7, w8⟩ := write_ends hs2 rl hp
      rw [e1]
      refine ⟨w1.trans r1, w2.trans r2, w3.trans r3, w4.trans r4, by omega, by omega, fun q => ?_, ?_⟩
      · have := r7 q; exact w7 this.1
      · rw [erot]
        rw [r8, r4] at w8
        rcases w8 with w8 | w8 | ⟨a, b, c, d⟩
        · exact Or.inl w8
        · exact Or.inr (Or.inl w8)
        · rw [r1, r2] at d
          exact Or.inr (Or.inr ⟨a, b, c, _, Or.inr rfl, d⟩)
    · rw [if_neg (by omega)] at e1
      rw [e1]
      exact ⟨r1, r2, r3, r4, r5, by omega, r7, Or.inr (Or.inr ⟨re, rd, rs, ls, Or.inl rfl, Or.inl rh⟩)⟩
  · have erot : rot l.size ls = ls := by unfold rot; rw [if_neg hfull]
    have e1 : append S l p = write S l p := by
      unfold append
      rw [h.free, if_neg Bool.false_ne_true, if_neg (by omega), hf, if_neg (by simpa using hfull)]
    obtain ⟨w1, w2, w3, w4, w5, w6, w7, w8⟩ := write_ends hs h hp
    rw [e1]
    refine ⟨w1, w2, w3, w4, by omega, by omega, w7, ?_⟩
    rw [erot]
    rcases w8 with w8 | w8 | ⟨a, b, c, d⟩
    · exact Or.inl w8
    · exact Or.inr (Or.inl w8)
    · exact Or.inr (Or.inr ⟨a, b, c, _, Or.inl rfl, d⟩)

end
end Go.Proofs.YtinghngnehhgfaaGreatDoor.Walp

/-
  PLAIN, of the log: what stands in bytes in the form of frames, sound or spoilt; and of it, what is sound.
-/
namespace Go.Proofs.YtinghngnehhgfaaGreatDoor.Walp

/-- the first thing that stands in b in the form of a frame: its sum, its bytes -/
def raw1 (b : List UInt8) : Option (Nat × List UInt8) :=
  if b.length < 8 then none
  else if b.length - 8 < num (b.take 4) then none
  else some (num ((b.drop 4).take 4), (b.drop 8).take (num (b.take 4)))

theorem raw1_some {b : List UInt8} {x : Nat × List UInt8} (h : raw1 b = some x) : 8 ≤ b.length ∧ x.2.length = num (b.take 4) ∧ 8 + x.2.length ≤ b.length ∧ x.1 = num ((b.drop 4).take 4) ∧ x.2 = (b.drop 8).take x.2.length ∧ x.1 < 4294967296 := by
  unfold raw1 at h
  by_cases h1 : b.length < 8
  · rw [if_pos h1] at h; cases h
  rw [if_neg h1] at h
  by_cases h2 : b.length - 8 < num (b.take 4)
  · rw [if_pos h2] at h; cases h
  rw [if_neg h2] at h
  cases h
  have hl : ((b.drop 8).take (num (b.take 4))).length = num (b.take 4) := by simp; omega
  refine ⟨by omega, hl, by rw [hl]; omega, rfl, by rw [hl], ?_⟩
  have := num_lt ((b.drop 4).take 4)
  have e : ((b.drop 4).take 4).length = 4 := by simp; omega
  rw [e] at this
  exact this

def raw (b : List UInt8) : List (Nat × List UInt8) :=
  match h : raw1 b with
  | none => []
  | some x => x :: raw (b.drop (8 + x.2.length))
termination_by b.length
decreasing_by
  have := raw1_some h
  rw [List.length_drop]; omega

theorem raw_none {b : List UInt8} (h : raw1 b = none) : raw b = [] := by
  rw [raw]; split
  · rfl
  · rename_i p hp; rw [h] at hp; cases hp

theorem raw_some {b : List UInt8} {x : Nat × List UInt8} (h : raw1 b = some x) : raw b = x :: raw (b.drop (8 + x.2.length)) := by
  rw [raw]; split
  · rename_i hp; rw [h] at hp; cases hp
  · rename_i q hp; rw [h] at hp; cases hp; rfl

/-- is it sound? -/
def sound (x : Nat × List UInt8) : Bool := decide (x.2.length ≤ 1048576) && decide (sum x.2 = x.1)

theorem rec1_raw (b : List UInt8) : rec1 b = match raw1 b with
    | none => none
    | some x => if sound x = true then some x.2 else none := by
  unfold rec1 raw1 sound
  by_cases h1 : b.length < 8
  · rw [if_pos h1, if_pos h1]
  rw [if_neg h1, if_neg h1]
  by_cases h2 : b.length - 8 < num (b.take 4)
  · rw [if_pos (Or.inr h2), if_pos h2]
  rw [if_neg h2]
  have hl : ((b.drop 8).take (num (b.take 4))).length = num (b.take 4) := by simp; omega
  simp only [hl]
  by_cases h3 : 1048576 < num (b.take 4)
  · rw [if_pos (Or.inl h3), if_neg (by simp; intro; omega)]
  · rw [if_neg (by omega)]
    by_cases h4 : sum ((b.drop 8).take (num (b.take 4))) = num ((b.drop 4).take 4)
    · rw [if_pos h4, if_pos (by simp [h4]; omega)]
    · rw [if_neg h4, if_neg (by simp [h4])]

theorem scan_raw (b : List UInt8) : scan b = ((raw b).takeWhile sound).map (·.2) := by
  induction hn : b.length using Nat.strongRecOn generalizing b with
  | _ n ih =>
    have hr := rec1_raw b
    cases h : raw1 b with
    | none =>
      rw [h] at hr
      rw [scan_none hr, raw_none h]; rfl
    | some x =>
      rw [h] at hr
      have hx := raw1_some h
      rw [raw_some h, List.takeWhile_cons]
      by_cases hs : sound x = true
      · rw [if_pos hs]
        simp only [hs, if_true] at hr
        rw [scan_some hr, ih _ (by rw [List.length_drop]; omega) _ rfl]; rfl
      · rw [if_neg hs]
        simp only [if_neg hs] at hr
        rw [scan_none hr]; rfl

theorem takeWhile_all {α : Type} {p : α → Bool} {l : List α} (h : l.all p = true) : l.takeWhile p = l := by
  induction l with
  | nil => rfl
  | cons x r ih =>
    rw [List.all_cons, Bool.and_eq_true] at h
    rw [List.takeWhile_cons, if_pos h.1, ih h.2]

theorem takeWhile_stop {α : Type} {p : α → Bool} {a : List α} {x : α} {l : List α} (h : a.all p = true) (hx : p x = false) (hl : (a ++ [x]) <+: l) : l.takeWhile p = a := by
  obtain ⟨r, rfl⟩ := hl
  induction a with
  | nil => simp [hx]
  | cons y a ih =>
    rw [List.all_cons, Bool.and_eq_true] at h
    rw [List.cons_append, List.cons_append, List.takeWhile_cons, if_pos h.1, ih h.2]

theorem frames_length (l : List (List UInt8)) : (frames l).length = (l.map fun p => 8 + p.length).sum := by
  induction l with
  | nil => rfl
  | cons p l ih => rw [frames_cons, List.length_append, frame_length, ih]; simp

theorem frames_snoc_length (l : List (List UInt8)) (p : List UInt8) : (frames (l ++ [p])).length = (frames l).length + (8 + p.length) := by
  rw [frames_append, List.length_append, frames_one, frame_length]

/-- so many bytes hold few of them -/
theorem raw_length (b : List UInt8) : 8 * (raw b).length ≤ b.length := by
  induction hn : b.length using Nat.strongRecOn generalizing b with
  | _ n ih =>
    cases h : raw1 b with
    | none => rw [raw_none h]; simp
    | some x =>
      have hx := raw1_some h
      have := ih _ (by rw [List.length_drop]; omega) (b.drop (8 + x.2.length)) rfl
      rw [List.length_drop] at this
      rw [raw_some h, List.length_cons]; omega

end Go.Proofs.YtinghngnehhgfaaGreatDoor.Walp
