/-
  Keys as plain data: parts, their bytes, what reads them, their order.
-/
import Derived.Test.YtipcdbdlopmdoaaDoorProg
import Derived.Lib.Replace
import Derived.Lib.CountLaws
namespace Go.Proofs.YtipcdbdlopmdoaaDoor
open Go.Lib
set_option linter.unusedVariables false
set_option linter.unusedSimpArgs false

/-- a part -/
structure KP where
  kind : Int
  n : Int
  s : List UInt8
deriving Inhabited

/-- a text's bytes, each 0 with 255 behind it -/
def esc : List UInt8 → List UInt8
  | [] => []
  | b :: r => if b = 0 then 0 :: 255 :: esc r else b :: esc r

/-- k bytes of a number, the high one first -/
def be : Nat → Nat → List UInt8
  | 0, _ => []
  | k + 1, u => UInt8.ofNat (u / 256 ^ k) :: be k (u % 256 ^ k)

theorem be_length : ∀ k u, (be k u).length = k
  | 0, _ => rfl
  | k + 1, u => by simp [be, be_length k]

/-- an int's bytes -/
def low (n : Int) : Nat := (n + 9223372036854775808).toNat
def bodyP (p : KP) : List UInt8 := if p.kind = 1 then be 8 (low p.n) else esc p.s ++ [0, 1]
/-- a part's bytes -/
def encP (p : KP) : List UInt8 := (if p.kind = 1 then 1 else 2) :: bodyP p
def encL : List KP → List UInt8
  | [] => []
  | p :: l => encP p ++ encL l

def kindOk (p : KP) : Bool := p.kind == 1 || p.kind == 2
def sizeP (p : KP) : Nat := (encP p).length
/-- the error of Encode -/
def errE (l : List KP) : Int := if 8 < l.length then 9 else if l.all kindOk = false then 7 else if 200 < (encL l).length then 8 else 0
def keyE (l : List KP) : List UInt8 := if errE l = 0 then encL l else []

theorem encL_append : ∀ l m, encL (l ++ m) = encL l ++ encL m
  | [], m => rfl
  | p :: l, m => by simp [encL, encL_append l m]

/-- what stands ahead of a text's end, and behind it -/
def scan : List UInt8 → Option (List UInt8 × List UInt8)
  | [] => none
  | [_] => none
  | a :: b :: r =>
    if a = 0 then
      (if b = 255 then (scan r).map fun x => (0 :: x.1, x.2) else if b = 1 then some ([], r) else none)
    else (scan (b :: r)).map fun x => (a :: x.1, x.2)
termination_by l => l.length

/-- a number out of bytes, the high one first -/
def num : Nat → List UInt8 → Nat
  | a, [] => a
  | a, b :: r => num (a * 256 + b.toNat) r

/-- the first part of bytes, and what is behind it -/
def takeE (key : List UInt8) : Option (KP × List UInt8) :=
  match key with
  | [] => none
  | k :: rest =>
    if k = 1 then (if rest.length < 8 then none else some (⟨1, (num 0 (rest.take 8) : Int) - 9223372036854775808, []⟩, rest.drop 8))
    else if k = 2 then (scan rest).map fun x => (⟨2, 0, x.1⟩, x.2)
    else none

theorem scan_length : ∀ (n : Nat) (r : List UInt8), r.length ≤ n → ∀ x, scan r = some x → x.1.length + x.2.length + 2 ≤ r.length
  | 0, r, h, x, hx => by
    have : r = [] := List.length_eq_zero_iff.1 (by omega)
    subst this; simp [scan] at hx
  | n + 1, [], h, x, hx => by simp [scan] at hx
  | n + 1, [_], h, x, hx => by simp [scan] at hx
  | n + 1, a :: b :: r, h, x, hx => by
    rw [scan] at hx
    split at hx
    · split at hx
      · obtain ⟨y, hy, rfl⟩ := Option.map_eq_some_iff.1 hx
        have := scan_length n r (by simp at h; omega) y hy
        simp only [List.length_cons]; omega
      · split at hx
        · cases hx; simp
        · simp at hx
    · obtain ⟨y, hy, rfl⟩ := Option.map_eq_some_iff.1 hx
      have := scan_length n (b :: r) (by simp at h ⊢; omega) y hy
      simp only [List.length_cons] at this ⊢; omega

theorem takeE_shorter {key : List UInt8} {x : KP × List UInt8} (h : takeE key = some x) : x.2.length < key.length := by
  unfold takeE at h
  split at h
  · simp at h
  · rename_i k rest
    split at h
    · split at h
      · simp at h
      · cases h; simp; omega
    · split at h
      · obtain ⟨y, hy, rfl⟩ := Option.map_eq_some_iff.1 h
        have := scan_length _ _ (Nat.le_refl _) y hy
        simp only [List.length_cons]; omega
      · simp at h

/-- the parts of bytes, but for the limits; fuel: as many bytes as there are -/
def decL : Nat → List UInt8 → Option (List KP)
  | _, [] => some []
  | 0, _ => none
  | f + 1, key => (takeE key).bind fun x => (decL f x.2).map (x.1 :: ·)

/-- the parts of a key -/
def decE (key : List UInt8) : Option (List KP) := if 200 < key.length then none else (decL key.length key).bind fun l => if 8 < l.length then none else some l

theorem u8_cases (b : UInt8) : b = 0 ∨ 0 < b := by
  rcases Nat.eq_zero_or_pos b.toNat with h | h
  · exact Or.inl (UInt8.toNat_inj.1 h)
  · exact Or.inr (UInt8.lt_iff_toNat_lt.2 h)

/-! there and back -/

theorem scan_esc : ∀ (s r : List UInt8), scan (esc s ++ 0 :: 1 :: r) = some (s, r)
  | [], r => by simp [esc, scan]
  | b :: s, r => by
    have ih := scan_esc s r
    by_cases hb : b = 0
    · subst hb
      simp only [esc, ↓reduceIte, List.cons_append]
      rw [scan]
      simp [ih]
    · simp only [esc, if_neg hb, List.cons_append]
      cases he : esc s ++ 0 :: 1 :: r with
      | nil => simp at he
      | cons c t =>
        rw [scan, if_neg hb, ← he, ih]
        rfl

theorem esc_scan : ∀ (n : Nat) (r : List UInt8), r.length ≤ n → ∀ x, scan r = some x → r = esc x.1 ++ 0 :: 1 :: x.2
  | 0, r, h, x, hx => by
    have : r = [] := List.length_eq_zero_iff.1 (by omega)
    subst this; simp [scan] at hx
  | n + 1, [], h, x, hx => by simp [scan] at hx
  | n + 1, [_], h, x, hx => by simp [scan] at hx
  | n + 1, a :: b :: r, h, x, hx => by
    rw [scan] at hx
    split at hx
    · rename_i ha
      subst ha
      split at hx
      · rename_i hb
        subst hb
        obtain ⟨y, hy, rfl⟩ := Option.map_eq_some_iff.1 hx
        have := esc_scan n r (by simp at h; omega) y hy
        simp [esc, ← this]
      · split at hx
        · rename_i hb
          subst hb
          cases hx; simp [esc]
        · simp at hx
    · rename_i ha
      obtain ⟨y, hy, rfl⟩ := Option.map_eq_some_iff.1 hx
      have := esc_scan n (b :: r) (by simp at h ⊢; omega) y hy
      simp only [esc, if_neg ha, List.cons_append, ← this]

theorem num_be : ∀ (k u a : Nat) (r : List UInt8), u < 256 ^ k → num a (be k u ++ r) = num (a * 256 ^ k + u) r
  | 0, u, a, r, h => by
    have : u = 0 := by simpa using h
    subst this; simp [be]
  | k + 1, u, a, r, h => by
    have hp : 0 < 256 ^ k := Nat.pow_pos (by omega)
    have hd : u / 256 ^ k < 256 := by rw [Nat.div_lt_iff_lt_mul hp]; rw [Nat.pow_succ] at h; omega
    simp only [be, List.cons_append, num]
    rw [num_be k _ _ r (Nat.mod_lt _ hp)]
    have e1 : (UInt8.ofNat (u / 256 ^ k)).toNat = u / 256 ^ k := by simp; omega
    rw [e1]
    congr 1
    have e2 : u = 256 ^ k * (u / 256 ^ k) + u % 256 ^ k := (Nat.div_add_mod u (256 ^ k)).symm
    rw [Nat.pow_succ, Nat.add_mul]
    have e3 : u / 256 ^ k * 256 ^ k = 256 ^ k * (u / 256 ^ k) := Nat.mul_comm _ _
    have e4 : a * 256 * 256 ^ k = a * (256 ^ k * 256) := by rw [Nat.mul_assoc, Nat.mul_comm 256]
    omega

theorem num_split : ∀ (l : List UInt8) (a : Nat), num a l = a * 256 ^ l.length + num 0 l ∧ num 0 l < 256 ^ l.length
  | [], a => by simp [num]
  | b :: r, a => by
    obtain ⟨h1, h2⟩ := num_split r (a * 256 + b.toNat)
    obtain ⟨h3, _⟩ := num_split r (0 * 256 + b.toNat)
    have hb : b.toNat < 256 := b.toNat_lt
    simp only [num, List.length_cons]
    have hp : 0 < 256 ^ r.length := Nat.pow_pos (by omega)
    rw [h1, h3, Nat.pow_succ]
    constructor
    · rw [Nat.add_mul]
      have e4 : a * 256 * 256 ^ r.length = a * (256 ^ r.length * 256) := by rw [Nat.mul_assoc, Nat.mul_comm 256]
      simp only [Nat.zero_mul, Nat.zero_add]
      omega
    · simp only [Nat.zero_mul, Nat.zero_add]
      have : b.toNat * 256 ^ r.length ≤ 255 * 256 ^ r.length := Nat.mul_le_mul_right _ (by omega)
      omega

theorem be_num : ∀ (l : List UInt8), be l.length (num 0 l) = l
  | [] => rfl
  | b :: r => by
    have hb : b.toNat < 256 := b.toNat_lt
    have hp : 0 < 256 ^ r.length := Nat.pow_pos (by omega)
    obtain ⟨h1, h2⟩ := num_split r (0 * 256 + b.toNat)
    simp only [List.length_cons, be, num]
    rw [h1]
    simp only [Nat.zero_mul, Nat.zero_add]
    rw [Nat.mul_comm, Nat.mul_add_mod, Nat.mod_eq_of_lt h2, be_num r, Nat.mul_add_div hp, Nat.div_eq_of_lt h2, Nat.add_zero]
    simp

/-- a part whose key is read back: the field that its kind does not name is nothing -/
def plainP (p : KP) : KP := if p.kind = 1 then ⟨1, p.n, []⟩ else ⟨2, 0, p.s⟩
def numOk (p : KP) : Prop := -9223372036854775808 ≤ p.n ∧ p.n ≤ 9223372036854775807

theorem takeE_enc {p : KP} (hk : kindOk p = true) (hn : numOk p) (r : List UInt8) : takeE (encP p ++ r) = some (plainP p, r) := by
  unfold encP bodyP plainP takeE
  by_cases h1 : p.kind = 1
  · obtain ⟨n1, n2⟩ := hn
    have hl : low p.n < 256 ^ 8 := by unfold low; omega
    have hlen : ((be 8 (low p.n) ++ r).length < 8) = False := by simp [be_length]
    have e := num_be 8 (low p.n) 0 [] hl
    simp only [h1, if_pos, List.cons_append, hlen, if_false]
    have t8 : List.take 8 (be 8 (low p.n) ++ r) = be 8 (low p.n) := List.take_left' (be_length 8 _)
    have d8 : List.drop 8 (be 8 (low p.n) ++ r) = r := List.drop_left' (be_length 8 _)
    rw [t8, d8]
    simp only [List.append_nil, num, Nat.zero_mul, Nat.zero_add] at e
    rw [e]
    have : ((low p.n : Nat) : Int) - 9223372036854775808 = p.n := by unfold low; omega
    rw [this]
  · have h2 : p.kind = 2 := by simpa [kindOk, h1] using hk
    have n21 : ((2 : UInt8) = 1) = False := by decide
    simp only [h2, List.cons_append, n21, if_false, if_true]
    have : (2 : Int) = 1 ↔ False := by decide
    simp only [this, if_false, List.cons_append, List.append_assoc, List.nil_append]
    rw [scan_esc]
    rfl

theorem decL_enc : ∀ (l : List KP) (f : Nat), l.all kindOk = true → (∀ p ∈ l, numOk p) → (encL l).length ≤ f → decL f (encL l) = some (l.map plainP)
  | [], f, _, _, _ => by unfold encL; cases f <;> rfl
  | p :: l, f, hk, hn, hf => by
    rw [List.all_cons, Bool.and_eq_true] at hk
    simp only [encL, List.length_append] at hf
    have h1 : 1 ≤ (encP p).length := by simp [encP]
    cases f with
    | zero => omega
    | succ f =>
      have hne : encL (p :: l) = (if p.kind = 1 then 1 else 2) :: (bodyP p ++ encL l) := by simp [encL, encP]
      have : decL (f + 1) (encL (p :: l)) = (takeE (encL (p :: l))).bind fun x => (decL f x.2).map (x.1 :: ·) := by rw [hne]; rfl
      rw [this]
      simp only [encL]
      rw [takeE_enc hk.1 (hn p (by simp)), Option.bind_some]
      simp only
      rw [decL_enc l f hk.2 (fun q hq => hn q (by simp [hq])) (by omega)]
      rfl

theorem enc_takeE {key : List UInt8} {x : KP × List UInt8} (h : takeE key = some x) : key = encP x.1 ++ x.2 ∧ kindOk x.1 = true ∧ numOk x.1 ∧ plainP x.1 = x.1 := by
  unfold takeE at h
  split at h
  · simp at h
  · rename_i k rest
    split at h
    · rename_i hk
      subst hk
      split at h
      · simp at h
      · rename_i hr
        cases h
        have hl : (rest.take 8).length = 8 := by simp; omega
        obtain ⟨_, h2⟩ := num_split (rest.take 8) 0
        rw [hl] at h2
        have hlow : low ((num 0 (rest.take 8) : Int) - 9223372036854775808) = num 0 (rest.take 8) := by unfold low; omega
        have hb := be_num (rest.take 8)
        rw [hl] at hb
        refine ⟨?_, rfl, ⟨?_, ?_⟩, rfl⟩
        · simp only [encP, bodyP, if_true, hlow, hb, List.cons_append, List.take_append_drop]
        · simp only; omega
        · simp only; omega
    · split at h
      · rename_i hk
        subst hk
        obtain ⟨y, hy, rfl⟩ := Option.map_eq_some_iff.1 h
        have := esc_scan _ _ (Nat.le_refl _) y hy
        refine ⟨?_, rfl, ⟨by simp, by simp⟩, rfl⟩
        have n21 : ((2 : Int) = 1) = False := by decide
        simp only [encP, bodyP, n21, if_false, List.cons_append, List.append_assoc, List.nil_append, this]
      · simp at h

theorem enc_decL : ∀ (f : Nat) (key : List UInt8) (l : List KP), decL f key = some l → key = encL l ∧ l.all kindOk = true ∧ (∀ p ∈ l, numOk p) ∧ l.map plainP = l
  | f, [], l, h => by
    have : l = [] := by cases f <;> simpa [decL] using h.symm
    subst this
    exact ⟨rfl, rfl, fun p hp => by simp at hp, rfl⟩
  | 0, b :: r, l, h => by simp [decL] at h
  | f + 1, b :: r, l, h => by
    have : decL (f + 1) (b :: r) = (takeE (b :: r)).bind fun x => (decL f x.2).map (x.1 :: ·) := rfl
    rw [this] at h
    obtain ⟨x, hx, h2⟩ := Option.bind_eq_some_iff.1 h
    obtain ⟨m, hm, rfl⟩ := Option.map_eq_some_iff.1 h2
    obtain ⟨a1, a2, a3, a4⟩ := enc_takeE hx
    obtain ⟨b1, b2, b3, b4⟩ := enc_decL f x.2 m hm
    refine ⟨by rw [a1, b1]; rfl, by simp [a2, b2], fun p hp => ?_, by simp [a4, b4]⟩
    rcases List.mem_cons.1 hp with rfl | hp
    · exact a3
    · exact b3 p hp

theorem decE_some {key : List UInt8} {l : List KP} (h : decE key = some l) : encL l = key ∧ errE l = 0 ∧ (∀ p ∈ l, numOk p) ∧ l.length ≤ 8 ∧ key.length ≤ 200 ∧ l.all kindOk = true ∧ l.map plainP = l := by
  unfold decE at h
  split at h
  · simp at h
  · rename_i hl
    obtain ⟨m, hm, h2⟩ := Option.bind_eq_some_iff.1 h
    split at h2
    · simp at h2
    · rename_i h8
      cases h2
      obtain ⟨b1, b2, b3, b4⟩ := enc_decL _ _ _ hm
      refine ⟨b1.symm, ?_, b3, by omega, by omega, b2, b4⟩
      unfold errE
      rw [if_neg h8, if_neg (by simp [b2]), if_neg (by rw [← b1]; exact hl)]

theorem errE_zero {l : List KP} (h : errE l = 0) : l.length ≤ 8 ∧ l.all kindOk = true ∧ (encL l).length ≤ 200 := by
  unfold errE at h
  split at h
  · omega
  · split at h
    · omega
    · split at h
      · omega
      · rename_i h1 h2 h3
        exact ⟨by omega, by simpa using h2, by omega⟩

theorem decE_keyE {l : List KP} (h : errE l = 0) (hn : ∀ p ∈ l, numOk p) : decE (encL l) = some (l.map plainP) := by
  obtain ⟨h1, h2, h3⟩ := errE_zero h
  unfold decE
  rw [if_neg (by omega), decL_enc l _ h2 hn (Nat.le_refl _), Option.bind_some, if_neg (by simp; omega)]

theorem errE_take {l : List KP} (h : errE l = 0) (i : Nat) : errE (l.take i) = 0 := by
  obtain ⟨h1, h2, h3⟩ := errE_zero h
  have e := encL_append (l.take i) (l.drop i)
  rw [List.take_append_drop] at e
  have hl : (encL (l.take i)).length ≤ (encL l).length := by rw [e]; simp
  have hk : (l.take i).all kindOk = true := List.all_eq_true.2 fun x hx => List.all_eq_true.1 h2 x (List.mem_of_mem_take hx)
  unfold errE
  rw [if_neg (by simp; omega), if_neg (by simp [hk]), if_neg (by omega)]
theorem encL_take (l : List KP) (i : Nat) : encL l = encL (l.take i) ++ encL (l.drop i) := by
  rw [← encL_append, List.take_append_drop]

/-! the order -/

/-- the order of two ints -/
def cmpN (a b : Int) : Int := if a < b then -1 else if b < a then 1 else 0
def cmpP (p q : KP) : Int := if p.kind ≠ q.kind then cmpN p.kind q.kind else if p.kind = 1 then cmpN p.n q.n else if p.kind = 2 then compareBytes p.s q.s else 0
def cmpL : List KP → List KP → Int
  | [], [] => 0
  | [], _ :: _ => -1
  | _ :: _, [] => 1
  | p :: l, q :: m => if cmpP p q ≠ 0 then cmpP p q else cmpL l m

theorem cmpB_self : ∀ a : List UInt8, compareBytes a a = 0
  | [] => rfl
  | x :: a => by
    have : ¬ x < x := by simp [UInt8.lt_iff_toNat_lt]
    rw [compareBytes, if_neg this, if_neg this, cmpB_self a]
theorem cmpB_cons (x : UInt8) (a b : List UInt8) : compareBytes (x :: a) (x :: b) = compareBytes a b := by
  have : ¬ x < x := by simp [UInt8.lt_iff_toNat_lt]
  rw [compareBytes, if_neg this, if_neg this]
theorem cmpB_lt {x y : UInt8} (h : x < y) (a b : List UInt8) : compareBytes (x :: a) (y :: b) = -1 := by
  rw [compareBytes, if_pos h]
theorem cmpB_gt {x y : UInt8} (h : y < x) (a b : List UInt8) : compareBytes (x :: a) (y :: b) = 1 := by
  have : ¬ x < y := by simp only [UInt8.lt_iff_toNat_lt] at *; omega
  rw [compareBytes, if_neg this, if_pos h]
theorem u8_tri (x y : UInt8) : x < y ∨ x = y ∨ y < x := by
  rcases Nat.lt_trichotomy x.toNat y.toNat with h | h | h
  · exact Or.inl (UInt8.lt_iff_toNat_lt.2 h)
  · exact Or.inr (Or.inl (UInt8.toNat_inj.1 h))
  · exact Or.inr (Or.inr (UInt8.lt_iff_toNat_lt.2 h))
theorem cmpB_eq : ∀ {a b : List UInt8}, compareBytes a b = 0 → a = b
  | [], [], _ => rfl
  | [], _ :: _, h => by simp [compareBytes] at h
  | _ :: _, [], h => by simp [compareBytes] at h
  | x :: a, y :: b, h => by
    rcases u8_tri x y with g | g | g
    · rw [cmpB_lt g] at h; omega
    · subst g; rw [cmpB_cons] at h; rw [cmpB_eq h]
    · rw [cmpB_gt g] at h; omega
theorem cmpB_neg : ∀ a b : List UInt8, compareBytes b a = - compareBytes a b
  | [], [] => rfl
  | [], _ :: _ => rfl
  | _ :: _, [] => rfl
  | x :: a, y :: b => by
    rcases u8_tri x y with g | g | g
    · rw [cmpB_lt g, cmpB_gt g]; rfl
    · subst g; rw [cmpB_cons, cmpB_cons, cmpB_neg a b]
    · rw [cmpB_gt g, cmpB_lt g]
theorem less_cmpB : ∀ a b : List UInt8, Op.bytesLess a b = decide (compareBytes a b = -1)
  | [], [] => by simp [Op.bytesLess, compareBytes]
  | [], _ :: _ => by simp [Op.bytesLess, compareBytes]
  | _ :: _, [] => by simp [Op.bytesLess, compareBytes]
  | x :: a, y :: b => by
    rw [Op.bytesLess, less_cmpB a b]
    rcases u8_tri x y with g | g | g
    · rw [cmpB_lt g]; simp [g]
    · subst g; rw [cmpB_cons]; simp [UInt8.lt_iff_toNat_lt]
    · rw [cmpB_gt g]
      have n1 : ¬ x < y := by simp only [UInt8.lt_iff_toNat_lt] at *; omega
      have n2 : (x == y) = false := by rw [beq_eq_false_iff_ne]; rintro rfl; simp only [UInt8.lt_iff_toNat_lt] at g; omega
      simp [n1, n2]

theorem cmpB_be : ∀ (k u v : Nat), u < 256 ^ k → v < 256 ^ k → ∀ x y, compareBytes (be k u ++ x) (be k v ++ y) = if u < v then -1 else if v < u then 1 else compareBytes x y
  | 0, u, v, hu, hv, x, y => by
    have e1 : u = 0 := by simpa using hu
    have e2 : v = 0 := by simpa using hv
    subst e1; subst e2; simp [be]
  | k + 1, u, v, hu, hv, x, y => by
    have hp : 0 < 256 ^ k := Nat.pow_pos (by omega)
    have hd1 : u / 256 ^ k < 256 := by rw [Nat.div_lt_iff_lt_mul hp]; rw [Nat.pow_succ] at hu; omega
    have hd2 : v / 256 ^ k < 256 := by rw [Nat.div_lt_iff_lt_mul hp]; rw [Nat.pow_succ] at hv; omega
    have e1 : (UInt8.ofNat (u / 256 ^ k)).toNat = u / 256 ^ k := by simp; omega
    have e2 : (UInt8.ofNat (v / 256 ^ k)).toNat = v / 256 ^ k := by simp; omega
    have m1 := Nat.mod_lt u hp
    have m2 := Nat.mod_lt v hp
    have d1 := Nat.div_add_mod u (256 ^ k)
    have d2 := Nat.div_add_mod v (256 ^ k)
    simp only [be, List.cons_append]
    rcases Nat.lt_trichotomy (u / 256 ^ k) (v / 256 ^ k) with h | h | h
    · rw [cmpB_lt (UInt8.lt_iff_toNat_lt.2 (by rw [e1, e2]; exact h))]
      have : 256 ^ k * (u / 256 ^ k + 1) ≤ 256 ^ k * (v / 256 ^ k) := Nat.mul_le_mul_left _ h
      rw [Nat.mul_add] at this
      rw [if_pos (by omega)]
    · rw [h, cmpB_cons, cmpB_be k _ _ m1 m2]
      rw [h] at d1
      have i1 : (u % 256 ^ k < v % 256 ^ k) ↔ u < v := by omega
      have i2 : (v % 256 ^ k < u % 256 ^ k) ↔ v < u := by omega
      simp only [i1, i2]
    · rw [cmpB_gt (UInt8.lt_iff_toNat_lt.2 (by rw [e1, e2]; exact h))]
      have : 256 ^ k * (v / 256 ^ k + 1) ≤ 256 ^ k * (u / 256 ^ k) := Nat.mul_le_mul_left _ h
      rw [Nat.mul_add] at this
      rw [if_neg (by omega), if_pos (by omega)]

theorem cmpB_esc : ∀ (s t x y : List UInt8), compareBytes (esc s ++ 0 :: 1 :: x) (esc t ++ 0 :: 1 :: y) = if compareBytes s t ≠ 0 then compareBytes s t else compareBytes x y
  | [], [], x, y => by simp [esc, cmpB_cons, compareBytes]
  | [], b :: t, x, y => by
    have e : compareBytes ([] : List UInt8) (b :: t) = -1 := rfl
    rw [e]
    by_cases hb : b = 0
    · subst hb
      simp only [esc, ↓reduceIte, List.nil_append, List.cons_append, cmpB_cons]
      rw [cmpB_lt (by decide)]; rfl
    · simp only [esc, if_neg hb, List.nil_append, List.cons_append]
      rw [cmpB_lt ((u8_cases b).resolve_left hb)]; rfl
  | a :: s, [], x, y => by
    have e : compareBytes (a :: s) ([] : List UInt8) = 1 := rfl
    rw [e]
    by_cases hb : a = 0
    · subst hb
      simp only [esc, ↓reduceIte, List.nil_append, List.cons_append, cmpB_cons]
      rw [cmpB_gt (by decide)]; rfl
    · simp only [esc, if_neg hb, List.nil_append, List.cons_append]
      rw [cmpB_gt ((u8_cases a).resolve_left hb)]; rfl
  | a :: s, b :: t, x, y => by
    rcases u8_tri a b with g | g | g
    · rw [cmpB_lt g, if_pos (by decide)]
      have hb : b ≠ 0 := by rintro rfl; simp [UInt8.lt_iff_toNat_lt] at g
      simp only [esc, if_neg hb]
      by_cases ha : a = 0
      · subst ha; simp only [↓reduceIte, List.cons_append]; exact cmpB_lt g _ _
      · simp only [if_neg ha, List.cons_append]; exact cmpB_lt g _ _
    · subst g
      have ih := cmpB_esc s t x y
      rw [cmpB_cons]
      by_cases ha : a = 0
      · subst ha; simp only [esc, ↓reduceIte, List.cons_append, cmpB_cons]; exact ih
      · simp only [esc, if_neg ha, List.cons_append, cmpB_cons]; exact ih
    · rw [cmpB_gt g, if_pos (by decide)]
      have hb : a ≠ 0 := by rintro rfl; simp [UInt8.lt_iff_toNat_lt] at g
      simp only [esc, if_neg hb]
      by_cases ha : b = 0
      · subst ha; simp only [↓reduceIte, List.cons_append]; exact cmpB_gt g _ _
      · simp only [if_neg ha, List.cons_append]; exact cmpB_gt g _ _

theorem kind_of {p : KP} (h : kindOk p = true) : p.kind = 1 ∨ p.kind = 2 := by simpa [kindOk] using h

theorem cmpB_enc {p q : KP} (hp : kindOk p = true) (hq : kindOk q = true) (np : numOk p) (nq : numOk q) (x y : List UInt8) :
    compareBytes (encP p ++ x) (encP q ++ y) = if cmpP p q ≠ 0 then cmpP p q else compareBytes x y := by
  obtain ⟨p1, p2⟩ := np
  obtain ⟨q1, q2⟩ := nq
  unfold encP bodyP cmpP
  rcases kind_of hp with h | h <;> rcases kind_of hq with g | g
  · rw [h, g]
    simp only [if_true, List.cons_append, cmpB_cons, ne_eq, not_true, if_false]
    rw [cmpB_be 8 _ _ (by unfold low; omega) (by unfold low; omega)]
    have i1 : low p.n < low q.n ↔ p.n < q.n := by unfold low; omega
    have i2 : low q.n < low p.n ↔ q.n < p.n := by unfold low; omega
    simp only [i1, i2, cmpN]
    split
    · simp
    · split <;> simp
  · rw [h, g]
    simp only [List.cons_append]
    exact cmpB_lt (by decide) _ _
  · rw [h, g]
    simp only [List.cons_append]
    exact cmpB_gt (by decide) _ _
  · rw [h, g]
    have n21 : ((2 : Int) = 1) = False := by decide
    simp only [n21, if_false, if_true, List.cons_append, cmpB_cons, ne_eq, not_true, List.append_assoc, List.nil_append]
    exact cmpB_esc _ _ _ _

theorem cmpB_encL : ∀ (l m : List KP), l.all kindOk = true → m.all kindOk = true → (∀ p ∈ l, numOk p) → (∀ p ∈ m, numOk p) → compareBytes (encL l) (encL m) = cmpL l m
  | [], [], _, _, _, _ => rfl
  | [], q :: m, _, _, _, _ => rfl
  | p :: l, [], _, _, _, _ => rfl
  | p :: l, q :: m, h1, h2, h3, h4 => by
    rw [List.all_cons, Bool.and_eq_true] at h1 h2
    simp only [encL, cmpL]
    rw [cmpB_enc h1.1 h2.1 (h3 p (by simp)) (h4 q (by simp)), cmpB_encL l m h1.2 h2.2 (fun x hx => h3 x (by simp [hx])) (fun x hx => h4 x (by simp [hx]))]

theorem cmpN_neg (a b : Int) : cmpN b a = - cmpN a b := by
  unfold cmpN; split <;> split <;> omega
theorem cmpP_neg (p q : KP) : cmpP q p = - cmpP p q := by
  unfold cmpP
  by_cases h : p.kind = q.kind
  · have : q.kind = p.kind := h.symm
    simp only [h, ne_eq, not_true, if_false]
    split
    · exact cmpN_neg _ _
    · split
      · exact cmpB_neg _ _
      · rfl
  · rw [if_pos (fun e => h e.symm), if_pos h]; exact cmpN_neg _ _
theorem cmpL_neg : ∀ l m : List KP, cmpL m l = - cmpL l m
  | [], [] => rfl
  | [], _ :: _ => rfl
  | _ :: _, [] => rfl
  | p :: l, q :: m => by
    simp only [cmpL]
    rw [cmpP_neg p q]
    by_cases h : cmpP p q = 0
    · rw [if_neg (by simp [h]), if_neg (by simp [h]), cmpL_neg l m]
    · rw [if_pos (by omega), if_pos h]
theorem cmpP_plain {p : KP} (h : kindOk p = true) : cmpP (plainP p) p = 0 := by
  unfold cmpP plainP
  rcases kind_of h with e | e
  · simp [e, cmpN]
  · simp [e, cmpB_self]
theorem cmpL_plain : ∀ l : List KP, l.all kindOk = true → cmpL (l.map plainP) l = 0
  | [], _ => rfl
  | p :: l, h => by
    rw [List.all_cons, Bool.and_eq_true] at h
    simp only [List.map_cons, cmpL, cmpP_plain h.1]
    simpa using cmpL_plain l h.2
theorem cmpP_self (p : KP) : cmpP p p = 0 := by
  unfold cmpP; simp [cmpN, cmpB_self]
theorem cmpL_self : ∀ l : List KP, cmpL l l = 0
  | [] => rfl
  | p :: l => by simp only [cmpL, cmpP_self]; simpa using cmpL_self l

theorem cmpB_range : ∀ a b : List UInt8, compareBytes a b = -1 ∨ compareBytes a b = 0 ∨ compareBytes a b = 1
  | [], [] => by simp [compareBytes]
  | [], _ :: _ => by simp [compareBytes]
  | _ :: _, [] => by simp [compareBytes]
  | x :: a, y :: b => by
    rcases u8_tri x y with g | g | g
    · rw [cmpB_lt g]; simp
    · subst g; rw [cmpB_cons]; exact cmpB_range a b
    · rw [cmpB_gt g]; simp

/-- bytes between a front and the front with 255 behind it begin with the front -/
theorem between1 : ∀ (a k : List UInt8), compareBytes k a ≠ -1 → compareBytes k (a ++ [255]) = -1 → ∃ r, k = a ++ r
  | [], k, _, _ => ⟨k, rfl⟩
  | x :: a, [], h, _ => absurd rfl h
  | x :: a, y :: k, h, g => by
    rcases u8_tri y x with e | e | e
    · rw [cmpB_lt e] at h; exact absurd rfl h
    · subst e
      rw [List.cons_append, cmpB_cons] at g
      rw [cmpB_cons] at h
      obtain ⟨r, hr⟩ := between1 a k h g
      exact ⟨r, by rw [hr]; rfl⟩
    · rw [List.cons_append, cmpB_gt e] at g; simp at g
theorem between2 : ∀ (a r : List UInt8), (∀ b t, r = b :: t → b = 1 ∨ b = 2) → compareBytes (a ++ r) a ≠ -1 ∧ compareBytes (a ++ r) (a ++ [255]) = -1
  | [], [], _ => ⟨by simp [compareBytes], rfl⟩
  | [], x :: r, hr => by
    refine ⟨by simp [compareBytes], cmpB_lt ?_ _ _⟩
    rcases hr x r rfl with rfl | rfl <;> decide
  | x :: a, r, hr => by
    simp only [List.cons_append, cmpB_cons]
    exact between2 a r hr

theorem front_of : ∀ (l m : List KP) (r : List UInt8), l.all kindOk = true → m.all kindOk = true → (∀ p ∈ l, numOk p) → (∀ p ∈ m, numOk p) → encL m = encL l ++ r → l.length ≤ m.length ∧ cmpL (m.take l.length) l = 0
  | [], m, r, _, _, _, _, _ => ⟨by simp, by simp [cmpL]⟩
  | p :: l, [], r, _, _, _, _, h => by simp [encL, encP] at h
  | p :: l, q :: m, r, h1, h2, h3, h4, h => by
    rw [List.all_cons, Bool.and_eq_true] at h1 h2
    simp only [encL, List.append_assoc] at h
    have e := cmpB_enc h2.1 h1.1 (h4 q (by simp)) (h3 p (by simp)) (encL m) (encL l ++ r)
    rw [h, cmpB_self] at e
    have e1 : cmpP q p = 0 := by
      by_cases hh : cmpP q p = 0
      · exact hh
      · rw [if_pos hh] at e; exact e.symm
    rw [if_neg (by simp [e1])] at e
    obtain ⟨g1, g2⟩ := front_of l m r h1.2 h2.2 (fun x hx => h3 x (by simp [hx])) (fun x hx => h4 x (by simp [hx])) (cmpB_eq e.symm)
    refine ⟨by simpa using g1, ?_⟩
    simp only [List.length_cons, List.take_succ_cons, cmpL, e1]
    simpa using g2

theorem encL_head {l : List KP} {b : UInt8} {r : List UInt8} (h : encL l = b :: r) : b = 1 ∨ b = 2 := by
  cases l with
  | nil => simp [encL] at h
  | cons p l =>
    simp only [encL, encP, List.cons_append, List.cons.injEq] at h
    rw [← h.1]
    split <;> simp
end Go.Proofs.YtipcdbdlopmdoaaDoor
