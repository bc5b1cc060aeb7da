/-
  Texts at the limits, read: a number and blanks; brackets within brackets; many elements. Parse of what is too long.
-/
import Derived.Test.YtfcplpejifmohaaDoorJEx
namespace Go.Proofs.YtfcplpejifmohaaDoor
open Go.RowKit Go.Maps Go.WideMaps Go.Shelf
set_option linter.unusedVariables false
set_option linter.unusedSimpArgs false

/-- was it read? -/
def okB {α : Type} : Rs α → Bool
  | .ok _ _ => true
  | .bad _ _ => false
theorem okB_is {α : Type} {r : Rs α} (h : okB r = true) : ∃ x q, r = .ok x q := by
  cases r with
  | ok x q => exact ⟨x, q, rfl⟩
  | bad a b => cases h
/-- which fault -/
def badB {α : Type} : Rs α → Nat × Nat
  | .ok _ _ => (0, 0)
  | .bad a b => (a, b)
theorem badB_is {α : Type} {r : Rs α} {a b : Nat} (h : badB r = (a, b)) (hb : b ≠ 0) : r = .bad a b := by
  cases r with
  | ok x q => simp [badB] at h; exact absurd h.2.symm (by omega)
  | bad c d => simp [badB] at h; rw [h.1, h.2]

/-! ### a number, and blanks -/
/-- one digit, with no digit, mark or letter of a number behind it -/
theorem litE_one {s : List UInt8} {p : Nat} (hp : s[p]? = some 49) (h1 : hasAt digitL s (p + 1) = false) (h2 : hasAt [46] s (p + 1) = false) (h3 : hasAt [101, 69] s (p + 1) = false) : litE s p = (p + 1, true) := by
  obtain ⟨hlt, hs⟩ := List.getElem?_eq_some_iff.1 hp
  have ha : hasAt [45] s p = false := by unfold hasAt; rw [hp]; decide
  have hz : hasAt [48] s p = false := by unfold hasAt; rw [hp]; decide
  have hsk : skipE digitL s p = p + 1 := by
    rw [skipE_in hlt (by rw [hs]; decide)]
    by_cases h : p + 1 < s.length
    · refine skipE_stop h ?_
      unfold hasAt at h1
      rw [List.getElem?_eq_getElem h] at h1
      exact h1
    · exact skipE_end (by omega)
  have hi : litInt s p = p + 1 := by
    unfold litInt
    rw [hsk, if_neg (by rw [hz]; simp)]
  have h0 : (if hasAt [45] s p = true then p + 1 else p) = p := by rw [ha]; rfl
  unfold litE
  simp only
  rw [h0, hi, if_neg (by omega)]
  have hf : litFrac s (p + 1) = (p + 1, true) := by unfold litFrac; rw [if_neg (by rw [h2]; decide)]
  rw [hf, if_pos rfl]
  unfold litExp
  rw [if_neg (by rw [h3]; decide)]

/-- the value '1', where it stands -/
theorem valueE_one {s : List UInt8} {n p d i : Nat} (hp : s[p]? = some 49) (h1 : hasAt digitL s (p + 1) = false) (h2 : hasAt [46] s (p + 1) = false) (h3 : hasAt [101, 69] s (p + 1) = false) (hi : i < 1000) : valueE s (n + 1) p d i = .ok (.num [49]) (p + 1) := by
  have hl := litE_one hp h1 h2 h3
  obtain ⟨hlt, hs⟩ := List.getElem?_eq_some_iff.1 hp
  have hsk : skipE blankL s p = p := skipE_stop hlt (by rw [hs]; decide)
  have hk : kindE s p = .ok 3 p := by
    unfold kindE
    rw [hsk]
    have hb : byteE s p = .ok 49 p := by unfold byteE; rw [hp]; rfl
    rw [hb]; rfl
  have hlim : limE s p 3 d i = .ok () p := by
    have hlb : longB s p = false := by unfold longB; rw [hl]; simp
    unfold limE
    rw [hlb]
    have : decide (1000 ≤ i) = false := by simp; omega
    rw [this]; simp
  have hle : literalE s p = .ok [49] (p + 1) := by
    unfold literalE
    rw [hl, if_pos rfl, List.drop_eq_getElem_cons hlt, hs, show p + 1 - p = 1 by omega]
    rfl
  unfold valueE
  rw [hk]
  simp only [Rs.bind]
  rw [hlim]
  simp only
  rw [if_neg (by omega), if_neg (by omega), if_neg (by omega), if_pos trivial, hle]
theorem valueE_many {s : List UInt8} {n p d i : Nat} (hp : s[p]? = some 49) (h1 : hasAt digitL s (p + 1) = false) (h2 : hasAt [46] s (p + 1) = false) (h3 : hasAt [101, 69] s (p + 1) = false) (hi : 1000 ≤ i) : valueE s (n + 1) p d i = .bad p 9 := by
  have hl := litE_one hp h1 h2 h3
  obtain ⟨hlt, hs⟩ := List.getElem?_eq_some_iff.1 hp
  have hsk : skipE blankL s p = p := skipE_stop hlt (by rw [hs]; decide)
  have hk : kindE s p = .ok 3 p := by
    unfold kindE
    rw [hsk]
    have hb : byteE s p = .ok 49 p := by unfold byteE; rw [hp]; rfl
    rw [hb]; rfl
  have hlim : limE s p 3 d i = .bad p 9 := by
    have hlb : longB s p = false := by unfold longB; rw [hl]; simp
    unfold limE
    rw [hlb]
    have : decide (1000 ≤ i) = true := by simp; omega
    rw [this]; simp
  unfold valueE
  rw [hk]
  simp only [Rs.bind]
  rw [hlim]

/-- '1' and blanks -/
def longL (n : Nat) : List UInt8 := 49 :: List.replicate n 32
theorem parse_blanks (n : Nat) : ∃ x q, parseE (longL n) = .ok x q := by
  have h : ∀ b : List UInt8, b.contains 32 = false → hasAt b (longL n) (0 + 1) = false := fun b hb => by
    unfold hasAt longL
    cases n with
    | zero => rfl
    | succ n => simp only [Nat.zero_add, List.getElem?_cons_succ, List.replicate_succ, List.getElem?_cons_zero]; exact hb
  have hv := valueE_one (s := longL n) (n := 2 * (longL n).length + 9) (p := 0) (d := 0) (i := 0) rfl (h _ (by decide)) (h _ (by decide)) (h _ (by decide)) (by omega)
  have hsk : skipE blankL (longL n) 1 = (longL n).length := by
    have e : longL n = [49] ++ List.replicate n 32 := rfl
    have e2 : (List.replicate n (32 : UInt8)).takeWhile blankL.contains = List.replicate n 32 := by
      rw [List.takeWhile_replicate]; rfl
    unfold skipE
    rw [show (longL n).drop 1 = List.replicate n 32 from rfl, e2, List.length_replicate]
    unfold longL
    rw [List.length_cons, List.length_replicate]; omega
  refine ⟨.num [49], 1, ?_⟩
  unfold parseE
  rw [show 2 * (longL n).length + 10 = 2 * (longL n).length + 9 + 1 by omega, hv]
  simp only [Rs.bind]
  rw [hsk, if_neg (Nat.lt_irrefl _)]

/-! ### brackets within brackets -/
def deepL (d : Nat) : List UInt8 := List.replicate d 91 ++ List.replicate d 93
theorem deep31 : okB (parseE (deepL 31)) = true := by kernel_rfl
theorem deep32 : okB (parseE (deepL 32)) = true := by kernel_rfl
theorem deep33 : badB (parseE (deepL 33)) = (32, 20) := by kernel_rfl

/-! ### many elements -/
def moreL : Nat → List UInt8
  | 0 => []
  | k + 1 => moreL k ++ [44, 49]
theorem moreL_length : ∀ k, (moreL k).length = 2 * k
  | 0 => rfl
  | k + 1 => by rw [moreL, List.length_append, moreL_length k]; simp; omega
theorem moreL_at : ∀ (k j : Nat), j < k → (moreL k)[2 * j]? = some 44 ∧ (moreL k)[2 * j + 1]? = some 49
  | 0, j, h => absurd h (Nat.not_lt_zero _)
  | k + 1, j, h => by
    have hl := moreL_length k
    rw [moreL]
    by_cases hj : j < k
    · have := moreL_at k j hj
      rw [List.getElem?_append_left (by omega), List.getElem?_append_left (by omega)]
      exact this
    · have e : j = k := by omega
      subst e
      rw [List.getElem?_append_right (by omega), List.getElem?_append_right (by omega), hl, Nat.sub_self, show 2 * j + 1 - 2 * j = 1 by omega]
      exact ⟨rfl, rfl⟩
/-- k + 1 elements -/
def manyL (k : Nat) : List UInt8 := [91, 49] ++ moreL k ++ [93]
theorem manyL_length (k : Nat) : (manyL k).length = 2 * k + 3 := by
  unfold manyL; rw [List.length_append, List.length_append, moreL_length]; simp; omega
theorem manyL_one {k j : Nat} (h : j ≤ k) : (manyL k)[2 * j + 1]? = some 49 := by
  have hl := moreL_length k
  unfold manyL
  rw [List.append_assoc]
  cases j with
  | zero => rfl
  | succ j =>
    rw [List.getElem?_append_right (by show 2 ≤ 2 * (j + 1) + 1; omega), show 2 * (j + 1) + 1 - ([91, 49] : List UInt8).length = 2 * j + 1 by simp; omega, List.getElem?_append_left (by omega)]
    exact (moreL_at k j (by omega)).2
theorem manyL_comma {k j : Nat} (h : j < k) : (manyL k)[2 * j + 2]? = some 44 := by
  have hl := moreL_length k
  unfold manyL
  rw [List.append_assoc, List.getElem?_append_right (by simp), show 2 * j + 2 - ([91, 49] : List UInt8).length = 2 * j by simp, List.getElem?_append_left (by omega)]
  exact (moreL_at k j h).1
theorem manyL_end (k : Nat) : (manyL k)[2 * k + 2]? = some 93 := by
  have hl := moreL_length k
  unfold manyL
  rw [List.append_assoc, List.getElem?_append_right (by simp), show 2 * k + 2 - ([91, 49] : List UInt8).length = 2 * k by simp, List.getElem?_append_right (by omega), hl, Nat.sub_self]
  rfl
theorem skip_not {b s : List UInt8} {p : Nat} {c : UInt8} (h : s[p]? = some c) (hc : b.contains c = false) : skipE b s p = p := by
  obtain ⟨h1, h2⟩ := List.getElem?_eq_some_iff.1 h
  exact skipE_stop h1 (by rw [h2]; exact hc)
theorem byte_at {s : List UInt8} {p : Nat} {c : UInt8} (h : s[p]? = some c) : byteE s p = .ok c.toNat p := by unfold byteE; rw [h]
theorem manyL_next {k j : Nat} (h : j ≤ k) (b : List UInt8) (h1 : b.contains 44 = false) (h2 : b.contains 93 = false) : hasAt b (manyL k) (2 * j + 1 + 1) = false := by
  unfold hasAt
  by_cases hj : j < k
  · rw [show 2 * j + 1 + 1 = 2 * j + 2 by omega, manyL_comma hj]; exact h1
  · have e : j = k := by omega
    subst e
    rw [show 2 * j + 1 + 1 = 2 * j + 2 by omega, manyL_end]; exact h2

theorem elems_ok {k : Nat} (hk : k < 1000) : ∀ (r j n : Nat) (acc : List JV), j + r = k → acc.length = j → 2 * r + 2 ≤ n → ∃ l, elemE (manyL k) n (2 * j + 1) 1 acc = .ok l (2 * k + 3)
  | r, j, 0, acc, _, _, h => absurd h (by omega)
  | r, j, n + 1, acc, hj, ha, hn => by
    unfold elemE
    obtain ⟨m, rfl⟩ : ∃ m, n = m + 1 := ⟨n - 1, by omega⟩
    rw [valueE_one (manyL_one (by omega)) (manyL_next (by omega) _ (by decide) (by decide)) (manyL_next (by omega) _ (by decide) (by decide)) (manyL_next (by omega) _ (by decide) (by decide)) (by omega)]
    simp only [Rs.bind]
    cases r with
    | zero =>
      have e : j = k := by omega
      subst e
      have hend : endsE 93 (manyL j) (2 * j + 1 + 1) = .ok true (2 * j + 3) := by
        unfold endsE
        rw [show 2 * j + 1 + 1 = 2 * j + 2 by omega, skip_not (manyL_end j) (by decide), byte_at (manyL_end j)]
        simp [Rs.bind]
      rw [hend]
      exact ⟨_, by simp only; rw [if_pos trivial]⟩
    | succ r =>
      have hend : endsE 93 (manyL k) (2 * j + 1 + 1) = .ok false (2 * j + 2) := by
        unfold endsE
        rw [show 2 * j + 1 + 1 = 2 * j + 2 by omega, skip_not (manyL_comma (by omega)) (by decide), byte_at (manyL_comma (by omega))]
        simp [Rs.bind]
      have hmark : markE 44 (manyL k) (2 * j + 2) = .ok () (2 * j + 3) := by
        unfold markE
        rw [skip_not (manyL_comma (by omega)) (by decide), byte_at (manyL_comma (by omega))]
        simp [Rs.bind]
      rw [hend]
      simp only
      rw [if_neg (by simp), hmark]
      simp only
      exact elems_ok hk r (j + 1) (m + 1) _ (by omega) (by simp [ha]) (by omega)

theorem elems_many {k : Nat} (hk : 1000 ≤ k) : ∀ (r j n : Nat) (acc : List JV), j + r = 1000 → acc.length = j → 2 * r + 2 ≤ n → elemE (manyL k) n (2 * j + 1) 1 acc = .bad 2001 9
  | r, j, 0, acc, _, _, h => absurd h (by omega)
  | 0, j, n + 1, acc, hj, ha, hn => by
    unfold elemE
    obtain ⟨m, rfl⟩ : ∃ m, n = m + 1 := ⟨n - 1, by omega⟩
    rw [valueE_many (manyL_one (by omega)) (manyL_next (by omega) _ (by decide) (by decide)) (manyL_next (by omega) _ (by decide) (by decide)) (manyL_next (by omega) _ (by decide) (by decide)) (by omega)]
    have e : j = 1000 := by omega
    subst e
    rfl
  | r + 1, j, n + 1, acc, hj, ha, hn => by
    unfold elemE
    obtain ⟨m, rfl⟩ : ∃ m, n = m + 1 := ⟨n - 1, by omega⟩
    rw [valueE_one (manyL_one (by omega)) (manyL_next (by omega) _ (by decide) (by decide)) (manyL_next (by omega) _ (by decide) (by decide)) (manyL_next (by omega) _ (by decide) (by decide)) (by omega)]
    simp only [Rs.bind]
    have hend : endsE 93 (manyL k) (2 * j + 1 + 1) = .ok false (2 * j + 2) := by
      unfold endsE
      rw [show 2 * j + 1 + 1 = 2 * j + 2 by omega, skip_not (manyL_comma (by omega)) (by decide), byte_at (manyL_comma (by omega))]
      simp [Rs.bind]
    have hmark : markE 44 (manyL k) (2 * j + 2) = .ok () (2 * j + 3) := by
      unfold markE
      rw [skip_not (manyL_comma (by omega)) (by decide), byte_at (manyL_comma (by omega))]
      simp [Rs.bind]
    rw [hend]
    simp only
    rw [if_neg (by simp), hmark]
    simp only
    exact elems_many hk r (j + 1) (m + 1) _ (by omega) (by simp [ha]) (by omega)

theorem manyL_open {k n : Nat} : valueE (manyL k) (n + 1) 0 0 0 = (elemE (manyL k) n 1 1 []).bind fun l t => .ok (.arr l) t := by
  have h0 : (manyL k)[0]? = some 91 := rfl
  have h1 := manyL_one (k := k) (j := 0) (Nat.zero_le _)
  have hk : kindE (manyL k) 0 = .ok 5 0 := by
    unfold kindE
    rw [skip_not h0 (by decide), byte_at h0]
    rfl
  have hlim : limE (manyL k) 0 5 0 0 = .ok () 0 := by unfold limE; simp
  have hend : endsE 93 (manyL k) (0 + 1) = .ok false 1 := by
    unfold endsE
    rw [show 0 + 1 = 2 * 0 + 1 by omega, skip_not h1 (by decide), byte_at h1]
    rfl
  unfold valueE
  rw [hk]
  simp only [Rs.bind]
  rw [hlim]
  simp only
  rw [if_neg (by omega), if_neg (by omega), if_neg (by omega), if_neg (by omega), if_neg (by omega), if_pos trivial, hend]
  simp only
  rw [if_neg (by simp)]

theorem parse_many {k : Nat} (hk : k < 1000) : ∃ x q, parseE (manyL k) = .ok x q := by
  obtain ⟨l, hl⟩ := elems_ok hk k 0 (2 * (manyL k).length + 9) [] (by omega) rfl (by rw [manyL_length]; omega)
  refine ⟨.arr l, 2 * k + 3, ?_⟩
  unfold parseE
  rw [show 2 * (manyL k).length + 10 = 2 * (manyL k).length + 9 + 1 by omega, manyL_open]
  rw [show 2 * 0 + 1 = 1 from rfl] at hl
  rw [hl]
  simp only [Rs.bind]
  rw [skipE_end (by rw [manyL_length]; omega), if_neg (by rw [manyL_length]; omega)]
theorem parse_more {k : Nat} (hk : 1000 ≤ k) : parseE (manyL k) = .bad 2001 9 := by
  have hl := elems_many hk 1000 0 (2 * (manyL k).length + 9) [] (by omega) rfl (by rw [manyL_length]; omega)
  unfold parseE
  rw [show 2 * (manyL k).length + 10 = 2 * (manyL k).length + 9 + 1 by omega, manyL_open]
  rw [show 2 * 0 + 1 = 1 from rfl] at hl
  rw [hl]
  rfl

set_option maxRecDepth 100000 in
set_option maxHeartbeats 1600000 in
/-- a text that is too long -/
theorem parse_long {sp : Option Addr} {n cap : Nat} {w : World} (hn : 65536 < n) : Calls Tryd.prog 12 #[.slice sp n cap] w fun e w' => e = .returned (.tuple #[vOf 0 [] nilS nilS, .int .i64 0, .int .i64 8]) ∧ Only w w' := by
  have i1 : (65536 : Int) < (n : Int) := by omega
  go_enter_defers Tryd.func12, Tryd.ntmps12
  go_wp2_with fail
  simp [Leaves, settle, results, Tryd.results12, go_sem, bodyPostD]
  exact (((Only.refl w).alloc _).alloc _).alloc _
end Go.Proofs.YtfcplpejifmohaaDoor
