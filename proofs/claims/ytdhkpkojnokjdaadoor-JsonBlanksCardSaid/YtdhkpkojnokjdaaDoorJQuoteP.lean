/-
  A quoted text read back: the text where it is UTF-8, else a fault.
-/
import Derived.Test.YtdhkpkojnokjdaaDoorJEx
import Derived.Lib.ValidLaws
namespace Go.Proofs.YtdhkpkojnokjdaaDoor
open Go.RowKit Go.Maps Go.WideMaps Go.Shelf
set_option linter.unusedVariables false
set_option linter.unusedSimpArgs false

theorem decL_L {l : List UInt8} (h : l ≠ []) : decL l = Lib.decodeL l := by
  unfold decL Lib.decodeGo Lib.decodeL
  rw [if_neg]
  rw [← data_len]
  show ¬ l.length = 0
  exact fun e => h (List.length_eq_zero_iff.1 e)

/-- the decoder looks no farther than bytes that go on -/
theorem decodeN_same {n n' b0 b1 b1' b2 b2' b3 b3' : Nat} (h1 : (1 < n ∧ b1 / 64 = 2) ↔ (1 < n' ∧ b1' / 64 = 2)) (g1 : (1 < n ∧ b1 / 64 = 2) → b1 = b1')
    (h2 : (1 < n ∧ b1 / 64 = 2) → ((2 < n ∧ b2 / 64 = 2) ↔ (2 < n' ∧ b2' / 64 = 2))) (g2 : (1 < n ∧ b1 / 64 = 2) → (2 < n ∧ b2 / 64 = 2) → b2 = b2')
    (h3 : (1 < n ∧ b1 / 64 = 2) → (2 < n ∧ b2 / 64 = 2) → ((3 < n ∧ b3 / 64 = 2) ↔ (3 < n' ∧ b3' / 64 = 2))) (g3 : (1 < n ∧ b1 / 64 = 2) → (2 < n ∧ b2 / 64 = 2) → (3 < n ∧ b3 / 64 = 2) → b3 = b3') :
    Lib.decodeN n b0 b1 b2 b3 = Lib.decodeN n' b0 b1' b2' b3' := by
  unfold Lib.decodeN
  by_cases c1 : 1 < n ∧ b1 / 64 = 2
  · have c1' := h1.1 c1
    have e1 := g1 c1
    by_cases c2 : 2 < n ∧ b2 / 64 = 2
    · have c2' := (h2 c1).1 c2
      have e2 := g2 c1 c2
      by_cases c3 : 3 < n ∧ b3 / 64 = 2
      · have c3' := (h3 c1 c2).1 c3
        have e3 := g3 c1 c2 c3
        subst e1 e2 e3
        simp only [eq_true c1, eq_true c1', eq_true c2, eq_true c2', eq_true c3, eq_true c3']
      · have c3' : ¬ (3 < n' ∧ b3' / 64 = 2) := fun h => c3 ((h3 c1 c2).2 h)
        subst e1 e2
        simp only [eq_true c1, eq_true c1', eq_true c2, eq_true c2', eq_false c3, eq_false c3', and_false, if_false]
    · have c2' : ¬ (2 < n' ∧ b2' / 64 = 2) := fun h => c2 ((h2 c1).2 h)
      subst e1
      simp only [eq_true c1, eq_true c1', eq_false c2, eq_false c2', and_false, false_and, if_false]
  · have c1' : ¬ (1 < n' ∧ b1' / 64 = 2) := fun h => c1 (h1.2 h)
    simp only [eq_false c1, eq_false c1', and_false, false_and, if_false]

/-- what stands at a place of the text and of the quoted text: the same where it goes on -/
theorem quo_head (r : List UInt8) : (r = [] ∧ ∃ t, quoL r ++ [34] = 34 :: t) ∨ (∃ d r', r = d :: r' ∧ 128 ≤ d.toNat ∧ quoL r ++ [34] = d :: (quoL r' ++ [34])) ∨ (∃ d r' x t, r = d :: r' ∧ d.toNat < 128 ∧ x.toNat < 128 ∧ quoL r ++ [34] = x :: t) := by
  cases r with
  | nil => exact Or.inl ⟨rfl, [], rfl⟩
  | cons d r' =>
    by_cases hd : 128 ≤ d.toNat
    · refine Or.inr (Or.inl ⟨d, r', rfl, hd, ?_⟩)
      have : quoB d = [d] := by unfold quoB; rw [if_neg (by omega), if_neg (by omega)]
      simp [quoL, this]
    · refine Or.inr (Or.inr ?_)
      unfold quoL
      rw [List.flatMap_cons]
      unfold quoB
      split
      · exact ⟨d, r', 92, _, rfl, by omega, by decide, rfl⟩
      · split
        · exact ⟨d, r', 92, _, rfl, by omega, by decide, rfl⟩
        · exact ⟨d, r', d, _, rfl, by omega, by omega, rfl⟩

theorem getD1 (x y : UInt8) (t : List UInt8) (k : Nat) : (x :: t).getD (k + 1) y = t.getD k y := by simp [List.getD]
theorem getD0 (x y : UInt8) (t : List UInt8) : (x :: t).getD 0 y = x := by simp [List.getD]
theorem getDn (y : UInt8) (k : Nat) : ([] : List UInt8).getD k y = y := by simp [List.getD]

theorem decode_quo (c : UInt8) (r : List UInt8) : Lib.decodeL (c :: (quoL r ++ [34])) = Lib.decodeL (c :: r) := by
  rw [Lib.decodeL_N, Lib.decodeL_N]
  simp only [getD0, getD1, List.length_cons]
  symm
  rcases quo_head r with ⟨rfl, t, e⟩ | ⟨d, r1, rfl, hd, e⟩ | ⟨d, r1, x, t, rfl, hd, hx, e⟩
  · rw [e]
    simp only [getD0, getD1, getDn, List.length_cons, List.length_nil]
    refine decodeN_same ⟨fun h => by omega, fun h => ?_⟩ (fun h => by omega) (fun h => by omega) (fun h => by omega) (fun h => by omega) (fun h => by omega)
    have : (34 : UInt8).toNat = 34 := rfl
    omega
  · rw [e]
    simp only [getD0, getD1, List.length_cons]
    rcases quo_head r1 with ⟨rfl, t, e⟩ | ⟨d2, r2, rfl, hd2, e⟩ | ⟨d2, r2, x, t, rfl, hd2, hx, e⟩
    · rw [e]
      simp only [getD0, getD1, getDn, List.length_cons, List.length_nil]
      have : (34 : UInt8).toNat = 34 := rfl
      refine decodeN_same ⟨fun h => ⟨by omega, h.2⟩, fun h => ⟨by omega, h.2⟩⟩ (fun _ => rfl) (fun _ => ⟨fun h => by omega, fun h => by omega⟩) (fun _ h => by omega) (fun _ h => by omega) (fun _ h => by omega)
    · rw [e]
      simp only [getD0, getD1, List.length_cons]
      rcases quo_head r2 with ⟨rfl, t, e⟩ | ⟨d3, r3, rfl, hd3, e⟩ | ⟨d3, r3, x, t, rfl, hd3, hx, e⟩
      · rw [e]
        simp only [getD0, getD1, getDn, List.length_cons, List.length_nil]
        have : (34 : UInt8).toNat = 34 := rfl
        exact decodeN_same ⟨fun h => ⟨by omega, h.2⟩, fun h => ⟨by omega, h.2⟩⟩ (fun _ => rfl) (fun _ => ⟨fun h => ⟨by omega, h.2⟩, fun h => ⟨by omega, h.2⟩⟩) (fun _ _ => rfl) (fun _ _ => ⟨fun h => by omega, fun h => by omega⟩) (fun _ _ h => by omega)
      · rw [e]
        simp only [getD0, getD1, List.length_cons]
        exact decodeN_same ⟨fun h => ⟨by omega, h.2⟩, fun h => ⟨by omega, h.2⟩⟩ (fun _ => rfl) (fun _ => ⟨fun h => ⟨by omega, h.2⟩, fun h => ⟨by omega, h.2⟩⟩) (fun _ _ => rfl) (fun _ _ => ⟨fun h => ⟨by omega, h.2⟩, fun h => ⟨by omega, h.2⟩⟩) (fun _ _ _ => rfl)
      · rw [e]
        simp only [getD0, getD1, List.length_cons]
        exact decodeN_same ⟨fun h => ⟨by omega, h.2⟩, fun h => ⟨by omega, h.2⟩⟩ (fun _ => rfl) (fun _ => ⟨fun h => ⟨by omega, h.2⟩, fun h => ⟨by omega, h.2⟩⟩) (fun _ _ => rfl) (fun _ _ => ⟨fun h => by omega, fun h => by omega⟩) (fun _ _ h => by omega)
    · rw [e]
      simp only [getD0, getD1, List.length_cons]
      exact decodeN_same ⟨fun h => ⟨by omega, h.2⟩, fun h => ⟨by omega, h.2⟩⟩ (fun _ => rfl) (fun _ => ⟨fun h => by omega, fun h => by omega⟩) (fun _ h => by omega) (fun _ h => by omega) (fun _ h => by omega)
  · rw [e]
    simp only [getD0, getD1, List.length_cons]
    exact decodeN_same ⟨fun h => by omega, fun h => by omega⟩ (fun h => by omega) (fun h => by omega) (fun h => by omega) (fun h => by omega) (fun h => by omega)

/-- a rune's further bytes go on -/
theorem decodeN_wide {n b0 b1 b2 b3 : Nat} (h : 128 ≤ b0) : (Lib.decodeN n b0 b1 b2 b3 = (65533, 1)) ∨ ((Lib.decodeN n b0 b1 b2 b3).2 = 2 ∧ 1 < n ∧ b1 / 64 = 2) ∨ ((Lib.decodeN n b0 b1 b2 b3).2 = 3 ∧ (1 < n ∧ b1 / 64 = 2) ∧ (2 < n ∧ b2 / 64 = 2)) ∨ ((Lib.decodeN n b0 b1 b2 b3).2 = 4 ∧ (1 < n ∧ b1 / 64 = 2) ∧ (2 < n ∧ b2 / 64 = 2) ∧ (3 < n ∧ b3 / 64 = 2)) := by
  unfold Lib.decodeN
  rw [if_neg (by omega)]
  split
  · rename_i k
    split
    · exact Or.inr (Or.inl ⟨rfl, k.2⟩)
    · exact Or.inl rfl
  · split
    · rename_i k
      split
      · exact Or.inr (Or.inr (Or.inl ⟨rfl, k.2⟩))
      · exact Or.inl rfl
    · split
      · rename_i k
        split
        · exact Or.inr (Or.inr (Or.inr ⟨rfl, k.2⟩))
        · exact Or.inl rfl
      · exact Or.inl rfl

theorem quoL_high : ∀ {l : List UInt8} (k : Nat), (∀ x ∈ l.take k, 128 ≤ x.toNat) → quoL l = l.take k ++ quoL (l.drop k)
  | l, 0, _ => by simp
  | [], k + 1, _ => by simp [quoL]
  | c :: l, k + 1, h => by
    have hc := h c (by simp)
    have e : quoB c = [c] := by unfold quoB; rw [if_neg (by omega), if_neg (by omega)]
    have ih := quoL_high (l := l) k (fun x hx => h x (by simp [hx]))
    rw [List.take_succ_cons, List.drop_succ_cons, List.cons_append, ← ih]
    unfold quoL
    rw [List.flatMap_cons, e]
    rfl

theorem wide_high {c : UInt8} {r : List UInt8} (hc : 128 ≤ c.toNat) (hb : ¬ ((Lib.decodeL (c :: r)).1 = 65533 ∧ (Lib.decodeL (c :: r)).2 = 1)) : (∀ x ∈ (c :: r).take (Lib.decodeL (c :: r)).2, 128 ≤ x.toNat) ∧ (Lib.decodeL (c :: r)).2 ≤ (c :: r).length ∧ 1 ≤ (Lib.decodeL (c :: r)).2 := by
  refine ⟨?_, Lib.decodeL_le _ (by simp), Lib.decodeL_width _⟩
  rw [Lib.decodeL_N] at hb ⊢
  simp only [getD0, getD1, List.length_cons] at hb ⊢
  rcases decodeN_wide (n := r.length + 1) (b1 := (r.getD 0 0).toNat) (b2 := (r.getD 1 0).toNat) (b3 := (r.getD 2 0).toNat) hc with h | ⟨h, h1, h2⟩ | ⟨h, ⟨h1, h2⟩, h3, h4⟩ | ⟨h, ⟨h1, h2⟩, ⟨h3, h4⟩, h5, h6⟩
  · rw [h] at hb; exact absurd ⟨rfl, rfl⟩ hb
  · rw [h]
    match r, h1, h2 with
    | d :: r, _, h2 =>
      rw [getD0] at h2
      intro x hx
      simp at hx
      rcases hx with rfl | rfl <;> omega
  · rw [h]
    match r, h3, h2, h4 with
    | [d], h3, _, _ => simp at h3
    | d :: d2 :: r, _, h2, h4 =>
      rw [getD0] at h2
      rw [getD1, getD0] at h4
      intro x hx
      simp at hx
      rcases hx with rfl | rfl | rfl <;> omega
  · rw [h]
    match r, h5, h2, h4, h6 with
    | [d], h5, _, _, _ => simp at h5
    | [d, d2], h5, _, _, _ => simp at h5
    | d :: d2 :: d3 :: r, _, h2, h4, h6 =>
      rw [getD0] at h2
      rw [getD1, getD0] at h4
      rw [getD1, getD1, getD0] at h6
      intro x hx
      simp at hx
      rcases hx with rfl | rfl | rfl | rfl <;> omega

theorem hexV_C {n : Nat} (h : n < 16) : hexV (hexC n).toNat = some n := by
  have : n = 0 ∨ n = 1 ∨ n = 2 ∨ n = 3 ∨ n = 4 ∨ n = 5 ∨ n = 6 ∨ n = 7 ∨ n = 8 ∨ n = 9 ∨ n = 10 ∨ n = 11 ∨ n = 12 ∨ n = 13 ∨ n = 14 ∨ n = 15 := by omega
  rcases this with rfl | rfl | rfl | rfl | rfl | rfl | rfl | rfl | rfl | rfl | rfl | rfl | rfl | rfl | rfl | rfl <;> rfl

theorem byte_behind {A R : List UInt8} {p j : Nat} (hp : p = A.length) {c : UInt8} (h : R[j]? = some c) : byteE (A ++ R) (p + j) = .ok c.toNat (p + j) := by
  unfold byteE
  rw [hp, List.getElem?_append_right (by omega), Nat.add_sub_cancel_left, h]

/-- a quoted text's rest is read -/
theorem read_quoted : ∀ (m : Nat) (s A acc : List UInt8) (n : Nat), s.length ≤ m → s.length < n →
    (Lib.validD s = true → qE (A ++ (quoL s ++ [34])) n A.length acc = .ok (acc ++ s) (A ++ (quoL s ++ [34])).length) ∧
    (Lib.validD s = false → ∃ a, qE (A ++ (quoL s ++ [34])) n A.length acc = .bad a 11)
  | m, s, A, acc, 0, _, hn => absurd hn (Nat.not_lt_zero _)
  | m, [], A, acc, n + 1, _, _ => by
    refine ⟨fun _ => ?_, fun h => absurd h (by rw [Lib.validD_nil]; simp)⟩
    unfold qE
    have hb := byte_behind (A := A) (R := quoL [] ++ [34]) (p := A.length) (j := 0) rfl (c := 34) rfl
    rw [Nat.add_zero] at hb
    rw [hb]
    simp [Rs.bind, quoL]
  | 0, c :: r, A, acc, n + 1, hm, _ => by simp at hm
  | m + 1, c :: r, A, acc, n + 1, hm, hn => by
    simp only [List.length_cons] at hm hn
    by_cases hc : c.toNat < 128
    · rw [Lib.validD_cons c r hc]
      -- what the byte is quoted as is read as the byte
      suffices hs : qE (A ++ (quoL (c :: r) ++ [34])) (n + 1) A.length acc = qE ((A ++ quoB c) ++ (quoL r ++ [34])) n (A ++ quoB c).length (acc ++ [c]) by
        have ih := read_quoted m r (A ++ quoB c) (acc ++ [c]) n (by omega) (by omega)
        have e1 : (A ++ (quoL (c :: r) ++ [34])) = (A ++ quoB c) ++ (quoL r ++ [34]) := by simp [quoL]
        rw [hs]
        refine ⟨fun h => ?_, fun h => ih.2 h⟩
        rw [ih.1 h, e1]
        simp
      have e1 : (A ++ (quoL (c :: r) ++ [34])) = (A ++ quoB c) ++ (quoL r ++ [34]) := by simp [quoL]
      have e2 : (A ++ (quoL (c :: r) ++ [34])) = A ++ (quoB c ++ (quoL r ++ [34])) := by simp [quoL]
      conv => lhs; unfold qE
      by_cases h1 : c.toNat = 34 ∨ c.toNat = 92
      · have eq : quoB c = [92, c] := by unfold quoB; rw [if_pos h1]
        have b0 := byte_behind (A := A) (R := quoB c ++ (quoL r ++ [34])) (p := A.length) (j := 0) rfl (c := 92) (by rw [eq]; rfl)
        have b1 := byte_behind (A := A) (R := quoB c ++ (quoL r ++ [34])) (p := A.length) (j := 1) rfl (c := c) (by rw [eq]; rfl)
        rw [Nat.add_zero] at b0
        rw [e2, b0]
        have hesc : escE (A ++ (quoB c ++ (quoL r ++ [34]))) A.length = .ok [c] (A.length + 2) := by
          unfold escE
          rw [b1]
          simp only [Rs.bind]
          unfold escOf
          have hv : escV c.toNat = some c := by
            unfold escV
            rcases h1 with h1 | h1
            · rw [if_pos h1]; congr 1; exact (UInt8.toNat_inj.1 h1).symm
            · rw [if_neg (by omega), if_pos h1]; congr 1; exact (UInt8.toNat_inj.1 h1).symm
          rw [hv]
        simp only [Rs.bind]
        rw [if_neg (by decide), if_pos (by decide), hesc]
        simp only
        rw [← e2, e1]
        congr 1
        rw [List.length_append, eq]; rfl
      · by_cases h2 : c.toNat < 32 ∨ c.toNat = 127
        · have eq : quoB c = [92, 117, 48, 48, hexC (c.toNat / 16), hexC (c.toNat % 16)] := by unfold quoB; rw [if_neg h1, if_pos h2]
          have bj := fun (j : Nat) (x : UInt8) (h : (quoB c ++ (quoL r ++ [34]))[j]? = some x) => byte_behind (A := A) (p := A.length) rfl h
          have b0 := bj 0 92 (by rw [eq]; rfl)
          have b1 := bj 1 117 (by rw [eq]; rfl)
          have b2 := bj 2 48 (by rw [eq]; rfl)
          have b3 := bj 3 48 (by rw [eq]; rfl)
          have b4 := bj 4 (hexC (c.toNat / 16)) (by rw [eq]; rfl)
          have b5 := bj 5 (hexC (c.toNat % 16)) (by rw [eq]; rfl)
          rw [Nat.add_zero] at b0
          rw [e2, b0]
          have hu : unitE (A ++ (quoB c ++ (quoL r ++ [34]))) A.length 4 (A.length + 2) 0 = .ok c.toNat (A.length + 6) := by
            unfold unitE
            rw [b2]
            simp only [Rs.bind]
            rw [show hexV (48 : UInt8).toNat = some 0 from rfl]
            simp only
            unfold unitE
            rw [show A.length + 2 + 1 = A.length + 3 by omega, b3]
            simp only [Rs.bind]
            rw [show hexV (48 : UInt8).toNat = some 0 from rfl]
            simp only
            unfold unitE
            rw [show A.length + 3 + 1 = A.length + 4 by omega, b4]
            simp only [Rs.bind]
            rw [hexV_C (by omega)]
            simp only
            unfold unitE
            rw [show A.length + 4 + 1 = A.length + 5 by omega, b5]
            simp only [Rs.bind]
            rw [hexV_C (by omega)]
            simp only
            unfold unitE
            congr 1
            omega
          have hcp : cpE (A ++ (quoB c ++ (quoL r ++ [34]))) A.length (A.length + 2) = .ok c.toNat (A.length + 6) := by
            unfold cpE
            rw [hu]
            simp only [Rs.bind]
            rw [if_pos (by omega)]
          have hesc : escE (A ++ (quoB c ++ (quoL r ++ [34]))) A.length = .ok [c] (A.length + 6) := by
            unfold escE
            rw [b1]
            simp only [Rs.bind]
            unfold escOf
            rw [show escV (117 : UInt8).toNat = none from rfl]
            simp only
            rw [if_pos (by decide), hcp]
            simp only [Rs.bind]
            congr 1
            unfold Lib.encodeRune
            rw [Lib.encodeRuneZ_one (by omega) (by omega)]
            simp
          simp only [Rs.bind]
          rw [if_neg (by decide), if_pos (by decide), hesc]
          simp only
          rw [← e2, e1]
          congr 1
          rw [List.length_append, eq]; rfl
        · have eq : quoB c = [c] := by unfold quoB; rw [if_neg h1, if_neg h2]
          have b0 := byte_behind (A := A) (R := quoB c ++ (quoL r ++ [34])) (p := A.length) (j := 0) rfl (c := c) (by rw [eq]; rfl)
          rw [Nat.add_zero] at b0
          rw [e2, b0]
          have hch : charE (A ++ (quoB c ++ (quoL r ++ [34]))) A.length = .ok [c] (A.length + 1) := by
            have hd : decL (c :: (quoL r ++ [34])) = (c.toNat, 1) := by rw [decL_L (by simp), Lib.decodeL_ascii c _ hc]
            unfold charE
            rw [List.drop_left, eq, show [c] ++ (quoL r ++ [34]) = c :: (quoL r ++ [34]) from rfl, hd, if_neg (by simp only; omega)]
            rfl
          simp only [Rs.bind]
          rw [if_neg (by omega), if_neg (by omega), if_neg (by omega), hch]
          simp only
          rw [← e2, e1]
          congr 1
          rw [List.length_append, eq]; rfl
    · have hc2 : 128 ≤ c.toNat := by omega
      have eq : quoB c = [c] := by unfold quoB; rw [if_neg (by omega), if_neg (by omega)]
      have eL : quoL (c :: r) ++ [34] = c :: (quoL r ++ [34]) := by simp [quoL, eq]
      have b0 := byte_behind (A := A) (R := quoL (c :: r) ++ [34]) (p := A.length) (j := 0) rfl (c := c) (by rw [eL]; rfl)
      rw [Nat.add_zero] at b0
      have hch : charE (A ++ (quoL (c :: r) ++ [34])) A.length = (if (Lib.decodeL (c :: r)).1 = 65533 ∧ (Lib.decodeL (c :: r)).2 = 1 then .bad A.length 11 else .ok ((c :: (quoL r ++ [34])).take (Lib.decodeL (c :: r)).2) (A.length + (Lib.decodeL (c :: r)).2)) := by
        unfold charE
        rw [List.drop_left, eL, decL_L (by simp), decode_quo]
      have hq : qE (A ++ (quoL (c :: r) ++ [34])) (n + 1) A.length acc = (charE (A ++ (quoL (c :: r) ++ [34])) A.length).bind fun y q => qE (A ++ (quoL (c :: r) ++ [34])) n q (acc ++ y) := by
        conv => lhs; unfold qE
        rw [b0]
        simp only [Rs.bind]
        rw [if_neg (by omega), if_neg (by omega), if_neg (by omega)]
      rw [hq, hch, Lib.validD_step (c :: r) (by simp)]
      by_cases hb : (Lib.decodeL (c :: r)).1 = 65533 ∧ (Lib.decodeL (c :: r)).2 = 1
      · rw [if_pos hb, if_pos hb]
        exact ⟨fun h => absurd h (by simp), fun _ => ⟨_, rfl⟩⟩
      · rw [if_neg hb, if_neg hb]
        obtain ⟨w1, w2, w3⟩ := wide_high hc2 hb
        obtain ⟨k, hk⟩ : ∃ k, k = (Lib.decodeL (c :: r)).2 := ⟨_, rfl⟩
        rw [← hk] at w1 w2 w3 ⊢
        have hqk := quoL_high k w1
        have e3 : c :: (quoL r ++ [34]) = (c :: r).take k ++ (quoL ((c :: r).drop k) ++ [34]) := by rw [← eL, hqk]; simp
        have htk : ((c :: r).take k).length = k := by rw [List.length_take]; omega
        have e4 : (c :: (quoL r ++ [34])).take k = (c :: r).take k := by rw [e3, List.take_left' htk]
        have e5 : A ++ (quoL (c :: r) ++ [34]) = (A ++ (c :: r).take k) ++ (quoL ((c :: r).drop k) ++ [34]) := by rw [eL, e3]; simp
        have e6 : A.length + k = (A ++ (c :: r).take k).length := by rw [List.length_append, htk]
        simp only [Rs.bind]
        rw [e4, e5, e6]
        have ih := read_quoted m ((c :: r).drop k) (A ++ (c :: r).take k) (acc ++ (c :: r).take k) n (by rw [List.length_drop, List.length_cons]; omega) (by rw [List.length_drop, List.length_cons]; omega)
        refine ⟨fun h => ?_, fun h => ih.2 h⟩
        rw [ih.1 h, List.append_assoc, List.take_append_drop]

theorem quoL_ge (s : List UInt8) : s.length ≤ (quoL s).length := by
  induction s with
  | nil => simp [quoL]
  | cons c s ih =>
    have h1 : 1 ≤ (quoB c).length := by unfold quoB; split; (· simp); (split <;> simp)
    have : quoL (c :: s) = quoB c ++ quoL s := by simp [quoL]
    rw [this, List.length_append, List.length_cons]; omega

/-- a quoted text is read back -/
theorem parse_quoted (s : List UInt8) : (Lib.validD s = true → ∃ q, parseE (quoteB s) = .ok (.str s) q) ∧ (Lib.validD s = false → ∃ a, parseE (quoteB s) = .bad a 11) := by
  have h := read_quoted s.length s [34] [] ((quoteB s).length + 1) (Nat.le_refl _) (by have := quoL_ge s; unfold quoteB; rw [List.length_cons, List.length_append]; simp; omega)
  have e : ([34] : List UInt8) ++ (quoL s ++ [34]) = quoteB s := rfl
  rw [e] at h
  have h0 : (quoteB s)[0]? = some 34 := rfl
  have hlt : 0 < (quoteB s).length := by unfold quoteB; simp
  have hsk : skipE blankL (quoteB s) 0 = 0 := skipE_stop hlt (by show blankL.contains (34 : UInt8) = false; decide)
  have hk : kindE (quoteB s) 0 = .ok 4 0 := by
    unfold kindE
    rw [hsk]
    have hb : byteE (quoteB s) 0 = .ok 34 0 := rfl
    rw [hb]; rfl
  have hlim : limE (quoteB s) 0 4 0 0 = .ok () 0 := by unfold limE; simp
  have hv : valueE (quoteB s) (2 * (quoteB s).length + 10) 0 0 0 = (quotedE (quoteB s) 0).bind fun t r => .ok (.str t) r := by
    rw [show 2 * (quoteB s).length + 10 = 2 * (quoteB s).length + 9 + 1 by omega]
    unfold valueE
    rw [hk]
    simp only [Rs.bind]
    rw [hlim]
    simp only
    rw [if_neg (by omega), if_neg (by omega), if_neg (by omega), if_neg (by omega), if_pos trivial]
  have hq : quotedE (quoteB s) 0 = qE (quoteB s) ((quoteB s).length + 1) 1 [] := rfl
  refine ⟨fun hvd => ⟨(quoteB s).length, ?_⟩, fun hvd => ?_⟩
  · have h1 := h.1 hvd
    unfold parseE
    rw [hv, hq]
    rw [show ([34] : List UInt8).length = 1 from rfl] at h1
    rw [h1]
    simp only [Rs.bind, List.nil_append]
    rw [skipE_end (Nat.le_refl _), if_neg (Nat.lt_irrefl _)]
  · obtain ⟨a, h1⟩ := h.2 hvd
    refine ⟨a, ?_⟩
    unfold parseE
    rw [hv, hq]
    rw [show ([34] : List UInt8).length = 1 from rfl] at h1
    rw [h1]
    rfl
end Go.Proofs.YtdhkpkojnokjdaaDoor
