/-
  PARTS: JSpread, JSpreadV.
-/
import Derived.Test.YtdhkpkojnokjdaaDoorGRd
/-
  A text with blanks round its marks is read as the text.
-/
namespace Go.Proofs.YtdhkpkojnokjdaaDoor
open Go.RowKit Go.Shelf Sorted
set_option linter.unusedVariables false
set_option linter.unusedSimpArgs false

def markB (c : UInt8) : Bool := ([123, 125, 91, 93, 44, 58] : List UInt8).contains c
/-- blanks round each mark that stands outside of strings (the first: within one?) -/
def spr : Bool → List UInt8 → List UInt8
  | _, [] => []
  | true, [c] => [c]
  | true, c :: d :: r => if c = 92 then c :: d :: spr true r else if c = 34 then c :: spr false (d :: r) else c :: spr true (d :: r)
  | false, c :: r => if c = 34 then c :: spr true r else if markB c = true then 32 :: 9 :: c :: 10 :: 13 :: spr false r else c :: spr false r
theorem spr_nil (b : Bool) : spr b [] = [] := by cases b <;> rfl
theorem spr_esc (d : UInt8) (r : List UInt8) : spr true (92 :: d :: r) = 92 :: d :: spr true r := by rw [spr, if_pos rfl]
theorem spr_quote (r : List UInt8) : spr true (34 :: r) = 34 :: spr false r := by
  cases r with
  | nil => rfl
  | cons d r => rw [spr, if_neg (by decide), if_pos rfl]
theorem spr_in {c : UInt8} (h1 : c ≠ 92) (h2 : c ≠ 34) (r : List UInt8) : spr true (c :: r) = c :: spr true r := by
  cases r with
  | nil => rfl
  | cons d r => rw [spr, if_neg h1, if_neg h2]
theorem spr_open (r : List UInt8) : spr false (34 :: r) = 34 :: spr true r := by rw [spr, if_pos rfl]
theorem spr_mark {c : UInt8} (h : markB c = true) (r : List UInt8) : spr false (c :: r) = 32 :: 9 :: c :: 10 :: 13 :: spr false r := by
  have h1 : c ≠ 34 := by rintro rfl; revert h; decide
  rw [spr, if_neg h1, if_pos h]
theorem spr_out {c : UInt8} (h1 : c ≠ 34) (h : markB c = false) (r : List UInt8) : spr false (c :: r) = c :: spr false r := by
  rw [spr, if_neg h1, if_neg (by rw [h]; decide)]
theorem spr_len : ∀ (b : Bool) (l : List UInt8), l.length ≤ (spr b l).length ∧ (spr b l).length ≤ 5 * l.length
  | b, [] => by rw [spr_nil]; simp
  | true, [c] => by simp [spr]
  | true, c :: d :: r => by
    rw [spr]
    split
    · have := spr_len true r
      simp only [List.length_cons]; omega
    · split
      · have := spr_len false (d :: r)
        simp only [List.length_cons] at *; omega
      · have := spr_len true (d :: r)
        simp only [List.length_cons] at *; omega
  | false, c :: r => by
    rw [spr]
    split
    · have := spr_len true r
      simp only [List.length_cons]; omega
    · split
      · have := spr_len false r
        simp only [List.length_cons]; omega
      · have := spr_len false r
        simp only [List.length_cons]; omega

/-! ### within strings -/
/-- bytes of a string that are copied, whatever stands behind -/
def Copy (Z : List UInt8) : Prop := ∀ X, spr true (Z ++ X) = Z ++ spr true X
theorem Copy.nil : Copy [] := fun _ => rfl
theorem Copy.append {Z Y : List UInt8} (h : Copy Z) (k : Copy Y) : Copy (Z ++ Y) := fun X => by rw [List.append_assoc, h, k, List.append_assoc]
theorem Copy.esc (d : UInt8) : Copy [92, d] := fun X => spr_esc d X
theorem Copy.plain : ∀ {Z : List UInt8}, (∀ c ∈ Z, c ≠ 92 ∧ c ≠ 34) → Copy Z
  | [], _ => Copy.nil
  | c :: Z, h => fun X => by
    rw [List.cons_append, spr_in (h c (List.mem_cons_self ..)).1 (h c (List.mem_cons_self ..)).2, Copy.plain (fun d hd => h d (List.mem_cons_of_mem _ hd)) X]
    rfl

variable {s s' : List UInt8}
theorem byteE_head {p c q : Nat} (h : byteE s p = .ok c q) : ∃ x r, s.drop p = x :: r ∧ x.toNat = c ∧ q = p := by
  obtain ⟨h1, h2⟩ := byteE_lt h
  refine ⟨s[p], s.drop (p + 1), List.drop_eq_getElem_cons h2, ?_, h1⟩
  unfold byteE at h
  rw [List.getElem?_eq_getElem h2] at h
  simp only [Rs.ok.injEq] at h
  exact h.1
theorem hexV_plain {x : UInt8} {n : Nat} (h : hexV x.toNat = some n) : x ≠ 92 ∧ x ≠ 34 := by
  constructor
  · rintro rfl
    have e : hexV (92 : UInt8).toNat = none := by decide
    rw [e] at h; cases h
  · rintro rfl
    have e : hexV (34 : UInt8).toNat = none := by decide
    rw [e] at h; cases h
theorem unitE_shape {f : Nat} : ∀ {k p acc c q : Nat}, unitE s f k p acc = .ok c q → ∃ Z, s.drop p = Z ++ s.drop q ∧ Copy Z ∧ q = p + Z.length ∧ Z.length = k
  | 0, p, acc, c, q, h => by
    unfold unitE at h
    simp only [Rs.ok.injEq] at h
    rw [← h.2]
    exact ⟨[], rfl, Copy.nil, rfl, rfl⟩
  | k + 1, p, acc, c, q, h => by
    unfold unitE at h
    obtain ⟨x, r, h1, h⟩ := Rs.bind_ok h
    obtain ⟨y, t, h2, h3, -⟩ := byteE_head h1
    cases hv : hexV x with
    | none => rw [hv] at h; cases h
    | some n =>
      rw [hv] at h
      obtain ⟨Z, e1, e2, e3, e4⟩ := unitE_shape h
      rw [drop_one h2] at e1
      refine ⟨y :: Z, by rw [h2, e1]; rfl, ?_, by rw [List.length_cons]; omega, by rw [List.length_cons, e4]⟩
      have : Copy [y] := Copy.plain fun d hd => by
        rw [List.mem_singleton] at hd
        subst hd
        exact hexV_plain (by rw [h3]; exact hv)
      exact this.append e2
theorem escE_shape {p q : Nat} {y r0 : List UInt8} (h0 : s.drop p = 92 :: r0) (h : escE s p = .ok y q) : ∃ Z, s.drop p = Z ++ s.drop q ∧ Copy Z ∧ q = p + Z.length := by
  unfold escE at h
  obtain ⟨c, r, h1, h⟩ := Rs.bind_ok h
  obtain ⟨x, t, h2, h3, -⟩ := byteE_head h1
  have h4 : s.drop p = [92, x] ++ s.drop (p + 2) := by
    rw [h0]
    have := drop_one h0
    rw [h2] at this
    rw [← this, drop_one h2]
    rfl
  unfold escOf at h
  cases hv : escV c with
  | some z =>
    rw [hv] at h
    simp only [Rs.ok.injEq] at h
    rw [← h.2]
    exact ⟨_, h4, Copy.esc x, rfl⟩
  | none =>
    rw [hv] at h
    simp only at h
    split at h
    · obtain ⟨u, q2, h5, h⟩ := Rs.bind_ok h
      simp only [Rs.ok.injEq] at h
      rw [← h.2]
      unfold cpE at h5
      obtain ⟨c1, q3, h6, h5⟩ := Rs.bind_ok h5
      obtain ⟨Z, e1, e2, e3, -⟩ := unitE_shape h6
      have h7 : s.drop p = ([92, x] ++ Z) ++ s.drop q3 := by rw [h4, e1, List.append_assoc]
      split at h5
      · simp only [Rs.ok.injEq] at h5
        rw [← h5.2]
        exact ⟨_, h7, (Copy.esc x).append e2, by rw [List.length_append]; simp; omega⟩
      split at h5
      · cases h5
      unfold fstE at h5
      obtain ⟨u2, q5, h10, h5⟩ := Rs.bind_ok h5
      obtain ⟨x2, t2, g2, g3, -⟩ := byteE_head h10
      split at h5
      · rename_i h92
        unfold sndE at h5
        obtain ⟨u3, q6, h11, h5⟩ := Rs.bind_ok h5
        obtain ⟨x3, t3, g4, g5, -⟩ := byteE_head h11
        split at h5
        · unfold lowE at h5
          obtain ⟨u4, q7, h12, h5⟩ := Rs.bind_ok h5
          obtain ⟨Z2, e4, e5, e6, -⟩ := unitE_shape h12
          split at h5
          · simp only [Rs.ok.injEq] at h5
            rw [← h5.2]
            have hx2 : x2 = 92 := by
              apply UInt8.toNat_inj.1
              rw [g3, h92]; rfl
            have h8 : s.drop q3 = ([92, x3] ++ Z2) ++ s.drop q7 := by
              have a := drop_one g2
              rw [g4] at a
              have b := drop_one g4
              rw [e4] at b
              rw [g2, hx2, ← a, ← b]
              rfl
            refine ⟨([92, x] ++ Z) ++ ([92, x3] ++ Z2), by rw [h7, h8]; simp, ((Copy.esc x).append e2).append ((Copy.esc x3).append e5), ?_⟩
            simp only [List.length_append, List.length_cons, List.length_nil]
            omega
          · cases h5
        · cases h5
      · cases h5
    · cases h
theorem charE_shape {p q : Nat} {y r0 : List UInt8} {c : UInt8} (h0 : s.drop p = c :: r0) (h1 : c ≠ 34) (h2 : c ≠ 92) (h : charE s p = .ok y q) : s.drop p = y ++ s.drop q ∧ Copy y ∧ q = p + y.length := by
  unfold charE at h
  have hne : s.drop p ≠ [] := by rw [h0]; simp
  rw [decL_L hne] at h
  split at h
  · cases h
  · rename_i hv
    simp only [Rs.ok.injEq] at h
    obtain ⟨rfl, rfl⟩ := h
    obtain ⟨k, hk⟩ : ∃ k, k = (Lib.decodeL (s.drop p)).2 := ⟨_, rfl⟩
    have hkl : k ≤ (s.drop p).length := by rw [hk]; exact Lib.decodeL_le _ hne
    refine ⟨?_, ?_, ?_⟩
    · rw [← hk]
      conv => lhs; rw [← List.take_append_drop k (s.drop p)]
      rw [List.drop_drop]
    · rw [h0] at hv ⊢
      refine Copy.plain fun d hd => ?_
      by_cases hc : c.toNat < 128
      · rw [Lib.decodeL_ascii c r0 hc] at hd
        simp at hd
        subst hd
        exact ⟨h2, h1⟩
      · have h3 := (wide_high (c := c) (r := r0) (by omega) hv).1 d hd
        constructor
        · rintro rfl; revert h3; decide
        · rintro rfl; revert h3; decide
    · rw [← hk, List.length_take]; omega
theorem qE_shape : ∀ (n p : Nat) (acc : List UInt8) {t : List UInt8} {q : Nat}, qE s n p acc = .ok t q → ∃ Z, s.drop p = Z ++ 34 :: s.drop q ∧ Copy Z ∧ q = p + Z.length + 1
  | 0, p, acc, t, q, h => by unfold qE at h; cases h
  | n + 1, p, acc, t, q, h => by
    unfold qE at h
    obtain ⟨c, r, h1, h⟩ := Rs.bind_ok h
    obtain ⟨x, r0, h2, h3, -⟩ := byteE_head h1
    split at h
    · rename_i h34
      simp only [Rs.ok.injEq] at h
      have hx : x = 34 := UInt8.toNat_inj.1 (by rw [h3, h34]; rfl)
      rw [← h.2]
      refine ⟨[], ?_, Copy.nil, rfl⟩
      rw [h2, drop_one h2, hx]; rfl
    rename_i h34
    split at h
    · rename_i h92
      have hx : x = 92 := UInt8.toNat_inj.1 (by rw [h3, h92]; rfl)
      obtain ⟨y, q2, h4, h⟩ := Rs.bind_ok h
      obtain ⟨Z, e1, e2, e3⟩ := escE_shape (by rw [h2, hx]) h4
      obtain ⟨Y, g1, g2, g3⟩ := qE_shape n q2 _ h
      exact ⟨Z ++ Y, by rw [e1, g1, List.append_assoc], e2.append g2, by rw [List.length_append]; omega⟩
    rename_i h92
    split at h
    · cases h
    · obtain ⟨y, q2, h4, h⟩ := Rs.bind_ok h
      obtain ⟨e1, e2, e3⟩ := charE_shape h2 (by rintro rfl; exact h34 h3.symm) (by rintro rfl; exact h92 h3.symm) h4
      obtain ⟨Y, g1, g2, g3⟩ := qE_shape n q2 _ h
      exact ⟨y ++ Y, by rw [e1, g1, List.append_assoc], e2.append g2, by rw [List.length_append]; omega⟩

/-! ### what a string is read as hangs on its own bytes -/
def Agree (s : List UInt8) (p : Nat) (s' : List UInt8) (p' m : Nat) : Prop := ∀ j, j < m → s[p + j]? = s'[p' + j]?
theorem Agree.shift {p p' m i : Nat} (h : Agree s p s' p' m) (hi : i ≤ m) : Agree s (p + i) s' (p' + i) (m - i) := fun j hj => by
  have := h (i + j) (by omega)
  rwa [← Nat.add_assoc, ← Nat.add_assoc] at this
theorem Agree.less {p p' m k : Nat} (h : Agree s p s' p' m) (hk : k ≤ m) : Agree s p s' p' k := fun j hj => h j (by omega)
theorem Agree.take {p p' m : Nat} (h : Agree s p s' p' m) : (s.drop p).take m = (s'.drop p').take m := by
  apply List.ext_getElem?
  intro j
  by_cases hj : j < m
  · rw [List.getElem?_take_of_lt hj, List.getElem?_take_of_lt hj, List.getElem?_drop, List.getElem?_drop]
    exact h j hj
  · rw [List.getElem?_take_eq_none (by omega), List.getElem?_take_eq_none (by omega)]
theorem Agree.of {p p' : Nat} {Z X X' : List UInt8} (h : s.drop p = Z ++ X) (h' : s'.drop p' = Z ++ X') : Agree s p s' p' Z.length := fun j hj => by
  rw [← List.getElem?_drop, ← List.getElem?_drop, h, h', List.getElem?_append_left hj, List.getElem?_append_left hj]
theorem byteE_agree {p p' m j c q : Nat} (ha : Agree s p s' p' m) (hj : j < m) (h : byteE s (p + j) = .ok c q) : byteE s' (p' + j) = .ok c (p' + j) := by
  unfold byteE at h ⊢
  rw [← ha j hj]
  cases hc : s[p + j]? with
  | none => rw [hc] at h; cases h
  | some x =>
    rw [hc] at h
    simp only [Rs.ok.injEq] at h ⊢
    exact ⟨h.1, trivial⟩
theorem unitE_agree {f f' : Nat} : ∀ {k p p' acc c q : Nat}, Agree s p s' p' k → unitE s f k p acc = .ok c q → unitE s' f' k p' acc = .ok c (p' + k)
  | 0, p, p', acc, c, q, ha, h => by
    unfold unitE at h ⊢
    simp only [Rs.ok.injEq] at h ⊢
    exact ⟨h.1, rfl⟩
  | k + 1, p, p', acc, c, q, ha, h => by
    unfold unitE at h ⊢
    obtain ⟨x, r, h1, h⟩ := Rs.bind_ok h
    have hb := byteE_agree (j := 0) ha (by omega) h1
    rw [Nat.add_zero] at hb
    rw [hb]
    simp only [Rs.bind]
    cases hv : hexV x with
    | none => rw [hv] at h; cases h
    | some n =>
      rw [hv] at h
      have := unitE_agree (f' := f') (ha.shift (i := 1) (by omega)) h
      simp only [Nat.add_sub_cancel] at this
      simp only
      rw [this]
      congr 1; omega
theorem cpE_agree {f f' p p' c q : Nat} (ha : Agree s p s' p' (q - p)) (h : cpE s f p = .ok c q) : cpE s' f' p' = .ok c (p' + (q - p)) := by
  unfold cpE at h ⊢
  obtain ⟨c1, q3, h6, h5⟩ := Rs.bind_ok h
  clear h
  obtain ⟨Z, -, -, z3, z4⟩ := unitE_shape h6
  have hq3 : q3 = p + 4 := by omega
  clear z3 z4 Z
  split at h5
  · rename_i hc
    simp only [Rs.ok.injEq] at h5
    have hu := unitE_agree (f' := f') (ha.less (k := 4) (by omega)) h6
    rw [hu]
    simp only [Rs.bind]
    rw [if_pos hc, h5.1]
    congr 1; omega
  rename_i hc
  split at h5
  · cases h5
  rename_i hc2
  unfold fstE at h5
  obtain ⟨u2, q5, h10, h5a⟩ := Rs.bind_ok h5
  clear h5
  split at h5a
  · rename_i h92
    unfold sndE at h5a
    obtain ⟨u3, q6, h11, h5b⟩ := Rs.bind_ok h5a
    clear h5a
    split at h5b
    · rename_i h117
      unfold lowE at h5b
      obtain ⟨u4, q7, h12, h5c⟩ := Rs.bind_ok h5b
      clear h5b
      obtain ⟨Z2, -, -, z3, z4⟩ := unitE_shape h12
      split at h5c
      · rename_i hlow
        simp only [Rs.ok.injEq] at h5c
        have hq : q = p + 10 := by omega
        subst hq3
        have hu := unitE_agree (f' := f') (ha.less (k := 4) (by omega)) h6
        have b1 := byteE_agree (j := 4) ha (by omega) h10
        have b2 := byteE_agree (j := 5) ha (by omega) (by rw [show p + 5 = p + 4 + 1 by omega]; exact h11)
        have hl := unitE_agree (f' := f') (p := p + 6) (p' := p' + 6) ((ha.shift (i := 6) (by omega)).less (k := 4) (by omega)) (by rw [show p + 6 = p + 4 + 1 + 1 by omega]; exact h12)
        rw [hu]
        simp only [Rs.bind]
        rw [if_neg hc, if_neg hc2]
        unfold fstE
        rw [b1]
        simp only [Rs.bind]
        rw [if_pos h92]
        unfold sndE
        rw [show p' + 4 + 1 = p' + 5 by omega, b2]
        simp only [Rs.bind]
        rw [if_pos h117]
        unfold lowE
        rw [show p' + 5 + 1 = p' + 6 by omega, hl]
        simp only [Rs.bind]
        rw [if_pos hlow, h5c.1]
        congr 1; omega
      · cases h5c
    · cases h5b
  · cases h5a
theorem escE_agree {p p' q : Nat} {y : List UInt8} (ha : Agree s p s' p' (q - p)) (h : escE s p = .ok y q) : escE s' p' = .ok y (p' + (q - p)) := by
  have hq := (escE_at h).1
  unfold escE at h ⊢
  obtain ⟨c, r, h1, h2⟩ := Rs.bind_ok h
  clear h
  have hb := byteE_agree (j := 1) ha (by omega) h1
  rw [hb]
  simp only [Rs.bind]
  unfold escOf at h2 ⊢
  cases hv : escV c with
  | some x =>
    rw [hv] at h2
    simp only [Rs.ok.injEq] at h2 ⊢
    exact ⟨h2.1, by omega⟩
  | none =>
    rw [hv] at h2
    simp only at h2 ⊢
    split at h2
    · rename_i h117
      obtain ⟨x, q2, h6, h3⟩ := Rs.bind_ok h2
      simp only [Rs.ok.injEq] at h3
      obtain ⟨h3a, rfl⟩ := h3
      have := cpE_agree (f' := p') (p := p + 2) (p' := p' + 2) (by have := ha.shift (i := 2) (by omega); rwa [Nat.sub_sub] at this) h6
      rw [if_pos h117, this]
      simp only [Rs.bind, Rs.ok.injEq]
      exact ⟨h3a, by omega⟩
    · cases h2
theorem charE_agree {p p' q : Nat} {y : List UInt8} (hp : p < s.length) (ha : Agree s p s' p' (q - p)) (h : charE s p = .ok y q) : charE s' p' = .ok y (p' + (q - p)) := by
  obtain ⟨c1, c2⟩ := charE_at hp h
  unfold charE at h ⊢
  have hne := drop_ne hp
  rw [decL_L hne] at h
  split at h
  · cases h
  · rename_i hv
    simp only [Rs.ok.injEq] at h
    obtain ⟨h1, h2⟩ := h
    have hk : (Lib.decodeL (s.drop p)).2 = q - p := by omega
    have henc := Lib.encode_decode _ hne hv
    have htk := ha.take
    rw [← hk, ← henc] at htk
    obtain ⟨X, hX⟩ : ∃ X, s'.drop p' = Lib.encodeRune ((Lib.decodeL (s.drop p)).1 : Int) ++ X := by
      refine ⟨(s'.drop p').drop (Lib.decodeL (s.drop p)).2, ?_⟩
      rw [htk, List.take_append_drop]
    obtain ⟨d1, d2⟩ := decode_encode ((Lib.decodeL (s.drop p)).1 : Int) X
    have hlen : (Lib.encodeRune ((Lib.decodeL (s.drop p)).1 : Int)).length = q - p := by
      rw [henc, h1]; omega
    have hne' : s'.drop p' ≠ [] := by
      rw [hX]
      intro e
      have := congrArg List.length e
      rw [List.length_append, hlen] at this
      simp only [List.length_nil] at this
      omega
    rw [decL_L hne', hX, if_neg d1, d2, List.take_left, hlen, henc, h1]
theorem qE_agree : ∀ (n n' p p' : Nat) (acc : List UInt8) {t : List UInt8} {q : Nat}, n ≤ n' → Agree s p s' p' (q - p) → qE s n p acc = .ok t q → qE s' n' p' acc = .ok t (p' + (q - p))
  | 0, n', p, p', acc, t, q, hn, ha, h => by unfold qE at h; cases h
  | n + 1, 0, p, p', acc, t, q, hn, ha, h => absurd hn (by omega)
  | n + 1, n' + 1, p, p', acc, t, q, hn, ha, h => by
    have hlt : p < q := by
      obtain ⟨Z, -, -, e⟩ := qE_shape (n + 1) p acc h
      omega
    unfold qE at h ⊢
    obtain ⟨c, r, h1, h2⟩ := Rs.bind_ok h
    clear h
    have hp := (byteE_lt h1).2
    have hb := byteE_agree (j := 0) ha (by omega) h1
    rw [Nat.add_zero] at hb
    rw [hb]
    simp only [Rs.bind]
    split at h2
    · rename_i h34
      simp only [Rs.ok.injEq] at h2
      rw [if_pos h34]
      simp only [Rs.ok.injEq]
      exact ⟨h2.1, by omega⟩
    rename_i h34
    rw [if_neg h34]
    split at h2
    · rename_i h92
      obtain ⟨y, q2, h4, h3⟩ := Rs.bind_ok h2
      rw [if_pos h92]
      have hq2 : q2 < q := by
        obtain ⟨Z, -, -, e⟩ := qE_shape n q2 _ h3
        omega
      have hq1 := (escE_at h4).1
      rw [escE_agree (ha.less (by omega)) h4]
      simp only
      have hsh := ha.shift (i := q2 - p) (by omega)
      rw [show p + (q2 - p) = q2 by omega, show q - p - (q2 - p) = q - q2 by omega] at hsh
      have ih := qE_agree n n' q2 (p' + (q2 - p)) (acc ++ y) (by omega) hsh h3
      rw [ih]
      congr 1; omega
    rename_i h92
    rw [if_neg h92]
    split at h2
    · cases h2
    · rename_i h32
      obtain ⟨y, q2, h4, h3⟩ := Rs.bind_ok h2
      rw [if_neg h32]
      have hq2 : q2 < q := by
        obtain ⟨Z, -, -, e⟩ := qE_shape n q2 _ h3
        omega
      have hq1 := (charE_at hp h4).1
      rw [charE_agree hp (ha.less (by omega)) h4]
      simp only
      have hsh := ha.shift (i := q2 - p) (by omega)
      rw [show p + (q2 - p) = q2 by omega, show q - p - (q2 - p) = q - q2 by omega] at hsh
      have ih := qE_agree n n' q2 (p' + (q2 - p)) (acc ++ y) (by omega) hsh h3
      rw [ih]
      congr 1; omega
/-- a string is read among blanks as it is read -/
theorem quotedE_spread {p p' q : Nat} {r t : List UInt8} (hl : s.length ≤ s'.length) (h0 : s.drop p = 34 :: r) (h0' : s'.drop p' = 34 :: spr true r) (h : quotedE s p = .ok t q) : quotedE s' p' = .ok t (p' + (q - p)) ∧ s'.drop (p' + (q - p)) = spr false (s.drop q) := by
  unfold quotedE at h ⊢
  obtain ⟨Z, e1, e2, e3⟩ := qE_shape _ _ _ h
  have a1 := drop_one h0
  have a2 := drop_one h0'
  rw [a1] at e1
  have e4 : s'.drop (p' + 1) = (Z ++ [34]) ++ spr false (s.drop q) := by
    rw [a2, e1, e2, spr_quote]; simp
  have e5 : s.drop (p + 1) = (Z ++ [34]) ++ s.drop q := by rw [a1, e1]; simp
  have hag := Agree.of e5 e4
  rw [List.length_append, List.length_singleton] at hag
  have hq := qE_agree (s := s) (s' := s') (s.length + 1) (s'.length + 1) (p + 1) (p' + 1) [] (by omega) (by rw [show q - (p + 1) = Z.length + 1 by omega]; exact hag) h
  refine ⟨by rw [hq]; congr 1; omega, ?_⟩
  have := drop_add e4
  rw [List.length_append, List.length_singleton] at this
  rw [show p' + (q - p) = p' + 1 + (Z.length + 1) by omega]
  exact this
end Go.Proofs.YtdhkpkojnokjdaaDoor

/-
  A text with blanks round its marks is read as the text: values, lists, members.
-/
namespace Go.Proofs.YtdhkpkojnokjdaaDoor
open Go.RowKit Go.Shelf Sorted
set_option linter.unusedVariables false
set_option linter.unusedSimpArgs false

variable {s s' : List UInt8}
/-- how the two texts stand beside one another -/
def Rel (s : List UInt8) (p : Nat) (s' : List UInt8) (p' : Nat) : Prop :=
  (∃ B, (∀ c ∈ B, blankL.contains c = true) ∧ s'.drop p' = B ++ spr false (s.drop p)) ∨ (∃ c r, markB c = true ∧ s.drop p = c :: r ∧ s'.drop p' = c :: 10 :: 13 :: spr false r)
/-- what stands behind a byte that is no blank -/
def aft (c : UInt8) (r : List UInt8) : List UInt8 := if markB c = true then 10 :: 13 :: spr false r else if c = 34 then spr true r else spr false r
theorem skip_drop (p : Nat) : s.drop (skipE blankL s p) = (s.drop p).dropWhile blankL.contains := by
  unfold skipE
  rw [← List.drop_drop]
  generalize s.drop p = l
  induction l with
  | nil => rfl
  | cons c l ih =>
    by_cases h : blankL.contains c = true
    · rw [List.takeWhile_cons_of_pos h, List.dropWhile_cons_of_pos h, List.length_cons, List.drop_succ_cons, ih]
    · rw [List.takeWhile_cons_of_neg h, List.dropWhile_cons_of_neg h]; rfl
theorem blank_plain {c : UInt8} (h : blankL.contains c = true) : c ≠ 34 ∧ markB c = false := by
  have := List.contains_iff_mem.1 h
  simp only [List.mem_cons, List.not_mem_nil, or_false] at this
  rcases this with rfl | rfl | rfl | rfl <;> decide
theorem mark_noblank {c : UInt8} (h : markB c = true) : blankL.contains c = false := by
  have := List.contains_iff_mem.1 h
  simp only [List.mem_cons, List.not_mem_nil, or_false] at this
  rcases this with rfl | rfl | rfl | rfl | rfl | rfl <;> decide
theorem spr_blanks : ∀ {W : List UInt8}, (∀ c ∈ W, blankL.contains c = true) → ∀ X, spr false (W ++ X) = W ++ spr false X
  | [], _, X => rfl
  | c :: W, h, X => by
    obtain ⟨h1, h2⟩ := blank_plain (h c (List.mem_cons_self ..))
    rw [List.cons_append, spr_out h1 h2, spr_blanks (fun d hd => h d (List.mem_cons_of_mem _ hd)) X]; rfl
theorem dropWhile_blanks : ∀ {W : List UInt8}, (∀ c ∈ W, blankL.contains c = true) → ∀ X, (W ++ X).dropWhile blankL.contains = X.dropWhile blankL.contains
  | [], _, X => rfl
  | c :: W, h, X => by
    rw [List.cons_append, List.dropWhile_cons_of_pos (h c (List.mem_cons_self ..)), dropWhile_blanks (fun d hd => h d (List.mem_cons_of_mem _ hd)) X]
theorem take_blanks : ∀ (l : List UInt8), ∀ c ∈ l.takeWhile blankL.contains, blankL.contains c = true
  | [], c, h => by simp at h
  | d :: l, c, h => by
    by_cases hd : blankL.contains d = true
    · rw [List.takeWhile_cons_of_pos hd] at h
      rcases List.mem_cons.1 h with rfl | h
      · exact hd
      · exact take_blanks l c h
    · rw [List.takeWhile_cons_of_neg hd] at h; simp at h
theorem head_noblank {l r : List UInt8} {c : UInt8} (h : l.dropWhile blankL.contains = c :: r) : blankL.contains c = false := by
  induction l with
  | nil => simp at h
  | cons d l ih =>
    by_cases hd : blankL.contains d = true
    · rw [List.dropWhile_cons_of_pos hd] at h; exact ih h
    · rw [List.dropWhile_cons_of_neg hd] at h
      simp only [List.cons.injEq] at h
      rw [← h.1]; simpa using hd
/-- behind the blanks they go together -/
theorem Rel.skip {p p' : Nat} (h : Rel s p s' p') {c : UInt8} {r : List UInt8} (hs : s.drop (skipE blankL s p) = c :: r) : blankL.contains c = false ∧ s'.drop (skipE blankL s' p') = c :: aft c r := by
  rw [skip_drop] at hs ⊢
  have hb := head_noblank hs
  refine ⟨hb, ?_⟩
  unfold aft
  rcases h with ⟨B, h1, h2⟩ | ⟨c2, r2, h1, h2, h3⟩
  · have h3 : s.drop p = (s.drop p).takeWhile blankL.contains ++ c :: r := by rw [← hs, List.takeWhile_append_dropWhile]
    rw [h2, dropWhile_blanks h1, h3, spr_blanks (take_blanks _), dropWhile_blanks (take_blanks _)]
    by_cases hm : markB c = true
    · rw [if_pos hm, spr_mark hm, List.dropWhile_cons_of_pos (by decide), List.dropWhile_cons_of_pos (by decide), List.dropWhile_cons_of_neg (by rw [hb]; decide)]
    · rw [if_neg hm]
      by_cases hq : c = 34
      · subst hq
        rw [if_pos rfl, spr_open, List.dropWhile_cons_of_neg (by decide)]
      · rw [if_neg hq, spr_out hq (by simpa using hm), List.dropWhile_cons_of_neg (by rw [hb]; decide)]
  · have hb2 := mark_noblank h1
    rw [h2, List.dropWhile_cons_of_neg (by rw [hb2]; decide)] at hs
    simp only [List.cons.injEq] at hs
    obtain ⟨rfl, rfl⟩ := hs
    rw [h3, List.dropWhile_cons_of_neg (by rw [hb2]; decide), if_pos h1]
theorem Rel.end_ {p p' : Nat} (h : Rel s p s' p') (hs : s.drop (skipE blankL s p) = []) : s'.drop (skipE blankL s' p') = [] := by
  rw [skip_drop] at hs ⊢
  rcases h with ⟨B, h1, h2⟩ | ⟨c2, r2, h1, h2, h3⟩
  · have h3 : s.drop p = (s.drop p).takeWhile blankL.contains ++ [] := by rw [← hs, List.takeWhile_append_dropWhile]
    rw [h2, dropWhile_blanks h1, h3, spr_blanks (take_blanks _), dropWhile_blanks (take_blanks _), spr_nil]; rfl
  · rw [h2, List.dropWhile_cons_of_neg (by rw [mark_noblank h1]; decide)] at hs
    cases hs
theorem Rel.plain {p p' : Nat} (h : s'.drop p' = spr false (s.drop p)) : Rel s p s' p' := Or.inl ⟨[], by simp, h⟩
/-- behind a mark -/
theorem Rel.mark {q q' : Nat} {c : UInt8} {r : List UInt8} (hm : markB c = true) (hs : s.drop q = c :: r) (hs' : s'.drop q' = c :: aft c r) : Rel s (q + 1) s' (q' + 1) := by
  refine Or.inl ⟨[10, 13], by decide, ?_⟩
  rw [drop_one hs, drop_one hs']
  unfold aft
  rw [if_pos hm]; rfl
/-- ahead of a byte that is no blank -/
theorem Rel.at_ {q q' : Nat} {c : UInt8} {r : List UInt8} (hs : s.drop q = c :: r) (hs' : s'.drop q' = c :: aft c r) : Rel s q s' q' := by
  by_cases hm : markB c = true
  · refine Or.inr ⟨c, r, hm, hs, ?_⟩
    rw [hs']; unfold aft; rw [if_pos hm]
  · refine Rel.plain ?_
    rw [hs, hs']
    unfold aft
    rw [if_neg hm]
    by_cases hq : c = 34
    · subst hq; rw [if_pos rfl, spr_open]
    · rw [if_neg hq, spr_out hq (by simpa using hm)]

theorem kindOf_any {c t k q : Nat} (h : kindOf c t = .ok k q) (a : Nat) : kindOf c a = .ok k a := by
  unfold kindOf at h ⊢
  repeat' split at h
  all_goals first | (simp only [Rs.ok.injEq] at h; obtain ⟨rfl, -⟩ := h; repeat (first | rw [if_pos (by assumption)] | rw [if_neg (by assumption)])) | cases h
theorem kindE_rel {p p' k q : Nat} (hR : Rel s p s' p') (h : kindE s p = .ok k q) : ∃ q' c r, kindE s' p' = .ok k q' ∧ s.drop q = c :: r ∧ s'.drop q' = c :: aft c r ∧ kindOf c.toNat q = .ok k q := by
  unfold kindE at h ⊢
  obtain ⟨x, t, h1, h⟩ := Rs.bind_ok h
  obtain ⟨c, r, h2, h3, h4⟩ := byteE_head h1
  obtain ⟨h5, h6⟩ := hR.skip h2
  rw [byteE_drop h6]
  have hk : ∀ a, kindOf c.toNat a = .ok k a := fun a => by
    rw [h3]
    exact kindOf_any h a
  have hq : q = skipE blankL s p := by
    rw [h4, ← h3, hk] at h
    simp only [Rs.ok.injEq] at h
    exact h.2.symm
  subst hq
  exact ⟨_, c, r, hk _, h2, h6, hk _⟩
theorem endsE_rel {c p p' r : Nat} {b : Bool} (hR : Rel s p s' p') (hc : c = 93 ∨ c = 125) (h : endsE c s p = .ok b r) : ∃ r', endsE c s' p' = .ok b r' ∧ Rel s r s' r' ∧ ∃ x t, s.drop (skipE blankL s p) = x :: t ∧ (b = true → x.toNat = c) ∧ (b = false → r = skipE blankL s p) := by
  unfold endsE at h ⊢
  obtain ⟨x, q, h1, h⟩ := Rs.bind_ok h
  obtain ⟨y, t, h2, h3, h4⟩ := byteE_head h1
  obtain ⟨h5, h6⟩ := hR.skip h2
  rw [byteE_drop h6]
  simp only [Rs.bind]
  split at h
  · rename_i he
    simp only [Rs.ok.injEq] at h
    obtain ⟨rfl, rfl⟩ := h
    rw [if_pos (by rw [h3]; exact he)]
    have hm : markB y = true := by
      have : y = 93 ∨ y = 125 := by
        rcases hc with rfl | rfl
        · exact Or.inl (UInt8.toNat_inj.1 (by rw [h3, he]; rfl))
        · exact Or.inr (UInt8.toNat_inj.1 (by rw [h3, he]; rfl))
      rcases this with rfl | rfl <;> decide
    exact ⟨_, rfl, by rw [h4]; exact Rel.mark hm h2 h6, y, t, h2, (fun _ => by rw [h3]; exact he), (fun e => by cases e)⟩
  · rename_i he
    simp only [Rs.ok.injEq] at h
    obtain ⟨rfl, rfl⟩ := h
    rw [if_neg (by rw [h3]; exact he)]
    exact ⟨_, rfl, by rw [h4]; exact Rel.at_ h2 h6, y, t, h2, (fun e => by cases e), (fun _ => h4)⟩
theorem markE_rel {c p p' r : Nat} {u : Unit} (hR : Rel s p s' p') (hc : c = 44 ∨ c = 58) (h : markE c s p = .ok u r) : ∃ r', markE c s' p' = .ok u r' ∧ Rel s r s' r' ∧ ∃ x t, s.drop (skipE blankL s p) = x :: t ∧ x.toNat = c := by
  unfold markE at h ⊢
  obtain ⟨x, q, h1, h⟩ := Rs.bind_ok h
  obtain ⟨y, t, h2, h3, h4⟩ := byteE_head h1
  obtain ⟨h5, h6⟩ := hR.skip h2
  rw [byteE_drop h6]
  simp only [Rs.bind]
  split at h
  · rename_i he
    simp only [Rs.ok.injEq] at h
    rw [if_pos (by rw [h3]; exact he)]
    have hm : markB y = true := by
      have : y = 44 ∨ y = 58 := by
        rcases hc with rfl | rfl
        · exact Or.inl (UInt8.toNat_inj.1 (by rw [h3, he]; rfl))
        · exact Or.inr (UInt8.toNat_inj.1 (by rw [h3, he]; rfl))
      rcases this with rfl | rfl <;> decide
    refine ⟨_, rfl, ?_, y, t, h2, by rw [h3]; exact he⟩
    rw [← h.2, h4]
    exact Rel.mark hm h2 h6
  · cases h
theorem nameE_rel {p p' q : Nat} {ns : List (List UInt8)} {t : List UInt8} (hl : s.length ≤ s'.length) (hR : Rel s p s' p') (h : nameE s p ns = .ok t q) : ∃ q', nameE s' p' ns = .ok t q' ∧ Rel s q s' q' := by
  unfold nameE at h ⊢
  obtain ⟨x, q1, h1, h⟩ := Rs.bind_ok h
  obtain ⟨y, r, h2, h3, h4⟩ := byteE_head h1
  obtain ⟨h5, h6⟩ := hR.skip h2
  rw [byteE_drop h6]
  simp only [Rs.bind]
  unfold nameOf at h ⊢
  split at h
  · rename_i he
    have hy : y = 34 := UInt8.toNat_inj.1 (by rw [h3, he]; rfl)
    subst hy
    rw [if_pos (by rw [h3]; exact he)]
    split at h
    · cases h
    · rename_i hn
      rw [if_neg hn]
      obtain ⟨t2, q2, h7, h8⟩ := Rs.bind_ok h
      rw [h4] at h7
      have h6' : s'.drop (skipE blankL s' p') = 34 :: spr true r := by rw [h6]; rfl
      obtain ⟨a1, a2⟩ := quotedE_spread hl h2 h6' h7
      rw [a1]
      simp only [Rs.bind]
      split at h8
      · cases h8
      · rename_i hc
        simp only [Rs.ok.injEq] at h8
        rw [if_neg hc]
        refine ⟨_, by rw [h8.1], ?_⟩
        rw [← h8.2]
        exact Rel.plain a2
  · cases h
/-- no part of a literal stands at the next byte that is no blank -/
theorem ends_skip {q : Nat} {x : UInt8} {t : List UInt8} (hs : s.drop (skipE blankL s q) = x :: t) (hx : Ends (x :: t)) : Ends (s.drop q) := by
  rw [skip_drop] at hs
  cases hd : s.drop q with
  | nil => exact Ends.nil
  | cons c r =>
    rw [hd] at hs
    by_cases hc : blankL.contains c = true
    · have := List.contains_iff_mem.1 hc
      simp only [List.mem_cons, List.not_mem_nil, or_false] at this
      intro d hd2
      simp only [List.getElem?_cons_zero, Option.some.injEq] at hd2
      subst hd2
      rcases this with rfl | rfl | rfl | rfl <;> decide
    · rw [List.dropWhile_cons_of_neg hc] at hs
      simp only [List.cons.injEq] at hs
      rw [hs.1, hs.2]; exact hx
theorem ends_end {q : Nat} (hs : s.drop (skipE blankL s q) = []) : Ends (s.drop q) := by
  rw [skip_drop] at hs
  cases hd : s.drop q with
  | nil => exact Ends.nil
  | cons c r =>
    rw [hd] at hs
    by_cases hc : blankL.contains c = true
    · have := List.contains_iff_mem.1 hc
      simp only [List.mem_cons, List.not_mem_nil, or_false] at this
      intro d hd2
      simp only [List.getElem?_cons_zero, Option.some.injEq] at hd2
      subst hd2
      rcases this with rfl | rfl | rfl | rfl <;> decide
    · rw [List.dropWhile_cons_of_neg hc] at hs; cases hs
theorem ends_of {x : UInt8} {t : List UInt8} {n : Nat} (h : x.toNat = n) (hn : n = 93 ∨ n = 125 ∨ n = 44) : Ends (x :: t) := by
  rcases hn with rfl | rfl | rfl
  · have : x = 93 := UInt8.toNat_inj.1 h
    rw [this]; exact Ends.arr t
  · have : x = 125 := UInt8.toNat_inj.1 h
    rw [this]; exact Ends.obj t
  · have : x = 44 := UInt8.toNat_inj.1 h
    rw [this]; exact Ends.comma t
theorem Ends.spread {R : List UInt8} (h : Ends R) : Ends (spr false R) := by
  cases R with
  | nil => exact Ends.nil
  | cons c r =>
    intro d hd
    by_cases hq : c = 34
    · subst hq
      rw [spr_open] at hd
      simp only [List.getElem?_cons_zero, Option.some.injEq] at hd
      subst hd; decide
    · by_cases hm : markB c = true
      · rw [spr_mark hm] at hd
        simp only [List.getElem?_cons_zero, Option.some.injEq] at hd
        subst hd; decide
      · rw [spr_out hq (by simpa using hm)] at hd
        simp only [List.getElem?_cons_zero, Option.some.injEq] at hd
        exact h d (by simp only [List.getElem?_cons_zero, hd])
theorem spr_plain : ∀ {W : List UInt8}, (∀ c ∈ W, c ≠ 34 ∧ markB c = false) → ∀ X, spr false (W ++ X) = W ++ spr false X
  | [], _, X => rfl
  | c :: W, h, X => by
    obtain ⟨h1, h2⟩ := h c (List.mem_cons_self ..)
    rw [List.cons_append, spr_out h1 h2, spr_plain (fun d hd => h d (List.mem_cons_of_mem _ hd)) X]; rfl
theorem aft_plain {c : UInt8} (h : c ≠ 34 ∧ markB c = false) (r : List UInt8) : c :: aft c r = spr false (c :: r) := by
  unfold aft
  rw [if_neg (by rw [h.2]; decide), if_neg h.1, spr_out h.1 h.2]
theorem wordE_shape : ∀ {t : List UInt8} {p q : Nat} {u : Unit}, wordE s t p = .ok u q → s.drop p = t ++ s.drop q ∧ q = p + t.length
  | [], p, q, u, h => by unfold wordE at h; simp only [Rs.ok.injEq] at h; rw [h.2]; simp
  | x :: t, p, q, u, h => by
    unfold wordE at h
    obtain ⟨c, r, h1, h⟩ := Rs.bind_ok h
    obtain ⟨y, r2, h2, h3, h4⟩ := byteE_head h1
    split at h
    · rename_i he
      obtain ⟨a, b⟩ := wordE_shape h
      have hy : y = x := UInt8.toNat_inj.1 (by rw [h3, he])
      refine ⟨?_, by rw [List.length_cons]; omega⟩
      rw [h2, ← drop_one h2, a, hy]; rfl
    · cases h

/-! ### a literal's bytes are no marks -/
def LitC (c : UInt8) : Prop := c ∈ ([48, 49, 50, 51, 52, 53, 54, 55, 56, 57, 46, 101, 69, 43, 45] : List UInt8)
theorem LitC.plain {c : UInt8} (h : LitC c) : c ≠ 34 ∧ markB c = false := by
  unfold LitC at h
  simp only [List.mem_cons, List.not_mem_nil, or_false] at h
  rcases h with rfl | rfl | rfl | rfl | rfl | rfl | rfl | rfl | rfl | rfl | rfl | rfl | rfl | rfl | rfl <;> decide
theorem hasAt_lit {b t : List UInt8} {p : Nat} (hb : ∀ x ∈ b, LitC x) (h : hasAt b t p = true) : ∀ x, t[p]? = some x → LitC x := fun x hx => by
  unfold hasAt at h
  rw [hx] at h
  exact hb x (List.contains_iff_mem.1 h)
theorem digit_lit : ∀ x ∈ digitL, LitC x := by unfold LitC; decide
theorem skip_lit {t : List UInt8} {p j : Nat} (h1 : p ≤ j) (h2 : j < skipE digitL t p) : ∀ x, t[j]? = some x → LitC x := fun x hx => by
  unfold skipE at h2
  obtain ⟨i, rfl⟩ : ∃ i, j = p + i := ⟨j - p, by omega⟩
  have h3 : i < ((t.drop p).takeWhile digitL.contains).length := by omega
  have h4 : (t.drop p)[i]? = some x := by rw [List.getElem?_drop]; exact hx
  have h5 : ∀ (l : List UInt8) (i : Nat), i < (l.takeWhile digitL.contains).length → ∀ x, l[i]? = some x → digitL.contains x = true := by
    intro l
    induction l with
    | nil => intro i hi; simp at hi
    | cons c l ih =>
      intro i hi x hx
      by_cases hc : digitL.contains c = true
      · rw [List.takeWhile_cons_of_pos hc] at hi
        cases i with
        | zero => simp only [List.getElem?_cons_zero, Option.some.injEq] at hx; subst hx; exact hc
        | succ i => exact ih i (by simpa using hi) x (by simpa using hx)
      · rw [List.takeWhile_cons_of_neg hc] at hi; simp at hi
  exact digit_lit x (List.contains_iff_mem.1 (h5 _ i h3 x h4))
theorem lit_all {t : List UInt8} (h : isLitB t = true) : ∀ c ∈ t, LitC c := by
  unfold isLitB at h
  simp only [Bool.and_eq_true, decide_eq_true_eq] at h
  obtain ⟨⟨h1, h2⟩, -⟩ := h
  obtain ⟨p1, p2, p3, p4⟩ := litE_parts h1
  rw [p4] at h2
  have all : ∀ j, j < t.length → ∀ x, t[j]? = some x → LitC x := fun j hj x hx => by
    by_cases ja : j < litA t
    · have : litA t = 1 ∧ hasAt [45] t 0 = true := by
        unfold litA at ja ⊢
        split
        · rename_i h; exact ⟨rfl, h⟩
        · rename_i h; rw [if_neg h] at ja; omega
      have hj0 : j = 0 := by omega
      subst hj0
      exact hasAt_lit (by unfold LitC; decide) this.2 x hx
    by_cases ji : j < litInt t (litA t)
    · unfold litInt at ji
      by_cases hz : (decide (litA t < skipE digitL t (litA t)) && hasAt [48] t (litA t)) = true
      · rw [if_pos hz] at ji
        simp only [Bool.and_eq_true, decide_eq_true_eq] at hz
        have hja : j = litA t := by omega
        rw [hja] at hx
        exact hasAt_lit (by unfold LitC; decide) hz.2 x hx
      · rw [if_neg hz] at ji
        exact skip_lit (by omega) ji x hx
    obtain ⟨d, hd⟩ : ∃ d, d = litInt t (litA t) := ⟨_, rfl⟩
    rw [← hd] at ji p2 p3 h2
    by_cases jf : j < (litFrac t d).1
    · unfold litFrac at jf
      by_cases hz : hasAt [46] t d = true
      · rw [if_pos hz] at jf
        by_cases hjd : j = d
        · rw [hjd] at hx; exact hasAt_lit (by unfold LitC; decide) hz x hx
        · exact skip_lit (p := d + 1) (by omega) jf x hx
      · rw [if_neg hz] at jf; simp only at jf; omega
    obtain ⟨f, hf⟩ : ∃ f, f = (litFrac t d).1 := ⟨_, rfl⟩
    rw [← hf] at jf p3 h2
    have je : j < (litExp t f).1 := by omega
    unfold litExp at je
    by_cases hz : hasAt [101, 69] t f = true
    · rw [if_pos hz] at je
      simp only at je
      by_cases hjd : j = f
      · rw [hjd] at hx; exact hasAt_lit (by unfold LitC; decide) hz x hx
      · by_cases hje : j < expAt t f
        · unfold expAt at hje
          by_cases hs : hasAt [43, 45] t (f + 1) = true
          · rw [if_pos hs] at hje
            have : j = f + 1 := by omega
            rw [this] at hx
            exact hasAt_lit (by unfold LitC; decide) hs x hx
          · rw [if_neg hs] at hje; omega
        · exact skip_lit (by omega) je x hx
    · rw [if_neg hz] at je; simp only at je; omega
  intro c hc
  obtain ⟨j, hj, rfl⟩ := List.getElem_of_mem hc
  exact all j hj _ (List.getElem?_eq_getElem hj)
/-- a number is read among blanks as it is read -/
theorem literalE_spread {q q' r : Nat} {c : UInt8} {t r0 : List UInt8} (hq : q ≤ s.length) (h0 : s.drop q = c :: r0) (h0' : s'.drop q' = c :: aft c r0) (hl : longB s q = false) (hE : Ends (s.drop r)) (h : literalE s q = .ok t r) : literalE s' q' = .ok t (q' + t.length) ∧ longB s' q' = false ∧ s'.drop (q' + t.length) = spr false (s.drop r) := by
  obtain ⟨l1, l2⟩ := literalE_is hl hq h
  have ht : s.drop q = t ++ s.drop r := by
    unfold literalE at h
    split at h
    · simp only [Rs.ok.injEq] at h
      rw [← l2]
      have e : t = (s.drop q).take t.length := by
        conv => rhs; rw [show t.length = (litE s q).1 - q by omega]
        exact h.1.symm
      conv => lhs; rw [← List.take_append_drop t.length (s.drop q)]
      rw [← e, List.drop_drop]
    · cases h
  have hpl : ∀ x ∈ t, x ≠ 34 ∧ markB x = false := fun x hx => (lit_all l1 x hx).plain
  have hne : t ≠ [] := by
    unfold isLitB at l1
    simp only [Bool.and_eq_true] at l1
    obtain ⟨c2, r2, e, -⟩ := lit_head l1.1.1
    rw [e]; simp
  have hc : c ≠ 34 ∧ markB c = false := by
    cases ht2 : t with
    | nil => exact absurd ht2 hne
    | cons x u =>
      have : c = x := by rw [h0, ht2] at ht; simp only [List.cons_append, List.cons.injEq] at ht; exact ht.1
      rw [this]; exact hpl x (by rw [ht2]; exact List.mem_cons_self ..)
  have hs' : s'.drop q' = t ++ spr false (s.drop r) := by
    rw [h0', aft_plain hc, ← h0, ht, spr_plain hpl]
  obtain ⟨a1, a2⟩ := literalE_at hE.spread hs' l1
  exact ⟨a1, a2, drop_add hs'⟩

theorem word_plain {w : List UInt8} (h : w = [110, 117, 108, 108] ∨ w = [102, 97, 108, 115, 101] ∨ w = [116, 114, 117, 101]) : ∀ c ∈ w, c ≠ 34 ∧ markB c = false := by
  rcases h with rfl | rfl | rfl <;> decide
theorem wordE_spread {q q' r : Nat} {c : UInt8} {w r0 : List UInt8} {u : Unit} (hw : w = [110, 117, 108, 108] ∨ w = [102, 97, 108, 115, 101] ∨ w = [116, 114, 117, 101]) (h0 : s.drop q = c :: r0) (h0' : s'.drop q' = c :: aft c r0) (h : wordE s w q = .ok u r) : wordE s' w q' = .ok () (q' + w.length) ∧ s'.drop (q' + w.length) = spr false (s.drop r) := by
  obtain ⟨a, b⟩ := wordE_shape h
  have hpl := word_plain hw
  have hc : c ≠ 34 ∧ markB c = false := by
    cases hw2 : w with
    | nil => rcases hw with e | e | e <;> rw [e] at hw2 <;> cases hw2
    | cons x t =>
      have : c = x := by rw [h0, hw2] at a; simp only [List.cons_append, List.cons.injEq] at a; exact a.1
      rw [this]; exact hpl x (by rw [hw2]; exact List.mem_cons_self ..)
  have hs' : s'.drop q' = w ++ spr false (s.drop r) := by rw [h0', aft_plain hc, ← h0, a, spr_plain hpl]
  exact ⟨wordE_drop hs', drop_add hs'⟩

theorem limE_rel {q q' k d a t : Nat} {u : Unit} (h : limE s q k d a = .ok u t) (hl : k = 3 → longB s' q' = false) : limE s' q' k d a = .ok () q' := by
  obtain ⟨-, h1, h2⟩ := limE_at h
  exact limE_is hl h2 h1

mutual
theorem valueE_spread (hl : s.length ≤ s'.length) : ∀ (n n' p p' d a : Nat) {x : JV} {q : Nat}, n ≤ n' → valueE s n p d a = .ok x q → Ends (s.drop q) → Rel s p s' p' → ∃ q', valueE s' n' p' d a = .ok x q' ∧ Rel s q s' q'
  | 0, n', p, p', d, a, x, q, hn, h, hE, hR => by unfold valueE at h; cases h
  | n + 1, 0, p, p', d, a, x, q, hn, h, hE, hR => absurd hn (by omega)
  | n + 1, n' + 1, p, p', d, a, x, q, hn, h, hE, hR => by
    unfold valueE at h ⊢
    obtain ⟨k, q1, h1, ha⟩ := Rs.bind_ok h
    clear h
    obtain ⟨-, hql, -⟩ := kindE_at h1
    obtain ⟨q1', c, r0, k1, k2, k3, k4⟩ := kindE_rel hR h1
    obtain ⟨u, q2, h2, h⟩ := Rs.bind_ok ha
    clear ha
    have hl2 := limE_long h2
    obtain ⟨hqe, -, -⟩ := limE_at h2
    subst hqe
    rw [k1]
    simp only [Rs.bind]
    by_cases e0 : k = 0
    · rw [if_pos e0] at h
      obtain ⟨y, r, h3, h4⟩ := Rs.bind_ok h
      simp only [Rs.ok.injEq] at h4
      obtain ⟨a1, a2⟩ := wordE_spread (Or.inl rfl) k2 k3 h3
      rw [limE_rel h2 (by omega)]
      simp only
      rw [if_pos e0, a1]
      exact ⟨_, by rw [← h4.1], by rw [← h4.2]; exact Rel.plain a2⟩
    rw [if_neg e0] at h
    by_cases e1 : k = 1
    · rw [if_pos e1] at h
      obtain ⟨y, r, h3, h4⟩ := Rs.bind_ok h
      simp only [Rs.ok.injEq] at h4
      obtain ⟨a1, a2⟩ := wordE_spread (Or.inr (Or.inl rfl)) k2 k3 h3
      rw [limE_rel h2 (by omega)]
      simp only
      rw [if_neg e0, if_pos e1, a1]
      exact ⟨_, by rw [← h4.1], by rw [← h4.2]; exact Rel.plain a2⟩
    rw [if_neg e1] at h
    by_cases e2 : k = 2
    · rw [if_pos e2] at h
      obtain ⟨y, r, h3, h4⟩ := Rs.bind_ok h
      simp only [Rs.ok.injEq] at h4
      obtain ⟨a1, a2⟩ := wordE_spread (Or.inr (Or.inr rfl)) k2 k3 h3
      rw [limE_rel h2 (by omega)]
      simp only
      rw [if_neg e0, if_neg e1, if_pos e2, a1]
      exact ⟨_, by rw [← h4.1], by rw [← h4.2]; exact Rel.plain a2⟩
    rw [if_neg e2] at h
    by_cases e3 : k = 3
    · rw [if_pos e3] at h
      obtain ⟨y, r, h3, h4⟩ := Rs.bind_ok h
      simp only [Rs.ok.injEq] at h4
      obtain ⟨a1, a2, a3⟩ := literalE_spread (Nat.le_of_lt hql) k2 k3 (hl2 e3) (by rw [h4.2]; exact hE) h3
      rw [limE_rel h2 (fun _ => a2)]
      simp only
      rw [if_neg e0, if_neg e1, if_neg e2, if_pos e3, a1]
      exact ⟨_, by rw [← h4.1], by rw [← h4.2]; exact Rel.plain a3⟩
    rw [if_neg e3] at h
    rw [limE_rel h2 (by omega)]
    simp only
    by_cases e4 : k = 4
    · rw [if_pos e4] at h
      obtain ⟨y, r, h3, h4⟩ := Rs.bind_ok h
      simp only [Rs.ok.injEq] at h4
      have hc : c = 34 := by
        rw [e4] at k4
        unfold kindOf at k4
        repeat' split at k4
        all_goals first | (rename_i hc; exact UInt8.toNat_inj.1 hc) | (simp only [Rs.ok.injEq] at k4; omega) | cases k4
      subst hc
      obtain ⟨a1, a2⟩ := quotedE_spread hl k2 (by rw [k3]; rfl) h3
      rw [if_neg e0, if_neg e1, if_neg e2, if_neg e3, if_pos e4, a1]
      exact ⟨_, by rw [← h4.1], by rw [← h4.2]; exact Rel.plain a2⟩
    rw [if_neg e4] at h
    by_cases e5 : k = 5
    · rw [if_pos e5] at h
      obtain ⟨l, t, h3, h4⟩ := Rs.bind_ok h
      simp only [Rs.ok.injEq] at h4
      obtain ⟨b, r, h5, h6⟩ := Rs.bind_ok h3
      have hc : c = 91 := by
        rw [e5] at k4
        unfold kindOf at k4
        repeat' split at k4
        all_goals first | (rename_i hc; exact UInt8.toNat_inj.1 hc) | (simp only [Rs.ok.injEq] at k4; omega) | cases k4
      subst hc
      obtain ⟨r', b1, b2, -⟩ := endsE_rel (Rel.mark (by decide) k2 k3) (Or.inl rfl) h5
      rw [if_neg e0, if_neg e1, if_neg e2, if_neg e3, if_neg e4, if_pos e5, b1]
      simp only
      by_cases hb : b = true
      · rw [if_pos hb] at h6 ⊢
        simp only [Rs.ok.injEq] at h6
        rw [← h4.1, ← h4.2, ← h6.1, ← h6.2]
        exact ⟨_, rfl, b2⟩
      · rw [if_neg hb] at h6 ⊢
        obtain ⟨q', g1, g2⟩ := elemE_spread hl n n' r r' (d + 1) [] (by omega) h6 b2
        rw [g1]
        exact ⟨_, by rw [← h4.1], by rw [← h4.2]; exact g2⟩
    rw [if_neg e5] at h
    · obtain ⟨m, t, h3, h4⟩ := Rs.bind_ok h
      simp only [Rs.ok.injEq] at h4
      obtain ⟨b, r, h5, h6⟩ := Rs.bind_ok h3
      have e6 : k = 6 := by have := (kindE_at h1).2.2; omega
      have hc : c = 123 := by
        rw [e6] at k4
        unfold kindOf at k4
        repeat' split at k4
        all_goals first | (rename_i hc; exact UInt8.toNat_inj.1 hc) | (simp only [Rs.ok.injEq] at k4; omega) | cases k4
      subst hc
      obtain ⟨r', b1, b2, -⟩ := endsE_rel (Rel.mark (by decide) k2 k3) (Or.inr rfl) h5
      rw [if_neg e0, if_neg e1, if_neg e2, if_neg e3, if_neg e4, if_neg e5, b1]
      simp only
      by_cases hb : b = true
      · rw [if_pos hb] at h6 ⊢
        simp only [Rs.ok.injEq] at h6
        rw [← h4.1, ← h4.2, ← h6.1, ← h6.2]
        exact ⟨_, rfl, b2⟩
      · rw [if_neg hb] at h6 ⊢
        obtain ⟨q', g1, g2⟩ := membE_spread hl n n' r r' (d + 1) [] [] (by omega) h6 b2
        rw [g1]
        exact ⟨_, by rw [← h4.1], by rw [← h4.2]; exact g2⟩
theorem elemE_spread (hl : s.length ≤ s'.length) : ∀ (n n' p p' d : Nat) (acc : List JV) {l : List JV} {q : Nat}, n ≤ n' → elemE s n p d acc = .ok l q → Rel s p s' p' → ∃ q', elemE s' n' p' d acc = .ok l q' ∧ Rel s q s' q'
  | 0, n', p, p', d, acc, l, q, hn, h, hR => by unfold elemE at h; cases h
  | n + 1, 0, p, p', d, acc, l, q, hn, h, hR => absurd hn (by omega)
  | n + 1, n' + 1, p, p', d, acc, l, q, hn, h, hR => by
    unfold elemE at h ⊢
    obtain ⟨x, q1, h1, h2⟩ := Rs.bind_ok h
    clear h
    obtain ⟨b, r, h3, h4⟩ := Rs.bind_ok h2
    clear h2
    -- what stands behind the value
    have hE : Ends (s.drop q1) := by
      unfold endsE at h3
      obtain ⟨y, q2, h5, h3⟩ := Rs.bind_ok h3
      obtain ⟨z, t, h6, h7, h8⟩ := byteE_head h5
      split at h3
      · rename_i he
        exact ends_skip h6 (ends_of (by rw [h7]; exact he) (Or.inl rfl))
      · simp only [Rs.ok.injEq] at h3
        rw [if_neg (by rw [← h3.1]; decide)] at h4
        obtain ⟨u, t2, h9, -⟩ := Rs.bind_ok h4
        unfold markE at h9
        obtain ⟨y2, q3, g1, g2⟩ := Rs.bind_ok h9
        obtain ⟨z2, t3, g3, g4, g5⟩ := byteE_head g1
        split at g2
        · rename_i he
          have hsk : skipE blankL s r = r := by
            rw [← h3.2, h8]
            have hb := head_noblank (show (s.drop q1).dropWhile blankL.contains = z :: t by rw [← skip_drop]; exact h6)
            exact skip_none h6 hb
          rw [hsk, ← h3.2, h8] at g3
          exact ends_skip g3 (ends_of (by rw [g4]; exact he) (Or.inr (Or.inr rfl)))
        · cases g2
    obtain ⟨q1', a1, a2⟩ := valueE_spread hl n n' p p' d acc.length (by omega) h1 hE hR
    obtain ⟨r', b1, b2, -⟩ := endsE_rel a2 (Or.inl rfl) h3
    rw [a1]
    simp only [Rs.bind]
    rw [b1]
    simp only
    by_cases hb : b = true
    · rw [if_pos hb] at h4 ⊢
      simp only [Rs.ok.injEq] at h4
      rw [← h4.1, ← h4.2]
      exact ⟨_, rfl, b2⟩
    · rw [if_neg hb] at h4 ⊢
      obtain ⟨u, t, h5, h6⟩ := Rs.bind_ok h4
      obtain ⟨t', c1, c2, -⟩ := markE_rel b2 (Or.inl rfl) h5
      rw [c1]
      simp only
      exact elemE_spread hl n n' t t' d _ (by omega) h6 c2
theorem membE_spread (hl : s.length ≤ s'.length) : ∀ (n n' p p' d : Nat) (ns : List (List UInt8)) (acc : List JV) {m : List (List UInt8) × List JV} {q : Nat}, n ≤ n' → membE s n p d ns acc = .ok m q → Rel s p s' p' → ∃ q', membE s' n' p' d ns acc = .ok m q' ∧ Rel s q s' q'
  | 0, n', p, p', d, ns, acc, m, q, hn, h, hR => by unfold membE at h; cases h
  | n + 1, 0, p, p', d, ns, acc, m, q, hn, h, hR => absurd hn (by omega)
  | n + 1, n' + 1, p, p', d, ns, acc, m, q, hn, h, hR => by
    unfold membE at h ⊢
    obtain ⟨nm, q1, h1, h2⟩ := Rs.bind_ok h
    clear h
    obtain ⟨u0, q2, h3, h4⟩ := Rs.bind_ok h2
    clear h2
    obtain ⟨x, q3, h5, h6⟩ := Rs.bind_ok h4
    clear h4
    obtain ⟨b, r, h7, h8⟩ := Rs.bind_ok h6
    clear h6
    have hE : Ends (s.drop q3) := by
      unfold endsE at h7
      obtain ⟨y, q4, g5, h7⟩ := Rs.bind_ok h7
      obtain ⟨z, t, g6, g7, g8⟩ := byteE_head g5
      split at h7
      · rename_i he
        exact ends_skip g6 (ends_of (by rw [g7]; exact he) (Or.inr (Or.inl rfl)))
      · simp only [Rs.ok.injEq] at h7
        rw [if_neg (by rw [← h7.1]; decide)] at h8
        obtain ⟨u, t2, h9, -⟩ := Rs.bind_ok h8
        unfold markE at h9
        obtain ⟨y2, q5, g1, g2⟩ := Rs.bind_ok h9
        obtain ⟨z2, t3, g3, g4, g9⟩ := byteE_head g1
        split at g2
        · rename_i he
          have hsk : skipE blankL s r = r := by
            rw [← h7.2, g8]
            have hb := head_noblank (show (s.drop q3).dropWhile blankL.contains = z :: t by rw [← skip_drop]; exact g6)
            exact skip_none g6 hb
          rw [hsk, ← h7.2, g8] at g3
          exact ends_skip g3 (ends_of (by rw [g4]; exact he) (Or.inr (Or.inr rfl)))
        · cases g2
    obtain ⟨q1', a1, a2⟩ := nameE_rel hl hR h1
    obtain ⟨q2', b1, b2, -⟩ := markE_rel a2 (Or.inr rfl) h3
    obtain ⟨q3', c1, c2⟩ := valueE_spread hl n n' q2 q2' d 0 (by omega) h5 hE b2
    obtain ⟨r', d1, d2, -⟩ := endsE_rel c2 (Or.inr rfl) h7
    rw [a1]
    simp only [Rs.bind]
    rw [b1]
    simp only
    rw [c1]
    simp only
    rw [d1]
    simp only
    by_cases hb : b = true
    · rw [if_pos hb] at h8 ⊢
      simp only [Rs.ok.injEq] at h8
      rw [← h8.1, ← h8.2]
      exact ⟨_, rfl, d2⟩
    · rw [if_neg hb] at h8 ⊢
      obtain ⟨u, t, h9, h10⟩ := Rs.bind_ok h8
      obtain ⟨t', g1, g2, -⟩ := markE_rel d2 (Or.inl rfl) h9
      rw [g1]
      simp only
      exact membE_spread hl n n' t t' d _ _ (by omega) h10 g2
end
/-- a text with blanks round its marks is read as the same value -/
theorem parse_spread {x : JV} {q : Nat} (h : parseE s = .ok x q) : ∃ q', parseE (spr false s) = .ok x q' := by
  unfold parseE at h ⊢
  obtain ⟨y, r, h1, h2⟩ := Rs.bind_ok h
  split at h2
  · cases h2
  · rename_i hs
    simp only [Rs.ok.injEq] at h2
    have hdr : s.drop (skipE blankL s r) = [] := List.drop_eq_nil_of_le (by omega)
    have hlen := (spr_len false s).1
    obtain ⟨q', a1, a2⟩ := valueE_spread (s' := spr false s) hlen _ (2 * (spr false s).length + 10) 0 0 0 0 (by omega) h1 (ends_end hdr) (Rel.plain (by simp))
    rw [a1]
    simp only [Rs.bind]
    have he := a2.end_ hdr
    have hge : (spr false s).length ≤ skipE blankL (spr false s) q' := by
      rcases Nat.lt_or_ge (skipE blankL (spr false s) q') (spr false s).length with k | k
      · exact absurd he (drop_ne k)
      · exact k
    rw [if_neg (by omega)]
    exact ⟨q', by rw [h2.1]⟩
end Go.Proofs.YtdhkpkojnokjdaaDoor
