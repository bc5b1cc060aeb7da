/-
  Whole numbers by their digits: bounds on how many, what stands at the top (nothing of the program).
-/
import Derived.Test.YtagilpgplcphpaaBPlain3
namespace Go.Proofs.Ytagilpgplcphpaa

/-- of at most so many digits -/
def Lim (n : Int) (K : Nat) : Prop := n.natAbs < 10000 ^ K
/-- the digits of a number without sign -/
structure Nm (l : List Nat) (n : Nat) : Prop where
  dg : Dg l
  top : Top l
  eq : bval l = n

theorem Top.nil : Top [] := fun d h => by simp at h
theorem Top.of_le {l : List Nat} (hd : Dg l) (h : 0 < l.length → 10000 ^ (l.length - 1) ≤ bval l) : Top l := fun d hl => by
  intro e
  subst e
  have hn : 0 < l.length := by
    rcases Nat.eq_zero_or_pos l.length with c | c
    · rw [List.length_eq_zero_iff.1 c] at hl; simp at hl
    · exact c
  have h1 := h hn
  rw [List.getLast?_eq_getElem?, List.getElem?_eq_getElem (by omega)] at hl
  have e2 := bval_take_drop l (l.length - 1) (by omega)
  rw [bval_drop l (by omega), bval_drop_end l (by omega)] at e2
  have h2 := bval_lt (hd.take (l.length - 1))
  rw [List.length_take, Nat.min_eq_left (by omega)] at h2
  simp only [Option.some.injEq] at hl
  rw [hl] at e2
  simp at e2
  omega

theorem Nm.len {l : List Nat} {n K : Nat} (h : Nm l n) (hk : n < 10000 ^ K) : l.length ≤ K := by
  rcases Nat.eq_zero_or_pos l.length with c | c
  · omega
  · have h1 := bval_top h.top c
    rw [h.eq] at h1
    have := (Nat.pow_lt_pow_iff_right (by decide)).1 (Nat.lt_of_le_of_lt h1 hk)
    omega

theorem Nm.nil : Nm [] 0 := ⟨Dg.nil, Top.nil, rfl⟩
theorem Nm.pos {l : List Nat} {n : Nat} (h : Nm l n) (hl : l ≠ []) : 0 < n := by
  have hn : 0 < l.length := List.length_pos_iff.2 hl
  have := bval_top h.top hn
  rw [h.eq] at this
  exact Nat.lt_of_lt_of_le (Nat.pow_pos (by decide)) this
theorem Nm.zero {l : List Nat} (h : Nm l 0) : l = [] := by
  rcases List.eq_nil_or_concat l with e | ⟨a, b, e⟩
  · exact e
  · have := h.pos (by rw [e]; simp); omega

theorem Lim.mono {n : Int} {K M : Nat} (h : Lim n K) (hk : K ≤ M) : Lim n M := Nat.lt_of_lt_of_le h (Nat.pow_le_pow_right (by decide) hk)
theorem Lim.neg {n : Int} {K : Nat} (h : Lim n K) : Lim (-n) K := by unfold Lim at *; simpa using h
theorem Lim.add {n m : Int} {K : Nat} (h : Lim n K) (k : Lim m K) : Lim (n + m) (K + 1) := by
  unfold Lim at *
  rw [Nat.pow_succ]; omega
theorem Lim.mul {n m : Int} {K M : Nat} (h : Lim n K) (k : Lim m M) : Lim (n * m) (K + M) := by
  unfold Lim at *
  rw [Int.natAbs_mul, Nat.pow_add]
  exact Nat.mul_lt_mul_of_lt_of_lt h k
theorem Nm.len_sum {l : List Nat} {n m : Int} {K M : Nat} (g : Nm l (n.natAbs + m.natAbs)) (h : Lim n K) (k : Lim m K) (hM : K + 1 ≤ M) : l.length ≤ M := by
  refine Nat.le_trans (g.len (K := K + 1) ?_) hM
  unfold Lim at *
  rw [Nat.pow_succ]; omega
theorem Nm.len_lt {l : List Nat} {n M K : Nat} (g : Nm l n) (h : n < M) (k : Lim (M : Int) K) : l.length ≤ K :=
  g.len (Nat.lt_trans h (by unfold Lim at k; simpa using k))
theorem Lim.of {n : Int} {K : Nat} (h : n.natAbs < 10000 ^ K) : Lim n K := h

/-- what comparing answers -/
def cmpN (n m : Nat) : Int := if n < m then -1 else if m < n then 1 else 0
def cmpI (n m : Int) : Int := if n < m then -1 else if m < n then 1 else 0
theorem cmpN_lt {n m : Nat} (h : n < m) : cmpN n m = -1 := if_pos h
theorem cmpN_gt {n m : Nat} (h : m < n) : cmpN n m = 1 := by unfold cmpN; rw [if_neg (by omega), if_pos h]
theorem cmpN_eq (n : Nat) : cmpN n n = 0 := by unfold cmpN; rw [if_neg (by omega), if_neg (by omega)]
theorem cmpI_pos {n m : Int} (hn : ¬ n < 0) (hm : ¬ m < 0) : cmpI n m = cmpN n.natAbs m.natAbs := by unfold cmpI cmpN; split <;> split <;> (try split) <;> (try split) <;> omega
theorem cmpI_neg {n m : Int} (hn : n < 0) (hm : m < 0) : cmpI n m = -cmpN n.natAbs m.natAbs := by unfold cmpI cmpN; split <;> split <;> (try split) <;> (try split) <;> omega
theorem cmpI_lt {n m : Int} (h : n < m) : cmpI n m = -1 := if_pos h
theorem cmpI_gt {n m : Int} (h : m < n) : cmpI n m = 1 := by unfold cmpI; rw [if_neg (by omega), if_pos h]

/-- lists compared from the top: what parts them -/
theorem cmp_shorter {l m : List Nat} (hl : Dg l) (tm : Top m) (h : l.length < m.length) : cmpN (bval l) (bval m) = -1 := cmpN_lt (bval_shorter hl tm h)
theorem cmp_longer {l m : List Nat} (tl : Top l) (hm : Dg m) (h : m.length < l.length) : cmpN (bval l) (bval m) = 1 := cmpN_gt (bval_shorter hm tl h)
theorem cmp_low {l m : List Nat} (hl : Dg l) (hm : Dg m) (hlen : l.length = m.length) {i : Nat} (hi : i < l.length) (hd : l.drop (i + 1) = m.drop (i + 1)) (h : l[i] < m[i]'(by omega)) : cmpN (bval l) (bval m) = -1 := cmpN_lt (bval_at hl hm hlen hi hd h)
theorem cmp_high {l m : List Nat} (hl : Dg l) (hm : Dg m) (hlen : l.length = m.length) {i : Nat} (hi : i < l.length) (hd : l.drop (i + 1) = m.drop (i + 1)) (h : m[i]'(by omega) < l[i]) : cmpN (bval l) (bval m) = 1 := cmpN_gt (bval_at hm hl hlen.symm (by omega) hd.symm h)
theorem drop_step {l m : List Nat} {i : Nat} (h1 : i < l.length) (h2 : i < m.length) (hd : l.drop (i + 1) = m.drop (i + 1)) (h : l[i] = m[i]) : l.drop i = m.drop i := by
  rw [List.drop_eq_getElem_cons h1, List.drop_eq_getElem_cons h2, hd, h]

/-- where a sum of digits may stand: no 0 comes to the top -/
def Rises (la lb sum i : Nat) : Prop := i ≤ max la lb ∨ (i = max la lb + 1 ∧ 10000 ^ (max la lb) ≤ sum)

theorem Adding.rises {a b out : List Nat} {i c : Nat} (da : Dg a) (db : Dg b) (h : Adding a b out i c) (k : Rises a.length b.length (bval a + bval b) i) (go : i < a.length ∨ i < b.length ∨ 0 < c) : Rises a.length b.length (bval a + bval b) (i + 1) := by
  by_cases e : i < max a.length b.length
  · exact Or.inl (by omega)
  · have hc : 0 < c := by omega
    have eq := h.eq
    rw [bval_drop_end a (by omega), bval_drop_end b (by omega)] at eq
    have hb := bval_lt h.dg
    rw [h.len] at hb
    rcases k with k | ⟨k, -⟩
    · obtain rfl : i = max a.length b.length := by omega
      refine Or.inr ⟨rfl, ?_⟩
      have : 10000 ^ max a.length b.length * 1 ≤ 10000 ^ max a.length b.length * c := Nat.mul_le_mul_left _ hc
      rw [← eq]; simp; omega
    · exfalso
      -- the sum is below 2 * 10000 ^ max, so nothing is carried there
      have h1 : 10000 ^ i * 1 ≤ 10000 ^ i * c := Nat.mul_le_mul_left _ hc
      have h2 := bval_lt da
      have h3 := bval_lt db
      have h4 : 10000 ^ a.length ≤ 10000 ^ max a.length b.length := Nat.pow_le_pow_right (by decide) (by omega)
      have h5 : 10000 ^ b.length ≤ 10000 ^ max a.length b.length := Nat.pow_le_pow_right (by decide) (by omega)
      rw [k, Nat.pow_succ] at h1 eq
      simp at eq
      omega

theorem Adding.nm {a b out : List Nat} {i n m : Nat} (ha : Nm a n) (hb : Nm b m) (h : Adding a b out i 0) (k : Rises a.length b.length (bval a + bval b) i) (la : a.length ≤ i) (lb : b.length ≤ i) : Nm out (n + m) := by
  have e := h.done la lb
  refine ⟨h.dg, Top.of_le h.dg fun hl => ?_, by rw [e, ha.eq, hb.eq]⟩
  rw [h.len] at hl ⊢
  rw [e]
  rcases k with k | ⟨k1, k2⟩
  · by_cases c : a.length = i
    · have := bval_top ha.top (by omega)
      rw [c] at this; omega
    · have c2 : b.length = i := by omega
      have := bval_top hb.top (by omega)
      rw [c2] at this; omega
  · rw [k1]; simpa using k2


/-- the digit at i, 0 beyond -/
def dat (l : List Nat) (i : Nat) : Nat := l.getD i 0
theorem dat_in {l : List Nat} {i : Nat} (h : i < l.length) : dat l i = l[i] := by unfold dat; simp [h]
theorem dat_out {l : List Nat} {i : Nat} (h : l.length ≤ i) : dat l i = 0 := by unfold dat; simp [h]
theorem dat_lt {l : List Nat} (h : Dg l) (i : Nat) : dat l i < 10000 := by
  rcases Nat.lt_or_ge i l.length with c | c
  · rw [dat_in c]; exact h.at_ c
  · rw [dat_out c]; decide
theorem dat_drop (l : List Nat) (i : Nat) : bval (l.drop i) = dat l i + 10000 * bval (l.drop (i + 1)) := by
  rcases Nat.lt_or_ge i l.length with c | c
  · rw [dat_in c]; exact bval_drop l c
  · rw [dat_out c, bval_drop_end l c, bval_drop_end l (by omega)]

theorem add_step {a b l : List Nat} {k z s : Nat} (da : Dg a) (db : Dg b) (h : Adding a b l k z) (hr : Rises a.length b.length (bval a + bval b) k) (go : k < a.length ∨ k < b.length ∨ 0 < z) (hs : s = z + dat a k + dat b k) :
    Adding a b (l ++ [s % 10000]) (k + 1) (s / 10000) ∧ Rises a.length b.length (bval a + bval b) (k + 1) := by
  subst hs
  exact ⟨h.next _ _ (dat_drop a k) (dat_drop b k) (dat_lt da k) (dat_lt db k), h.rises da db hr go⟩

theorem Lim.two {i K : Nat} (h : i ≤ K) : Lim ((2 : Int) ^ i) (K + 1) := by
  unfold Lim
  rw [Int.natAbs_pow]
  exact Nat.lt_of_le_of_lt (Nat.pow_le_pow_left (by decide : (2 : Int).natAbs ≤ 10000) i) (Nat.pow_lt_pow_right (by decide) (by omega))

/-- what the making of a number keeps: the digits l, and m to come -/
structure Making (N : Nat) (l : List Nat) (m : Nat) : Prop where
  dg : Dg l
  len : l.length ≤ 5
  rest : m < 10000 ^ (5 - l.length)
  eq : N = bval l + 10000 ^ l.length * m
theorem Making.start {N : Nat} (h : N < 100000000000000000000) : Making N [] N := ⟨Dg.nil, by decide, by simpa using h, by simp [bval]⟩
theorem Making.next {N m : Nat} {l : List Nat} (h : Making N l m) (hm : m ≠ 0) : Making N (l ++ [m % 10000]) (m / 10000) := by
  obtain ⟨h1, h2, h3, h4⟩ := h
  have hl : l.length < 5 := by
    rcases Nat.lt_or_ge l.length 5 with c | c
    · exact c
    · rw [show 5 - l.length = 0 by omega] at h3; simp at h3; omega
  refine ⟨h1.append (Dg.cons (Nat.mod_lt _ (by decide)) Dg.nil), by simp; omega, ?_, ?_⟩
  · rw [List.length_append, List.length_singleton, show 5 - l.length = (5 - (l.length + 1)) + 1 by omega, Nat.pow_succ] at *
    exact Nat.div_lt_of_lt_mul (by rw [Nat.mul_comm]; exact h3)
  · rw [bval_snoc, h4, List.length_append, List.length_singleton, Nat.pow_succ, Nat.mul_assoc, Nat.add_assoc, ← Nat.mul_add]
    have := Nat.div_add_mod m 10000
    congr 2; omega
theorem Making.done {N : Nat} {l : List Nat} (h : Making N l 0) : bval l = N := by rw [h.eq]; simp
end Go.Proofs.Ytagilpgplcphpaa
