/-
  Whole numbers as lists of digits in base 10000, the low one first (nothing of the program).
-/
namespace Go.Proofs.Ytagilpgplcphpaa

/-- what digits say -/
def bval : List Nat → Nat
  | [] => 0
  | d :: r => d + 10000 * bval r
/-- digits -/
def Dg (l : List Nat) : Prop := ∀ d ∈ l, d < 10000
/-- without 0 at the top -/
def Top (l : List Nat) : Prop := ∀ d, l.getLast? = some d → d ≠ 0

theorem Dg.nil : Dg [] := fun _ h => by cases h
theorem Dg.cons {d : Nat} {l : List Nat} (h : d < 10000) (k : Dg l) : Dg (d :: l) := fun x hx => by
  rcases List.mem_cons.1 hx with rfl | hx
  · exact h
  · exact k x hx
theorem Dg.tail {d : Nat} {l : List Nat} (k : Dg (d :: l)) : d < 10000 ∧ Dg l := ⟨k d (by simp), fun x hx => k x (by simp [hx])⟩
theorem Dg.append {l r : List Nat} (h : Dg l) (k : Dg r) : Dg (l ++ r) := fun x hx => by
  rcases List.mem_append.1 hx with hx | hx
  · exact h x hx
  · exact k x hx
theorem Dg.take {l : List Nat} (h : Dg l) (n : Nat) : Dg (l.take n) := fun x hx => h x (List.mem_of_mem_take hx)
theorem Dg.drop {l : List Nat} (h : Dg l) (n : Nat) : Dg (l.drop n) := fun x hx => h x (List.mem_of_mem_drop hx)
theorem Dg.at_ {l : List Nat} (h : Dg l) {i : Nat} (hi : i < l.length) : l[i] < 10000 := h _ (List.getElem_mem hi)

theorem bval_append (l r : List Nat) : bval (l ++ r) = bval l + 10000 ^ l.length * bval r := by
  induction l with
  | nil => simp [bval]
  | cons d l ih =>
    simp only [List.cons_append, bval, ih, List.length_cons, Nat.pow_succ]
    rw [Nat.mul_add, Nat.mul_comm (10000 ^ l.length) 10000, ← Nat.mul_assoc]; omega
theorem bval_snoc (l : List Nat) (d : Nat) : bval (l ++ [d]) = bval l + 10000 ^ l.length * d := by rw [bval_append]; simp [bval]

theorem bval_lt {l : List Nat} (h : Dg l) : bval l < 10000 ^ l.length := by
  induction l with
  | nil => simp [bval]
  | cons d l ih =>
    have := h.tail
    have k := ih this.2
    simp only [bval, List.length_cons, Nat.pow_succ]
    omega

theorem bval_take_drop (l : List Nat) (i : Nat) (hi : i ≤ l.length) : bval l = bval (l.take i) + 10000 ^ i * bval (l.drop i) := by
  have := bval_append (l.take i) (l.drop i)
  rwa [List.take_append_drop, List.length_take, Nat.min_eq_left hi] at this

theorem bval_drop (l : List Nat) {i : Nat} (hi : i < l.length) : bval (l.drop i) = l[i] + 10000 * bval (l.drop (i + 1)) := by
  rw [List.drop_eq_getElem_cons hi]; rfl
theorem bval_drop_end (l : List Nat) {i : Nat} (hi : l.length ≤ i) : bval (l.drop i) = 0 := by rw [List.drop_eq_nil_of_le hi]; rfl

theorem bval_top {l : List Nat} (h : Top l) (hl : 0 < l.length) : 10000 ^ (l.length - 1) ≤ bval l := by
  have e : l = l.dropLast ++ [l[l.length - 1]'(by omega)] := by
    have hne : l ≠ [] := fun e => by rw [e] at hl; simp at hl
    rw [← List.getLast_eq_getElem hne]; exact (List.dropLast_concat_getLast hne).symm
  have hd : l[l.length - 1]'(by omega) ≠ 0 := h _ (by rw [List.getLast?_eq_getElem?]; exact List.getElem?_eq_getElem (by omega))
  generalize l[l.length - 1]'(by omega) = d at *
  have hlen : l.dropLast.length = l.length - 1 := by simp
  have := bval_snoc l.dropLast d
  rw [← e, hlen] at this
  have k : 10000 ^ (l.length - 1) * 1 ≤ 10000 ^ (l.length - 1) * d := Nat.mul_le_mul_left _ (by omega)
  omega

theorem bval_shorter {l m : List Nat} (hl : Dg l) (tm : Top m) (h : l.length < m.length) : bval l < bval m := by
  have h1 := bval_lt hl
  have h2 := bval_top tm (by omega)
  have h3 : 10000 ^ l.length ≤ 10000 ^ (m.length - 1) := Nat.pow_le_pow_right (by decide) (by omega)
  omega

/-- the highest digit that parts two lists tells which is less -/
theorem bval_at {l m : List Nat} (hl : Dg l) (_hm : Dg m) (hlen : l.length = m.length) {i : Nat} (hi : i < l.length) (hd : l.drop (i + 1) = m.drop (i + 1)) (h : l[i] < m[i]'(by omega)) : bval l < bval m := by
  have e1 := bval_take_drop l i (by omega)
  have e2 := bval_take_drop m i (by omega)
  rw [bval_drop l hi, hd] at e1
  rw [bval_drop m (by omega)] at e2
  have k1 := bval_lt (hl.take i)
  rw [List.length_take, Nat.min_eq_left (by omega)] at k1
  generalize bval (m.drop (i + 1)) = X at *
  generalize l[i] = a at *
  generalize m[i]'(by omega) = b at *
  have k2 : 10000 ^ i * (a + 10000 * X + 1) ≤ 10000 ^ i * (b + 10000 * X) := Nat.mul_le_mul_left _ (by omega)
  rw [Nat.mul_add, Nat.mul_one] at k2
  omega

theorem bval_inj {l m : List Nat} (hl : Dg l) (hm : Dg m) (hlen : l.length = m.length) (h : bval l = bval m) : l = m := by
  induction l generalizing m with
  | nil => cases m with
    | nil => rfl
    | cons => simp at hlen
  | cons a l ih => cases m with
    | nil => simp at hlen
    | cons b m =>
      have h1 := hl.tail
      have h2 := hm.tail
      simp only [bval] at h
      have : a = b := by omega
      subst this
      rw [ih h1.2 h2.2 (by simpa using hlen) (by omega)]

/-- two lists without 0 at the top: which is less, by their lengths -/
theorem same_of_bval {l m : List Nat} (hl : Dg l) (hm : Dg m) (tl : Top l) (tm : Top m) (h : bval l = bval m) : l = m := by
  rcases Nat.lt_trichotomy l.length m.length with c | c | c
  · have := bval_shorter hl tm c; omega
  · exact bval_inj hl hm c h
  · have := bval_shorter hm tl c; omega

/-- what add keeps -/
structure Adding (a b out : List Nat) (i c : Nat) : Prop where
  len : out.length = i
  dg : Dg out
  carry : c ≤ 1
  eq : bval out + 10000 ^ i * (c + bval (a.drop i) + bval (b.drop i)) = bval a + bval b

theorem Adding.start (a b : List Nat) : Adding a b [] 0 0 := ⟨rfl, Dg.nil, by omega, by simp [bval]⟩

theorem Adding.next {a b out : List Nat} {i c : Nat} (h : Adding a b out i c) (x y : Nat) (hx : bval (a.drop i) = x + 10000 * bval (a.drop (i + 1))) (hy : bval (b.drop i) = y + 10000 * bval (b.drop (i + 1))) (lx : x < 10000) (ly : y < 10000) :
    Adding a b (out ++ [(c + x + y) % 10000]) (i + 1) ((c + x + y) / 10000) := by
  have hc := h.carry
  refine ⟨by simp [h.len], h.dg.append (Dg.cons (Nat.mod_lt _ (by decide)) Dg.nil), by omega, ?_⟩
  rw [← h.eq, bval_snoc, h.len, hx, hy, Nat.pow_succ, Nat.mul_assoc, Nat.add_assoc, ← Nat.mul_add]
  congr 2
  have := Nat.div_add_mod (c + x + y) 10000
  omega

theorem Adding.done {a b out : List Nat} {i : Nat} (h : Adding a b out i 0) (ha : a.length ≤ i) (hb : b.length ≤ i) : bval out = bval a + bval b := by
  have := h.eq
  rw [bval_drop_end a ha, bval_drop_end b hb] at this
  simpa using this

/-- what sub keeps -/
structure Taking (a b out : List Nat) (i c : Nat) : Prop where
  len : out.length = i
  dg : Dg out
  borrow : c ≤ 1
  eq : bval out + 10000 ^ i * bval (a.drop i) + bval b = bval a + 10000 ^ i * (c + bval (b.drop i))

theorem Taking.start (a b : List Nat) : Taking a b [] 0 0 := ⟨rfl, Dg.nil, by omega, by simp [bval]⟩

theorem Taking.next {a b out : List Nat} {i c x y z c' : Nat} (h : Taking a b out i c) (hx : bval (a.drop i) = x + 10000 * bval (a.drop (i + 1))) (hy : bval (b.drop i) = y + 10000 * bval (b.drop (i + 1))) (lz : z < 10000) (hc : c' ≤ 1) (hz : z + c + y = x + 10000 * c') :
    Taking a b (out ++ [z]) (i + 1) c' := by
  refine ⟨by simp [h.len], h.dg.append (Dg.cons lz Dg.nil), hc, ?_⟩
  have e := h.eq
  rw [hx, hy] at e
  rw [bval_snoc, h.len, Nat.pow_succ]
  generalize bval (a.drop (i + 1)) = A at *
  generalize bval (b.drop (i + 1)) = B at *
  generalize 10000 ^ i = p at *
  have e1 : p * 10000 * A = p * (10000 * A) := Nat.mul_assoc ..
  have e2 : p * 10000 * (c' + B) = p * (10000 * c') + p * (10000 * B) := by rw [Nat.mul_assoc, Nat.mul_add, Nat.mul_add]
  rw [e1, e2]
  rw [Nat.mul_add, Nat.mul_add, Nat.mul_add] at e
  have e3 : p * z + p * c + p * y = p * x + p * (10000 * c') := by rw [← Nat.mul_add, ← Nat.mul_add, ← Nat.mul_add, hz]
  omega

theorem Taking.done {a b out : List Nat} {c : Nat} (h : Taking a b out a.length c) (hab : b.length ≤ a.length) (ge : bval b ≤ bval a) : bval out + bval b = bval a := by
  have e := h.eq
  rw [bval_drop_end a (Nat.le_refl _), bval_drop_end b hab] at e
  have k := bval_lt h.dg
  rw [h.len] at k
  have := h.borrow
  rcases (by omega : c = 0 ∨ c = 1) with rfl | rfl
  · simpa using e
  · simp at e; omega

/-- 0 at the top says nothing -/
theorem bval_strip {l : List Nat} {n : Nat} (hn : n < l.length) (h : l[n] = 0) (e : bval (l.take (n + 1)) = bval l) : bval (l.take n) = bval l := by
  rw [← e, List.take_succ_eq_append_getElem hn, bval_snoc, h]; simp

end Go.Proofs.Ytagilpgplcphpaa
