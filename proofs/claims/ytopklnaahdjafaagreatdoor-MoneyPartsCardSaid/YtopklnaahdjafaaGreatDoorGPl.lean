/-
  PARTS: BPlain, BPlain2, BPlain3, BPlain4, BPlain5, BPlain6.
-/
/-
  Whole numbers as lists of digits in base 10000, the low one first (nothing of the program).
-/
namespace Go.Proofs.YtopklnaahdjafaaGreatDoor

/-- what digits say -/
def bval : List Nat → Nat
  | [] => 0
  | d :: r => d + 10000 * bval r
/-- digits -/
def Dg (l : List Nat) : Prop := ∀ d ∈ l, d < 10000
/-- without 0 at the top -/
def Top (l : List Nat) : Prop := ∀ d, l.getLast? = some d → d ≠ 0

theorem Dg.nil : Dg [] := fun _ h => by cases h
theorem Dg.cons {d : Nat} {l : List Nat} (h : d < 10000) (k : Dg l) : Dg (d :: l) := fun x hx => by
  rcases List.mem_cons.1 hx with rfl | hx
  · exact h
  · exact k x hx
theorem Dg.tail {d : Nat} {l : List Nat} (k : Dg (d :: l)) : d < 10000 ∧ Dg l := ⟨k d (by simp), fun x hx => k x (by simp [hx])⟩
theorem Dg.append {l r : List Nat} (h : Dg l) (k : Dg r) : Dg (l ++ r) := fun x hx => by
  rcases List.mem_append.1 hx with hx | hx
  · exact h x hx
  · exact k x hx
theorem Dg.take {l : List Nat} (h : Dg l) (n : Nat) : Dg (l.take n) := fun x hx => h x (List.mem_of_mem_take hx)
theorem Dg.drop {l : List Nat} (h : Dg l) (n : Nat) : Dg (l.drop n) := fun x hx => h x (List.mem_of_mem_drop hx)
theorem Dg.at_ {l : List Nat} (h : Dg l) {i : Nat} (hi : i < l.length) : l[i] < 10000 := h _ (List.getElem_mem hi)

theorem bval_append (l r : List Nat) : bval (l ++ r) = bval l + 10000 ^ l.length * bval r := by
  induction l with
  | nil => simp [bval]
  | cons d l ih =>
    simp only [List.cons_append, bval, ih, List.length_cons, Nat.pow_succ]
    rw [Nat.mul_add, Nat.mul_comm (10000 ^ l.length) 10000, ← Nat.mul_assoc]; omega
theorem bval_snoc (l : List Nat) (d : Nat) : bval (l ++ [d]) = bval l + 10000 ^ l.length * d := by rw [bval_append]; simp [bval]

theorem bval_lt {l : List Nat} (h : Dg l) : bval l < 10000 ^ l.length := by
  induction l with
  | nil => simp [bval]
  | cons d l ih =>
    have := h.tail
    have k := ih this.2
    simp only [bval, List.length_cons, Nat.pow_succ]
    omega

theorem bval_take_drop (l : List Nat) (i : Nat) (hi : i ≤ l.length) : bval l = bval (l.take i) + 10000 ^ i * bval (l.drop i) := by
  have := bval_append (l.take i) (l.drop i)
  rwa [List.take_append_drop, List.length_take, Nat.min_eq_left hi] at this

theorem bval_drop (l : List Nat) {i : Nat} (hi : i < l.length) : bval (l.drop i) = l[i] + 10000 * bval (l.drop (i + 1)) := by
  rw [List.drop_eq_getElem_cons hi]; rfl
theorem bval_drop_end (l : List Nat) {i : Nat} (hi : l.length ≤ i) : bval (l.drop i) = 0 := by rw [List.drop_eq_nil_of_le hi]; rfl

theorem bval_top {l : List Nat} (h : Top l) (hl : 0 < l.length) : 10000 ^ (l.length - 1) ≤ bval l := by
  have e : l = l.dropLast ++ [l[l.length - 1]'(by omega)] := by
    have hne : l ≠ [] := fun e => by rw [e] at hl; simp at hl
    rw [← List.getLast_eq_getElem hne]; exact (List.dropLast_concat_getLast hne).symm
  have hd : l[l.length - 1]'(by omega) ≠ 0 := h _ (by rw [List.getLast?_eq_getElem?]; exact List.getElem?_eq_getElem (by omega))
  generalize l[l.length - 1]'(by omega) = d at *
  have hlen : l.dropLast.length = l.length - 1 := by simp
  have := bval_snoc l.dropLast d
  rw [← e, hlen] at this
  have k : 10000 ^ (l.length - 1) * 1 ≤ 10000 ^ (l.length - 1) * d := Nat.mul_le_mul_left _ (by omega)
  omega

theorem bval_shorter {l m : List Nat} (hl : Dg l) (tm : Top m) (h : l.length < m.length) : bval l < bval m := by
  have h1 := bval_lt hl
  have h2 := bval_top tm (by omega)
  have h3 : 10000 ^ l.length ≤ 10000 ^ (m.length - 1) := Nat.pow_le_pow_right (by decide) (by omega)
  omega

/-- the highest digit that parts two lists tells which is less -/
theorem bval_at {l m : List Nat} (hl : Dg l) (_hm : Dg m) (hlen : l.length = m.length) {i : Nat} (hi : i < l.length) (hd : l.drop (i + 1) = m.drop (i + 1)) (h : l[i] < m[i]'(by omega)) : bval l < bval m := by
  have e1 := bval_take_drop l i (by omega)
  have e2 := bval_take_drop m i (by omega)
  rw [bval_drop l hi, hd] at e1
  rw [bval_drop m (by omega)] at e2
  have k1 := bval_lt (hl.take i)
  rw [List.length_take, Nat.min_eq_left (by omega)] at k1
  generalize bval (m.drop (i + 1)) = X at *
  generalize l[i] = a at *
  generalize m[i]'(by omega) = b at *
  have k2 : 10000 ^ i * (a + 10000 * X + 1) ≤ 10000 ^ i * (b + 10000 * X) := Nat.mul_le_mul_left _ (by omega)
  rw [Nat.mul_add, Nat.mul_one] at k2
  omega

theorem bval_inj {l m : List Nat} (hl : Dg l) (hm : Dg m) (hlen : l.length = m.length) (h : bval l = bval m) : l = m := by
  induction l generalizing m with
  | nil => cases m with
    | nil => rfl
    | cons => simp at hlen
  | cons a l ih => cases m with
    | nil => simp at hlen
    | cons b m =>
      have h1 := hl.tail
      have h2 := hm.tail
      simp only [bval] at h
      have : a = b := by omega
      subst this
      rw [ih h1.2 h2.2 (by simpa using hlen) (by omega)]

/-- two lists without 0 at the top: which is less, by their lengths -/
theorem same_of_bval {l m : List Nat} (hl : Dg l) (hm : Dg m) (tl : Top l) (tm : Top m) (h : bval l = bval m) : l = m := by
  rcases Nat.lt_trichotomy l.length m.length with c | c | c
  · have := bval_shorter hl tm c; omega
  · exact bval_inj hl hm c h
  · have := bval_shorter hm tl c; omega

/-- what add keeps -/
structure Adding (a b out : List Nat) (i c : Nat) : Prop where
  len : out.length = i
  dg : Dg out
  carry : c ≤ 1
  eq : bval out + 10000 ^ i * (c + bval (a.drop i) + bval (b.drop i)) = bval a + bval b

theorem Adding.start (a b : List Nat) : Adding a b [] 0 0 := ⟨rfl, Dg.nil, by omega, by simp [bval]⟩

theorem Adding.next {a b out : List Nat} {i c : Nat} (h : Adding a b out i c) (x y : Nat) (hx : bval (a.drop i) = x + 10000 * bval (a.drop (i + 1))) (hy : bval (b.drop i) = y + 10000 * bval (b.drop (i + 1))) (lx : x < 10000) (ly : y < 10000) :
    Adding a b (out ++ [(c + x + y) % 10000]) (i + 1) ((c + x + y) / 10000) := by
  have hc := h.carry
  refine ⟨by simp [h.len], h.dg.append (Dg.cons (Nat.mod_lt _ (by decide)) Dg.nil), by omega, ?_⟩
  rw [← h.eq, bval_snoc, h.len, hx, hy, Nat.pow_succ, Nat.mul_assoc, Nat.add_assoc, ← Nat.mul_add]
  congr 2
  have := Nat.div_add_mod (c + x + y) 10000
  omega

theorem Adding.done {a b out : List Nat} {i : Nat} (h : Adding a b out i 0) (ha : a.length ≤ i) (hb : b.length ≤ i) : bval out = bval a + bval b := by
  have := h.eq
  rw [bval_drop_end a ha, bval_drop_end b hb] at this
  simpa using this

/-- what sub keeps -/
structure Taking (a b out : List Nat) (i c : Nat) : Prop where
  len : out.length = i
  dg : Dg out
  borrow : c ≤ 1
  eq : bval out + 10000 ^ i * bval (a.drop i) + bval b = bval a + 10000 ^ i * (c + bval (b.drop i))

theorem Taking.start (a b : List Nat) : Taking a b [] 0 0 := ⟨rfl, Dg.nil, by omega, by simp [bval]⟩

theorem Taking.next {a b out : List Nat} {i c x y z c' : Nat} (h : Taking a b out i c) (hx : bval (a.drop i) = x + 10000 * bval (a.drop (i + 1))) (hy : bval (b.drop i) = y + 10000 * bval (b.drop (i + 1))) (lz : z < 10000) (hc : c' ≤ 1) (hz : z + c + y = x + 10000 * c') :
    Taking a b (out ++ [z]) (i + 1) c' := by
  refine ⟨by simp [h.len], h.dg.append (Dg.cons lz Dg.nil), hc, ?_⟩
  have e := h.eq
  rw [hx, hy] at e
  rw [bval_snoc, h.len, Nat.pow_succ]
  generalize bval (a.drop (i + 1)) = A at *
  generalize bval (b.drop (i + 1)) = B at *
  generalize 10000 ^ i = p at *
  have e1 : p * 10000 * A = p * (10000 * A) := Nat.mul_assoc ..
  have e2 : p * 10000 * (c' + B) = p * (10000 * c') + p * (10000 * B) := by rw [Nat.mul_assoc, Nat.mul_add, Nat.mul_add]
  rw [e1, e2]
  rw [Nat.mul_add, Nat.mul_add, Nat.mul_add] at e
  have e3 : p * z + p * c + p * y = p * x + p * (10000 * c') := by rw [← Nat.mul_add, ← Nat.mul_add, ← Nat.mul_add, hz]
  omega

theorem Taking.done {a b out : List Nat} {c : Nat} (h : Taking a b out a.length c) (hab : b.length ≤ a.length) (ge : bval b ≤ bval a) : bval out + bval b = bval a := by
  have e := h.eq
  rw [bval_drop_end a (Nat.le_refl _), bval_drop_end b hab] at e
  have k := bval_lt h.dg
  rw [h.len] at k
  have := h.borrow
  rcases (by omega : c = 0 ∨ c = 1) with rfl | rfl
  · simpa using e
  · simp at e; omega

/-- 0 at the top says nothing -/
theorem bval_strip {l : List Nat} {n : Nat} (hn : n < l.length) (h : l[n] = 0) (e : bval (l.take (n + 1)) = bval l) : bval (l.take n) = bval l := by
  rw [← e, List.take_succ_eq_append_getElem hn, bval_snoc, h]; simp

end Go.Proofs.YtopklnaahdjafaaGreatDoor

/-
  Products of digits (nothing of the program).
-/
namespace Go.Proofs.YtopklnaahdjafaaGreatDoor

theorem bval_set {l : List Nat} {j : Nat} (hj : j < l.length) (z : Nat) : bval (l.set j z) + 10000 ^ j * l[j] = bval l + 10000 ^ j * z := by
  have e1 := bval_take_drop l j (by omega)
  have e2 := bval_take_drop (l.set j z) j (by simp; omega)
  rw [bval_drop l hj] at e1
  rw [bval_drop (l.set j z) (by simpa using hj), List.take_set_of_le (by omega), List.getElem_set_self, List.drop_set_of_lt (by omega)] at e2
  rw [e1, e2, Nat.mul_add, Nat.mul_add]
  omega

theorem Dg.set {l : List Nat} (h : Dg l) (j : Nat) {z : Nat} (hz : z < 10000) : Dg (l.set j z) := fun x hx => by
  rcases List.mem_or_eq_of_mem_set hx with k | k
  · exact h x k
  · omega

/-- what a row of the product keeps -/
structure MRow (a b d : List Nat) (i k c : Nat) (x : Nat) : Prop where
  len : d.length = a.length + b.length + 1
  dg : Dg d
  carry : c ≤ 9999
  eq : bval d + 10000 ^ (i + k) * c = bval (a.take i) * bval b + x * 10000 ^ i * bval (b.take k)

/-- behind i rows -/
structure Rows_ (a b d : List Nat) (i : Nat) : Prop where
  len : d.length = a.length + b.length + 1
  dg : Dg d
  eq : bval d = bval (a.take i) * bval b

theorem bval_zeros (n : Nat) : bval (List.replicate n 0) = 0 := by
  induction n with
  | zero => rfl
  | succ n ih => simp [List.replicate_succ, bval, ih]

theorem Rows_.start (a b : List Nat) : Rows_ a b (List.replicate (a.length + b.length + 1) 0) 0 :=
  ⟨by simp, fun x hx => by rw [List.mem_replicate] at hx; omega, by rw [bval_zeros]; simp [bval]⟩

theorem Rows_.row {a b d : List Nat} {i : Nat} (h : Rows_ a b d i) (x : Nat) : MRow a b d i 0 0 x := ⟨h.len, h.dg, by omega, by simp [h.eq, bval]⟩

/-- the row's place in the product -/
theorem MRow.inside {a b d : List Nat} {i k c : Nat} (hi : i < a.length) (ha : Dg a) (hb : Dg b) (h : MRow a b d i k c a[i]) (hk : k < b.length ∨ 0 < c) : i + k < d.length ∧ k ≤ b.length := by
  have hl := h.len
  have key : k ≤ b.length := by
    rcases hk with e | e
    · omega
    · have h1 : bval (a.take (i + 1)) = bval (a.take i) + 10000 ^ i * a[i] := by
        rw [List.take_succ_eq_append_getElem hi, bval_snoc, List.length_take, Nat.min_eq_left (by omega)]
      have h2 := bval_lt (ha.take (i + 1))
      rw [List.length_take, Nat.min_eq_left (by omega)] at h2
      have h3 : bval (b.take k) ≤ bval b := by
        rcases Nat.lt_or_ge b.length k with q | q
        · rw [List.take_of_length_le (by omega)]; exact Nat.le_refl _
        · rw [bval_take_drop b k q]; omega
      have h4 := bval_lt hb
      have h5 : bval (a.take i) * bval b + a[i] * 10000 ^ i * bval (b.take k) ≤ bval (a.take (i + 1)) * bval b := by
        rw [h1, Nat.add_mul, Nat.mul_comm (10000 ^ i)]
        exact Nat.add_le_add_left (Nat.mul_le_mul_left _ h3) _
      have h6 : bval (a.take (i + 1)) * bval b ≤ 10000 ^ (i + 1) * 10000 ^ b.length := Nat.mul_le_mul (by omega) (by omega)
      have h7 : bval (a.take (i + 1)) * bval b < 10000 ^ (i + 1) * 10000 ^ b.length := by
        rcases Nat.eq_zero_or_pos (bval b) with q | q
        · rw [q, Nat.mul_zero]; exact Nat.mul_pos (Nat.pow_pos (by decide)) (Nat.pow_pos (by decide))
        · exact Nat.lt_of_lt_of_le (Nat.mul_lt_mul_of_pos_right h2 q) (Nat.mul_le_mul_left _ (by omega))
      rw [← Nat.pow_add] at h7
      have h8 : 10000 ^ (i + k) * 1 ≤ 10000 ^ (i + k) * c := Nat.mul_le_mul_left _ e
      have h9 := h.eq
      have h10 : 10000 ^ (i + k) < 10000 ^ (i + 1 + b.length) := by omega
      have := (Nat.pow_lt_pow_iff_right (by decide)).1 h10
      omega
  exact ⟨by omega, key⟩

theorem MRow.next {a b d : List Nat} {i k c x y z : Nat} (h : MRow a b d i k c x) (hj : i + k < d.length) (hx : x < 10000) (hy : bval (b.take (k + 1)) = bval (b.take k) + 10000 ^ k * y) (ly : y < 10000) (hz : z = d[i + k] + c + x * y) :
    MRow a b (d.set (i + k) (z % 10000)) i (k + 1) (z / 10000) x := by
  have hd := h.dg.at_ hj
  have hc := h.carry
  have hxy : x * y ≤ 9999 * 9999 := Nat.mul_le_mul (by omega) (by omega)
  refine ⟨by simp [h.len], h.dg.set _ (Nat.mod_lt _ (by decide)), by omega, ?_⟩
  have e := h.eq
  have s := bval_set hj (z % 10000)
  have dm := Nat.div_add_mod z 10000
  rw [hy, Nat.mul_add, show i + (k + 1) = i + k + 1 by omega, Nat.pow_succ]
  have e2 : x * 10000 ^ i * (10000 ^ k * y) = 10000 ^ (i + k) * (x * y) := by
    rw [Nat.pow_add, ← Nat.mul_assoc, Nat.mul_right_comm _ _ y, Nat.mul_comm x (10000 ^ i), Nat.mul_assoc (10000 ^ i) x, Nat.mul_right_comm, Nat.mul_right_comm (10000 ^ i)]
  rw [e2]
  generalize 10000 ^ (i + k) = P at *
  generalize bval (d.set (i + k) (z % 10000)) = V at *
  generalize d[i + k] = u at *
  generalize x * y = xy at *
  have e3 : P * 10000 * (z / 10000) = P * (10000 * (z / 10000)) := Nat.mul_assoc ..
  have e4 : P * (10000 * (z / 10000)) + P * (z % 10000) = P * u + P * c + P * xy := by rw [← Nat.mul_add, dm, hz, Nat.mul_add, Nat.mul_add]
  rw [e3]
  generalize bval (a.take i) * bval b = g1 at *
  generalize x * 10000 ^ i * bval (b.take k) = g2 at *
  omega

theorem MRow.done {a b d : List Nat} {i k : Nat} (hi : i < a.length) (h : MRow a b d i k 0 a[i]) (hk : b.length ≤ k) : Rows_ a b d (i + 1) := by
  refine ⟨h.len, h.dg, ?_⟩
  have e := h.eq
  rw [List.take_of_length_le hk] at e
  rw [List.take_succ_eq_append_getElem hi, bval_snoc, List.length_take, Nat.min_eq_left (by omega), Nat.add_mul, Nat.mul_comm (10000 ^ i)]
  simpa using e

theorem Rows_.done {a b d : List Nat} (h : Rows_ a b d a.length) : bval d = bval a * bval b := by
  have := h.eq
  rwa [List.take_length] at this

end Go.Proofs.YtopklnaahdjafaaGreatDoor

/-
  Quotients of digits, and their decimal letters (nothing of the program).
-/
namespace Go.Proofs.YtopklnaahdjafaaGreatDoor

/-- what a division keeps, going down: the digits from i on are divided -/
structure Quoting (a : List Nat) (D : Nat) (q : List Nat) (rest i : Nat) : Prop where
  le : i ≤ a.length
  len : q.length = a.length - i
  dg : Dg q
  eq : bval (a.drop i) = bval q * D + rest
  less : rest < D

theorem Quoting.start (a : List Nat) {D : Nat} (h : 0 < D) : Quoting a D [] 0 a.length := ⟨Nat.le_refl _, by simp, Dg.nil, by simp [bval], h⟩

/-- the next digit of the quotient is one -/
theorem Quoting.digit {a : List Nat} {D : Nat} {q : List Nat} {rest i : Nat} (ha : Dg a) (h : Quoting a D q rest (i + 1)) : (rest * 10000 + a[i]'(by have := h.le; omega)) / D < 10000 := by
  have hl := h.less
  have hi : i < a.length := by have := h.le; omega
  have hd := ha.at_ hi
  refine Nat.div_lt_of_lt_mul ?_
  generalize a[i] = x at *
  have : rest + 1 ≤ D := hl
  have := Nat.mul_le_mul_right 10000 this
  omega

theorem Quoting.next {a : List Nat} {D : Nat} {q : List Nat} {rest i lo : Nat} (ha : Dg a) (h : Quoting a D q rest (i + 1)) (hlo : lo = (rest * 10000 + a[i]'(by have := h.le; omega)) / D) :
    Quoting a D (lo :: q) ((rest * 10000 + a[i]'(by have := h.le; omega)) - D * lo) i := by
  have hi : i < a.length := by have := h.le; omega
  have hdig := h.digit ha
  have hl := h.less
  have e := h.eq
  rw [← hlo] at hdig
  have dm := Nat.div_add_mod (rest * 10000 + a[i]) D
  have ml := Nat.mod_lt (rest * 10000 + a[i]) (show 0 < D by omega)
  rw [← hlo] at dm
  refine ⟨by omega, by simp [h.len]; omega, Dg.cons hdig h.dg, ?_, by omega⟩
  rw [bval_drop a hi, e]
  simp only [bval]
  rw [Nat.add_mul, Nat.mul_comm lo D, Nat.mul_assoc 10000]
  generalize bval q * D = B at *
  generalize D * lo = C at *
  generalize a[i] = x at *
  omega

theorem Quoting.done {a : List Nat} {D : Nat} {q : List Nat} {rest : Nat} (h : Quoting a D q rest 0) : bval q = bval a / D ∧ rest = bval a % D := by
  have e := h.eq
  have hl := h.less
  rw [List.drop_zero] at e
  rw [e]
  have h0 : 0 < D := by omega
  exact ⟨by rw [Nat.mul_comm, Nat.mul_add_div h0, Nat.div_eq_of_lt hl, Nat.add_zero], by rw [Nat.mul_comm, Nat.mul_add_mod, Nat.mod_eq_of_lt hl]⟩

/-- what the search for a digit keeps -/
structure Searching (R D lo hi : Nat) : Prop where
  low : D * lo ≤ R
  high : R < D * hi
theorem Searching.mid {R D lo hi : Nat} (_h : Searching R D lo hi) (k : lo + 1 < hi) : lo < (lo + hi) / 2 ∧ (lo + hi) / 2 < hi := by omega
theorem Searching.up {R D lo hi m : Nat} (h : Searching R D lo hi) (k : D * m ≤ R) : Searching R D m hi := ⟨k, h.high⟩
theorem Searching.down {R D lo hi m : Nat} (h : Searching R D lo hi) (k : ¬ D * m ≤ R) : Searching R D lo m := ⟨h.low, by omega⟩
theorem Searching.done {R D lo hi : Nat} (h : Searching R D lo hi) (k : ¬ lo + 1 < hi) : lo = R / D := by
  have hlt : lo < hi := by
    rcases Nat.lt_or_ge lo hi with c | c
    · exact c
    · have := Nat.mul_le_mul_left D c
      have := h.low
      have := h.high
      omega
  obtain rfl : hi = lo + 1 := by omega
  have h1 := h.low
  have h2 := h.high
  rw [Nat.mul_add, Nat.mul_one] at h2
  have h0 : 0 < D := by omega
  have a1 : lo ≤ R / D := (Nat.le_div_iff_mul_le h0).2 (by rw [Nat.mul_comm]; exact h1)
  have a2 : R / D < lo + 1 := Nat.div_lt_of_lt_mul (by rw [Nat.mul_add, Nat.mul_one]; exact h2)
  omega

/-! ### letters -/
theorem pow4 (i : Nat) : 10000 ^ i = 10 ^ (4 * i) := by rw [Nat.pow_mul]

/-- the decimal digits of a digit -/
theorem bval_decimal {l : List Nat} (hl : Dg l) {i k : Nat} (hi : i < l.length) (hk : k < 4) : bval l / 10 ^ (4 * i + k) % 10 = l[i] / 10 ^ k % 10 := by
  have e := bval_take_drop l i (by omega)
  have lt := bval_lt (hl.take i)
  rw [List.length_take, Nat.min_eq_left (by omega)] at lt
  have e2 : bval l / 10 ^ (4 * i) = bval (l.drop i) := by
    rw [← pow4, e, Nat.add_comm, Nat.mul_add_div (Nat.pow_pos (by decide)), Nat.div_eq_of_lt lt, Nat.add_zero]
  rw [Nat.pow_add, ← Nat.div_div_eq_div_mul, e2, bval_drop l hi]
  generalize bval (l.drop (i + 1)) = X
  generalize l[i] = d
  rcases (by omega : k = 0 ∨ k = 1 ∨ k = 2 ∨ k = 3) with rfl | rfl | rfl | rfl <;> omega

/-- where a number's letters end -/
theorem bval_ends {l : List Nat} (hl : Dg l) (hn : 0 < l.length) {k : Nat} (h : l[l.length - 1]'(by omega) / 10 ^ k = 0) : bval l / 10 ^ (4 * (l.length - 1) + k) = 0 := by
  have e := bval_take_drop l (l.length - 1) (by omega)
  have lt := bval_lt (hl.take (l.length - 1))
  rw [List.length_take, Nat.min_eq_left (by omega)] at lt
  have e2 : bval l / 10 ^ (4 * (l.length - 1)) = bval (l.drop (l.length - 1)) := by
    rw [← pow4, e, Nat.add_comm, Nat.mul_add_div (Nat.pow_pos (by decide)), Nat.div_eq_of_lt lt, Nat.add_zero]
  rw [Nat.pow_add, ← Nat.div_div_eq_div_mul, e2, bval_drop l (by omega), bval_drop_end l (by omega)]
  simpa using h

end Go.Proofs.YtopklnaahdjafaaGreatDoor

/-
  Whole numbers by their digits: bounds on how many, what stands at the top (nothing of the program).
-/
namespace Go.Proofs.YtopklnaahdjafaaGreatDoor

/-- of at most so many digits -/
def Lim (n : Int) (K : Nat) : Prop := n.natAbs < 10000 ^ K
/-- the digits of a number without sign -/
structure Nm (l : List Nat) (n : Nat) : Prop where
  dg : Dg l
  top : Top l
  eq : bval l = n

theorem Top.nil : Top [] := fun d h => by simp at h
theorem Top.of_le {l : List Nat} (hd : Dg l) (h : 0 < l.length → 10000 ^ (l.length - 1) ≤ bval l) : Top l := fun d hl => by
  intro e
  subst e
  have hn : 0 < l.length := by
    rcases Nat.eq_zero_or_pos l.length with c | c
    · rw [List.length_eq_zero_iff.1 c] at hl; simp at hl
    · exact c
  have h1 := h hn
  rw [List.getLast?_eq_getElem?, List.getElem?_eq_getElem (by omega)] at hl
  have e2 := bval_take_drop l (l.length - 1) (by omega)
  rw [bval_drop l (by omega), bval_drop_end l (by omega)] at e2
  have h2 := bval_lt (hd.take (l.length - 1))
  rw [List.length_take, Nat.min_eq_left (by omega)] at h2
  simp only [Option.some.injEq] at hl
  rw [hl] at e2
  simp at e2
  omega

theorem Nm.len {l : List Nat} {n K : Nat} (h : Nm l n) (hk : n < 10000 ^ K) : l.length ≤ K := by
  rcases Nat.eq_zero_or_pos l.length with c | c
  · omega
  · have h1 := bval_top h.top c
    rw [h.eq] at h1
    have := (Nat.pow_lt_pow_iff_right (by decide)).1 (Nat.lt_of_le_of_lt h1 hk)
    omega

theorem Nm.nil : Nm [] 0 := ⟨Dg.nil, Top.nil, rfl⟩
theorem Nm.pos {l : List Nat} {n : Nat} (h : Nm l n) (hl : l ≠ []) : 0 < n := by
  have hn : 0 < l.length := List.length_pos_iff.2 hl
  have := bval_top h.top hn
  rw [h.eq] at this
  exact Nat.lt_of_lt_of_le (Nat.pow_pos (by decide)) this
theorem Nm.zero {l : List Nat} (h : Nm l 0) : l = [] := by
  rcases List.eq_nil_or_concat l with e | ⟨a, b, e⟩
  · exact e
  · have := h.pos (by rw [e]; simp); omega

theorem Lim.mono {n : Int} {K M : Nat} (h : Lim n K) (hk : K ≤ M) : Lim n M := Nat.lt_of_lt_of_le h (Nat.pow_le_pow_right (by decide) hk)
theorem Lim.neg {n : Int} {K : Nat} (h : Lim n K) : Lim (-n) K := by unfold Lim at *; simpa using h
theorem Lim.add {n m : Int} {K : Nat} (h : Lim n K) (k : Lim m K) : Lim (n + m) (K + 1) := by
  unfold Lim at *
  rw [Nat.pow_succ]; omega
theorem Lim.mul {n m : Int} {K M : Nat} (h : Lim n K) (k : Lim m M) : Lim (n * m) (K + M) := by
  unfold Lim at *
  rw [Int.natAbs_mul, Nat.pow_add]
  exact Nat.mul_lt_mul_of_lt_of_lt h k
theorem Nm.len_sum {l : List Nat} {n m : Int} {K M : Nat} (g : Nm l (n.natAbs + m.natAbs)) (h : Lim n K) (k : Lim m K) (hM : K + 1 ≤ M) : l.length ≤ M := by
  refine Nat.le_trans (g.len (K := K + 1) ?_) hM
  unfold Lim at *
  rw [Nat.pow_succ]; omega
theorem Nm.len_lt {l : List Nat} {n M K : Nat} (g : Nm l n) (h : n < M) (k : Lim (M : Int) K) : l.length ≤ K :=
  g.len (Nat.lt_trans h (by unfold Lim at k; simpa using k))
theorem Lim.of {n : Int} {K : Nat} (h : n.natAbs < 10000 ^ K) : Lim n K := h

/-- what comparing answers -/
def cmpN (n m : Nat) : Int := if n < m then -1 else if m < n then 1 else 0
def cmpI (n m : Int) : Int := if n < m then -1 else if m < n then 1 else 0
theorem cmpN_lt {n m : Nat} (h : n < m) : cmpN n m = -1 := if_pos h
theorem cmpN_gt {n m : Nat} (h : m < n) : cmpN n m = 1 := by unfold cmpN; rw [if_neg (by omega), if_pos h]
theorem cmpN_eq (n : Nat) : cmpN n n = 0 := by unfold cmpN; rw [if_neg (by omega), if_neg (by omega)]
theorem cmpI_pos {n m : Int} (hn : ¬ n < 0) (hm : ¬ m < 0) : cmpI n m = cmpN n.natAbs m.natAbs := by unfold cmpI cmpN; split <;> split <;> (try split) <;> (try split) <;> omega
theorem cmpI_neg {n m : Int} (hn : n < 0) (hm : m < 0) : cmpI n m = -cmpN n.natAbs m.natAbs := by unfold cmpI cmpN; split <;> split <;> (try split) <;> (try split) <;> omega
theorem cmpI_lt {n m : Int} (h : n < m) : cmpI n m = -1 := if_pos h
theorem cmpI_gt {n m : Int} (h : m < n) : cmpI n m = 1 := by unfold cmpI; rw [if_neg (by omega), if_pos h]

/-- lists compared from the top: what parts them -/
theorem cmp_shorter {l m : List Nat} (hl : Dg l) (tm : Top m) (h : l.length < m.length) : cmpN (bval l) (bval m) = -1 := cmpN_lt (bval_shorter hl tm h)
theorem cmp_longer {l m : List Nat} (tl : Top l) (hm : Dg m) (h : m.length < l.length) : cmpN (bval l) (bval m) = 1 := cmpN_gt (bval_shorter hm tl h)
theorem cmp_low {l m : List Nat} (hl : Dg l) (hm : Dg m) (hlen : l.length = m.length) {i : Nat} (hi : i < l.length) (hd : l.drop (i + 1) = m.drop (i + 1)) (h : l[i] < m[i]'(by omega)) : cmpN (bval l) (bval m) = -1 := cmpN_lt (bval_at hl hm hlen hi hd h)
theorem cmp_high {l m : List Nat} (hl : Dg l) (hm : Dg m) (hlen : l.length = m.length) {i : Nat} (hi : i < l.length) (hd : l.drop (i + 1) = m.drop (i + 1)) (h : m[i]'(by omega) < l[i]) : cmpN (bval l) (bval m) = 1 := cmpN_gt (bval_at hm hl hlen.symm (by omega) hd.symm h)
theorem drop_step {l m : List Nat} {i : Nat} (h1 : i < l.length) (h2 : i < m.length) (hd : l.drop (i + 1) = m.drop (i + 1)) (h : l[i] = m[i]) : l.drop i = m.drop i := by
  rw [List.drop_eq_getElem_cons h1, List.drop_eq_getElem_cons h2, hd, h]

/-- where a sum of digits may stand: no 0 comes to the top -/
def Rises (la lb sum i : Nat) : Prop := i ≤ max la lb ∨ (i = max la lb + 1 ∧ 10000 ^ (max la lb) ≤ sum)

theorem Adding.rises {a b out : List Nat} {i c : Nat} (da : Dg a) (db : Dg b) (h : Adding a b out i c) (k : Rises a.length b.length (bval a + bval b) i) (go : i < a.length ∨ i < b.length ∨ 0 < c) : Rises a.length b.length (bval a + bval b) (i + 1) := by
  by_cases e : i < max a.length b.length
  · exact Or.inl (by omega)
  · have hc : 0 < c := by omega
    have eq := h.eq
    rw [bval_drop_end a (by omega), bval_drop_end b (by omega)] at eq
    have hb := bval_lt h.dg
    rw [h.len] at hb
    rcases k with k | ⟨k, -⟩
    · obtain rfl : i = max a.length b.length := by omega
      refine Or.inr ⟨rfl, ?_⟩
      have : 10000 ^ max a.length b.length * 1 ≤ 10000 ^ max a.length b.length * c := Nat.mul_le_mul_left _ hc
      rw [← eq]; simp; omega
    · exfalso
      -- the sum is below 2 * 10000 ^ max, so nothing is carried there
      have h1 : 10000 ^ i * 1 ≤ 10000 ^ i * c := Nat.mul_le_mul_left _ hc
      have h2 := bval_lt da
      have h3 := bval_lt db
      have h4 : 10000 ^ a.length ≤ 10000 ^ max a.length b.length := Nat.pow_le_pow_right (by decide) (by omega)
      have h5 : 10000 ^ b.length ≤ 10000 ^ max a.length b.length := Nat.pow_le_pow_right (by decide) (by omega)
      rw [k, Nat.pow_succ] at h1 eq
      simp at eq
      omega

theorem Adding.nm {a b out : List Nat} {i n m : Nat} (ha : Nm a n) (hb : Nm b m) (h : Adding a b out i 0) (k : Rises a.length b.length (bval a + bval b) i) (la : a.length ≤ i) (lb : b.length ≤ i) : Nm out (n + m) := by
  have e := h.done la lb
  refine ⟨h.dg, Top.of_le h.dg fun hl => ?_, by rw [e, ha.eq, hb.eq]⟩
  rw [h.len] at hl ⊢
  rw [e]
  rcases k with k | ⟨k1, k2⟩
  · by_cases c : a.length = i
    · have := bval_top ha.top (by omega)
      rw [c] at this; omega
    · have c2 : b.length = i := by omega
      have := bval_top hb.top (by omega)
      rw [c2] at this; omega
  · rw [k1]; simpa using k2


/-- the digit at i, 0 beyond -/
def dat (l : List Nat) (i : Nat) : Nat := l.getD i 0
theorem dat_in {l : List Nat} {i : Nat} (h : i < l.length) : dat l i = l[i] := by unfold dat; simp [h]
theorem dat_out {l : List Nat} {i : Nat} (h : l.length ≤ i) : dat l i = 0 := by unfold dat; simp [h]
theorem dat_lt {l : List Nat} (h : Dg l) (i : Nat) : dat l i < 10000 := by
  rcases Nat.lt_or_ge i l.length with c | c
  · rw [dat_in c]; exact h.at_ c
  · rw [dat_out c]; decide
theorem dat_drop (l : List Nat) (i : Nat) : bval (l.drop i) = dat l i + 10000 * bval (l.drop (i + 1)) := by
  rcases Nat.lt_or_ge i l.length with c | c
  · rw [dat_in c]; exact bval_drop l c
  · rw [dat_out c, bval_drop_end l c, bval_drop_end l (by omega)]

theorem add_step {a b l : List Nat} {k z s : Nat} (da : Dg a) (db : Dg b) (h : Adding a b l k z) (hr : Rises a.length b.length (bval a + bval b) k) (go : k < a.length ∨ k < b.length ∨ 0 < z) (hs : s = z + dat a k + dat b k) :
    Adding a b (l ++ [s % 10000]) (k + 1) (s / 10000) ∧ Rises a.length b.length (bval a + bval b) (k + 1) := by
  subst hs
  exact ⟨h.next _ _ (dat_drop a k) (dat_drop b k) (dat_lt da k) (dat_lt db k), h.rises da db hr go⟩

theorem Lim.two {i K : Nat} (h : i ≤ K) : Lim ((2 : Int) ^ i) (K + 1) := by
  unfold Lim
  rw [Int.natAbs_pow]
  exact Nat.lt_of_le_of_lt (Nat.pow_le_pow_left (by decide : (2 : Int).natAbs ≤ 10000) i) (Nat.pow_lt_pow_right (by decide) (by omega))

/-- what the making of a number keeps: the digits l, and m to come -/
structure Making (N : Nat) (l : List Nat) (m : Nat) : Prop where
  dg : Dg l
  len : l.length ≤ 5
  rest : m < 10000 ^ (5 - l.length)
  eq : N = bval l + 10000 ^ l.length * m
theorem Making.start {N : Nat} (h : N < 100000000000000000000) : Making N [] N := ⟨Dg.nil, by decide, by simpa using h, by simp [bval]⟩
theorem Making.next {N m : Nat} {l : List Nat} (h : Making N l m) (hm : m ≠ 0) : Making N (l ++ [m % 10000]) (m / 10000) := by
  obtain ⟨h1, h2, h3, h4⟩ := h
  have hl : l.length < 5 := by
    rcases Nat.lt_or_ge l.length 5 with c | c
    · exact c
    · rw [show 5 - l.length = 0 by omega] at h3; simp at h3; omega
  refine ⟨h1.append (Dg.cons (Nat.mod_lt _ (by decide)) Dg.nil), by simp; omega, ?_, ?_⟩
  · rw [List.length_append, List.length_singleton, show 5 - l.length = (5 - (l.length + 1)) + 1 by omega, Nat.pow_succ] at *
    exact Nat.div_lt_of_lt_mul (by rw [Nat.mul_comm]; exact h3)
  · rw [bval_snoc, h4, List.length_append, List.length_singleton, Nat.pow_succ, Nat.mul_assoc, Nat.add_assoc, ← Nat.mul_add]
    have := Nat.div_add_mod m 10000
    congr 2; omega
theorem Making.done {N : Nat} {l : List Nat} (h : Making N l 0) : bval l = N := by rw [h.eq]; simp
end Go.Proofs.YtopklnaahdjafaaGreatDoor

/-
  Bounds of quotients (nothing of the program).
-/
namespace Go.Proofs.YtopklnaahdjafaaGreatDoor

theorem Lim.below_mul {N M K J : Nat} (h : N < M * 10000) (k : Lim (M : Int) K) (hJ : K + 1 ≤ J) : Lim (N : Int) J := by
  refine Lim.mono (K := K + 1) ?_ hJ
  have k' : M < 10000 ^ K := k
  change N < 10000 ^ (K + 1)
  rw [Nat.pow_succ]
  exact Nat.lt_trans h (Nat.mul_lt_mul_of_pos_right k' (by decide))
theorem Lim.digit {m K : Nat} (h : m < 10000) : Lim (m : Int) (K + 1) := by
  change m < 10000 ^ (K + 1)
  rw [Nat.pow_succ]
  have : 1 ≤ 10000 ^ K := Nat.pow_pos (by decide)
  omega
end Go.Proofs.YtopklnaahdjafaaGreatDoor

/-
  Numbers and their decimal letters (nothing of the program).
-/
namespace Go.Proofs.YtopklnaahdjafaaGreatDoor

/-- a digit's letter -/
def dig1 (m : Nat) : UInt8 := UInt8.ofNat (48 + m % 10)
/-- the last k digits -/
def lowDigits (m : Nat) : Nat → List UInt8
  | 0 => []
  | k + 1 => dig1 (m / 10 ^ k) :: lowDigits m k

theorem lowDigits_length (m k : Nat) : (lowDigits m k).length = k := by
  induction k with
  | zero => rfl
  | succ k ih => simp [lowDigits, ih]

/-- how many digits a number has -/
def dlen (m : Nat) : Nat := if h : m < 10 then 1 else dlen (m / 10) + 1
termination_by m
decreasing_by omega

theorem dlen_pos (m : Nat) : 1 ≤ dlen m := by
  rw [dlen]; split <;> omega
theorem dlen_lt (m : Nat) : m < 10 ^ dlen m := by
  induction m using Nat.strongRecOn with
  | _ m ih =>
    rw [dlen]
    split
    · simpa using ‹m < 10›
    · have := ih (m / 10) (by omega)
      rw [Nat.pow_succ]; omega
theorem dlen_le (m : Nat) (h : 2 ≤ dlen m) : 10 ^ (dlen m - 1) ≤ m := by
  induction m using Nat.strongRecOn with
  | _ m ih =>
    rw [dlen] at h ⊢
    split at h
    · omega
    · rename_i hm
      rw [dif_neg hm, Nat.add_sub_cancel]
      by_cases c : 2 ≤ dlen (m / 10)
      · have := ih (m / 10) (by omega) c
        obtain ⟨j, hj⟩ : ∃ j, dlen (m / 10) = j + 1 := ⟨dlen (m / 10) - 1, by omega⟩
        rw [hj] at this ⊢
        rw [Nat.add_sub_cancel] at this
        rw [Nat.pow_succ]; omega
      · have := dlen_pos (m / 10)
        rw [show dlen (m / 10) = 1 by omega]; omega
theorem dlen_is {m k : Nat} (h1 : 1 ≤ k) (h2 : m / 10 ^ k = 0) (h3 : 2 ≤ k → m / 10 ^ (k - 1) ≠ 0) : k = dlen m := by
  have a1 : m < 10 ^ k := by
    rcases Nat.lt_or_ge m (10 ^ k) with c | c
    · exact c
    · exact absurd h2 (Nat.ne_of_gt (Nat.div_pos c (Nat.pow_pos (by decide))))
  have b1 := dlen_pos m
  have b2 := dlen_lt m
  rcases Nat.lt_trichotomy k (dlen m) with c | c | c
  · exfalso
    have b3 := dlen_le m (by omega)
    have : 10 ^ k ≤ 10 ^ (dlen m - 1) := Nat.pow_le_pow_right (by decide) (by omega)
    omega
  · exact c
  · exfalso
    refine h3 (by omega) (Nat.div_eq_of_lt ?_)
    exact Nat.lt_of_lt_of_le b2 (Nat.pow_le_pow_right (by decide) (by omega))
theorem dlen_zero {m : Nat} : m / 10 ^ dlen m = 0 := Nat.div_eq_of_lt (dlen_lt m)

/-- a number's letters -/
def natText (m : Nat) : List UInt8 := lowDigits m (dlen m)
def intText (n : Int) : List UInt8 := (if n < 0 then [45] else []) ++ natText n.natAbs

/-- what letters say -/
def numOf (l : List UInt8) : Nat := l.foldl (fun a c => 10 * a + (c.toNat - 48)) 0
def digsB (l : List UInt8) : Bool := l.all fun c => decide (48 ≤ c.toNat) && decide (c.toNat ≤ 57)
/-- digits without 0 ahead -/
def bodyB (d : List UInt8) : Bool := digsB d && !d.isEmpty && (decide (d.length ≤ 1) || !(d.headD 0 == 48))
/-- a number's one form -/
def formB (s : List UInt8) : Bool := if 1 < s.length ∧ s.headD 0 = 45 then bodyB s.tail && !(s.tail == [48]) else bodyB s
def valOf (s : List UInt8) : Int := if s.headD 0 = 45 then -(numOf s.tail : Int) else numOf s

theorem dig1_nat (m : Nat) : (dig1 m).toNat = 48 + m % 10 := by
  unfold dig1
  have : m % 10 < 10 := Nat.mod_lt _ (by decide)
  simp [UInt8.toNat_ofNat]; omega

theorem numOf_snoc (l : List UInt8) (c : UInt8) : numOf (l ++ [c]) = 10 * numOf l + (c.toNat - 48) := by simp [numOf]
theorem fold_from (l : List UInt8) (a : Nat) : l.foldl (fun a c => 10 * a + (c.toNat - 48)) a = a * 10 ^ l.length + numOf l := by
  induction l generalizing a with
  | nil => simp [numOf]
  | cons c l ih =>
    have e : numOf (c :: l) = l.foldl (fun a c => 10 * a + (c.toNat - 48)) (10 * 0 + (c.toNat - 48)) := rfl
    rw [List.foldl_cons, ih, e, ih, List.length_cons, Nat.pow_succ, Nat.add_mul, Nat.mul_zero, Nat.zero_add]
    rw [Nat.mul_comm (10 ^ l.length) 10, ← Nat.mul_assoc, Nat.mul_comm a 10]; omega
theorem numOf_cons (c : UInt8) (l : List UInt8) : numOf (c :: l) = (c.toNat - 48) * 10 ^ l.length + numOf l := by
  have := fold_from l (10 * 0 + (c.toNat - 48))
  have e : numOf (c :: l) = l.foldl (fun a c => 10 * a + (c.toNat - 48)) (10 * 0 + (c.toNat - 48)) := rfl
  rw [e, this, Nat.mul_zero, Nat.zero_add]
theorem numOf_append (l r : List UInt8) : numOf (l ++ r) = numOf l * 10 ^ r.length + numOf r := by
  have : numOf (l ++ r) = r.foldl (fun a c => 10 * a + (c.toNat - 48)) (numOf l) := by simp [numOf]
  rw [this, fold_from]

theorem digsB_at {l : List UInt8} (h : digsB l = true) {c : UInt8} (hc : c ∈ l) : 48 ≤ c.toNat ∧ c.toNat ≤ 57 := by
  have := List.all_eq_true.1 h c hc
  simpa using this
theorem numOf_lt {l : List UInt8} (h : digsB l = true) : numOf l < 10 ^ l.length := by
  induction l with
  | nil => simp [numOf]
  | cons c l ih =>
    have h1 := digsB_at h (c := c) (by simp)
    have h2 := ih (by simp only [digsB, List.all_cons, Bool.and_eq_true] at h; exact h.2)
    rw [numOf_cons, List.length_cons, Nat.pow_succ]
    have : (c.toNat - 48) * 10 ^ l.length ≤ 9 * 10 ^ l.length := Nat.mul_le_mul_right _ (by omega)
    omega

theorem numOf_low (m k : Nat) : numOf (lowDigits m k) = m % 10 ^ k := by
  induction k with
  | zero => simp [lowDigits, numOf, Nat.mod_one]
  | succ k ih =>
    rw [lowDigits, numOf_cons, lowDigits_length, ih, dig1_nat, Nat.add_sub_cancel_left, Nat.pow_succ, Nat.mod_mul, Nat.mul_comm]
    omega
theorem digsB_low (m k : Nat) : digsB (lowDigits m k) = true := by
  induction k with
  | zero => rfl
  | succ k ih =>
    have := dig1_nat (m / 10 ^ k)
    have h2 : m / 10 ^ k % 10 < 10 := Nat.mod_lt _ (by decide)
    have ih' := ih
    unfold digsB at ih' ⊢
    rw [lowDigits, List.all_cons, ih', this]
    simp; omega

theorem numOf_text (m : Nat) : numOf (natText m) = m := by
  unfold natText; rw [numOf_low, Nat.mod_eq_of_lt (dlen_lt m)]
theorem natText_length (m : Nat) : (natText m).length = dlen m := lowDigits_length _ _
theorem natText_head (m : Nat) : ∃ r, natText m = dig1 (m / 10 ^ (dlen m - 1)) :: r := by
  have := dlen_pos m
  obtain ⟨k, hk⟩ : ∃ k, dlen m = k + 1 := ⟨dlen m - 1, by omega⟩
  unfold natText
  rw [hk, Nat.add_sub_cancel]
  exact ⟨_, rfl⟩
theorem bodyB_text (m : Nat) : bodyB (natText m) = true := by
  have h0 := dlen_pos m
  obtain ⟨r, hr⟩ := natText_head m
  have hl := natText_length m
  unfold bodyB
  rw [show digsB (natText m) = true from digsB_low _ _]
  rw [hr] at hl ⊢
  simp only [List.isEmpty_cons, Bool.not_false, Bool.and_self, Bool.true_and, List.headD_cons, Bool.or_eq_true, decide_eq_true_eq, Bool.not_eq_true', beq_eq_false_iff_ne, ne_eq]
  by_cases c : 2 ≤ dlen m
  · right
    intro e
    have e2 := dig1_nat (m / 10 ^ (dlen m - 1))
    rw [e] at e2
    have h1 := dlen_le m c
    have h2 := dlen_lt m
    obtain ⟨k, hk⟩ : ∃ k, dlen m = k + 1 := ⟨dlen m - 1, by omega⟩
    rw [hk, Nat.pow_succ] at h2
    rw [hk, Nat.add_sub_cancel] at h1 e2
    have p := Nat.div_pos h1 (Nat.pow_pos (by decide : 0 < 10))
    have q : m / 10 ^ k < 10 := Nat.div_lt_of_lt_mul h2
    simp at e2
    omega
  · left; omega
theorem text_zero {m : Nat} (h : natText m = [48]) : m = 0 := by
  have := numOf_text m
  rw [h] at this
  simpa [numOf] using this.symm
theorem natText_first (m : Nat) : (natText m).headD 0 ≠ 45 := by
  obtain ⟨r, hr⟩ := natText_head m
  rw [hr]
  intro e
  have e2 := dig1_nat (m / 10 ^ (dlen m - 1))
  simp only [List.headD_cons] at e
  rw [e] at e2
  simp at e2; omega
theorem natText_ne (m : Nat) : natText m ≠ [] := by
  obtain ⟨r, hr⟩ := natText_head m
  rw [hr]; simp

theorem formB_text (n : Int) : formB (intText n) = true := by
  unfold formB intText
  by_cases c : n < 0
  · have hne := natText_ne n.natAbs
    have hl : 0 < (natText n.natAbs).length := List.length_pos_iff.2 hne
    rw [if_pos c, if_pos ⟨by simp; omega, by simp⟩]
    simp only [List.singleton_append, List.tail_cons, bodyB_text, Bool.true_and]
    have : natText n.natAbs ≠ [48] := fun e => by have := text_zero e; omega
    simpa using this
  · rw [if_neg c, List.nil_append, if_neg (fun h => natText_first _ h.2)]
    exact bodyB_text _
theorem valOf_text (n : Int) : valOf (intText n) = n := by
  unfold valOf intText
  by_cases c : n < 0
  · rw [if_pos c, if_pos (by simp)]
    simp only [List.singleton_append, List.tail_cons, numOf_text]; omega
  · rw [if_neg c, List.nil_append, if_neg (natText_first _), numOf_text]; omega

theorem intText_length (n : Int) : (intText n).length ≤ dlen n.natAbs + 1 := by
  unfold intText; rw [List.length_append, natText_length]; split <;> simp <;> omega
theorem dlen_lim {m K : Nat} (h : m < 10 ^ K) (hK : 1 ≤ K) : dlen m ≤ K := by
  rcases Nat.lt_or_ge K (dlen m) with c | c
  · exfalso
    have := dlen_le m (by omega)
    have : 10 ^ K ≤ 10 ^ (dlen m - 1) := Nat.pow_le_pow_right (by decide) (by omega)
    omega
  · exact c

/-! ### bytes of a text, one behind the other -/
theorem digs_next {D : ByteArray} {k : Nat} (hk : k < D.size) : (digsB (D.data.toList.take k) = true → 48 ≤ (D[k]).toNat ∧ (D[k]).toNat ≤ 57 → digsB (D.data.toList.take (k + 1)) = true) ∧ (¬ (48 ≤ (D[k]).toNat ∧ (D[k]).toNat ≤ 57) → digsB D.data.toList = false) := by
  have hk' : k < D.data.toList.length := by simpa using hk
  have e : D[k] = D.data.toList[k] := rfl
  refine ⟨fun h1 h2 => ?_, fun h => ?_⟩
  · rw [List.take_succ_eq_append_getElem hk', ← e]
    unfold digsB at *
    rw [List.all_append, h1]
    simpa using h2
  · rw [Bool.eq_false_iff]
    intro h2
    exact h (by rw [e]; exact digsB_at h2 (List.getElem_mem hk'))

theorem blen (D : ByteArray) : D.data.toList.length = D.size := by simp
end Go.Proofs.YtopklnaahdjafaaGreatDoor
