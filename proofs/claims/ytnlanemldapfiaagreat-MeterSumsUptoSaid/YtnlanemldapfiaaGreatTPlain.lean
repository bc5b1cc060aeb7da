/-
  PLAIN, of the table: trees, what each function makes of them, and the list of pairs that a tree is. No program, no memory.
-/
namespace Go.Proofs.YtnlanemldapfiaaGreat.Tb

/-- keys in order -/
class Lin (K : Type) [LT K] : Prop where
  irr : ∀ a : K, ¬ a < a
  trans : ∀ {a b c : K}, a < b → b < c → a < c
  tri : ∀ a b : K, a < b ∨ a = b ∨ b < a

inductive Tr (K V : Type) where
  | nil
  | node (k : K) (v : V) (s : Nat) (l r : Tr K V)

section
variable {K V : Type}

def Tr.list : Tr K V → List (K × V)
  | .nil => []
  | .node k v _ l r => l.list ++ (k, v) :: r.list

def Tr.count : Tr K V → Nat
  | .nil => 0
  | .node _ _ s _ _ => s

def Tr.Sized : Tr K V → Prop
  | .nil => True
  | .node _ _ s l r => s = l.count + r.count + 1 ∧ l.Sized ∧ r.Sized

def Tr.isNil : Tr K V → Bool
  | .nil => true
  | .node .. => false

theorem Tr.Sized.count {t : Tr K V} (h : t.Sized) : t.count = t.list.length := by
  induction t with
  | nil => rfl
  | node k v s l r ihl ihr =>
    obtain ⟨h1, h2, h3⟩ := h
    rw [Tr.list, List.length_append, List.length_cons, ← ihl h2, ← ihr h3]
    show s = _
    omega

def made (k : K) (v : V) (l r : Tr K V) : Tr K V := .node k v (l.count + r.count + 1) l r

theorem list_made (k : K) (v : V) (l r : Tr K V) : (made k v l r).list = l.list ++ (k, v) :: r.list := rfl
theorem sized_made {k : K} {v : V} {l r : Tr K V} (hl : l.Sized) (hr : r.Sized) : (made k v l r).Sized := ⟨rfl, hl, hr⟩

def turnLeft (k : K) (v : V) (l r : Tr K V) : Tr K V :=
  match r with
  | .nil => made k v l r
  | .node rk rv _ m rr => if m.count + 1 < 2 * (rr.count + 1) then made rk rv (made k v l m) rr else
    match m with
    | .nil => made k v l r
    | .node mk mv _ ml mr => made mk mv (made k v l ml) (made rk rv mr rr)

def turnRight (k : K) (v : V) (l r : Tr K V) : Tr K V :=
  match l with
  | .nil => made k v l r
  | .node lk lv _ ll m => if m.count + 1 < 2 * (ll.count + 1) then made lk lv ll (made k v m r) else
    match m with
    | .nil => made k v l r
    | .node mk mv _ ml mr => made mk mv (made lk lv ll ml) (made k v mr r)

def over (k : K) (v : V) (l r : Tr K V) : Tr K V :=
  if 3 * (l.count + 1) < r.count + 1 then turnLeft k v l r
  else if 3 * (r.count + 1) < l.count + 1 then turnRight k v l r
  else made k v l r

theorem list_turnLeft (k : K) (v : V) (l r : Tr K V) : (turnLeft k v l r).list = l.list ++ (k, v) :: r.list := by
  cases r with
  | nil => rfl
  | node rk rv s m rr =>
    unfold turnLeft
    dsimp only
    by_cases h : m.count + 1 < 2 * (rr.count + 1)
    · rw [if_pos h]; simp [list_made, Tr.list]
    · rw [if_neg h]
      cases m with
      | nil => rfl
      | node mk mv ms ml mr => simp [list_made, Tr.list]

theorem list_turnRight (k : K) (v : V) (l r : Tr K V) : (turnRight k v l r).list = l.list ++ (k, v) :: r.list := by
  cases l with
  | nil => rfl
  | node lk lv s ll m =>
    unfold turnRight
    dsimp only
    by_cases h : m.count + 1 < 2 * (ll.count + 1)
    · rw [if_pos h]; simp [list_made, Tr.list]
    · rw [if_neg h]
      cases m with
      | nil => rfl
      | node mk mv ms ml mr => simp [list_made, Tr.list]

theorem list_over (k : K) (v : V) (l r : Tr K V) : (over k v l r).list = l.list ++ (k, v) :: r.list := by
  unfold over
  by_cases h : 3 * (l.count + 1) < r.count + 1
  · rw [if_pos h, list_turnLeft]
  · rw [if_neg h]
    by_cases h2 : 3 * (r.count + 1) < l.count + 1
    · rw [if_pos h2, list_turnRight]
    · rw [if_neg h2, list_made]

theorem sized_turnLeft {k : K} {v : V} {l r : Tr K V} (hl : l.Sized) (hr : r.Sized) : (turnLeft k v l r).Sized := by
  cases r with
  | nil => exact sized_made hl hr
  | node rk rv s m rr =>
    obtain ⟨_, h2, h3⟩ := hr
    unfold turnLeft
    dsimp only
    by_cases h : m.count + 1 < 2 * (rr.count + 1)
    · rw [if_pos h]; exact sized_made (sized_made hl h2) h3
    · rw [if_neg h]
      cases m with
      | nil => exact sized_made hl ⟨by assumption, h2, h3⟩
      | node mk mv ms ml mr => exact sized_made (sized_made hl h2.2.1) (sized_made h2.2.2 h3)

theorem sized_turnRight {k : K} {v : V} {l r : Tr K V} (hl : l.Sized) (hr : r.Sized) : (turnRight k v l r).Sized := by
  cases l with
  | nil => exact sized_made hl hr
  | node lk lv s ll m =>
    obtain ⟨_, h2, h3⟩ := hl
    unfold turnRight
    dsimp only
    by_cases h : m.count + 1 < 2 * (ll.count + 1)
    · rw [if_pos h]; exact sized_made h2 (sized_made h3 hr)
    · rw [if_neg h]
      cases m with
      | nil => exact sized_made ⟨by assumption, h2, h3⟩ hr
      | node mk mv ms ml mr => exact sized_made (sized_made h2 h3.2.1) (sized_made h3.2.2 hr)

theorem sized_over {k : K} {v : V} {l r : Tr K V} (hl : l.Sized) (hr : r.Sized) : (over k v l r).Sized := by
  unfold over
  by_cases h : 3 * (l.count + 1) < r.count + 1
  · rw [if_pos h]; exact sized_turnLeft hl hr
  · rw [if_neg h]
    by_cases h2 : 3 * (r.count + 1) < l.count + 1
    · rw [if_pos h2]; exact sized_turnRight hl hr
    · rw [if_neg h2]; exact sized_made hl hr

theorem count_over {k : K} {v : V} {l r : Tr K V} (hl : l.Sized) (hr : r.Sized) : (over k v l r).count = l.count + r.count + 1 := by
  rw [(sized_over hl hr).count, list_over, hl.count, hr.count, List.length_append, List.length_cons]
  omega

def lastP : K × V → Tr K V → K × V
  | d, .nil => d
  | _, .node k v _ _ r => lastP (k, v) r

def firstP : K × V → Tr K V → K × V
  | d, .nil => d
  | _, .node k v _ l _ => firstP (k, v) l

theorem lastP_list (d : K × V) (t : Tr K V) : t.list = [] ∧ lastP d t = d ∨ ∃ a, t.list = a ++ [lastP d t] := by
  induction t generalizing d with
  | nil => exact Or.inl ⟨rfl, rfl⟩
  | node k v s l r _ ihr =>
    right
    rw [Tr.list, lastP]
    rcases ihr (k, v) with ⟨h1, h2⟩ | ⟨a, h⟩
    · exact ⟨l.list, by rw [h1, h2]⟩
    · exact ⟨l.list ++ (k, v) :: a, by conv => lhs; rw [h]
                                       simp⟩

theorem firstP_list (d : K × V) (t : Tr K V) : t.list = [] ∧ firstP d t = d ∨ ∃ a, t.list = firstP d t :: a := by
  induction t generalizing d with
  | nil => exact Or.inl ⟨rfl, rfl⟩
  | node k v s l r ihl _ =>
    right
    rw [Tr.list, firstP]
    rcases ihl (k, v) with ⟨h1, h2⟩ | ⟨a, h⟩
    · exact ⟨r.list, by rw [h1, h2]; rfl⟩
    · exact ⟨a ++ (k, v) :: r.list, by conv => lhs; rw [h]
                                       simp⟩

theorem isNil_list {t : Tr K V} : t.isNil = true ↔ t.list = [] := by
  cases t with
  | nil => simp [Tr.isNil, Tr.list]
  | node => simp [Tr.isNil, Tr.list]

end

/-! ### what the functions make -/
section
variable {K V : Type} [LT K] [DecidableLT K]
def get : Tr K V → K → Option V
  | .nil, _ => none
  | .node nk nv _ l r, k => if k < nk then get l k else if nk < k then get r k else some nv

def put : Tr K V → K → V → Tr K V
  | .nil, k, v => made k v .nil .nil
  | .node nk nv _ l r, k, v => if k < nk then over nk nv (put l k v) r else if nk < k then over nk nv l (put r k v) else made k v l r

def without : Tr K V → K → Tr K V
  | .nil, _ => .nil
  | .node nk nv _ l r, k =>
    if k < nk then over nk nv (without l k) r else if nk < k then over nk nv l (without r k)
    else if l.isNil = true then r else if r.isNil = true then l
    else if r.count < l.count then over (lastP (nk, nv) l).1 (lastP (nk, nv) l).2 (without l (lastP (nk, nv) l).1) r
    else over (firstP (nk, nv) r).1 (firstP (nk, nv) r).2 l (without r (firstP (nk, nv) r).1)

def betw (a b : K) : Tr K V → List (K × V)
  | .nil => []
  | .node k v _ l r => (if k < a then [] else betw a b l) ++ ((if ¬ k < a ∧ k < b then [(k, v)] else []) ++ (if k < b then betw a b r else []))

def putL : List (K × V) → K → V → List (K × V)
  | [], k, v => [(k, v)]
  | x :: r, k, v => if k < x.1 then (k, v) :: x :: r else if x.1 < k then x :: putL r k v else (k, v) :: r

theorem sized_put {t : Tr K V} (h : t.Sized) (k : K) (v : V) : (put t k v).Sized := by
  induction t with
  | nil => exact sized_made trivial trivial
  | node nk nv s l r ihl ihr =>
    obtain ⟨_, h2, h3⟩ := h
    rw [put]
    by_cases hk : k < nk
    · rw [if_pos hk]; exact sized_over (ihl h2) h3
    · rw [if_neg hk]
      by_cases hn : nk < k
      · rw [if_pos hn]; exact sized_over h2 (ihr h3)
      · rw [if_neg hn]; exact sized_made h2 h3

theorem sized_without {t : Tr K V} (h : t.Sized) (k : K) : (without t k).Sized := by
  induction t generalizing k with
  | nil => trivial
  | node nk nv s l r ihl ihr =>
    obtain ⟨_, h2, h3⟩ := h
    rw [without]
    by_cases hk : k < nk
    · rw [if_pos hk]; exact sized_over (ihl h2 _) h3
    · rw [if_neg hk]
      by_cases hn : nk < k
      · rw [if_pos hn]; exact sized_over h2 (ihr h3 _)
      · rw [if_neg hn]
        by_cases hl : l.isNil = true
        · rw [if_pos hl]; exact h3
        · rw [if_neg hl]
          by_cases hr : r.isNil = true
          · rw [if_pos hr]; exact h2
          · rw [if_neg hr]
            by_cases hc : r.count < l.count
            · rw [if_pos hc]; exact sized_over (ihl h2 _) h3
            · rw [if_neg hc]; exact sized_over h2 (ihr h3 _)

theorem mem_putL {l : List (K × V)} {k : K} {v : V} {x : K × V} (h : x ∈ putL l k v) : x = (k, v) ∨ x ∈ l := by
  induction l with
  | nil => simpa [putL] using h
  | cons y l ih =>
    rw [putL] at h
    by_cases h1 : k < y.1
    · rw [if_pos h1] at h; simpa using h
    · rw [if_neg h1] at h
      by_cases h2 : y.1 < k
      · rw [if_pos h2] at h
        rcases List.mem_cons.1 h with h | h
        · exact Or.inr (by simp [h])
        · exact (ih h).imp id (fun h => by simp [h])
      · rw [if_neg h2] at h
        rcases List.mem_cons.1 h with h | h
        · exact Or.inl h
        · exact Or.inr (by simp [h])

theorem putL_left (a b : List (K × V)) (x : K × V) {k : K} (v : V) (h : k < x.1) : putL (a ++ x :: b) k v = putL a k v ++ x :: b := by
  induction a with
  | nil => simp [putL, h]
  | cons y a ih =>
    rw [List.cons_append, putL, putL]
    by_cases h1 : k < y.1
    · rw [if_pos h1, if_pos h1]; rfl
    · rw [if_neg h1, if_neg h1]
      by_cases h2 : y.1 < k
      · rw [if_pos h2, if_pos h2, ih]; rfl
      · rw [if_neg h2, if_neg h2]; rfl

theorem count_put {t : Tr K V} (h : t.Sized) (k : K) (v : V) : (put t k v).count ≤ t.count + 1 := by
  induction t with
  | nil => exact Nat.le_refl _
  | node nk nv s l r ihl ihr =>
    obtain ⟨h1, h2, h3⟩ := h
    have e : (Tr.node nk nv s l r).count = s := rfl
    rw [put, e]
    have i1 := ihl h2
    have i2 := ihr h3
    by_cases hk : k < nk
    · rw [if_pos hk, count_over (sized_put h2 k v) h3]; omega
    · rw [if_neg hk]
      by_cases hn : nk < k
      · rw [if_pos hn, count_over h2 (sized_put h3 k v)]; omega
      · rw [if_neg hn]; show l.count + r.count + 1 ≤ _; omega

theorem count_without {t : Tr K V} (h : t.Sized) (k : K) : (without t k).count ≤ t.count := by
  induction t generalizing k with
  | nil => exact Nat.le_refl _
  | node nk nv s l r ihl ihr =>
    obtain ⟨h1, h2, h3⟩ := h
    have e : (Tr.node nk nv s l r).count = s := rfl
    rw [without, e]
    by_cases hk : k < nk
    · have i1 := ihl h2 k
      rw [if_pos hk, count_over (sized_without h2 k) h3]; omega
    · rw [if_neg hk]
      by_cases hn : nk < k
      · have i2 := ihr h3 k
        rw [if_pos hn, count_over h2 (sized_without h3 k)]; omega
      · rw [if_neg hn]
        by_cases hl : l.isNil = true
        · rw [if_pos hl]; omega
        · rw [if_neg hl]
          by_cases hr : r.isNil = true
          · rw [if_pos hr]; omega
          · rw [if_neg hr]
            by_cases hc : r.count < l.count
            · have i1 := ihl h2 (lastP (nk, nv) l).1
              rw [if_pos hc, count_over (sized_without h2 _) h3]; omega
            · have i2 := ihr h3 (firstP (nk, nv) r).1
              rw [if_neg hc, count_over h2 (sized_without h3 _)]; omega

/-- is it one of the range? -/
def inR (a b : K) (x : K × V) : Bool := decide (¬ x.1 < a) && decide (x.1 < b)
end

/-! ### lists of pairs -/
section
variable {K V : Type} [DecidableEq K]
def findL (l : List (K × V)) (k : K) : Option V := (l.find? (fun x => x.1 = k)).map (·.2)

def dropL (l : List (K × V)) (k : K) : List (K × V) := l.filter (fun x => decide (x.1 ≠ k))

theorem dropL_append (a b : List (K × V)) (k : K) : dropL (a ++ b) k = dropL a k ++ dropL b k := List.filter_append ..

theorem dropL_keep {l : List (K × V)} {k : K} (h : ∀ y ∈ l, y.1 ≠ k) : dropL l k = l := by
  unfold dropL
  rw [List.filter_eq_self]
  intro y hy
  simpa using h y hy

theorem dropL_cons_ne {x : K × V} {k : K} (h : x.1 ≠ k) (l : List (K × V)) : dropL (x :: l) k = x :: dropL l k := by
  unfold dropL; rw [List.filter_cons_of_pos (by simpa using h)]

theorem dropL_cons_eq {x : K × V} {k : K} (h : x.1 = k) (l : List (K × V)) : dropL (x :: l) k = dropL l k := by
  unfold dropL; rw [List.filter_cons_of_neg (by simpa using h)]

theorem findL_append (a b : List (K × V)) (k : K) : findL (a ++ b) k = (findL a k).or (findL b k) := by
  unfold findL
  rw [List.find?_append]
  cases List.find? (fun x => decide (x.1 = k)) a <;> simp

theorem findL_none {l : List (K × V)} {k : K} (h : ∀ y ∈ l, y.1 ≠ k) : findL l k = none := by
  unfold findL
  rw [List.find?_eq_none.2 fun y hy => by simpa using h y hy]; rfl

theorem findL_cons_eq {x : K × V} {k : K} (h : x.1 = k) (l : List (K × V)) : findL (x :: l) k = some x.2 := by
  unfold findL; rw [List.find?_cons_of_pos (by simpa using h)]; rfl

theorem findL_cons_ne {x : K × V} {k : K} (h : x.1 ≠ k) (l : List (K × V)) : findL (x :: l) k = findL l k := by
  unfold findL; rw [List.find?_cons_of_neg (by simpa using h)]

end

section
variable {K V : Type} [LT K]
def Rises (l : List (K × V)) : Prop := l.Pairwise (fun x y => x.1 < y.1)

theorem rises_append {a b : List (K × V)} : Rises (a ++ b) ↔ Rises a ∧ Rises b ∧ ∀ x ∈ a, ∀ y ∈ b, x.1 < y.1 := List.pairwise_append
theorem rises_cons {x : K × V} {b : List (K × V)} : Rises (x :: b) ↔ (∀ y ∈ b, x.1 < y.1) ∧ Rises b := List.pairwise_cons

theorem rises_node {a b : List (K × V)} {x : K × V} (h : Rises (a ++ x :: b)) : Rises a ∧ Rises b ∧ (∀ y ∈ a, y.1 < x.1) ∧ (∀ y ∈ b, x.1 < y.1) := by
  obtain ⟨h1, h2, h3⟩ := rises_append.1 h
  obtain ⟨h4, h5⟩ := rises_cons.1 h2
  exact ⟨h1, h5, fun y hy => h3 y hy x (by simp), h4⟩

theorem rises_dropL {l : List (K × V)} [DecidableEq K] (h : Rises l) (k : K) : Rises (dropL l k) := h.filter _

section
variable [Lin K]
theorem ne_of_lt {a b : K} (h : a < b) : a ≠ b := fun e => Lin.irr a (by rw [← e] at h; exact h)
theorem not_lt_of_lt {a b : K} (h : a < b) : ¬ b < a := fun k => Lin.irr a (Lin.trans h k)
theorem eq_of_not {a b : K} (h1 : ¬ a < b) (h2 : ¬ b < a) : a = b := by
  rcases Lin.tri a b with h | h | h
  · exact absurd h h1
  · exact h
  · exact absurd h h2

end
end

section
variable {K V : Type} [LT K] [DecidableLT K] [Lin K]
theorem putL_skip {a : List (K × V)} {k : K} (h : ∀ y ∈ a, y.1 < k) (b : List (K × V)) (v : V) : putL (a ++ b) k v = a ++ putL b k v := by
  induction a with
  | nil => rfl
  | cons y a ih =>
    have hy := h y (by simp)
    rw [List.cons_append, putL, if_neg (not_lt_of_lt hy), if_pos hy, ih fun z hz => h z (by simp [hz])]; rfl

theorem rises_putL {l : List (K × V)} (h : Rises l) (k : K) (v : V) : Rises (putL l k v) := by
  induction l with
  | nil => exact rises_cons.2 ⟨fun y hy => (by cases hy), List.Pairwise.nil⟩
  | cons y l ih =>
    obtain ⟨h1, h2⟩ := rises_cons.1 h
    rw [putL]
    by_cases hk : k < y.1
    · rw [if_pos hk]
      refine rises_cons.2 ⟨fun z hz => ?_, h⟩
      rcases List.mem_cons.1 hz with hz | hz
      · rw [hz]; exact hk
      · exact Lin.trans hk (h1 z hz)
    · rw [if_neg hk]
      by_cases hy : y.1 < k
      · rw [if_pos hy]
        refine rises_cons.2 ⟨fun z hz => ?_, ih h2⟩
        rcases mem_putL hz with hz | hz
        · rw [hz]; exact hy
        · exact h1 z hz
      · rw [if_neg hy]
        have e := eq_of_not hk hy
        refine rises_cons.2 ⟨fun z hz => ?_, h2⟩
        show k < z.1
        rw [e]; exact h1 z hz

theorem put_list {t : Tr K V} (h : Rises t.list) (k : K) (v : V) : (put t k v).list = putL t.list k v := by
  induction t with
  | nil => rfl
  | node nk nv s l r ihl ihr =>
    obtain ⟨h1, h2, h3, h4⟩ := rises_node h
    rw [Tr.list, put]
    by_cases hk : k < nk
    · rw [if_pos hk, list_over, ihl h1, putL_left _ _ _ _ hk]
    · rw [if_neg hk]
      by_cases hn : nk < k
      · rw [if_pos hn, list_over, ihr h2, putL_skip (fun y hy => Lin.trans (h3 y hy) hn), putL, if_neg hk, if_pos hn]
      · rw [if_neg hn]
        have e := eq_of_not hk hn
        subst e
        rw [list_made, putL_skip h3, putL, if_neg hk, if_neg hn]

theorem betw_list {t : Tr K V} (h : Rises t.list) (a b : K) : betw a b t = t.list.filter (inR a b) := by
  induction t with
  | nil => rfl
  | node k v s l r ihl ihr =>
    obtain ⟨h1, h2, h3, h4⟩ := rises_node h
    rw [Tr.list, betw, List.filter_append, List.filter_cons]
    have e1 : (if k < a then [] else betw a b l) = l.list.filter (inR a b) := by
      by_cases hk : k < a
      · rw [if_pos hk]
        symm
        rw [List.filter_eq_nil_iff]
        intro y hy
        have := Lin.trans (h3 y hy) hk
        simp [inR, this]
      · rw [if_neg hk, ihl h1]
    have e2 : (if k < b then betw a b r else []) = r.list.filter (inR a b) := by
      by_cases hk : k < b
      · rw [if_pos hk, ihr h2]
      · rw [if_neg hk]
        symm
        rw [List.filter_eq_nil_iff]
        intro y hy
        have : ¬ y.1 < b := fun q => hk (Lin.trans (h4 y hy) q)
        simp [inR, this]
    rw [e1, e2]
    congr 1
    by_cases hk : ¬ k < a ∧ k < b
    · rw [if_pos hk, if_pos (by simp [inR, hk.2]; exact fun q => hk.1 q)]; rfl
    · rw [if_neg hk, if_neg (by simp only [inR, Bool.and_eq_true, decide_eq_true_eq]; exact hk)]; rfl
end

/-! ### trees are their lists -/
section
variable {K V : Type} [LT K] [DecidableLT K] [DecidableEq K] [Lin K]
theorem get_list {t : Tr K V} (h : Rises t.list) (k : K) : get t k = findL t.list k := by
  induction t with
  | nil => rfl
  | node nk nv s l r ihl ihr =>
    obtain ⟨h1, h2, h3, h4⟩ := rises_node h
    rw [Tr.list, get, findL_append]
    by_cases hk : k < nk
    · rw [if_pos hk, ihl h1, findL_cons_ne (Ne.symm (ne_of_lt hk)), findL_none (l := r.list) (fun y hy => Ne.symm (ne_of_lt (Lin.trans hk (h4 y hy))))]
      simp
    · rw [if_neg hk]
      by_cases hn : nk < k
      · rw [if_pos hn, ihr h2, findL_none (l := l.list) (fun y hy => ne_of_lt (Lin.trans (h3 y hy) hn)), findL_cons_ne (ne_of_lt hn)]
        simp
      · rw [if_neg hn]
        have e := eq_of_not hk hn
        subst e
        rw [findL_none (l := l.list) (fun y hy => ne_of_lt (h3 y hy)), findL_cons_eq rfl]
        simp

theorem without_list {t : Tr K V} (h : Rises t.list) (k : K) : (without t k).list = dropL t.list k := by
  induction t generalizing k with
  | nil => rfl
  | node nk nv s l r ihl ihr =>
    obtain ⟨h1, h2, h3, h4⟩ := rises_node h
    rw [Tr.list, without, dropL_append]
    by_cases hk : k < nk
    · rw [if_pos hk, list_over, ihl h1, dropL_cons_ne (Ne.symm (ne_of_lt hk)), dropL_keep (l := r.list) (fun y hy => Ne.symm (ne_of_lt (Lin.trans hk (h4 y hy))))]
    · rw [if_neg hk]
      by_cases hn : nk < k
      · rw [if_pos hn, list_over, ihr h2, dropL_keep (l := l.list) (fun y hy => ne_of_lt (Lin.trans (h3 y hy) hn)), dropL_cons_ne (ne_of_lt hn)]
      · rw [if_neg hn]
        have e := eq_of_not hk hn
        subst e
        rw [dropL_keep (l := l.list) (fun y hy => ne_of_lt (h3 y hy)), dropL_cons_eq rfl, dropL_keep (l := r.list) (fun y hy => Ne.symm (ne_of_lt (h4 y hy)))]
        by_cases hl : l.isNil = true
        · rw [if_pos hl, isNil_list.1 hl]; rfl
        · rw [if_neg hl]
          by_cases hr : r.isNil = true
          · rw [if_pos hr, isNil_list.1 hr]; simp
          · rw [if_neg hr]
            have hl' : l.list ≠ [] := fun e => hl (isNil_list.2 e)
            have hr' : r.list ≠ [] := fun e => hr (isNil_list.2 e)
            by_cases hc : r.count < l.count
            · rw [if_pos hc, list_over, ihl h1]
              rcases lastP_list (k, nv) l with ⟨e, _⟩ | ⟨a, ha⟩
              · exact absurd e hl'
              · have ha2 := ha
                rw [ha2] at h1
                obtain ⟨_, _, h8⟩ := rises_append.1 h1
                conv => lhs; lhs; rw [ha]
                rw [dropL_append, dropL_cons_eq rfl, dropL_keep (l := a) (fun y hy => ne_of_lt (h8 y hy _ (by simp)))]
                conv => rhs; rw [ha]
                simp [dropL]
            · rw [if_neg hc, list_over, ihr h2]
              rcases firstP_list (k, nv) r with ⟨e, _⟩ | ⟨a, ha⟩
              · exact absurd e hr'
              · have ha2 := ha
                rw [ha2] at h2
                obtain ⟨h8, _⟩ := rises_cons.1 h2
                conv => lhs; rhs; rhs; rw [ha]
                rw [dropL_cons_eq rfl, dropL_keep (l := a) (fun y hy => Ne.symm (ne_of_lt (h8 y hy)))]
                conv => rhs; rw [ha]

end

instance : Lin Int := ⟨fun a => by omega, fun h k => by omega, fun a b => by omega⟩

theorem u8_irr (a : UInt8) : ¬ a < a := by rw [UInt8.lt_iff_toNat_lt]; omega

instance : Lin (List UInt8) where
  irr := List.lt_irrefl
  trans := fun h k => List.lt_trans h k
  tri := fun a b => by
    by_cases h : a < b
    · exact Or.inl h
    · by_cases k : b < a
      · exact Or.inr (Or.inr k)
      · exact Or.inr (Or.inl (List.le_antisymm (List.not_lt.1 k) (List.not_lt.1 h)))

end Go.Proofs.YtnlanemldapfiaaGreat.Tb
