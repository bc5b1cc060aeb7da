/-
  PLAIN, of TableOrder: numbers put into a table, one after the other; rising lists of the same numbers.
-/
import Derived.Test.YtaggpldkgbjklaaTPlain
namespace Go.Proofs.Ytaggpldkgbjklaa.Tb

abbrev TI := Tr Int (List UInt8)

def putAll (t : TI) (ks : List Int) : TI := ks.foldl (fun t k => put t k [120]) t
def keysOf (t : TI) : List Int := t.list.map (·.1)

theorem putAll_snoc (t : TI) (ks : List Int) (k : Int) : putAll t (ks ++ [k]) = put (putAll t ks) k [120] := by
  unfold putAll; rw [List.foldl_append]; rfl

theorem sized_putAll {t : TI} (h : t.Sized) (ks : List Int) : (putAll t ks).Sized := by
  induction ks generalizing t with
  | nil => exact h
  | cons k ks ih => exact ih (sized_put h k _)

theorem count_putAll {t : TI} (h : t.Sized) (ks : List Int) : (putAll t ks).count ≤ t.count + ks.length := by
  induction ks generalizing t with
  | nil => exact Nat.le_refl _
  | cons k ks ih =>
    have h1 := ih (sized_put h k [120])
    have h2 := count_put h k [120]
    rw [List.length_cons]
    show (putAll (put t k [120]) ks).count ≤ _
    omega

theorem rises_put {t : TI} (h : Rises t.list) (k : Int) (v : List UInt8) : Rises (put t k v).list := by
  rw [put_list h]; exact rises_putL h k v

theorem rises_putAll {t : TI} (h : Rises t.list) (ks : List Int) : Rises (putAll t ks).list := by
  induction ks generalizing t with
  | nil => exact h
  | cons k ks ih => exact ih (rises_put h k _)

theorem keys_putL (l : List (Int × List UInt8)) (k : Int) (v : List UInt8) (x : Int) : x ∈ (putL l k v).map (·.1) ↔ x = k ∨ x ∈ l.map (·.1) := by
  induction l with
  | nil => simp [putL]
  | cons y l ih =>
    rw [putL]
    by_cases h1 : k < y.1
    · rw [if_pos h1]; simp
    · rw [if_neg h1]
      by_cases h2 : y.1 < k
      · rw [if_pos h2, List.map_cons, List.mem_cons, ih, List.map_cons, List.mem_cons]
        constructor
        · rintro (h | h | h)
          · exact Or.inr (Or.inl h)
          · exact Or.inl h
          · exact Or.inr (Or.inr h)
        · rintro (h | h | h)
          · exact Or.inr (Or.inl h)
          · exact Or.inl h
          · exact Or.inr (Or.inr h)
      · rw [if_neg h2]
        have e : y.1 = k := by omega
        simp [e]

theorem keys_put {t : TI} (h : Rises t.list) (k : Int) (v : List UInt8) (x : Int) : x ∈ keysOf (put t k v) ↔ x = k ∨ x ∈ keysOf t := by
  unfold keysOf
  rw [put_list h]
  exact keys_putL _ _ _ _

theorem keys_putAll {t : TI} (h : Rises t.list) (ks : List Int) (x : Int) : x ∈ keysOf (putAll t ks) ↔ x ∈ ks ∨ x ∈ keysOf t := by
  induction ks generalizing t with
  | nil => simp [putAll]
  | cons k ks ih =>
    show x ∈ keysOf (putAll (put t k [120]) ks) ↔ _
    rw [ih (rises_put h k _), keys_put h, List.mem_cons]
    constructor
    · rintro (h | h | h)
      · exact Or.inl (Or.inr h)
      · exact Or.inl (Or.inl h)
      · exact Or.inr h
    · rintro ((h | h) | h)
      · exact Or.inr (Or.inl h)
      · exact Or.inl h
      · exact Or.inr (Or.inr h)

theorem keys_rise {t : TI} (h : Rises t.list) : (keysOf t).Pairwise (· < ·) := List.pairwise_map.2 h

theorem rise_nil : Rises (Tr.nil : TI).list := List.Pairwise.nil

/-- two rising lists of the same numbers are the same -/
theorem rising_ext : ∀ {a b : List Int}, a.Pairwise (· < ·) → b.Pairwise (· < ·) → (∀ n, n ∈ a ↔ n ∈ b) → a = b
  | [], [], _, _, _ => rfl
  | [], y :: s, _, _, h => absurd ((h y).2 (by simp)) (by simp)
  | x :: r, [], _, _, h => absurd ((h x).1 (by simp)) (by simp)
  | x :: r, y :: s, ha, hb, h => by
    obtain ⟨a1, a2⟩ := List.pairwise_cons.1 ha
    obtain ⟨b1, b2⟩ := List.pairwise_cons.1 hb
    have e : x = y := by
      have h1 := (h x).1 (by simp)
      have h2 := (h y).2 (by simp)
      rcases List.mem_cons.1 h1 with e | e
      · exact e
      · rcases List.mem_cons.1 h2 with f | f
        · exact f.symm
        · have := a1 y f; have := b1 x e; omega
    subst e
    rw [rising_ext a2 b2 fun n => ?_]
    constructor
    · intro hn
      have := (h n).1 (by simp [hn])
      rcases List.mem_cons.1 this with e | e
      · subst e; have := a1 n hn; omega
      · exact e
    · intro hn
      have := (h n).2 (by simp [hn])
      rcases List.mem_cons.1 this with e | e
      · subst e; have := b1 n hn; omega
      · exact e

/-- the same numbers in whatever order -/
theorem same_keys {ks ls : List Int} (h : ∀ n, n ∈ ks ↔ n ∈ ls) : keysOf (putAll .nil ks) = keysOf (putAll .nil ls) := by
  refine rising_ext (keys_rise (rises_putAll rise_nil ks)) (keys_rise (rises_putAll rise_nil ls)) fun n => ?_
  rw [keys_putAll rise_nil, keys_putAll rise_nil, h n]

theorem find_key {l : List (Int × List UInt8)} {k : Int} (h : k ∈ l.map (·.1)) : (findL l k).isSome = true := by
  induction l with
  | nil => simp at h
  | cons y l ih =>
    by_cases e : y.1 = k
    · rw [findL_cons_eq e]; rfl
    · rw [findL_cons_ne e]
      rw [List.map_cons, List.mem_cons] at h
      rcases h with h | h
      · exact absurd h.symm e
      · exact ih h

theorem get_key {t : TI} (hr : Rises t.list) {k : Int} (h : k ∈ keysOf t) : ∃ x, get t k = some x := by
  have := find_key (l := t.list) h
  rw [← get_list hr k] at this
  exact Option.isSome_iff_exists.1 this

theorem keys_length {t : TI} (h : t.Sized) : (keysOf t).length = t.count := by
  unfold keysOf; rw [List.length_map, h.count]

end Go.Proofs.Ytaggpldkgbjklaa.Tb
