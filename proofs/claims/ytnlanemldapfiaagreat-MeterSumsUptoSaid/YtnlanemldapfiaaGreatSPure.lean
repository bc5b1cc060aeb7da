/-
  Stable sorting as lists: the one sorted list of distinct things, whatever the merges do (insertion, the symmetric merge, its rotation).
-/
namespace Go.Proofs.YtnlanemldapfiaaGreat.Sorted
set_option linter.unusedSectionVars false
variable {α : Type}

/-- a strict order that is total: 'less by name, ties by place' -/
structure Strict (T : α → α → Prop) : Prop where
  irrefl : ∀ x, ¬ T x x
  trans : ∀ x y z, T x y → T y z → T x z
  tri : ∀ x y, x ≠ y → T x y ∨ T y x

variable {T : α → α → Prop} [DecidableRel T]

def ins (T : α → α → Prop) [DecidableRel T] (x : α) : List α → List α
  | [] => [x]
  | y :: l => if T x y then x :: y :: l else y :: ins T x l
/-- the sorted list -/
def srt (T : α → α → Prop) [DecidableRel T] : List α → List α
  | [] => []
  | x :: l => ins T x (srt T l)

theorem ins_perm (x : α) : ∀ l : List α, List.Perm (ins T x l) (x :: l)
  | [] => List.Perm.refl _
  | y :: l => by
    unfold ins
    split
    · exact List.Perm.refl _
    · exact ((ins_perm x l).cons y).trans (List.Perm.swap x y l)
theorem srt_perm : ∀ l : List α, List.Perm (srt T l) l
  | [] => List.Perm.refl _
  | x :: l => (ins_perm x _).trans ((srt_perm l).cons x)
theorem srt_length (l : List α) : (srt T l).length = l.length := (srt_perm l).length_eq

theorem ins_sorted (h : Strict T) (x : α) : ∀ l : List α, l.Pairwise T → x ∉ l → (ins T x l).Pairwise T
  | [], _, _ => by simp [ins]
  | y :: l, hl, hx => by
    simp only [List.pairwise_cons] at hl
    unfold ins
    split
    · rename_i hxy
      refine List.Pairwise.cons (fun z hz => ?_) (List.Pairwise.cons hl.1 hl.2)
      rcases List.mem_cons.1 hz with rfl | hz
      · exact hxy
      · exact h.trans _ _ _ hxy (hl.1 z hz)
    · rename_i hxy
      refine List.Pairwise.cons (fun z hz => ?_) (ins_sorted h x l hl.2 fun e => hx (List.mem_cons_of_mem _ e))
      rcases List.mem_cons.1 ((ins_perm x l).mem_iff.1 hz) with rfl | hz
      · rcases h.tri z y (fun e => hx (by rw [e]; exact List.mem_cons_self ..)) with a | a
        · exact absurd a hxy
        · exact a
      · exact hl.1 z hz
theorem srt_sorted (h : Strict T) : ∀ l : List α, l.Nodup → (srt T l).Pairwise T
  | [], _ => List.Pairwise.nil
  | x :: l, hn => by
    simp only [List.nodup_cons] at hn
    exact ins_sorted h x _ (srt_sorted h l hn.2) fun e => hn.1 ((srt_perm l).mem_iff.1 e)

/-- two sorted lists of the same things are one -/
theorem uniq (h : Strict T) : ∀ {R M : List α}, List.Perm R M → R.Pairwise T → M.Pairwise T → R = M
  | [], M, p, _, _ => (List.nil_perm.1 p).symm
  | x :: R, [], p, _, _ => absurd (List.perm_nil.1 p) (by simp)
  | x :: R, y :: M, p, hr, hm => by
    have hr' := List.pairwise_cons.1 hr
    have hm' := List.pairwise_cons.1 hm
    have e : x = y := by
      have h1 : x ∈ y :: M := p.mem_iff.1 (List.mem_cons_self ..)
      have h2 : y ∈ x :: R := p.mem_iff.2 (List.mem_cons_self ..)
      rcases List.mem_cons.1 h1 with a | a
      · exact a
      · rcases List.mem_cons.1 h2 with b | b
        · exact b.symm
        · exact absurd (h.trans _ _ _ (hr'.1 y b) (hm'.1 x a)) (h.irrefl x)
    subst e
    rw [uniq h (List.perm_cons x |>.1 p) hr'.2 hm'.2]

theorem nodup_of (h : Strict T) {R : List α} (hr : R.Pairwise T) : R.Nodup :=
  List.Pairwise.imp (S := (· ≠ ·)) (fun {a b} hab => show a ≠ b from fun e => h.irrefl a (by rw [← e] at hab; exact hab)) hr
theorem srt_uniq (h : Strict T) {R l : List α} (p : List.Perm R l) (hr : R.Pairwise T) : R = srt T l :=
  uniq h (p.trans (srt_perm l).symm) hr (srt_sorted h l (p.nodup_iff.1 (nodup_of h hr)))
theorem srt_self (h : Strict T) {R : List α} (hr : R.Pairwise T) : srt T R = R := (srt_uniq h (List.Perm.refl _) hr).symm

/-- two halves apart: the whole sorted -/
theorem srt_join (h : Strict T) {X1 X2 Y1 Y2 : List α} (hn : (X1 ++ X2 ++ (Y1 ++ Y2)).Nodup) (hc : ∀ u ∈ X1 ++ Y1, ∀ v ∈ X2 ++ Y2, T u v) :
    srt T (X1 ++ X2 ++ (Y1 ++ Y2)) = srt T (X1 ++ Y1) ++ srt T (X2 ++ Y2) := by
  have p : List.Perm (X1 ++ Y1 ++ (X2 ++ Y2)) (X1 ++ X2 ++ (Y1 ++ Y2)) := by
    rw [List.append_assoc, List.append_assoc]
    refine List.Perm.append_left X1 ?_
    rw [← List.append_assoc, ← List.append_assoc]
    exact List.Perm.append_right Y2 List.perm_append_comm
  have hn' := p.nodup_iff.2 hn
  rw [List.nodup_append] at hn'
  refine (srt_uniq h (((srt_perm _).append (srt_perm _)).trans p) ?_).symm
  rw [List.pairwise_append]
  exact ⟨srt_sorted h _ hn'.1, srt_sorted h _ hn'.2.1, fun a ha b hb => hc a ((srt_perm _).mem_iff.1 ha) b ((srt_perm _).mem_iff.1 hb)⟩

theorem before {X : List α} (hx : X.Pairwise T) {i j : Nat} (hi : i < X.length) (hj : j < X.length) (hij : i < j) : T X[i] X[j] := List.pairwise_iff_getElem.1 hx i j hi hj hij

/-- where the symmetric merge splits two sorted lists: the two front parts stand before the two back parts -/
theorem split_cross (h : Strict T) {X Y : List α} (hx : X.Pairwise T) (hy : Y.Pairwise T) {s t : Nat} (hs : s ≤ X.length) (ht : t ≤ Y.length)
    (h1 : s = 0 ∨ t = Y.length ∨ ∃ (a : s - 1 < X.length) (b : t < Y.length), T X[s - 1] Y[t]) (h2 : s = X.length ∨ t = 0 ∨ ∃ (a : t - 1 < Y.length) (b : s < X.length), T Y[t - 1] X[s]) :
    ∀ u ∈ X.take s ++ Y.take t, ∀ v ∈ X.drop s ++ Y.drop t, T u v := by
  intro u hu v hv
  rcases List.mem_append.1 hu with hu | hu <;> rcases List.mem_append.1 hv with hv | hv <;>
    obtain ⟨i, hi, rfl⟩ := List.getElem_of_mem hu <;> obtain ⟨j, hj, rfl⟩ := List.getElem_of_mem hv <;>
    rw [List.length_take] at hi <;> rw [List.length_drop] at hj <;> simp only [List.getElem_take, List.getElem_drop]
  · exact before hx _ _ (by omega)
  · rcases h1 with e | e | ⟨a, b, e⟩
    · omega
    · omega
    · have q1 : i = s - 1 ∨ i < s - 1 := by omega
      have q2 : j = 0 ∨ 0 < j := by omega
      have e1 : T X[i] Y[t] := by
        rcases q1 with q | q
        · simpa only [q] using e
        · exact h.trans _ _ _ (before hx (by omega) a q) e
      rcases q2 with q | q
      · simpa only [q, Nat.add_zero] using e1
      · exact h.trans _ _ _ e1 (before hy b (by omega) (by omega))
  · rcases h2 with e | e | ⟨a, b, e⟩
    · omega
    · omega
    · have q1 : i = t - 1 ∨ i < t - 1 := by omega
      have q2 : j = 0 ∨ 0 < j := by omega
      have e1 : T Y[i] X[s] := by
        rcases q1 with q | q
        · simpa only [q] using e
        · exact h.trans _ _ _ (before hy (by omega) a q) e
      rcases q2 with q | q
      · simpa only [q, Nat.add_zero] using e1
      · exact h.trans _ _ _ e1 (before hx b (by omega) (by omega))
  · exact before hy _ _ (by omega)

/-- the symmetric merge: the two parts merged, one behind the other -/
theorem srt_split (h : Strict T) {X Y : List α} (hx : X.Pairwise T) (hy : Y.Pairwise T) (hn : (X ++ Y).Nodup) {s t : Nat} (hs : s ≤ X.length) (ht : t ≤ Y.length)
    (h1 : s = 0 ∨ t = Y.length ∨ ∃ (a : s - 1 < X.length) (b : t < Y.length), T X[s - 1] Y[t]) (h2 : s = X.length ∨ t = 0 ∨ ∃ (a : t - 1 < Y.length) (b : s < X.length), T Y[t - 1] X[s]) :
    srt T (X ++ Y) = srt T (X.take s ++ Y.take t) ++ srt T (X.drop s ++ Y.drop t) := by
  have e := srt_join (T := T) h (X1 := X.take s) (X2 := X.drop s) (Y1 := Y.take t) (Y2 := Y.drop t) (by simpa using hn) (split_cross h hx hy hs ht h1 h2)
  simpa using e

/-- one thing put into a sorted list -/
theorem srt_one (h : Strict T) {Y : List α} {x : α} (hy : Y.Pairwise T) {t : Nat} (ht : t ≤ Y.length)
    (h1 : t = 0 ∨ ∃ a : t - 1 < Y.length, T Y[t - 1] x) (h2 : t = Y.length ∨ ∃ a : t < Y.length, T x Y[t]) :
    Y.take t ++ x :: Y.drop t = srt T (x :: Y) ∧ Y.take t ++ x :: Y.drop t = srt T (Y ++ [x]) := by
  have hp : (Y.take t ++ x :: Y.drop t).Pairwise T := by
    have hy' := hy
    rw [← List.take_append_drop t Y, List.pairwise_append] at hy'
    have b1 : ∀ u ∈ Y.take t, T u x := fun u hu => by
      obtain ⟨i, hi, rfl⟩ := List.getElem_of_mem hu
      rw [List.length_take] at hi
      simp only [List.getElem_take]
      rcases h1 with e | ⟨a, e⟩
      · omega
      · rcases (by omega : i = t - 1 ∨ i < t - 1) with q | q
        · simpa only [q] using e
        · exact h.trans _ _ _ (before hy (by omega) a q) e
    have b2 : ∀ u ∈ Y.drop t, T x u := fun u hu => by
      obtain ⟨j, hj, rfl⟩ := List.getElem_of_mem hu
      rw [List.length_drop] at hj
      simp only [List.getElem_drop]
      rcases h2 with e | ⟨a, e⟩
      · omega
      · rcases (by omega : j = 0 ∨ 0 < j) with q | q
        · simpa only [q, Nat.add_zero] using e
        · exact h.trans _ _ _ e (before hy a (by omega) (by omega))
    rw [List.pairwise_append]
    refine ⟨hy'.1, List.Pairwise.cons b2 hy'.2.1, fun u hu v hv => ?_⟩
    rcases List.mem_cons.1 hv with rfl | hv
    · exact b1 u hu
    · exact hy'.2.2 u hu v hv
  have p1 : List.Perm (Y.take t ++ x :: Y.drop t) (x :: Y) := by
    have := List.perm_middle (a := x) (l₁ := Y.take t) (l₂ := Y.drop t)
    rwa [List.take_append_drop] at this
  exact ⟨srt_uniq h p1 hp, srt_uniq h (p1.trans (by simpa using (List.perm_append_comm (l₁ := [x]) (l₂ := Y)))) hp⟩

/-- sorted parts sorted together: as what they were -/
theorem srt_srt (h : Strict T) {A B : List α} (hn : (A ++ B).Nodup) : srt T (srt T A ++ srt T B) = srt T (A ++ B) :=
  srt_uniq h ((srt_perm _).trans ((srt_perm A).append (srt_perm B))) (srt_sorted h _ (((srt_perm A).append (srt_perm B)).nodup_iff.2 hn))

/-! ### names, ties by place -/

/-- less by name, ties by place -/
def byT (less : Nat → Nat → Bool) (x y : Nat) : Prop := less x y = true ∨ (less x y = false ∧ less y x = false ∧ x < y)
instance (less : Nat → Nat → Bool) : DecidableRel (byT less) := fun x y => by unfold byT; infer_instance

/-- a strict weak order -/
structure Weak (less : Nat → Nat → Bool) : Prop where
  irrefl : ∀ x, less x x = false
  trans : ∀ x y z, less x y = true → less y z = true → less x z = true
  other : ∀ x y z, less x y = false → less y x = false → less y z = false → less z y = false → less x z = false ∧ less z x = false

theorem Weak.asymm {less : Nat → Nat → Bool} (h : Weak less) {x y : Nat} (a : less x y = true) : less y x = false := by
  cases b : less y x with
  | false => rfl
  | true => have := h.trans _ _ _ a b; rw [h.irrefl] at this; cases this
theorem Weak.left {less : Nat → Nat → Bool} (h : Weak less) {x y z : Nat} (a : less x y = true) (b : less y z = false) (c : less z y = false) : less x z = true := by
  cases d : less x z with
  | true => rfl
  | false =>
    cases e : less z x with
    | true => have := h.trans _ _ _ e a; rw [c] at this; cases this
    | false => have := (h.other _ _ _ d e c b).1; rw [a] at this; cases this
theorem Weak.right {less : Nat → Nat → Bool} (h : Weak less) {x y z : Nat} (a : less x y = false) (b : less y x = false) (c : less y z = true) : less x z = true := by
  cases d : less x z with
  | true => rfl
  | false =>
    cases e : less z x with
    | true => have := h.trans _ _ _ c e; rw [b] at this; cases this
    | false => have := (h.other _ _ _ b a d e).1; rw [c] at this; cases this

theorem strict_by {less : Nat → Nat → Bool} (h : Weak less) : Strict (byT less) where
  irrefl := fun x hx => by
    rcases hx with a | ⟨_, _, a⟩
    · rw [h.irrefl] at a; cases a
    · omega
  trans := fun x y z a b => by
    rcases a with a | ⟨a1, a2, a3⟩ <;> rcases b with b | ⟨b1, b2, b3⟩
    · exact Or.inl (h.trans _ _ _ a b)
    · exact Or.inl (h.left a b1 b2)
    · exact Or.inl (h.right a1 a2 b)
    · obtain ⟨c, d⟩ := h.other _ _ _ a1 a2 b1 b2
      exact Or.inr ⟨c, d, by omega⟩
  tri := fun x y e => by
    cases a : less x y with
    | true => exact Or.inl (Or.inl a)
    | false =>
      cases b : less y x with
      | true => exact Or.inr (Or.inl b)
      | false =>
        rcases (by omega : x < y ∨ y < x) with c | c
        · exact Or.inl (Or.inr ⟨a, b, c⟩)
        · exact Or.inr (Or.inr ⟨b, a, c⟩)

/-- across two runs, the first of which has the lower places, the test alone says it -/
theorem by_cross {less : Nat → Nat → Bool} (h : Weak less) {x y : Nat} (hxy : x < y) : (byT less x y ↔ less y x = false) ∧ (byT less y x ↔ less y x = true) := by
  constructor
  · constructor
    · rintro (a | ⟨_, a, _⟩)
      · exact h.asymm a
      · exact a
    · intro a
      cases b : less x y with
      | true => exact Or.inl b
      | false => exact Or.inr ⟨b, a, hxy⟩
  · constructor
    · rintro (a | ⟨_, _, a⟩)
      · exact a
      · omega
    · intro a; exact Or.inl a

/-! ### the rotation -/
/-- what a rotation still has to do: blocks U, V between A and B become V, U -/
theorem rot_big {A U1 U2 V B : List α} : A ++ (V ++ (U1 ++ U2)) ++ B = (A ++ V) ++ (U1 ++ U2) ++ B := by simp
theorem rot_small {A U V1 V2 B : List α} : A ++ ((V1 ++ V2) ++ U) ++ B = A ++ (V1 ++ V2) ++ (U ++ B) := by simp
end Go.Proofs.YtnlanemldapfiaaGreat.Sorted
