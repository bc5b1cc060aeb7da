/-
  A row of places in a block of its own; two ranges of it swapped, by slices' own function.
-/
import Derived.Test.YtopklnaahdjafaaGreatDoorNBase
import Derived.Test.YtopklnaahdjafaaGreatDoorSPure
namespace Go.Proofs.YtopklnaahdjafaaGreatDoor
open Go.RowKit Go.Shelf
set_option linter.unusedVariables false
set_option linter.unusedSimpArgs false

theorem Only.drewN {a b : World} (h : Only a b) (n : Nat) : Only a (b.drewN n) := ⟨h.os, h.tape, h.output, h.size, h.block⟩

def arrN (l : List Nat) : Array Value := (l.map fun i : Nat => Value.int .i64 (i : Int)).toArray
/-- block g holds the places l, and nothing else -/
def Row (w : World) (g : Nat) (l : List Nat) : Prop := ∃ ty, w.heap[g]? = some (.cells (arrN l) ty)

theorem Row.lt {w : World} {g : Nat} {l : List Nat} (h : Row w g l) : g < w.heap.size := by
  obtain ⟨ty, h⟩ := h; exact (Array.getElem?_eq_some_iff.1 h).1
theorem Row.cell {w : World} {g : Nat} {l : List Nat} (h : Row w g l) {i : Nat} (hi : i < l.length) : w.cell? ⟨g, i, none⟩ = some (.int .i64 (l[i] : Nat)) := by
  obtain ⟨ty, h⟩ := h
  simp [World.cell?, h, arrN, hi]
theorem Row.free {w : World} {g : Nat} {l : List Nat} (h : Row w g l) (j : Nat) : w.frozen? ⟨g, j, none⟩ = false := by
  obtain ⟨ty, h⟩ := h; simp [World.frozen?, h]
theorem Row.only {w w' : World} {g : Nat} {l : List Nat} (h : Row w g l) (t : Only w w') : Row w' g l := by
  have := h.lt
  obtain ⟨ty, h⟩ := h
  exact ⟨ty, (t.block g this).trans h⟩
theorem Row.drew {w : World} {g : Nat} {l : List Nat} (h : Row w g l) : Row w.drew g l := h
theorem Row.set {w : World} {g : Nat} {l : List Nat} (h : Row w g l) (i x : Nat) : Row (w.setCell ⟨g, i, none⟩ (.int .i64 (x : Int))) g (l.set i x) := by
  obtain ⟨ty, h⟩ := h
  refine ⟨ty, (heap_setCell_same h _).trans ?_⟩
  simp [arrN, List.map_set]

/-- two ranges of n places swapped -/
def swpIx (a b n i : Nat) : Nat := if a ≤ i ∧ i < a + n then i - a + b else if b ≤ i ∧ i < b + n then i - b + a else i
def swp (l : List Nat) (a b n : Nat) : List Nat := (List.range l.length).map fun i => l[swpIx a b n i]?.getD 0

theorem swp_length (l : List Nat) (a b n : Nat) : (swp l a b n).length = l.length := by simp [swp]
theorem swp_get (l : List Nat) (a b n i : Nat) (hi : i < (swp l a b n).length) : (swp l a b n)[i] = l[swpIx a b n i]?.getD 0 := by
  simp [swp]
theorem swp_zero (l : List Nat) (a b : Nat) : swp l a b 0 = l := by
  refine List.ext_getElem (swp_length ..) fun i h1 h2 => ?_
  rw [swp_get, show swpIx a b 0 i = i by unfold swpIx; rw [if_neg (by omega), if_neg (by omega)], List.getElem?_eq_getElem h2]; rfl
theorem swp_step (l : List Nat) {a b k : Nat} (hab : a + k < b) (hb : b + k < l.length) (h1 : b + k < (swp l a b k).length) (h2 : a + k < (swp l a b k).length) :
    ((swp l a b k).set (a + k) (swp l a b k)[b + k]).set (b + k) (swp l a b k)[a + k] = swp l a b (k + 1) := by
  refine List.ext_getElem (by simp [swp_length]) fun i h3 h4 => ?_
  simp only [List.getElem_set, swp_get]
  by_cases e1 : b + k = i
  · subst e1
    rw [if_pos rfl, show swpIx a b k (a + k) = swpIx a b (k + 1) (b + k) by unfold swpIx; rw [if_neg (by omega), if_neg (by omega), if_neg (by omega), if_pos (by omega)]; omega]
  · rw [if_neg e1]
    by_cases e2 : a + k = i
    · subst e2
      rw [if_pos rfl, show swpIx a b k (b + k) = swpIx a b (k + 1) (a + k) by unfold swpIx; rw [if_neg (by omega), if_neg (by omega), if_pos (by omega)]; omega]
    · rw [if_neg e2]
      congr 2
      unfold swpIx
      by_cases e3 : a ≤ i ∧ i < a + k
      · rw [if_pos e3, if_pos (by omega)]
      · rw [if_neg e3, if_neg (by omega : ¬ (a ≤ i ∧ i < a + (k + 1)))]
        by_cases e4 : b ≤ i ∧ i < b + k
        · rw [if_pos e4, if_pos (by omega)]
        · rw [if_neg e4, if_neg (by omega)]

theorem behind {α : Type} (A R : List α) (j : Nat) : (A ++ R)[A.length + j]? = R[j]? := by
  rw [List.getElem?_append_right (by omega)]
  congr 1; omega
theorem front {α : Type} {A R : List α} {j : Nat} (h : j < A.length) : (A ++ R)[j]? = A[j]? := List.getElem?_append_left h

theorem swp_parts (A U M V B : List Nat) (hv : V.length = U.length) : swp (A ++ (U ++ (M ++ (V ++ B)))) A.length (A.length + (U.length + M.length)) U.length = A ++ (V ++ (M ++ (U ++ B))) := by
  refine List.ext_getElem (by simp [swp_length]; omega) fun i h1 h2 => ?_
  rw [swp_get]
  suffices h : (A ++ (U ++ (M ++ (V ++ B))))[swpIx A.length (A.length + (U.length + M.length)) U.length i]? = (A ++ (V ++ (M ++ (U ++ B))))[i]? by
    rw [h, List.getElem?_eq_getElem h2]; rfl
  simp only [List.length_append] at h2
  unfold swpIx
  by_cases c1 : i < A.length
  · rw [if_neg (by omega), if_neg (by omega), front c1, front c1]
  · obtain ⟨j, rfl⟩ : ∃ j, i = A.length + j := ⟨i - A.length, by omega⟩
    by_cases c2 : j < U.length
    · rw [if_pos (by omega), show A.length + j - A.length + (A.length + (U.length + M.length)) = A.length + (U.length + (M.length + j)) by omega, behind, behind, behind, behind, front (by omega), front (by omega)]
    · obtain ⟨j, rfl⟩ : ∃ k, j = U.length + k := ⟨j - U.length, by omega⟩
      rw [if_neg (by omega)]
      by_cases c3 : j < M.length
      · rw [if_neg (by omega), behind, behind, behind, ← hv, behind, front c3, front c3]
      · obtain ⟨j, rfl⟩ : ∃ k, j = M.length + k := ⟨j - M.length, by omega⟩
        by_cases c4 : j < U.length
        · rw [if_pos (by omega), show A.length + (U.length + (M.length + j)) - (A.length + (U.length + M.length)) + A.length = A.length + j by omega, behind, behind, front c4, ← hv, behind, behind, front c4]
        · obtain ⟨j, rfl⟩ : ∃ k, j = U.length + k := ⟨j - U.length, by omega⟩
          rw [if_neg (by omega), behind, behind, behind]
          have e1 : (V ++ B)[U.length + j]? = B[j]? := by rw [← hv, behind]
          have e2 : (V ++ (M ++ (U ++ B)))[U.length + (M.length + (U.length + j))]? = B[j]? := by rw [← hv, behind, behind, hv, behind]
          rw [e1, behind, e2]
end Go.Proofs.YtopklnaahdjafaaGreatDoor
