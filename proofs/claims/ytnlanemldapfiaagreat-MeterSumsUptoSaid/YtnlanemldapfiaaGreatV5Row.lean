/-
  A row of events in a block of its own, as places of a list; two ranges of it swapped, by slices' own function.
-/
import Derived.Test.YtnlanemldapfiaaGreatVTab2
import Derived.Test.YtnlanemldapfiaaGreatVOpen
import Derived.Test.YtnlanemldapfiaaGreatSPure
namespace Go.Proofs.YtnlanemldapfiaaGreat.st
open Go.RowKit Go.Shelf Go.Proofs.YtnlanemldapfiaaGreat.se Go.Proofs.YtnlanemldapfiaaGreat.Tb
set_option linter.unusedVariables false
set_option linter.unusedSimpArgs false

abbrev Only (a b : World) : Prop := Turn (fun _ => False) a b
theorem Only.drewN {a b : World} (h : Only a b) (n : Nat) : Only a (b.drewN n) := h.trans ((like_drewN b n).turn _) (fun _ _ q => q)
theorem Only.drew {a b : World} (h : Only a b) : Only a b.drew := h.trans ((like_drew b).turn _) (fun _ _ q => q)

/-- an event's cells -/
def cellsE (x : Ev) : List Value := [strE x.key, strE x.acc, strE x.met, .int .i64 x.qty, .int .i64 x.at_]
def listE (E : Nat → Ev) (l : List Nat) : List Value := l.flatMap fun i => cellsE (E i)
def arrE (E : Nat → Ev) (l : List Nat) : Array Value := (listE E l).toArray
theorem listE_length (E : Nat → Ev) (l : List Nat) : (listE E l).length = l.length * 5 := by
  induction l with
  | nil => rfl
  | cons x l ih => simp [listE, cellsE] at ih ⊢; omega
theorem listE_at {E : Nat → Ev} : ∀ {l : List Nat} {i x : Nat}, l[i]? = some x → ∀ k, k < 5 → (listE E l)[i * 5 + k]? = (cellsE (E x))[k]?
  | [], i, x, h, k, hk => by simp at h
  | y :: l, 0, x, h, k, hk => by
    simp at h; subst h
    show (cellsE (E y) ++ listE E l)[0 * 5 + k]? = _
    rw [Nat.zero_mul, Nat.zero_add, List.getElem?_append_left (by simp [cellsE]; omega)]
  | y :: l, i + 1, x, h, k, hk => by
    have h' : l[i]? = some x := by simpa using h
    show (cellsE (E y) ++ listE E l)[(i + 1) * 5 + k]? = _
    rw [List.getElem?_append_right (by simp [cellsE]; omega), ← listE_at h' k hk]
    congr 1
    simp [cellsE]; omega

/-- block g holds the events of the places l, whatever room is behind them -/
def Row (E : Nat → Ev) (w : World) (g : Nat) (l : List Nat) : Prop := ∃ ty tail, w.heap[g]? = some (.cells (listE E l ++ tail).toArray ty)

theorem Row.lt {E : Nat → Ev} {w : World} {g : Nat} {l : List Nat} (h : Row E w g l) : g < w.heap.size := by
  obtain ⟨ty, tail, h⟩ := h; exact (Array.getElem?_eq_some_iff.1 h).1
theorem Row.at {E : Nat → Ev} {w : World} {g : Nat} {l : List Nat} (h : Row E w g l) {i v : Nat} (hi : l[i]? = some v) : EvLie w g (i * 5) (E v) := by
  obtain ⟨ty, tail, h⟩ := h
  have hlt : i < l.length := (List.getElem?_eq_some_iff.1 hi).1
  have hc : ∀ k, k < 5 → w.cell? ⟨g, i * 5 + k, none⟩ = (cellsE (E v))[k]? := fun k hk => by
    rw [← listE_at hi k hk]
    have e : (listE E l ++ tail)[i * 5 + k]? = (listE E l)[i * 5 + k]? := List.getElem?_append_left (by rw [listE_length]; omega)
    rw [← e]
    unfold World.cell?
    simp only [h]
    simp
  exact ⟨hc 0 (by omega), hc 1 (by omega), hc 2 (by omega), hc 3 (by omega), hc 4 (by omega)⟩
theorem Row.cell {E : Nat → Ev} {w : World} {g : Nat} {l : List Nat} (h : Row E w g l) {i : Nat} (hi : i < l.length) : EvLie w g (i * 5) (E l[i]) := h.at (List.getElem?_eq_getElem hi)
theorem Row.free {E : Nat → Ev} {w : World} {g : Nat} {l : List Nat} (h : Row E w g l) (j : Nat) : w.frozen? ⟨g, j, none⟩ = false := by
  obtain ⟨ty, tail, h⟩ := h; simp [World.frozen?, h]
theorem Row.only {E : Nat → Ev} {w w' : World} {g : Nat} {l : List Nat} (h : Row E w g l) (t : Only w w') : Row E w' g l := by
  have := h.lt
  obtain ⟨ty, tail, h⟩ := h
  exact ⟨ty, tail, turn_heap t h⟩
theorem Row.drew {E : Nat → Ev} {w : World} {g : Nat} {l : List Nat} (h : Row E w g l) : Row E w.drew g l := h

/-- an event stored at an offset -/
def setE (W : World) (g o : Nat) (x : Ev) : World := ((((W.setCell ⟨g, o, none⟩ (strE x.key)).setCell ⟨g, o + 1, none⟩ (strE x.acc)).setCell ⟨g, o + 2, none⟩ (strE x.met)).setCell ⟨g, o + 3, none⟩ (.int .i64 x.qty)).setCell ⟨g, o + 4, none⟩ (.int .i64 x.at_)
theorem Only.setE {w0 W : World} {g : Nat} (h : Only w0 W) (hg : w0.heap.size ≤ g) (o : Nat) (x : Ev) : Only w0 (setE W g o x) := by
  unfold st.setE
  exact ((((h.setCell (p := ⟨g, o, none⟩) (Or.inr hg) _).setCell (p := ⟨g, o + 1, none⟩) (Or.inr hg) _).setCell (p := ⟨g, o + 2, none⟩) (Or.inr hg) _).setCell (p := ⟨g, o + 3, none⟩) (Or.inr hg) _).setCell (p := ⟨g, o + 4, none⟩) (Or.inr hg) _

theorem set5 {α : Type} : ∀ {L : List α} {M : List α} {o : Nat} {a b c d e : α}, M.length = L.length → (∀ j, j < o ∨ o + 5 ≤ j → M[j]? = L[j]?) → M[o]? = some a → M[o + 1]? = some b → M[o + 2]? = some c → M[o + 3]? = some d → M[o + 4]? = some e →
    ((((L.set o a).set (o + 1) b).set (o + 2) c).set (o + 3) d).set (o + 4) e = M := by
  intro L M o a b c d e hl hout h0 h1 h2 h3 h4
  refine List.ext_getElem? fun j => ?_
  have hlt : o + 4 < M.length := (List.getElem?_eq_some_iff.1 h4).1
  by_cases c4 : j = o + 4
  · subst c4; rw [List.getElem?_set_self (by simp; omega), h4]
  rw [List.getElem?_set_ne (by omega)]
  by_cases c3 : j = o + 3
  · subst c3; rw [List.getElem?_set_self (by simp; omega), h3]
  rw [List.getElem?_set_ne (by omega)]
  by_cases c2 : j = o + 2
  · subst c2; rw [List.getElem?_set_self (by simp; omega), h2]
  rw [List.getElem?_set_ne (by omega)]
  by_cases c1 : j = o + 1
  · subst c1; rw [List.getElem?_set_self (by simp; omega), h1]
  rw [List.getElem?_set_ne (by omega)]
  by_cases c0 : j = o
  · subst c0; rw [List.getElem?_set_self (by omega), h0]
  rw [List.getElem?_set_ne (by omega), hout j (by omega)]

theorem listE_set' (E : Nat → Ev) (l : List Nat) {i : Nat} (x : Nat) (hi : i < l.length) : ((((((listE E l).set (i * 5) (strE (E x).key)).set (i * 5 + 1) (strE (E x).acc)).set (i * 5 + 2) (strE (E x).met)).set (i * 5 + 3) (.int .i64 (E x).qty)).set (i * 5 + 4) (.int .i64 (E x).at_)) = listE E (l.set i x) := by
  have hx : (l.set i x)[i]? = some x := List.getElem?_set_self hi
  refine set5 (by rw [listE_length, listE_length, List.length_set]) (fun j hj => ?_) (listE_at hx 0 (by omega)) (listE_at hx 1 (by omega)) (listE_at hx 2 (by omega)) (listE_at hx 3 (by omega)) (listE_at hx 4 (by omega))
  obtain ⟨q, k, hk, rfl⟩ : ∃ q k, k < 5 ∧ j = q * 5 + k := ⟨j / 5, j % 5, Nat.mod_lt _ (by omega), by omega⟩
  have hne : i ≠ q := by omega
  by_cases hq : q < l.length
  · rw [listE_at (List.getElem?_eq_getElem hq) k hk, listE_at (by rw [List.getElem?_set_ne hne]; exact List.getElem?_eq_getElem hq) k hk]
  · rw [List.getElem?_eq_none (by rw [listE_length, List.length_set]; omega), List.getElem?_eq_none (by rw [listE_length]; omega)]

theorem listE_set (E : Nat → Ev) (l : List Nat) (i x : Nat) : ((((((listE E l).set (i * 5) (strE (E x).key)).set (i * 5 + 1) (strE (E x).acc)).set (i * 5 + 2) (strE (E x).met)).set (i * 5 + 3) (.int .i64 (E x).qty)).set (i * 5 + 4) (.int .i64 (E x).at_)) = listE E (l.set i x) := by
  by_cases hi : i < l.length
  · exact listE_set' E l x hi
  · have hl := listE_length E l
    rw [List.set_eq_of_length_le (l := l) (by omega)]
    rw [List.set_eq_of_length_le (l := listE E l) (by omega), List.set_eq_of_length_le (l := listE E l) (by omega), List.set_eq_of_length_le (l := listE E l) (by omega), List.set_eq_of_length_le (l := listE E l) (by omega), List.set_eq_of_length_le (l := listE E l) (by omega)]

theorem set_app {α : Type} (L T : List α) (j : Nat) (v : α) : ∃ T', (L ++ T).set j v = L.set j v ++ T' := by
  by_cases h : j < L.length
  · exact ⟨T, List.set_append_left _ _ h⟩
  · exact ⟨T.set (j - L.length) v, by rw [List.set_append_right _ _ (by omega), List.set_eq_of_length_le (l := L) (by omega)]⟩

theorem Row.set {E : Nat → Ev} {w : World} {g : Nat} {l : List Nat} (h : Row E w g l) (i x : Nat) : Row E (setE w g (i * 5) (E x)) g (l.set i x) := by
  obtain ⟨ty, tail, h⟩ := h
  obtain ⟨t1, e1⟩ := set_app (listE E l) tail (i * 5) (strE (E x).key)
  obtain ⟨t2, e2⟩ := set_app ((listE E l).set (i * 5) (strE (E x).key)) t1 (i * 5 + 1) (strE (E x).acc)
  obtain ⟨t3, e3⟩ := set_app (((listE E l).set (i * 5) (strE (E x).key)).set (i * 5 + 1) (strE (E x).acc)) t2 (i * 5 + 2) (strE (E x).met)
  obtain ⟨t4, e4⟩ := set_app ((((listE E l).set (i * 5) (strE (E x).key)).set (i * 5 + 1) (strE (E x).acc)).set (i * 5 + 2) (strE (E x).met)) t3 (i * 5 + 3) (.int .i64 (E x).qty)
  obtain ⟨t5, e5⟩ := set_app (((((listE E l).set (i * 5) (strE (E x).key)).set (i * 5 + 1) (strE (E x).acc)).set (i * 5 + 2) (strE (E x).met)).set (i * 5 + 3) (.int .i64 (E x).qty)) t4 (i * 5 + 4) (.int .i64 (E x).at_)
  refine ⟨ty, t5, ?_⟩
  unfold setE
  rw [heap_setCell_same (heap_setCell_same (heap_setCell_same (heap_setCell_same (heap_setCell_same h _) _) _) _) _]
  rw [← listE_set E l i x, ← e5, ← e4, ← e3, ← e2, ← e1]
  simp only [List.setIfInBounds_toArray]

/-- two events stored, the draw behind them -/
def twoW (w : World) (g p r : Nat) (ey ex : Ev) : World := (setE (setE w g (p * 5) ey) g (r * 5) ex).drew
theorem twoW_eq (w : World) (g p r : Nat) (ey ex : Ev) : ((((((((((w.setCell ⟨g, p * 5, none⟩ (.string ⟨ey.key.toArray⟩)).setCell ⟨g, p * 5 + 1, none⟩ (.string ⟨ey.acc.toArray⟩)).setCell ⟨g, p * 5 + 2, none⟩ (.string ⟨ey.met.toArray⟩)).setCell ⟨g, p * 5 + 3, none⟩ (.int .i64 ey.qty)).setCell ⟨g, p * 5 + 4, none⟩ (.int .i64 ey.at_)).setCell
    ⟨g, r * 5, none⟩ (.string ⟨ex.key.toArray⟩)).setCell ⟨g, r * 5 + 1, none⟩ (.string ⟨ex.acc.toArray⟩)).setCell ⟨g, r * 5 + 2, none⟩ (.string ⟨ex.met.toArray⟩)).setCell ⟨g, r * 5 + 3, none⟩ (.int .i64 ex.qty)).setCell ⟨g, r * 5 + 4, none⟩ (.int .i64 ex.at_)).drew = twoW w g p r ey ex := rfl
theorem Row.two {E : Nat → Ev} {w0 w : World} {g : Nat} {L : List Nat} (h : Row E w g L) (t : Only w0 w) (hg : w0.heap.size ≤ g) (p y r x : Nat) {ex ey : Ev} (hx : E x = ex) (hy : E y = ey) :
    Row E (twoW w g p r ey ex) g ((L.set p y).set r x) ∧ Only w0 (twoW w g p r ey ex) := by
  subst hx hy
  exact ⟨((h.set p y).set r x).drew, ((t.setE hg _ _).setE hg _ _).drew⟩

/-- two ranges of n places swapped -/
def swpIx (a b n i : Nat) : Nat := if a ≤ i ∧ i < a + n then i - a + b else if b ≤ i ∧ i < b + n then i - b + a else i
def swp (l : List Nat) (a b n : Nat) : List Nat := (List.range l.length).map fun i => l[swpIx a b n i]?.getD 0

theorem swp_length (l : List Nat) (a b n : Nat) : (swp l a b n).length = l.length := by simp [swp]
theorem swp_get (l : List Nat) (a b n i : Nat) (hi : i < (swp l a b n).length) : (swp l a b n)[i] = l[swpIx a b n i]?.getD 0 := by
  simp [swp]
theorem swp_zero (l : List Nat) (a b : Nat) : swp l a b 0 = l := by
  refine List.ext_getElem (swp_length ..) fun i h1 h2 => ?_
  rw [swp_get, show swpIx a b 0 i = i by unfold swpIx; rw [if_neg (by omega), if_neg (by omega)], List.getElem?_eq_getElem h2]; rfl
theorem swp_step (l : List Nat) {a b k : Nat} (hab : a + k < b) (hb : b + k < l.length) (h1 : b + k < (swp l a b k).length) (h2 : a + k < (swp l a b k).length) :
    ((swp l a b k).set (a + k) (swp l a b k)[b + k]).set (b + k) (swp l a b k)[a + k] = swp l a b (k + 1) := by
  refine List.ext_getElem (by simp [swp_length]) fun i h3 h4 => ?_
  simp only [List.getElem_set, swp_get]
  by_cases e1 : b + k = i
  · subst e1
    rw [if_pos rfl, show swpIx a b k (a + k) = swpIx a b (k + 1) (b + k) by unfold swpIx; rw [if_neg (by omega), if_neg (by omega), if_neg (by omega), if_pos (by omega)]; omega]
  · rw [if_neg e1]
    by_cases e2 : a + k = i
    · subst e2
      rw [if_pos rfl, show swpIx a b k (b + k) = swpIx a b (k + 1) (a + k) by unfold swpIx; rw [if_neg (by omega), if_neg (by omega), if_pos (by omega)]; omega]
    · rw [if_neg e2]
      congr 2
      unfold swpIx
      by_cases e3 : a ≤ i ∧ i < a + k
      · rw [if_pos e3, if_pos (by omega)]
      · rw [if_neg e3, if_neg (by omega : ¬ (a ≤ i ∧ i < a + (k + 1)))]
        by_cases e4 : b ≤ i ∧ i < b + k
        · rw [if_pos e4, if_pos (by omega)]
        · rw [if_neg e4, if_neg (by omega)]

theorem behind {α : Type} (A R : List α) (j : Nat) : (A ++ R)[A.length + j]? = R[j]? := by
  rw [List.getElem?_append_right (by omega)]
  congr 1; omega
theorem front {α : Type} {A R : List α} {j : Nat} (h : j < A.length) : (A ++ R)[j]? = A[j]? := List.getElem?_append_left h

theorem swp_parts (A U M V B : List Nat) (hv : V.length = U.length) : swp (A ++ (U ++ (M ++ (V ++ B)))) A.length (A.length + (U.length + M.length)) U.length = A ++ (V ++ (M ++ (U ++ B))) := by
  refine List.ext_getElem (by simp [swp_length]; omega) fun i h1 h2 => ?_
  rw [swp_get]
  suffices h : (A ++ (U ++ (M ++ (V ++ B))))[swpIx A.length (A.length + (U.length + M.length)) U.length i]? = (A ++ (V ++ (M ++ (U ++ B))))[i]? by
    rw [h, List.getElem?_eq_getElem h2]; rfl
  simp only [List.length_append] at h2
  unfold swpIx
  by_cases c1 : i < A.length
  · rw [if_neg (by omega), if_neg (by omega), front c1, front c1]
  · obtain ⟨j, rfl⟩ : ∃ j, i = A.length + j := ⟨i - A.length, by omega⟩
    by_cases c2 : j < U.length
    · rw [if_pos (by omega), show A.length + j - A.length + (A.length + (U.length + M.length)) = A.length + (U.length + (M.length + j)) by omega, behind, behind, behind, behind, front (by omega), front (by omega)]
    · obtain ⟨j, rfl⟩ : ∃ k, j = U.length + k := ⟨j - U.length, by omega⟩
      rw [if_neg (by omega)]
      by_cases c3 : j < M.length
      · rw [if_neg (by omega), behind, behind, behind, ← hv, behind, front c3, front c3]
      · obtain ⟨j, rfl⟩ : ∃ k, j = M.length + k := ⟨j - M.length, by omega⟩
        by_cases c4 : j < U.length
        · rw [if_pos (by omega), show A.length + (U.length + (M.length + j)) - (A.length + (U.length + M.length)) + A.length = A.length + j by omega, behind, behind, front c4, ← hv, behind, behind, front c4]
        · obtain ⟨j, rfl⟩ : ∃ k, j = U.length + k := ⟨j - U.length, by omega⟩
          rw [if_neg (by omega), behind, behind, behind]
          have e1 : (V ++ B)[U.length + j]? = B[j]? := by rw [← hv, behind]
          have e2 : (V ++ (M ++ (U ++ B)))[U.length + (M.length + (U.length + j))]? = B[j]? := by rw [← hv, behind, behind, hv, behind]
          rw [e1, behind, e2]
end Go.Proofs.YtnlanemldapfiaaGreat.st
