/-
  WalWrites: the law's own segments in memory: a row of rows, cut at its front.
-/
import Derived.Test.YtinghngnehhgfaaGreatDoorWB
import Derived.Laws.IdiomCopy
namespace Go.Proofs.YtinghngnehhgfaaGreatDoor
open Go.RowKit Go.Maps Go.WideMaps
set_option linter.unusedVariables false
set_option linter.unusedSimpArgs false

/-- bytes in a row of their own -/
def RowB (w : World) (u : Value) (d : List UInt8) : Prop := w.ownsRow 0 5 1 u d.length (d.map byteV)
/-- the blocks of such segments -/
def SegB (g : Nat) (us : List Value) (b : Nat) : Prop := b = g ∨ ∃ (i : Nat) (u : Value), us[i]? = some u ∧ u.ownBlock = some b
structure Segs (w : World) (g off cap : Nat) (us : List Value) (L : List (List UInt8)) : Prop where
  row : ∃ cur, w.heap[g]? = some (.cells cur 33 (0, 0)) ∧ off + cap ≤ cur.size ∧ ∀ i u, us[i]? = some u → cur[off + i]? = some u
  nu : us.length = L.length
  nc : L.length ≤ cap
  mc : cap ≤ maxLen
  each : ∀ (i : Nat) u d, us[i]? = some u → L[i]? = some d → RowB w u d
  sep : ∀ (i j : Nat) u v, i ≠ j → us[i]? = some u → us[j]? = some v → ∀ r, u.ownBlock = some r → v.ownBlock ≠ some r

section
variable {w w' w1 w2 : World} {g off cap : Nat} {us : List Value} {L : List (List UInt8)} {Q : Nat → Prop}

theorem RowB.block {u : Value} {d : List UInt8} (h : RowB w u d) {r : Nat} (hr : u.ownBlock = some r) : r < w.heap.size ∧ ∃ cur, w.heap[r]? = some (.cells cur 5 (0, 0)) := by
  obtain ⟨-, h1, h2⟩ := own_block h hr
  exact ⟨h1, h2⟩
theorem Segs.gz (h : Segs w g off cap us L) : g < w.heap.size := by
  obtain ⟨cur, hc, -⟩ := h.row
  exact (Array.getElem?_eq_some_iff.1 hc).1
/-- a byte row's block is not the row of rows -/
theorem Segs.apart (h : Segs w g off cap us L) {i : Nat} {u : Value} (hu : us[i]? = some u) {r : Nat} (hr : u.ownBlock = some r) : r ≠ g := fun e => by
  obtain ⟨d, hd⟩ : ∃ d, L[i]? = some d := ⟨_, List.getElem?_eq_getElem (by have := (List.getElem?_eq_some_iff.1 hu).1; rw [h.nu] at this; exact this)⟩
  obtain ⟨-, cur, hc⟩ := (h.each i u d hu hd).block hr
  obtain ⟨cur2, hc2, -⟩ := h.row
  rw [e, hc2] at hc
  have := (Option.some.inj hc)
  simp only [Obj.cells.injEq] at this
  exact absurd this.2.1 (by decide)
theorem Segs.lt (h : Segs w g off cap us L) : ∀ b, SegB g us b → b < w.heap.size := fun b hb => by
  rcases hb with rfl | ⟨i, u, hu, hr⟩
  · exact h.gz
  · obtain ⟨d, hd⟩ : ∃ d, L[i]? = some d := ⟨_, List.getElem?_eq_getElem (by have := (List.getElem?_eq_some_iff.1 hu).1; rw [h.nu] at this; exact this)⟩
    exact ((h.each i u d hu hd).block hr).1
theorem Segs.turned (h : Segs w g off cap us L) (t : Turn Q w w') (hq : ∀ b, SegB g us b → ¬ Q b) : Segs w' g off cap us L := by
  obtain ⟨cur, hc, h1, h2⟩ := h.row
  exact ⟨⟨cur, (t.block g h.gz (hq g (Or.inl rfl))).trans hc, h1, h2⟩, h.nu, h.nc, h.mc, fun i u d hu hd => ownsRow_turned (h.each i u d hu hd) t (fun r hr => hq r (Or.inr ⟨i, u, hu, hr⟩)), h.sep⟩
theorem Segs.at (h : Segs w g off cap us L) {i : Nat} {d : List UInt8} (hd : L[i]? = some d) : ∃ u, us[i]? = some u ∧ w.cell? ⟨g, off + i, none⟩ = some u ∧ w.frozen? ⟨g, off + i, none⟩ = false ∧ RowB w u d := by
  obtain ⟨cur, hc, h1, h2⟩ := h.row
  obtain ⟨u, hu⟩ : ∃ u, us[i]? = some u := ⟨_, List.getElem?_eq_getElem (by have := (List.getElem?_eq_some_iff.1 hd).1; rw [h.nu]; exact this)⟩
  exact ⟨u, hu, by simp [World.cell?, hc, h2 i u hu], by simp [World.frozen?, hc], h.each i u d hu hd⟩
theorem Segs.drop (h : Segs w g off cap us L) {k : Nat} (hk : k ≤ L.length) : Segs w g (off + k) (cap - k) (us.drop k) (L.drop k) := by
  obtain ⟨cur, hc, h1, h2⟩ := h.row
  have hnc := h.nc
  refine ⟨⟨cur, hc, by omega, fun i u hu => ?_⟩, by rw [List.length_drop, List.length_drop, h.nu], by rw [List.length_drop]; omega, Nat.le_trans (Nat.sub_le _ _) h.mc, fun i u d hu hd => ?_, fun i j u v hij hu hv => ?_⟩
  · rw [Nat.add_assoc]; exact h2 _ u (by rw [List.getElem?_drop] at hu; exact hu)
  · rw [List.getElem?_drop] at hu hd; exact h.each _ u d hu hd
  · rw [List.getElem?_drop] at hu hv; exact h.sep _ _ u v (by omega) hu hv
theorem SegB.drop {k b : Nat} (h : SegB g (us.drop k) b) : SegB g us b := by
  rcases h with h | ⟨i, u, hu, hr⟩
  · exact Or.inl h
  · rw [List.getElem?_drop] at hu; exact Or.inr ⟨_, u, hu, hr⟩
/-- the literal of one empty segment -/
theorem segs_lit (w : World) : Segs ((w.alloc (.cells #[] 5)).alloc (.cells #[.slice (some ⟨w.heap.size, 0, none⟩) 0 0] 33)) (w.heap.size + 1) 0 1 [.slice (some ⟨w.heap.size, 0, none⟩) 0 0] [[]] := by
  have e2 := heap_alloc_new (w.alloc (.cells #[] 5)) (.cells #[.slice (some ⟨w.heap.size, 0, none⟩) 0 0] 33)
  simp only [World.size_alloc] at e2
  refine ⟨⟨_, e2, by simp, fun i u hu => ?_⟩, rfl, Nat.le_refl _, by decide, fun i u d hu hd => ?_, fun i j u v hij hu hv => ?_⟩
  · rw [Nat.zero_add]; simpa using hu
  · have hi : i = 0 := by have := (List.getElem?_eq_some_iff.1 hu).1; simp at this; exact this
    subst hi
    simp at hu hd
    subst hu; subst hd
    refine ⟨rfl, Or.inr ⟨w.heap.size, 0, #[], rfl, Nat.zero_le _, ?_, Nat.le_refl _, Nat.zero_le _, rfl, rfl⟩⟩
    exact (Below.heap_alloc _ _ _ (by simp)).trans (heap_alloc_new _ _)
  · have h1 := (List.getElem?_eq_some_iff.1 hu).1
    have h2 := (List.getElem?_eq_some_iff.1 hv).1
    simp at h1 h2; omega
/-- one more, in the room that there is -/
theorem Segs.room (h : Segs w g off cap us L) (hr : L.length < cap) : Segs (w.setCell ⟨g, off + L.length, none⟩ (.slice none 0 0)) g off cap (us ++ [.slice none 0 0]) (L ++ [[]]) := by
  obtain ⟨cur, hc, h1, h2⟩ := h.row
  have t := turnP w g (off + L.length) (.slice none 0 0)
  refine ⟨⟨_, heap_setCell_same hc _, by simpa using h1, fun i u hu => ?_⟩, by simp [h.nu], by simp; omega, h.mc, fun i u d hu hd => ?_, fun i j u v hij hu hv r hr => ?_⟩
  · by_cases hi : i < us.length
    · rw [List.getElem?_append_left hi] at hu
      rw [Array.getElem?_setIfInBounds, if_neg (by have := h.nu; omega)]; exact h2 i u hu
    · have hi2 : i = us.length := by have := (List.getElem?_eq_some_iff.1 hu).1; simp at this; omega
      subst hi2
      rw [List.getElem?_append_right (Nat.le_refl _)] at hu
      simp at hu
      rw [h.nu, Array.getElem?_setIfInBounds, if_pos rfl, if_pos (by omega), hu]
  · by_cases hi : i < us.length
    · rw [List.getElem?_append_left hi] at hu
      rw [List.getElem?_append_left (by rw [← h.nu]; exact hi)] at hd
      exact ownsRow_turned (h.each i u d hu hd) t (fun r hr e => h.apart hu hr e)
    · have hi2 : i = us.length := by have := (List.getElem?_eq_some_iff.1 hu).1; simp at this; omega
      subst hi2
      rw [List.getElem?_append_right (Nat.le_refl _)] at hu
      rw [h.nu, List.getElem?_append_right (Nat.le_refl _)] at hd
      simp at hu hd
      subst hu; subst hd
      exact World.ownsRow_nil _ _ _ _
  · by_cases hi : i < us.length
    · rw [List.getElem?_append_left hi] at hu
      by_cases hj : j < us.length
      · rw [List.getElem?_append_left hj] at hv; exact h.sep i j u v hij hu hv r hr
      · have hj2 : j = us.length := by have := (List.getElem?_eq_some_iff.1 hv).1; simp at this; omega
        subst hj2
        rw [List.getElem?_append_right (Nat.le_refl _)] at hv
        simp at hv; subst hv
        intro e; cases e
    · have hi2 : i = us.length := by have := (List.getElem?_eq_some_iff.1 hu).1; simp at this; omega
      subst hi2
      rw [List.getElem?_append_right (Nat.le_refl _)] at hu
      simp at hu; subst hu
      cases hr
theorem SegB.snoc {b : Nat} (h : SegB g (us ++ [.slice none 0 0]) b) : SegB g us b := by
  rcases h with h | ⟨i, u, hu, hr⟩
  · exact Or.inl h
  · by_cases hi : i < us.length
    · rw [List.getElem?_append_left hi] at hu; exact Or.inr ⟨i, u, hu, hr⟩
    · have hi2 : i = us.length := by have := (List.getElem?_eq_some_iff.1 hu).1; simp at this; omega
      subst hi2
      rw [List.getElem?_append_right (Nat.le_refl _)] at hu
      simp at hu; subst hu
      cases hr
/-- the cells that are there -/
theorem Segs.olds (h : Segs w g off cap us L) : ∀ j u, us[j]? = some u → w.cell? ⟨g, off + j, none⟩ = some u := fun j u hu => by
  obtain ⟨cur, hc, h1, h2⟩ := h.row
  simp [World.cell?, hc, h2 j u hu]
theorem Segs.spare (h : Segs w g off cap us L) (hr : L.length + 1 ≤ cap) : (w.cell? ⟨g, off + L.length, none⟩).isSome = true ∧ w.frozen? ⟨g, off + L.length, none⟩ = false := by
  obtain ⟨cur, hc, h1, h2⟩ := h.row
  refine ⟨?_, by simp [World.frozen?, hc]⟩
  simp only [World.cell?, hc]
  rw [Array.getElem?_eq_getElem (by omega)]; rfl
/-- one more, in a new row -/
theorem Segs.grow (h : Segs w g off cap us L) {B : Nat} {v' : Value} (t : Turn (fun _ => False) w w') (hB : w.heap.size ≤ B) (ho : w'.ownsRow B 33 1 v' (L.length + 1) (us ++ [.slice none 0 0])) :
    ∃ g' cap', v' = .slice (some ⟨g', 0, none⟩) (L.length + 1) cap' ∧ B ≤ g' ∧ Segs w' g' 0 cap' (us ++ [.slice none 0 0]) (L ++ [[]]) := by
  rcases ho.2 with ⟨_, e⟩ | ⟨g', cap', cur, hv, hb, hh, hc1, hc2, hc3, hc4⟩
  · omega
  refine ⟨g', cap', hv, hb, ⟨cur, hh, by omega, fun i u hu => ?_⟩, by simp [h.nu], by simp; omega, hc2, fun i u d hu hd => ?_, fun i j u v hij hu hv r hr => ?_⟩
  · have hi : i < L.length + 1 := by have := (List.getElem?_eq_some_iff.1 hu).1; simp [h.nu] at this; exact this
    have e : (cur.toList.take ((L.length + 1) * 1))[i]? = some u := by rw [hc4]; exact hu
    rw [List.getElem?_take_of_lt (by omega)] at e
    rw [Nat.zero_add]; simpa using e
  · by_cases hi : i < us.length
    · rw [List.getElem?_append_left hi] at hu
      rw [List.getElem?_append_left (by rw [← h.nu]; exact hi)] at hd
      exact ownsRow_turned (h.each i u d hu hd) t (fun r hr e => e)
    · have hi2 : i = us.length := by have := (List.getElem?_eq_some_iff.1 hu).1; simp at this; omega
      subst hi2
      rw [List.getElem?_append_right (Nat.le_refl _)] at hu
      rw [h.nu, List.getElem?_append_right (Nat.le_refl _)] at hd
      simp at hu hd
      subst hu; subst hd
      exact World.ownsRow_nil _ _ _ _
  · by_cases hi : i < us.length
    · rw [List.getElem?_append_left hi] at hu
      by_cases hj : j < us.length
      · rw [List.getElem?_append_left hj] at hv; exact h.sep i j u v hij hu hv r hr
      · have hj2 : j = us.length := by have := (List.getElem?_eq_some_iff.1 hv).1; simp at this; omega
        subst hj2
        rw [List.getElem?_append_right (Nat.le_refl _)] at hv
        simp at hv; subst hv
        intro e; cases e
    · have hi2 : i = us.length := by have := (List.getElem?_eq_some_iff.1 hu).1; simp at this; omega
      subst hi2
      rw [List.getElem?_append_right (Nat.le_refl _)] at hu
      simp at hu; subst hu
      cases hr
/-- a segment's bytes go on, and its cell is written -/
theorem Segs.setAt (h : Segs w g off cap us L) {i : Nat} {u u' : Value} {d d' : List UInt8} (hu : us[i]? = some u) (hd : L[i]? = some d) (t : Turn (fun b => u.ownBlock = some b) w w') (hr : RowB w' u' d') (hb : u'.ownBlock = u.ownBlock ∨ ∃ b, u'.ownBlock = some b ∧ w.heap.size ≤ b) :
    Segs (w'.setCell ⟨g, off + i, none⟩ u') g off cap (us.set i u') (L.set i d') := by
  obtain ⟨cur, hc, h1, h2⟩ := h.row
  have hi : i < us.length := (List.getElem?_eq_some_iff.1 hu).1
  have hg : u.ownBlock ≠ some g := fun e => h.apart hu e rfl
  have hc' : w'.heap[g]? = some (.cells cur 33 (0, 0)) := (t.block g h.gz hg).trans hc
  have t2 := turnP w' g (off + i) u'
  have hbg : u'.ownBlock ≠ some g := fun e => by
    rcases hb with hb | ⟨b, e2, hb⟩
    · rw [hb] at e; exact hg e
    · rw [e2] at e; cases e; have := h.gz; omega
  refine ⟨⟨_, heap_setCell_same hc' _, by simpa using h1, fun j x hx => ?_⟩, by simp [h.nu], by simpa using h.nc, h.mc, fun j x y hx hy => ?_, fun j k x y hjk hx hy r hr => ?_⟩
  · rw [List.getElem?_set] at hx
    by_cases e : i = j
    · subst e
      rw [if_pos rfl, if_pos hi] at hx
      rw [Array.getElem?_setIfInBounds, if_pos rfl, if_pos (by have := h.nu; have := h.nc; omega)]; exact hx
    · rw [if_neg e] at hx
      rw [Array.getElem?_setIfInBounds, if_neg (by omega)]; exact h2 j x hx
  · rw [List.getElem?_set] at hx hy
    by_cases e : i = j
    · subst e
      rw [if_pos rfl, if_pos hi] at hx
      rw [if_pos rfl, if_pos (by rw [← h.nu]; exact hi)] at hy
      cases hx; cases hy
      exact ownsRow_turned hr t2 (fun r hr' e => hbg (by rw [hr', ← show r = g from e]))
    · rw [if_neg e] at hx hy
      have h3 := ownsRow_turned (h.each j x y hx hy) t (fun r hr' e' => h.sep i j u x e hu hx r e' hr')
      exact ownsRow_turned h3 t2 (fun r hr' e' => h.apart hx hr' e')
  · rw [List.getElem?_set] at hx hy
    by_cases e : i = j
    · subst e
      rw [if_pos rfl, if_pos hi] at hx
      rw [if_neg hjk] at hy
      cases hx
      rcases hb with hb | ⟨b, e2, hb⟩
      · rw [hb] at hr; exact h.sep i k u y hjk hu hy r hr
      · rw [e2] at hr
        have e5 : b = r := Option.some.inj hr
        subst e5
        intro e3
        have := h.lt b (Or.inr ⟨k, y, hy, e3⟩)
        omega
    · rw [if_neg e] at hx
      by_cases e4 : i = k
      · subst e4
        rw [if_pos rfl, if_pos hi] at hy
        cases hy
        intro e3
        rcases hb with hb | ⟨b, e2, hb⟩
        · rw [hb] at e3; exact h.sep i j u x e hu hx r e3 hr
        · rw [e2] at e3
          have e5 : b = r := Option.some.inj e3
          subst e5
          have := h.lt b (Or.inr ⟨j, x, hx, hr⟩)
          omega
      · rw [if_neg e4] at hy
        exact h.sep j k x y hjk hx hy r hr
theorem SegB.setAt {i b : Nat} {u u' : Value} (hu : us[i]? = some u) (hb : u'.ownBlock = u.ownBlock ∨ ∃ b, u'.ownBlock = some b ∧ w.heap.size ≤ b) (h : SegB g (us.set i u') b) : SegB g us b ∨ w.heap.size ≤ b := by
  rcases h with h | ⟨j, x, hx, hr⟩
  · exact Or.inl (Or.inl h)
  · rw [List.getElem?_set] at hx
    by_cases e : i = j
    · subst e
      have hi : i < us.length := (List.getElem?_eq_some_iff.1 hu).1
      rw [if_pos rfl, if_pos hi] at hx
      cases hx
      rcases hb with hb | ⟨b', e2, hb⟩
      · rw [hb] at hr; exact Or.inl (Or.inr ⟨i, u, hu, hr⟩)
      · rw [e2] at hr; cases hr; exact Or.inr hb
    · rw [if_neg e] at hx
      exact Or.inl (Or.inr ⟨j, x, hx, hr⟩)
end
end Go.Proofs.YtinghngnehhgfaaGreatDoor
