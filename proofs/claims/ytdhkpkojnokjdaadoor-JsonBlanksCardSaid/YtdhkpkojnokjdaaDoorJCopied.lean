/-
  copied: the same value in new memory, down to its texts.
-/
import Derived.Test.YtdhkpkojnokjdaaDoorJSame
import Derived.Test.YtdhkpkojnokjdaaDoorJIndex
import Derived.Test.YtdhkpkojnokjdaaDoorGNt
namespace Go.Proofs.YtdhkpkojnokjdaaDoor
open Go.RowKit Go.Maps Go.WideMaps Go.Shelf
set_option linter.unusedVariables false
set_option linter.unusedSimpArgs false

/-- the value lies in the blocks from lo to hi, but those of P, alone -/
def Mine (P : Nat → Prop) (lo hi : Nat) (w : World) (x : GV) (v : Value) : Prop := ∀ W : World, (∀ k, lo ≤ k → k < hi → ¬ P k → W.heap[k]? = w.heap[k]?) → GIn W x v
theorem Mine.mono {P P' : Nat → Prop} {lo lo' hi hi' : Nat} {w w' : World} {x : GV} {v : Value} (h : Mine P lo hi w x v) (h1 : lo' ≤ lo) (h2 : hi ≤ hi') (hP : ∀ k, lo ≤ k → k < hi → P' k → P k) (hw : ∀ k, lo ≤ k → k < hi → ¬ P k → w'.heap[k]? = w.heap[k]?) : Mine P' lo' hi' w' x v :=
  fun W hW => h W fun k k1 k2 k3 => (hW k (by omega) (by omega) (fun q => k3 (hP k k1 k2 q))).trans (hw k k1 k2 k3)
theorem Mine.gin {P : Nat → Prop} {lo hi : Nat} {w : World} {x : GV} {v : Value} (h : Mine P lo hi w x v) : GIn w x v := h w fun _ _ _ _ => rfl

/-- what is asked of copied -/
def CopIs (x : GV) : Prop := ∀ (w : World) (v : Value), GIn w x v → Slim x → Calls Tryd.prog 32 #[v] w fun e w' => (∃ v', e = .returned v' ∧ Mine (fun _ => False) w.heap.size w'.heap.size w' x v') ∧ Only w w'

/-- what the copying of an element leaves -/
def pCop (lo : Nat) (x : GV) : Said := fun v _ w => (∃ (k : Int) (t : List UInt8) (sp : Option Addr) (n m : Nat) (sq : Option Addr) (u z : Nat), v = .agg #[.int .i64 k, txt t, .slice sp n m, .slice sq u z]) ∧ ∃ hi, hi ≤ w.heap.size ∧ Mine (fun _ => False) lo hi w x v
theorem stab_cop (lo : Nat) (x : GV) : StabO (pCop lo x) := fun v vs w w' t h => by
  obtain ⟨hs, hi, h1, h2⟩ := h
  exact ⟨hs, hi, Nat.le_trans h1 t.size, h2.mono (Nat.le_refl _) (Nat.le_refl _) (fun _ _ _ q => q) (fun k k1 k2 _ => t.block k (by omega))⟩

theorem Own4.put1 {w : World} {b : Nat} {x y z u : Value} (h : Own4 w b x y z u) (v : Value) : Own4 (w.setCell ⟨b, 1, none⟩ v) b x v z u := by
  obtain ⟨ty, h⟩ := h; exact ⟨ty, heap_setCell_same h v⟩
theorem Own4.put2 {w : World} {b : Nat} {x y z u : Value} (h : Own4 w b x y z u) (v : Value) : Own4 (w.setCell ⟨b, 2, none⟩ v) b x y v u := by
  obtain ⟨ty, h⟩ := h; exact ⟨ty, heap_setCell_same h v⟩
theorem Own4.put3 {w : World} {b : Nat} {x y z u : Value} (h : Own4 w b x y z u) (v : Value) : Own4 (w.setCell ⟨b, 3, none⟩ v) b x y z v := by
  obtain ⟨ty, h⟩ := h; exact ⟨ty, heap_setCell_same h v⟩
theorem Own4.far {w : World} {b p : Nat} {x y z u : Value} (h : Own4 w b x y z u) (e : b ≠ p) (j : Nat) (v : Value) : Own4 (w.setCell ⟨p, j, none⟩ v) b x y z u := by
  obtain ⟨ty, h⟩ := h; exact ⟨ty, (heap_setCell_other e v).trans h⟩

/-- a row of values, each of four cells -/
structure RowG (w : World) (g n : Nat) : Prop where
  lt : g < w.heap.size
  free : ∀ j, w.frozen? ⟨g, j, none⟩ = false
  cells : ∀ j, j < n * 4 → ∃ u : Value, w.cell? ⟨g, j, none⟩ = some u
theorem RowG.only {w w' : World} {g n : Nat} (h : RowG w g n) (t : Only w w') : RowG w' g n := by
  have hb := t.block g h.lt
  refine ⟨Nat.lt_of_lt_of_le h.lt t.size, fun j => ?_, fun j hj => ?_⟩
  · have := h.free j
    simp only [World.frozen?] at this ⊢
    rw [hb]; exact this
  · obtain ⟨u, hu⟩ := h.cells j hj
    exact ⟨u, cell_only hu t⟩

/-- four cells one behind another -/
def Four (w : World) (g o : Nat) (a b c d : Value) : Prop := w.cell? ⟨g, o, none⟩ = some a ∧ w.cell? ⟨g, o + 1, none⟩ = some b ∧ w.cell? ⟨g, o + 2, none⟩ = some c ∧ w.cell? ⟨g, o + 3, none⟩ = some d
theorem Four.block {w w' : World} {g o : Nat} {a b c d : Value} (h : Four w g o a b c d) (e : w'.heap[g]? = w.heap[g]?) : Four w' g o a b c d := by
  obtain ⟨h1, h2, h3, h4⟩ := h
  exact ⟨(World.cell?_of_block (a := ⟨g, o, none⟩) e).trans h1, (World.cell?_of_block (a := ⟨g, o + 1, none⟩) e).trans h2, (World.cell?_of_block (a := ⟨g, o + 2, none⟩) e).trans h3, (World.cell?_of_block (a := ⟨g, o + 3, none⟩) e).trans h4⟩
theorem Four.lt {w : World} {g o : Nat} {a b c d : Value} (h : Four w g o a b c d) : g < w.heap.size := World.block_lt_of_cell? w _ h.1

/-- a row's cells as a list, and what each element shows -/
theorem gcells_list {w : World} : ∀ {l : List GV} {g off : Nat}, GCells w l g off → ∃ xs : List Value, xs.length = l.length * 4 ∧ (∀ u ∈ xs, u.oneCell' = true) ∧ (∀ j u, xs[j]? = some u → w.cell? ⟨g, off + j, none⟩ = some u) ∧
    ∀ i (h : i < l.length), ∃ a b c d, xs[i * 4]? = some a ∧ xs[i * 4 + 1]? = some b ∧ xs[i * 4 + 2]? = some c ∧ xs[i * 4 + 3]? = some d ∧ GIn w l[i] (.agg #[a, b, c, d])
  | [], g, off, _ => ⟨[], rfl, fun u h => by simp at h, fun j u h => by simp at h, fun i h => absurd h (Nat.not_lt_zero _)⟩
  | x :: r, g, off, h => by
    unfold GCells at h
    obtain ⟨⟨a, b, c, d, ⟨h1, h2, h3, h4⟩, hx⟩, hr⟩ := h
    obtain ⟨ys, y1, y2, y3, y4⟩ := gcells_list hr
    obtain ⟨k9, t9, sp9, n9, m9, sq9, u9, v9, rfl, rfl, rfl, rfl⟩ := GIn.shape hx
    refine ⟨.int .i64 k9 :: txt t9 :: .slice sp9 n9 m9 :: .slice sq9 u9 v9 :: ys, by simp [y1]; omega, ?_, ?_, ?_⟩
    · intro u hu
      simp only [List.mem_cons] at hu
      rcases hu with rfl | rfl | rfl | rfl | hu
      · rfl
      · rfl
      · rfl
      · rfl
      · exact y2 u hu
    · intro j u hj
      match j, hj with
      | 0, hj => simp at hj; subst hj; exact h1
      | 1, hj => simp at hj; subst hj; exact h2
      | 2, hj => simp at hj; subst hj; exact h3
      | 3, hj => simp at hj; subst hj; exact h4
      | j + 4, hj =>
        have := y3 j u (by simpa using hj)
        rw [show off + (j + 4) = off + 4 + j by omega]; exact this
    · intro i hi
      match i, hi with
      | 0, hi => exact ⟨_, _, _, _, rfl, rfl, rfl, rfl, hx⟩
      | i + 1, hi =>
        obtain ⟨a, b, c, d, q1, q2, q3, q4, q5⟩ := y4 i (by simpa using hi)
        refine ⟨a, b, c, d, ?_, ?_, ?_, ?_, by simpa using q5⟩
        · rw [show (i + 1) * 4 = i * 4 + 4 by omega]; simpa using q1
        · rw [show (i + 1) * 4 + 1 = i * 4 + 1 + 4 by omega]; simpa using q2
        · rw [show (i + 1) * 4 + 2 = i * 4 + 2 + 4 by omega]; simpa using q3
        · rw [show (i + 1) * 4 + 3 = i * 4 + 3 + 4 by omega]; simpa using q4

theorem cloneV_G {l : List GV} {L : Value} {w0 w : World} (hL : ElemsIn w0 L l) (t0 : Only w0 w) (hn : l.length ≤ 1000000) : Calls Tryd.prog 47 #[L] w fun e w' =>
    (∃ spL capL gL, e = .returned (.slice spL l.length capL) ∧ (l.length = 0 ∨ (spL = some ⟨gL, 0, none⟩ ∧ w.heap.size ≤ gL ∧ RowG w' gL l.length)) ∧ ∀ i (h : i < l.length), ∃ a b c d, Four w' gL (i * 4) a b c d ∧ GIn w0 l[i] (.agg #[a, b, c, d])) ∧ Only w w' := by
  obtain ⟨sp, cap, rfl, hc⟩ := hL
  by_cases h0 : l.length = 0
  · obtain rfl := List.length_eq_zero_iff.1 h0
    refine (cloneV_none (sp := sp) (cap := cap) (w := w)).mono ?_
    rintro e w' ⟨⟨sp', cap', rfl⟩, t⟩
    exact ⟨⟨sp', cap', 0, rfl, Or.inl rfl, fun i h => absurd h (Nat.not_lt_zero _)⟩, t⟩
  · rcases hc with hc | ⟨g, off, rfl, hcell⟩
    · rw [hc] at h0; exact absurd rfl h0
    obtain ⟨xs, x1, x2, x3, x4⟩ := gcells_list hcell
    refine (cloneV_any (cap := cap) x1 (by omega) hn x2 (fun j u h => cell_only (x3 j u h) t0)).mono ?_
    rintro e w' ⟨⟨v, rfl, hown⟩, t⟩
    obtain ⟨gL, capL, rfl, hb, -, hlt, hfr, hcl⟩ := own_cells hown (by omega)
    refine ⟨⟨_, capL, gL, rfl, Or.inr ⟨rfl, hb, hlt, hfr, fun j hj => ?_⟩, fun i hi => ?_⟩, t⟩
    · rw [hcl j hj]
      exact ⟨_, List.getElem?_eq_getElem (by omega)⟩
    · obtain ⟨a, b, c, d, q1, q2, q3, q4, q5⟩ := x4 i hi
      exact ⟨a, b, c, d, ⟨by rw [hcl _ (by omega)]; exact q1, by rw [hcl _ (by omega)]; exact q2, by rw [hcl _ (by omega)]; exact q3, by rw [hcl _ (by omega)]; exact q4⟩, q5⟩

theorem cloneS_N {ns : List (List UInt8)} {N : Value} {w : World} (hN : NamesIn w N ns) (hn : ns.length ≤ 1000000) : Calls Tryd.prog 48 #[N] w fun e w' =>
    (∃ spN capN gN, e = .returned (.slice spN ns.length capN) ∧ ns.length ≤ capN ∧ (ns.length = 0 ∨ (spN = some ⟨gN, 0, none⟩ ∧ w.heap.size ≤ gN ∧ gN < w'.heap.size ∧ ∀ j, w'.frozen? ⟨gN, j, none⟩ = false)) ∧ ∀ i (h : i < ns.length), w'.cell? ⟨gN, i, none⟩ = some (txt ns[i])) ∧ Only w w' := by
  obtain ⟨sp, cap, rfl, -, hc⟩ := hN
  by_cases h0 : ns.length = 0
  · obtain rfl := List.length_eq_zero_iff.1 h0
    refine (cloneS_none (sp := sp) (cap := cap) (w := w)).mono ?_
    rintro e w' ⟨⟨sp', cap', rfl⟩, t⟩
    exact ⟨⟨sp', cap', 0, rfl, Nat.zero_le _, Or.inl rfl, fun i h => absurd h (Nat.not_lt_zero _)⟩, t⟩
  · rcases hc with hc | ⟨g, off, rfl, hcell⟩
    · rw [hc] at h0; exact absurd rfl h0
    refine (cloneS_any (cap := cap) (xs := ns.map txt) (by simp) (by omega) hn (fun u hu => ?_) (fun j u hj => ?_)).mono ?_
    · simp only [List.mem_map] at hu
      obtain ⟨c, -, rfl⟩ := hu
      rfl
    · rw [List.getElem?_map] at hj
      have hlt : j < ns.length := by
        rcases Nat.lt_or_ge j ns.length with h | h
        · exact h
        · rw [List.getElem?_eq_none h] at hj; cases hj
      rw [List.getElem?_eq_getElem hlt] at hj
      simp only [Option.map_some, Option.some.injEq] at hj
      rw [← hj]; exact hcell j hlt
    · rintro e w' ⟨⟨v, rfl, hown⟩, t⟩
      obtain ⟨gN, capN, rfl, hb, hcp, hlt, hfr, hcl⟩ := own_cells hown (by omega)
      exact ⟨⟨_, capN, gN, rfl, hcp, Or.inr ⟨rfl, hb, hlt, hfr⟩, fun i hi => by rw [hcl i (by omega)]; simp [hi]⟩, t⟩

/-! ### a struct of four cells stored into a row -/
theorem heap_other_some {w : World} {g j k : Nat} {v : Value} {o : Obj} (h : k ≠ g) (hk : w.heap[k]? = some o) : (w.setCell ⟨g, j, none⟩ v).heap[k]? = some o := by
  have := Turn.set (Q := fun q => q = g) (Turn.refl _ w) g j (Or.inl rfl) v
  rw [this.block k (Array.getElem?_eq_some_iff.1 hk).1 h]; exact hk
theorem heap_other {w : World} {g j k : Nat} {v : Value} (h : k ≠ g) : (w.setCell ⟨g, j, none⟩ v).heap[k]? = w.heap[k]? := by
  cases hk : w.heap[k]? with
  | none =>
    have := Array.getElem?_eq_none_iff.1 hk
    rw [Array.getElem?_eq_none_iff]; simpa using this
  | some o =>
    exact heap_other_some h hk
abbrev put4 (w : World) (g o : Nat) (a b c d : Value) : World := (((w.setCell ⟨g, o, none⟩ a).setCell ⟨g, o + 1, none⟩ b).setCell ⟨g, o + 2, none⟩ c).setCell ⟨g, o + 3, none⟩ d
theorem RowG.set {w : World} {g n : Nat} (h : RowG w g n) (j : Nat) (v : Value) : RowG (w.setCell ⟨g, j, none⟩ v) g n := by
  refine ⟨by simpa using h.lt, fun i => ?_, fun i hi => ?_⟩
  · have := h.free i
    simp [this]
  · obtain ⟨u, hu⟩ := h.cells i hi
    by_cases e : j = i
    · subst e; exact ⟨v, World.cell?_setCell_same w _ v hu⟩
    · exact ⟨u, (World.cell?_setCell_other w _ _ v (fun q => e (by injection q))).trans hu⟩
theorem RowG.put4 {w : World} {g n : Nat} (h : RowG w g n) (o : Nat) (a b c d : Value) : RowG (put4 w g o a b c d) g n := (((h.set _ _).set _ _).set _ _).set _ _
theorem off_ne {g i j : Nat} (h : i ≠ j) : (⟨g, i, none⟩ : Addr) ≠ ⟨g, j, none⟩ := fun e => h (by injection e)
theorem put4_cell {w : World} {g o j : Nat} {a b c d : Value} (h : j < o ∨ o + 3 < j) : (put4 w g o a b c d).cell? ⟨g, j, none⟩ = w.cell? ⟨g, j, none⟩ := by
  unfold put4
  rw [World.cell?_setCell_other _ _ _ _ (off_ne (by omega)), World.cell?_setCell_other _ _ _ _ (off_ne (by omega)), World.cell?_setCell_other _ _ _ _ (off_ne (by omega)), World.cell?_setCell_other _ _ _ _ (off_ne (by omega))]
theorem put4_four {w : World} {g n o : Nat} (h : RowG w g n) (ho : o + 3 < n * 4) (a b c d : Value) : Four (put4 w g o a b c d) g o a b c d := by
  unfold put4
  obtain ⟨u0, h0⟩ := h.cells o (by omega)
  obtain ⟨u1, h1⟩ := (h.set o a).cells (o + 1) (by omega)
  obtain ⟨u2, h2⟩ := ((h.set o a).set (o + 1) b).cells (o + 2) (by omega)
  obtain ⟨u3, h3⟩ := (((h.set o a).set (o + 1) b).set (o + 2) c).cells (o + 3) ho
  refine ⟨?_, ?_, ?_, World.cell?_setCell_same _ _ d h3⟩
  · rw [World.cell?_setCell_other _ _ _ _ (by simp), World.cell?_setCell_other _ _ _ _ (by simp), World.cell?_setCell_other _ _ _ _ (by simp)]
    exact World.cell?_setCell_same _ _ a h0
  · rw [World.cell?_setCell_other _ _ _ _ (by simp), World.cell?_setCell_other _ _ _ _ (by simp)]
    exact World.cell?_setCell_same _ _ b h1
  · rw [World.cell?_setCell_other _ _ _ _ (by simp)]
    exact World.cell?_setCell_same _ _ c h2
theorem put4_heap {w : World} {g o k : Nat} {a b c d : Value} (h : k ≠ g) : (put4 w g o a b c d).heap[k]? = w.heap[k]? := by
  unfold put4
  rw [heap_other h, heap_other h, heap_other h, heap_other h]
theorem put4_size {w : World} {g o : Nat} {a b c d : Value} : (put4 w g o a b c d).heap.size = w.heap.size := by simp [put4]
theorem Only.put4 {w0 w : World} (h : Only w0 w) {g : Nat} (hg : w0.heap.size ≤ g) (o : Nat) (a b c d : Value) : Only w0 (put4 w g o a b c d) := (((h.set hg _ _).set hg _ _).set hg _ _).set hg _ _

theorem gcells_of {W : World} : ∀ {l : List GV} {g off : Nat}, (∀ i (h : i < l.length), ∃ a b c d, Four W g (off + i * 4) a b c d ∧ GIn W l[i] (.agg #[a, b, c, d])) → GCells W l g off
  | [], g, off, _ => by unfold GCells; trivial
  | x :: r, g, off, h => by
    unfold GCells
    obtain ⟨a, b, c, d, ⟨h1, h2, h3, h4⟩, hx⟩ := h 0 (by simp)
    rw [Nat.zero_mul, Nat.add_zero] at h1 h2 h3 h4
    refine ⟨⟨a, b, c, d, ⟨h1, h2, h3, h4⟩, hx⟩, gcells_of fun i hi => ?_⟩
    obtain ⟨a, b, c, d, hf, hy⟩ := h (i + 1) (by simpa using hi)
    rw [show off + (i + 1) * 4 = off + 4 + i * 4 by omega] at hf
    exact ⟨a, b, c, d, hf, by simpa using hy⟩

theorem GIn.form {w : World} {x : GV} {v : Value} (h : GIn w x v) : ∃ (k : Int) (t : List UInt8) (sp : Option Addr) (n m : Nat) (sq : Option Addr) (u z : Nat), v = .agg #[.int .i64 k, txt t, .slice sp n m, .slice sq u z] := by
  obtain ⟨k, t, l, ns⟩ := x
  unfold GIn at h
  obtain ⟨L, N, rfl, ⟨sp, cap, rfl, -⟩, sq, cq, rfl, -, -⟩ := h
  exact ⟨_, _, _, _, _, _, _, _, rfl⟩

/-- where the copying of the elements stands -/
def ElAt (w wx : World) (B gL : Nat) (l : List GV) (j : Nat) : Prop := ∀ i (h : i < l.length), ∃ a b c d, Four wx gL (i * 4) a b c d ∧ (i < j → Mine (fun q => q = gL) (B + 2) wx.heap.size wx l[i] (.agg #[a, b, c, d])) ∧ (j ≤ i → GIn w l[i] (.agg #[a, b, c, d]))
theorem ElAt.next {w wx W : World} {B gL hi j : Nat} {l : List GV} (h : ElAt w wx B gL l j) (hj : j < l.length) (hr : RowG W gL l.length) (tW : Only wx W) {a b c d : Value} {lo : Nat} (hlo : B + 2 ≤ lo) (hg : gL < lo) (hhi : hi ≤ W.heap.size) (hm : Mine (fun _ => False) lo hi W (l[j]'hj) (.agg #[a, b, c, d])) :
    ElAt w (put4 W gL (j * 4) a b c d) B gL l (j + 1) := by
  intro i hi2
  obtain ⟨a', b', c', d', hf, h1, h2⟩ := h i hi2
  by_cases e : i = j
  · subst e
    refine ⟨a, b, c, d, put4_four hr (by omega) a b c d, fun _ => ?_, fun h => absurd h (by omega)⟩
    rw [put4_size]
    exact hm.mono hlo hhi (fun k k1 _ q => by omega) (fun k k1 _ _ => put4_heap (by omega))
  · have hfW : Four W gL (i * 4) a' b' c' d' := ⟨cell_only hf.1 tW, cell_only hf.2.1 tW, cell_only hf.2.2.1 tW, cell_only hf.2.2.2 tW⟩
    refine ⟨a', b', c', d', ⟨?_, ?_, ?_, ?_⟩, fun hij => ?_, fun hij => h2 (by omega)⟩
    · rw [put4_cell (by omega)]; exact hfW.1
    · rw [put4_cell (by omega)]; exact hfW.2.1
    · rw [put4_cell (by omega)]; exact hfW.2.2.1
    · rw [put4_cell (by omega)]; exact hfW.2.2.2
    · rw [put4_size]
      exact (h1 (by omega)).mono (Nat.le_refl _) tW.size (fun _ _ _ q => q) (fun k _ k2 k3 => (put4_heap k3).trans (tW.block k k2))

set_option maxRecDepth 100000 in
set_option maxHeartbeats 6400000 in
theorem copied_step {k : Int} {t : List UInt8} {l : List GV} {ns : List (List UInt8)} {v : Value} {w : World} (hx : GIn w (.mk k t l ns) v) (sx : Slim (.mk k t l ns)) (ih : ∀ i (h : i < l.length), CopIs l[i]) :
    Calls Tryd.prog 32 #[v] w fun e w' => (∃ v', e = .returned v' ∧ Mine (fun _ => False) w.heap.size w'.heap.size w' (.mk k t l ns) v') ∧ Only w w' := by
  unfold Slim at sx
  obtain ⟨s1, s2, s3, s4, s5⟩ := sx
  unfold GIn at hx
  obtain ⟨L, N, rfl, hL, hN⟩ := hx
  have hL : ElemsIn w L l := hL
  have hL' := hL
  have hN' := hN
  obtain ⟨sp, cap, rfl, -⟩ := hL'
  obtain ⟨sq, cq, rfl, -, -⟩ := hN'
  have i1 : (l.length : Int) ≤ 1000000 := by omega
  have i2 : (ns.length : Int) ≤ 1000 := by omega
  have hts : (⟨t.toArray⟩ : ByteArray).size ≤ 1000000 := by rw [← data_len]; exact s1
  have CT := Lib.hid (fun W => cloneJ ⟨t.toArray⟩ (by omega) W)
  have CL := Lib.hid (fun W (tW : Only w W) => cloneV_G hL tW s2)
  have CN := Lib.hid (fun W (tW : Only w W) => cloneS_N (hN.only tW) (by omega))
  have CS := Lib.hid (fun i (h : i < ns.length) W => cloneJ ⟨(ns[i]).toArray⟩ (by rw [← data_len]; have := s4 _ (List.getElem_mem h); show (ns[i]).length ≤ _; omega) W)
  have IH := Lib.hid ih
  have SL := Lib.hid (fun i (h : i < l.length) => s5.at_ i h)
  obtain ⟨W2, hW2⟩ : ∃ W2, W2 = (w.alloc (.cells #[.int .i64 k, txt t, .slice sp l.length cap, .slice sq ns.length cq] 25)).alloc zero4 := ⟨_, rfl⟩
  have O1 : Own4 W2 w.heap.size (.int .i64 k) (txt t) (.slice sp l.length cap) (.slice sq ns.length cq) := by
    rw [hW2]; exact (Own4.new w _ _ _ _ 25).only ((Only.refl _).alloc _)
  have O2 : Own4 W2 (w.heap.size + 1) (.int .i64 0) (.string ⟨#[]⟩) nilS nilS := by
    rw [hW2]
    have := Own4.new (w.alloc (.cells #[.int .i64 k, txt t, .slice sp l.length cap, .slice sq ns.length cq] 25)) (.int .i64 0) (.string ⟨#[]⟩) nilS nilS 25
    simpa using this
  have T2 : Only w W2 := by rw [hW2]; exact ((Only.refl w).alloc _).alloc _
  have SZ2 : W2.heap.size = w.heap.size + 2 := by rw [hW2]; simp
  have HW2 := Lib.hid hW2
  have HO1 := Lib.hid O1
  have HO2 := Lib.hid O2
  have HT2 := Lib.hid T2
  have HSZ2 := Lib.hid SZ2
  obtain ⟨⟨x0, x1, x2, x3⟩, f0, f1, f2, f3⟩ := O1.all
  rw [hW2] at x0 x1 x2 x3 f0 f1 f2 f3
  clear O1 O2 T2 hL hN ih s1 s2 s3 s4 s5 hts hW2 SZ2
  go_enter Tryd.func32, Tryd.ntmps32
  go_wp2_with fail
  rw [← HW2.out]
  refine (CT.out _).mono ?_
  rintro r w3 ⟨rfl, t3⟩
  have o3 := HO1.out.only t3
  have z3 := HO2.out.only t3
  have T3 := HT2.out.trans t3
  have h3 : w.heap.size + 2 ≤ w3.heap.size := by have := t3.size; have := HSZ2.out; omega
  obtain ⟨⟨x0, x1, x2, x3⟩, f0, f1, f2, f3⟩ := o3.all
  go_upto_region 2 with (fail)
  refine wp_name (fun wx => Own4 wx w.heap.size (.int .i64 k) (txt t) (.slice sp l.length cap) (.slice sq ns.length cq) ∧ Own4 wx (w.heap.size + 1) (.int .i64 0) (.string ⟨#[]⟩) nilS nilS ∧ Only w wx ∧ w.heap.size + 2 ≤ wx.heap.size) ⟨o3.put1 _, z3.far (by omega) 1 _, T3.set (Nat.le_refl _) 1 _, by simpa using h3⟩ ?_
  clear x0 x1 x2 x3 f0 f1 f2 f3 o3 z3 T3 h3 t3
  rintro wx ⟨o3, z3, T3, h3⟩
  obtain ⟨⟨x0, x1, x2, x3⟩, f0, f1, f2, f3⟩ := o3.all
  go_wp2_with fail
  refine (CL.out wx T3).mono ?_
  rintro r w5 ⟨⟨spL, capL, gL, rfl, hrow, hel⟩, t5⟩
  have o5 := o3.only t5
  have z5 := z3.only t5
  have T5 := T3.trans t5
  have h5 : w.heap.size + 2 ≤ w5.heap.size := Nat.le_trans h3 t5.size
  clear x0 x1 x2 x3 f0 f1 f2 f3
  obtain ⟨⟨x0, x1, x2, x3⟩, f0, f1, f2, f3⟩ := o5.all
  go_upto_region 3 with (fail)
  refine wp_name (fun wy => Own4 wy w.heap.size (.int .i64 k) (txt t) (.slice spL l.length capL) (.slice sq ns.length cq) ∧ Own4 wy (w.heap.size + 1) (.int .i64 0) (.string ⟨#[]⟩) nilS nilS ∧ Only w wy ∧ w.heap.size + 2 ≤ wy.heap.size ∧ Hid (l.length = 0 ∨ (spL = some ⟨gL, 0, none⟩ ∧ w.heap.size + 2 ≤ gL)) ∧ Hid (l.length = 0 ∨ RowG wy gL l.length) ∧ Hid (ElAt w wy w.heap.size gL l 0))
    ⟨o5.put2 _, z5.far (by omega) 2 _, T5.set (Nat.le_refl _) 2 _, by simpa using h5, Lib.hid (by
      rcases hrow with h | ⟨h1, h2, -⟩
      · exact Or.inl h
      · exact Or.inr ⟨h1, by omega⟩), Lib.hid (by
      rcases hrow with h | ⟨-, h2, h3'⟩
      · exact Or.inl h
      · refine Or.inr ?_
        have hb : (w5.setCell ⟨w.heap.size, 2, none⟩ (.slice spL l.length capL)).heap[gL]? = w5.heap[gL]? := heap_other (by omega)
        refine ⟨by simpa using h3'.lt, fun j => ?_, fun j hj => ?_⟩
        · have := h3'.free j
          simp only [World.frozen?] at this ⊢
          rw [hb]; exact this
        · obtain ⟨u, hu⟩ := h3'.cells j hj
          exact ⟨u, (World.cell?_of_block (a := ⟨gL, j, none⟩) hb).trans hu⟩), Lib.hid (fun i hi => by
      obtain ⟨a, b, c, d, hf, hg⟩ := hel i hi
      rcases hrow with h | ⟨-, h2, -⟩
      · omega
      · exact ⟨a, b, c, d, hf.block (heap_other (by omega)), fun h => absurd h (Nat.not_lt_zero _), fun _ => hg⟩)⟩ ?_
  clear x0 x1 x2 x3 f0 f1 f2 f3 o3 z3 T3 h3 o5 z5 T5 h5 t5 hrow hel
  rintro wy ⟨o5, z5, T5, h5, hsp, hrow, hel⟩
  have HO5 := Lib.hid o5
  have HZ5 := Lib.hid z5
  have HT5 := Lib.hid T5
  have HH5 := Lib.hid h5
  obtain ⟨⟨x0, x1, x2, x3⟩, -⟩ := o5.all
  clear o5 z5 T5 h5
  go_wp2_with fail
  go_loopw [18, 3, 4] (fun kv _ _ wz => ∃ j : Nat, kv = .int .i64 (j : Int) ∧ j ≤ l.length ∧ Hid (Only w wz ∧ Own4 wz w.heap.size (.int .i64 k) (txt t) (.slice spL l.length capL) (.slice sq ns.length cq) ∧ Own4 wz (w.heap.size + 1) (.int .i64 0) (.string ⟨#[]⟩) nilS nilS ∧ w.heap.size + 2 ≤ wz.heap.size ∧ (l.length = 0 ∨ RowG wz gL l.length) ∧ ElAt w wz w.heap.size gL l j)) (fun kv _ _ _ => l.length - (intOf kv).toNat)
  case atStart => exact ⟨0, rfl, Nat.zero_le _, Lib.hid ⟨HT5.out, HO5.out, HZ5.out, HH5.out, hrow.out, hel.out⟩⟩
  case round =>
    clear HT5 HO5 HZ5 HH5 hrow hel x0 x1 x2 x3
    obtain ⟨j, rfl, hj, hinv⟩ := hrel
    by_cases hlt : j < l.length
    · have ij : (j : Int) < (l.length : Int) := by omega
      obtain ⟨T6, o6, z6, h6, hrow, hel⟩ := hinv.out
      rcases hsp.out with h0 | ⟨rfl, hge⟩
      · omega
      rcases hrow with h0 | hrow
      · omega
      obtain ⟨a, b, c, d, hf, -, hg⟩ := hel j hlt
      have hgx := hg (Nat.le_refl _)
      obtain ⟨k9, t9, sp9, n9, m9, sq9, u9, v9, rfl, rfl, rfl, rfl⟩ := GIn.shape hgx
      obtain ⟨q0, q1, q2, q3⟩ := hf
      have e1 := add_at0 gL (j * 4)
      obtain ⟨⟨x0, x1, x2, x3⟩, -⟩ := o6.all
      have HGX := Lib.hid hgx
      have HROW := Lib.hid hrow
      have HEL := Lib.hid hel
      have HGE := Lib.hid hge
      clear hel hg hgx hrow hge T6 o6 z6 h6
      go_upto_region 6 with (fail)
      refine wp_name (fun wb => Only wr wb ∧ Own4 wb wr.heap.size (.int .i64 k9) (txt t9) (.slice sp9 n9 m9) (.slice sq9 u9 v9) ∧ wr.heap.size < wb.heap.size) ⟨(Only.refl wr).alloc _, Own4.new _ _ _ _ _ _, by simp⟩ ?_
      clear x0 x1 x2 x3 q0 q1 q2 q3
      rintro wb ⟨Tb, ob, hsb⟩
      have ob6 := hinv.out.2.1.only Tb
      have HRB := Lib.hid (HROW.out.only Tb)
      refine wp_rich_tail 6 [pVal (.pointer (some ⟨w.heap.size, 2, none⟩)), pVal (.slice (some ⟨gL, 0, none⟩) l.length capL), pVal (.int .i64 (j : Int)), pVal (.agg #[.int .i64 k9, txt t9, .slice sp9 n9 m9, .slice sq9 u9 v9]), pCop wb.heap.size (l[j]'hlt), pVal (.pointer (some ⟨gL, j * 4, none⟩))] (F := ?F6) (by kernel_rfl) (by kernel_rfl) (by kernel_rfl) (by kernel_rfl) (by kernel_rfl) (by kernel_rfl) (by kernel_rfl) ?hF6 ?hst6 ?hO6 ?hend6
      case hF6 =>
        intro vs
        simp only [List.take_succ_cons, List.take_zero, fills]
        go_simp
        exact rfl
      case hst6 =>
        simp only [List.take_succ_cons, List.take_zero, StepsP]
        refine ⟨?_, ?_, ?_, ?_, ?_, ?_, trivial⟩
        case refine_5 =>
          intro vs W hW hd K hK
          simp [depsOf, Region.binds, List.filter_cons, GotAll, saidV, pVal] at hd
          unfold RichAt
          go_simp
          refine (IH.out j hlt W _ (GIn.only (hinv.out.1.trans (Tb.trans hW)) _ HGX.out) (SL.out j hlt)).mono ?_
          rintro e w' ⟨⟨v', rfl, hm⟩, t⟩
          exact ⟨_, rfl, hK _ _ t ⟨hm.gin.form, w'.heap.size, Nat.le_refl _, hm.mono hW.size (Nat.le_refl _) (fun _ _ _ q => q) (fun _ _ _ _ => rfl)⟩⟩
        all_goals
          intro vs W hW hd K hK
          obtain ⟨⟨k1, k2, k3, k4⟩, -⟩ := (ob.only hW).all
          obtain ⟨⟨y1, y2, y3, y4⟩, -⟩ := (ob6.only hW).all
          simp [depsOf, Region.binds, List.filter_cons, GotAll, saidV, pVal] at hd
          unfold RichAt
          go_simp
          refine hK _ _ (Only.refl _) ?_
          exact rfl
      case hO6 =>
        simp only [List.forall_mem_cons]
        exact ⟨stab_val _, stab_val _, stab_val _, stab_val _, stab_cop _ _, stab_val _, fun _ h => by cases h⟩
      case hend6 =>
        intro vs W hW hg
        simp [List.range_succ, depsOf, Region.binds, List.filter_cons, GotAll, saidV, pVal] at hg
        obtain ⟨g0, g1, g2, g3, ⟨⟨kk, tt, ss, nn, mm, su, uu, zz, g4⟩, hi, g5, g6⟩, g7⟩ := hg
        rw [g4] at g6
        have hrW := HRB.out.only hW
        have f0 := hrW.free (j * 4)
        have f1 := hrW.free (j * 4 + 1)
        have f2 := hrW.free (j * 4 + 2)
        have f3 := hrW.free (j * 4 + 3)
        obtain ⟨c0, e0⟩ := hrW.cells (j * 4) (by omega)
        obtain ⟨c1, e1'⟩ := hrW.cells (j * 4 + 1) (by omega)
        obtain ⟨c2, e2'⟩ := hrW.cells (j * 4 + 2) (by omega)
        obtain ⟨c3, e3'⟩ := hrW.cells (j * 4 + 3) (by omega)
        have HN := Lib.hid (ElAt.next HEL.out hlt hrW (Tb.trans hW) (hi := hi) (lo := wb.heap.size) (by have := hinv.out.2.2.2.1; omega) (by have := HROW.out.lt; omega) g5 g6)
        have HT7 := Lib.hid ((hinv.out.1.trans (Tb.trans hW)).put4 (g := gL) (by have := HGE.out; omega) (j * 4) (.int .i64 kk) (txt tt) (.slice ss nn mm) (.slice su uu zz))
        have HR7 := Lib.hid (hrW.put4 (j * 4) (.int .i64 kk) (txt tt) (.slice ss nn mm) (.slice su uu zz))
        have HO7 := Lib.hid (((((hinv.out.2.1.only (Tb.trans hW)).far (p := gL) (by have := HGE.out; omega) (j * 4) (.int .i64 kk)).far (p := gL) (by have := HGE.out; omega) (j * 4 + 1) (txt tt)).far (p := gL) (by have := HGE.out; omega) (j * 4 + 2) (.slice ss nn mm)).far (p := gL) (by have := HGE.out; omega) (j * 4 + 3) (.slice su uu zz))
        have HZ7 := Lib.hid (((((hinv.out.2.2.1.only (Tb.trans hW)).far (p := gL) (by have := HGE.out; omega) (j * 4) (.int .i64 kk)).far (p := gL) (by have := HGE.out; omega) (j * 4 + 1) (txt tt)).far (p := gL) (by have := HGE.out; omega) (j * 4 + 2) (.slice ss nn mm)).far (p := gL) (by have := HGE.out; omega) (j * 4 + 3) (.slice su uu zz))
        have HS7 := Lib.hid (show w.heap.size + 2 ≤ (put4 W gL (j * 4) (.int .i64 kk) (txt tt) (.slice ss nn mm) (.slice su uu zz)).heap.size by rw [put4_size]; have := hinv.out.2.2.2.1; have := (Tb.trans hW).size; omega)
        rw [g4, g7]
        clear g0 g1 g2 g3 g4 g5 g6 g7 hrW ob ob6 Tb hsb hW
        go_wp2_with fail
        go_roundw
        case rel => exact ⟨j + 1, by push_cast; rfl, hlt, Lib.hid ⟨HT7.out, HO7.out, HZ7.out, HS7.out, Or.inr HR7.out, HN.out⟩⟩
        case measure => simp [intOf]; omega
    · have hje : j = l.length := by omega
      have ij : ¬ (j : Int) < (l.length : Int) := by omega
      obtain ⟨T6, o6, z6, h6, hrow, hel⟩ := hinv.out
      rw [hje] at hel
      have HROW := Lib.hid hrow
      have HEL := Lib.hid hel
      have HH6 := Lib.hid h6
      obtain ⟨⟨x0, x1, x2, x3⟩, -⟩ := o6.all
      clear hel hrow hinv hj hlt hje
      obtain ⟨we, rfl⟩ : ∃ we, we = wr := ⟨_, rfl⟩
      go_wp2_with fail
      refine (CN.out we T6).mono ?_
      rintro r w7 ⟨⟨spN, capN, gN, rfl, hcapN, hnrow, hnel⟩, t7⟩
      have o7 := o6.only t7
      have z7 := z6.only t7
      have T7 := T6.trans t7
      have h7 : we.heap.size ≤ w7.heap.size := t7.size
      clear x0 x1 x2 x3
      obtain ⟨⟨x0, x1, x2, x3⟩, f0, f1, f2, f3⟩ := o7.all
      go_upto_region 9 with (fail)
      refine wp_name (fun wy => Own4 wy w.heap.size (.int .i64 k) (txt t) (.slice spL l.length capL) (.slice spN ns.length capN) ∧ Own4 wy (w.heap.size + 1) (.int .i64 0) (.string ⟨#[]⟩) nilS nilS ∧ Only w wy ∧ we.heap.size ≤ wy.heap.size ∧ (∀ q, w.heap.size + 2 ≤ q → q < we.heap.size → wy.heap[q]? = we.heap[q]?) ∧ Hid (ns.length = 0 ∨ (spN = some ⟨gN, 0, none⟩ ∧ we.heap.size ≤ gN)) ∧ (ns.length = 0 ∨ RowG wy gN 0) ∧ (∀ i (h : i < ns.length), wy.cell? ⟨gN, i, none⟩ = some (txt ns[i])))
        ⟨o7.put3 _, z7.far (by omega) 3 _, T7.set (Nat.le_refl _) 3 _, by simpa using h7, fun q q1 q2 => (heap_other (by omega)).trans (t7.block q q2), Lib.hid (by
          rcases hnrow with h | ⟨h1, h2, -⟩
          · exact Or.inl h
          · exact Or.inr ⟨h1, h2⟩), by
          rcases hnrow with h | ⟨-, h2, h3', h4'⟩
          · exact Or.inl h
          · refine Or.inr ?_
            have hb : (w7.setCell ⟨w.heap.size, 3, none⟩ (.slice spN ns.length capN)).heap[gN]? = w7.heap[gN]? := heap_other (by omega)
            refine ⟨by simpa using h3', fun j => ?_, fun j hj => by omega⟩
            have := h4' j
            simp only [World.frozen?] at this ⊢
            rw [hb]; exact this, fun i hi => by
          rcases hnrow with h | ⟨-, h2, -⟩
          · omega
          · exact (World.cell?_of_block (a := ⟨gN, i, none⟩) (heap_other (show gN ≠ w.heap.size by omega))).trans (hnel i hi)⟩ ?_
      clear x0 x1 x2 x3 f0 f1 f2 f3 o6 z6 T6 h6 o7 z7 T7 h7 t7 hnrow hnel
      rintro wy ⟨o8, z8, T8, h8, hblk, hsn, hfree, hcell⟩
      have HI0 := Lib.hid (And.intro T8 (And.intro o8 (And.intro z8 (And.intro h8 (And.intro hblk (And.intro hfree hcell))))))
      obtain ⟨⟨x0, x1, x2, x3⟩, -⟩ := o8.all
      clear o8 z8 T8 h8 hblk hfree hcell
      go_wp2_with fail
      go_loopw [37, 5, 6] (fun kv _ _ wz => ∃ j : Nat, kv = .int .i64 (j : Int) ∧ j ≤ ns.length ∧ Hid (Only w wz ∧ Own4 wz w.heap.size (.int .i64 k) (txt t) (.slice spL l.length capL) (.slice spN ns.length capN) ∧ Own4 wz (w.heap.size + 1) (.int .i64 0) (.string ⟨#[]⟩) nilS nilS ∧ we.heap.size ≤ wz.heap.size ∧ (∀ q, w.heap.size + 2 ≤ q → q < we.heap.size → wz.heap[q]? = we.heap[q]?) ∧ (ns.length = 0 ∨ RowG wz gN 0) ∧ (∀ i (h : i < ns.length), wz.cell? ⟨gN, i, none⟩ = some (txt ns[i])))) (fun kv _ _ _ => ns.length - (intOf kv).toNat)
      case atStart => exact ⟨0, rfl, Nat.zero_le _, HI0⟩
      case round =>
        clear HI0 x0 x1 x2 x3
        obtain ⟨j, rfl, hj, hinv⟩ := hrel
        obtain ⟨T9, o9, z9, h9, hblk, hfree, hcell⟩ := hinv.out
        obtain ⟨⟨x0, x1, x2, x3⟩, -⟩ := o9.all
        by_cases hlt : j < ns.length
        · have ij : (j : Int) < (ns.length : Int) := by omega
          rcases hsn.out with h0 | ⟨rfl, hge⟩
          · omega
          rcases hfree with h0 | hfree
          · omega
          have nc := hcell j hlt
          have e1 := add_at0 gN j
          have HFR := Lib.hid hfree
          have HGE := Lib.hid hge
          clear T9 o9 z9 h9 hblk hfree hcell hge
          go_upto_region 12 with (fail)
          have o9 := hinv.out.2.1
          clear x0 x1 x2 x3 nc
          refine wp_rich_tail 6 [pVal (.pointer (some ⟨w.heap.size, 3, none⟩)), pVal (.slice (some ⟨gN, 0, none⟩) ns.length capN), pVal (.int .i64 (j : Int)), pVal (txt (ns[j]'hlt)), pVal (txt (ns[j]'hlt)), pVal (.pointer (some ⟨gN, j, none⟩))] (F := ?F7) (by kernel_rfl) (by kernel_rfl) (by kernel_rfl) (by kernel_rfl) (by kernel_rfl) (by kernel_rfl) (by kernel_rfl) ?hF7 ?hst7 ?hO7 ?hend7
          case hF7 =>
            intro vs
            simp only [List.take_succ_cons, List.take_zero, fills]
            go_simp
            exact rfl
          case hst7 =>
            simp only [List.take_succ_cons, List.take_zero, StepsP]
            refine ⟨?_, ?_, ?_, ?_, ?_, ?_, trivial⟩
            case refine_5 =>
              intro vs W hW hd K hK
              simp [depsOf, Region.binds, List.filter_cons, GotAll, saidV, pVal] at hd
              unfold RichAt
              go_simp
              refine (CS.out j hlt W).mono ?_
              rintro e w' ⟨rfl, t⟩
              exact ⟨_, rfl, hK _ _ t rfl⟩
            all_goals
              intro vs W hW hd K hK
              obtain ⟨⟨y1, y2, y3, y4⟩, -⟩ := (o9.only hW).all
              simp [depsOf, Region.binds, List.filter_cons, GotAll, saidV, pVal] at hd
              unfold RichAt
              go_simp
              refine hK _ _ (Only.refl _) ?_
              exact rfl
          case hO7 =>
            simp only [List.forall_mem_cons]
            exact ⟨stab_val _, stab_val _, stab_val _, stab_val _, stab_val _, stab_val _, fun _ h => by cases h⟩
          case hend7 =>
            intro vs W hW hg
            simp [List.range_succ, depsOf, Region.binds, List.filter_cons, GotAll, saidV, pVal] at hg
            obtain ⟨g0, g1, g2, g3, g4, g5⟩ := hg
            have hrW := HFR.out.only hW
            have f0 := hrW.free j
            have e0 := cell_only (hinv.out.2.2.2.2.2.2 j hlt) hW
            have HN := Lib.hid (show ∀ i (h : i < ns.length), (W.setCell ⟨gN, j, none⟩ (txt (ns[j]'hlt))).cell? ⟨gN, i, none⟩ = some (txt ns[i]) from fun i hi => by
              by_cases e : j = i
              · subst e; exact World.cell?_setCell_same _ _ _ e0
              · rw [World.cell?_setCell_other _ _ _ _ (off_ne e)]; exact cell_only (hinv.out.2.2.2.2.2.2 i hi) hW)
            have HT7 := Lib.hid ((hinv.out.1.trans hW).set (by have := HGE.out; have := HH6.out; omega) j (txt (ns[j]'hlt)) (p := gN))
            have HR7 := Lib.hid (hrW.set j (txt (ns[j]'hlt)))
            have HO7 := Lib.hid ((o9.only hW).far (p := gN) (by have := HGE.out; have := HH6.out; omega) j (txt (ns[j]'hlt)))
            have HZ7 := Lib.hid ((hinv.out.2.2.1.only hW).far (p := gN) (by have := HGE.out; have := HH6.out; omega) j (txt (ns[j]'hlt)))
            have HS7 := Lib.hid (show we.heap.size ≤ (W.setCell ⟨gN, j, none⟩ (txt (ns[j]'hlt))).heap.size by have := hinv.out.2.2.2.1; have := hW.size; simp; omega)
            have HB7 := Lib.hid (show ∀ q, w.heap.size + 2 ≤ q → q < we.heap.size → (W.setCell ⟨gN, j, none⟩ (txt (ns[j]'hlt))).heap[q]? = we.heap[q]? from fun q q1 q2 => by
              have := HGE.out
              rw [heap_other (by omega), hW.block q (by have := hinv.out.2.2.2.1; omega)]; exact hinv.out.2.2.2.2.1 q q1 q2)
            rw [g4, g5]
            clear g0 g1 g2 g3 g4 g5 hrW hW o9
            go_wp2_with fail
            go_roundw
            case rel => exact ⟨j + 1, by push_cast; rfl, hlt, Lib.hid ⟨HT7.out, HO7.out, HZ7.out, HS7.out, HB7.out, Or.inr HR7.out, HN.out⟩⟩
            case measure => simp [intOf]; omega
        · have ij : ¬ (j : Int) < (ns.length : Int) := by omega
          obtain ⟨⟨y0, y1, y2, y3⟩, g0, g1, g2, g3⟩ := z9.all
          have HT9 := Lib.hid ((((T9.set (p := w.heap.size + 1) (by omega) 0 (.int .i64 k)).set (p := w.heap.size + 1) (by omega) 1 (txt t)).set (p := w.heap.size + 1) (by omega) 2 (.slice spL l.length capL)).set (p := w.heap.size + 1) (by omega) 3 (.slice spN ns.length capN))
          have HH9 := Lib.hid h9
          have HB9 := Lib.hid hblk
          have HC9 := Lib.hid hcell
          have HF9 := Lib.hid hfree
          have HZF := Lib.hid (z9.set (.int .i64 k) (txt t) (.slice spL l.length capL) (.slice spN ns.length capN))
          obtain ⟨⟨p0, p1, p2, p3⟩, -⟩ := HZF.out.all
          clear T9 o9 z9 h9 hblk hcell hfree hinv
          go_wp2_with fail
          simp [bodyPost, results, Tryd.results32, go_sem, p0, p1, p2, p3]
          refine ⟨?_, HT9.out⟩
          intro W hW
          have hsz : wr.heap.size = (put4 wr (w.heap.size + 1) 0 (.int .i64 k) (txt t) (.slice spL l.length capL) (.slice spN ns.length capN)).heap.size := put4_size.symm
          have hW1 : ∀ q, w.heap.size + 2 ≤ q → q < wr.heap.size → W.heap[q]? = wr.heap[q]? := fun q q1 q2 => (hW q (by omega) (by first | omega | (simp; omega)) (fun h => h)).trans (put4_heap (by omega))
          have hW2 : ∀ q, w.heap.size + 2 ≤ q → q < we.heap.size → W.heap[q]? = we.heap[q]? := fun q q1 q2 => (hW1 q q1 (by have := HH9.out; omega)).trans (HB9.out q q1 q2)
          unfold GIn
          refine ⟨_, _, rfl, ⟨spL, capL, rfl, ?_⟩, ⟨spN, capN, rfl, hcapN, ?_⟩⟩
          · rcases hsp.out with h0 | ⟨rfl, hge⟩
            · exact Or.inl (List.length_eq_zero_iff.1 h0)
            · rcases HROW.out with h0 | hrow
              · exact Or.inl (List.length_eq_zero_iff.1 h0)
              · refine Or.inr ⟨gL, 0, rfl, gcells_of fun i hi => ?_⟩
                obtain ⟨a, b, c, d, hf, hm, -⟩ := HEL.out i hi
                refine ⟨a, b, c, d, ?_, hm hi W (fun q q1 q2 _ => hW2 q q1 q2)⟩
                rw [Nat.zero_add]
                exact hf.block (hW2 gL hge hrow.lt)
          · rcases hsn.out with h0 | ⟨rfl, hge⟩
            · exact Or.inl (List.length_eq_zero_iff.1 h0)
            · rcases HF9.out with h0 | hrow
              · exact Or.inl (List.length_eq_zero_iff.1 h0)
              · refine Or.inr ⟨gN, 0, rfl, fun i hi => ?_⟩
                rw [Nat.zero_add]
                exact (World.cell?_of_block (a := ⟨gN, i, none⟩) (hW1 gN (by have := HH6.out; omega) hrow.lt)).trans (HC9.out i hi)

theorem copied_any : ∀ (n : Nat) (x : GV), SizeOf.sizeOf x < n → CopIs x
  | 0, x, h => absurd h (Nat.not_lt_zero _)
  | n + 1, .mk k t l ns, h => by
    intro w v hx sx
    refine copied_step hx sx fun i hi => copied_any n l[i] ?_
    have := List.sizeOf_lt_of_mem (List.getElem_mem hi)
    simp at h
    omega
end Go.Proofs.YtdhkpkojnokjdaaDoor
