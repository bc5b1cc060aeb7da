/-
  A region that draws its order, of whose operations something is said of all together, too.
-/
import Derived.Test.YtfcplpejifmohaaDoorJWell
namespace Go.Proofs.YtfcplpejifmohaaDoor
open Go Go.RowKit

section
variable {P : Program} {l : List Oper} {a0 : Act} {X : Array Bool → (Nat → Value) → World → Prop} {V : Nat → Value → List Value → World → Prop} {F : (Nat → Value) → Act} {Q : Exit → Act → World → Prop}

theorem rich_anyJ (hb : richB l = true) (hF : ∀ vs, F vs = fills l 0 vs a0) (hV : ∀ i v ds w w', V i v ds w → V i v ds w')
    (hst : ∀ i o, l[i]? = some o → ∀ (L : Array Bool) (vs : Nat → Value) (w : World), L.size = l.length → X L vs w → L.getD i false = false → (∀ j oj, l[j]? = some oj → L.getD j false = true → ∀ k ∈ depsOf oj, L.getD k false = true) → (∀ i, L.getD i false = true → Got l V vs i w) → (∀ j ∈ depsOf o, L.getD j false = true) → GotAll l V vs w (depsOf o) →
      ∀ K : Value → World → Prop, (∀ v w', V i v ((depsOf o).map vs) w' → X (L.setIfInBounds i true) (upd vs i v) w' → K v w') →
      if Region.wanted o (yielded l.toArray (F vs).tmps) then RichAt P o (F vs) w K else K undef w)
    (hend : ∀ L vs w, (∀ i, i < l.length → L.getD i false = true) → X L vs w → (∀ i, i < l.length → Got l V vs i w) → Q .normal (F vs) w) :
    ∀ (f : Nat) (listed : Array Bool) (vs : Nat → Value) (w : World), listed.size = l.length → (∀ j oj, l[j]? = some oj → listed.getD j false = true → ∀ k ∈ depsOf oj, listed.getD k false = true) → X listed vs w →
      (∀ i, listed.getD i false = true → Got l V vs i w) → listed.toList.count false ≤ f → wpAny P .any l.toArray Q f listed (F vs) w := by
  have hdist : (l.filterMap (·.dst)).Nodup := by unfold richB at hb; simp only [Bool.and_eq_true, decide_eq_true_eq] at hb; exact hb.2
  have hback : ∀ i o, l[i]? = some o → ∀ j ∈ depsOf o, j < i := fun i o ho j hj => by
    unfold richB at hb
    simp only [Bool.and_eq_true] at hb
    have hd := List.all_eq_true.1 hb.1 i (List.mem_range.2 (List.getElem?_eq_some_iff.1 ho).1)
    rw [ho] at hd
    have := List.all_eq_true.1 hd j hj
    simpa using this
  have fin : ∀ (listed : Array Bool) (vs : Nat → Value) (w : World), listed.size = l.length → X listed vs w → (∀ i, listed.getD i false = true → Got l V vs i w) → Region.ready .any l.toArray listed = [] → Q .normal (F vs) w := by
    intro listed vs w hs hw hg hr
    have hall : ∀ i, i < l.length → listed.getD i false = true := fun i hi => by
      have := rich_listed hb hs hr (i + 1) i (by omega) hi
      have hi2 : i < listed.size := by omega
      simp [hi2] at this ⊢; exact this
    exact hend listed vs w hall hw fun i hi => hg i (hall i hi)
  intro f
  induction f with
  | zero =>
    intro listed vs w hs hcl hw hg hc
    have hr : Region.ready .any l.toArray listed = [] := by
      cases hr : Region.ready .any l.toArray listed with
      | nil => rfl
      | cons i r =>
        exfalso
        have hi : i ∈ Region.ready .any l.toArray listed := by rw [hr]; simp
        obtain ⟨hu, o, ho, -⟩ := mem_ready.1 hi
        have hlt : i < listed.size := by have := (Array.getElem?_eq_some_iff.1 ho).1; simp at this; omega
        simp [hlt] at hu
        have : false ∈ listed.toList := by rw [← hu]; simp
        have := List.count_pos_iff.2 this
        omega
    exact ⟨hr, fin listed vs w hs hw hg hr⟩
  | succ f ih =>
    intro listed vs w hs hcl hw hg hc
    refine ⟨fun hr => fin listed vs w hs hw hg hr, fun i hi => ?_⟩
    obtain ⟨hu, o, ho, hdep⟩ := mem_ready.1 hi
    have ho' : l[i]? = some o := by simpa using ho
    have hlt : i < listed.size := by have := (List.getElem?_eq_some_iff.1 ho').1; omega
    have hui : listed.getD i false = false := getD_both hu
    have hdl : ∀ j ∈ depsOf o, listed.getD j false = true := fun j hj => by
      obtain ⟨e, h1, h2, h3⟩ := depsOf_mem.1 hj
      subst h3
      exact hdep e h1 h2
    have hgd : ∀ j ∈ depsOf o, Got l V vs j w := fun j hj => hg _ (hdl j hj)
    have hcount := count_set listed.toList i (by simp [hlt] at hu; simp [hlt, hu])
    have next : ∀ v w', V i v ((depsOf o).map vs) w' → X (listed.setIfInBounds i true) (upd vs i v) w' → wpAny P .any l.toArray Q f (listed.setIfInBounds i true) ((F vs).put o.dst v) w' := by
      intro v w' hVi hX
      have e1 : (F vs).put o.dst v = F (upd vs i v) := by
        rw [hF, hF, ← fills_upd l 0 vs a0 i v o ho' hdist, Nat.zero_add]
      rw [e1]
      refine ih (listed.setIfInBounds i true) (upd vs i v) w' (by simpa using hs) ?_ hX ?_ (by rw [show (listed.setIfInBounds i true).toList = listed.toList.set i true by simp]; omega)
      · intro j oj hj hl k hk
        by_cases hji : i = j
        · subst hji
          have : oj = o := Option.some.inj (hj.symm.trans ho')
          subst this
          exact getD_set_true (hdl k hk)
        · rw [getD_set_ne false hji] at hl
          exact getD_set_true (hcl j oj hj hl k hk)
      · intro j hl oj hj
        by_cases hji : j = i
        · subst hji
          have : oj = o := Option.some.inj (hj.symm.trans ho')
          subst this
          rw [upd_same, List.map_congr_left (g := vs) (fun k hk => upd_other vs v (by have := hback j oj hj k hk; omega))]
          exact hVi
        · rw [getD_set_ne false (fun e => hji e.symm)] at hl
          have hgj := hg j hl oj hj
          rw [upd_other vs v hji, List.map_congr_left (g := vs) (fun k hk => upd_other vs v (fun e => by
            subst e
            have := hcl j oj hj hl k hk
            rw [hui] at this; cases this))]
          exact hV _ _ _ _ _ hgj
    have h := hst i o ho' listed vs w hs hw hui hcl hg hdl (gotAll_of hgd) _ next
    unfold wpOp
    rw [ho]
    simp only
    split
    · rename_i hwant
      rw [if_pos hwant] at h
      exact Or.inl (wp_of_rich (fun v w' hk => hk) h)
    · rename_i hwant
      rw [if_neg hwant] at h
      exact h

section
variable (P : Program) (l : List Oper) (X : Array Bool → (Nat → Value) → World → Prop) (V : Nat → Value → List Value → Prop) (F : (Nat → Value) → Act)
/-- an operation keeps what is said -/
def StepJ (i : Nat) (o : Oper) : Prop := ∀ (L : Array Bool) (vs : Nat → Value) (w : World), L.size = l.length → X L vs w → L.getD i false = false → (∀ j oj, l[j]? = some oj → L.getD j false = true → ∀ k ∈ depsOf oj, L.getD k false = true) → (∀ i, L.getD i false = true → Got l (fun i v ds _ => V i v ds) vs i w) → (∀ j ∈ depsOf o, L.getD j false = true) → GotAll l (fun i v ds _ => V i v ds) vs w (depsOf o) →
  ∀ K : Value → World → Prop, (∀ v w', V i v ((depsOf o).map vs) → X (L.setIfInBounds i true) (upd vs i v) w' → K v w') →
    if Region.wanted o (yielded l.toArray (F vs).tmps) then RichAt P o (F vs) w K else K undef w
def StepsJ : List Oper → Nat → Prop
  | [], _ => True
  | o :: r, i => StepJ P l X V F i o ∧ StepsJ r (i + 1)
end
theorem stepsJ_at {P : Program} {l : List Oper} {X : Array Bool → (Nat → Value) → World → Prop} {V : Nat → Value → List Value → Prop} {F : (Nat → Value) → Act} : ∀ (r : List Oper) (k : Nat), StepsJ P l X V F r k → ∀ i o, r[i]? = some o → StepJ P l X V F (k + i) o
  | [], _, _, _, _, h => by simp at h
  | o' :: r, k, hs, 0, o, h => by simp at h; subst h; exact hs.1
  | o' :: r, k, hs, i + 1, o, h => by
    rw [show k + (i + 1) = k + 1 + i by omega]
    exact stepsJ_at r (k + 1) hs.2 i o (by simpa using h)

/-- every order leaves what is said of each of its operations and of all together -/
theorem wp_richJ {id : Nat} {a : Act} {w : World} (X : Array Bool → (Nat → Value) → World → Prop) (V : Nat → Value → List Value → Prop) {F : (Nat → Value) → Act} (hm : P.follows .mixedOrders = true) (hb : richB l = true) (hF : ∀ vs, fills l 0 vs a = F vs)
    (h0 : ∀ vs, X (Array.replicate l.length false) vs { w with drawn := w.drawn + 1 })
    (hst : StepsJ P l X V F l 0)
    (hend : ∀ L vs W, (∀ i, i < l.length → L.getD i false = true) → X L vs W → GotAll l (fun i v ds _ => V i v ds) vs W (List.range l.length) → Q .normal (F vs) W) :
    (Code.region id l.toArray true).wp P Q a w := by
  refine wp_region_any hm ?_
  have hs := rich_anyJ (P := P) (a0 := a) (Q := Q) (X := X) (V := fun i v ds _ => V i v ds) hb (fun vs => (hF vs).symm) (fun _ _ _ _ _ h => h) (fun i o ho => by have := stepsJ_at l 0 hst i o ho; rwa [Nat.zero_add] at this) (fun L vs W hL hX hg => hend L vs W hL hX (gotAll_of fun j hj => hg j (List.mem_range.1 hj))) l.toArray.size (Array.replicate l.toArray.size false)
    (fun i => ((l[i]?).bind (·.dst)).elim undef fun d => a.tmps.getD d undef) { w with drawn := w.drawn + 1 } (by simp) (fun j oj _ hl => by rw [getD_replicate_false] at hl; cases hl) (by simpa using h0 _) (fun i hl => by rw [getD_replicate_false] at hl; cases hl) (by simp)
  rw [← hF, fills_start l 0 _ a (fun i o d h1 h2 => by simp [h1, h2])] at hs
  exact hs
end

/-- a copy that is made, and a box that it is put into -/
def GetX (wb : World) (x : GV) (L : Array Bool) (vs : Nat → Value) (w : World) : Prop :=
  Only wb w ∧ (L.getD 10 false = true → ∃ g a b c d, vs 10 = .pointer (some ⟨g, 0, none⟩) ∧ wb.heap.size ≤ g ∧ Own4 w g a b c d) ∧
  (L.getD 6 false = true → ∃ lo hi v', vs 6 = .tuple #[v', .bool true] ∧ wb.heap.size ≤ lo ∧ hi ≤ w.heap.size ∧ Mine (fun _ => False) lo hi w x v' ∧ (L.getD 10 false = true → ∀ g, vs 10 = .pointer (some ⟨g, 0, none⟩) → g < lo ∨ hi ≤ g)) ∧
  (L.getD 11 false = true → L.getD 6 false = true ∧ L.getD 10 false = true ∧ ∃ g a b c d, vs 10 = .pointer (some ⟨g, 0, none⟩) ∧ vs 6 = .tuple #[.agg #[a, b, c, d], .bool true] ∧ Own4 w g a b c d)
variable {wb w w' : World} {x : GV} {L : Array Bool} {vs : Nat → Value} {i : Nat} {v : Value}
theorem Mine.keep {lo hi : Nat} {v' : Value} (h : Mine (fun _ => False) lo hi w x v') (hh : hi ≤ w.heap.size) (t : Only w w') : Mine (fun _ => False) lo hi w' x v' :=
  h.mono (Nat.le_refl _) (Nat.le_refl _) (fun _ _ _ q => q) (fun k _ k2 _ => t.block k (by omega))
theorem GetX.start (w : World) (n : Nat) (vs : Nat → Value) (t : Only wb w) : GetX wb x (Array.replicate n false) vs w :=
  by refine ⟨t, ?_, ?_, ?_⟩ <;> (intro h; rw [getD_replicate_false] at h; cases h)
theorem GetX.other (h : GetX wb x L vs w) (h6 : i ≠ 6) (h10 : i ≠ 10) (h11 : i ≠ 11) (t : Only w w') : GetX wb x (L.setIfInBounds i true) (upd vs i v) w' := by
  obtain ⟨h1, h2, h3, h4⟩ := h
  refine ⟨h1.trans t, fun hl => ?_, fun hl => ?_, fun hl => ?_⟩
  · rw [getD_set_ne false h10] at hl
    obtain ⟨g, a, b, c, d, e1, e2, e3⟩ := h2 hl
    exact ⟨g, a, b, c, d, by rw [upd_other vs v (Ne.symm h10)]; exact e1, e2, e3.only t⟩
  · rw [getD_set_ne false h6] at hl
    obtain ⟨lo, hi, v', e1, e2, e3, e4, e5⟩ := h3 hl
    refine ⟨lo, hi, v', by rw [upd_other vs v (Ne.symm h6)]; exact e1, e2, Nat.le_trans e3 t.size, e4.keep e3 t, fun hl g hg => ?_⟩
    rw [getD_set_ne false h10] at hl
    rw [upd_other vs v (Ne.symm h10)] at hg
    exact e5 hl g hg
  · rw [getD_set_ne false h11] at hl
    obtain ⟨l6, l10, g, a, b, c, d, e1, e2, e3⟩ := h4 hl
    exact ⟨by rw [getD_set_ne false h6]; exact l6, by rw [getD_set_ne false h10]; exact l10, g, a, b, c, d, by rw [upd_other vs v (Ne.symm h10)]; exact e1, by rw [upd_other vs v (Ne.symm h6)]; exact e2, e3.only t⟩
theorem GetX.call {v' : Value} (h : GetX wb x L vs w) (hl6 : L.getD 6 false = false) (t : Only w w') (hm : Mine (fun _ => False) w.heap.size w'.heap.size w' x v') : GetX wb x (L.setIfInBounds 6 true) (upd vs 6 (.tuple #[v', .bool true])) w' := by
  obtain ⟨h1, h2, h3, h4⟩ := h
  refine ⟨h1.trans t, fun hl => ?_, fun hl => ?_, fun hl => ?_⟩
  · rw [getD_set_ne false (by decide)] at hl
    obtain ⟨g, a, b, c, d, e1, e2, e3⟩ := h2 hl
    exact ⟨g, a, b, c, d, by rw [upd_other vs _ (by decide)]; exact e1, e2, e3.only t⟩
  · refine ⟨w.heap.size, w'.heap.size, v', upd_same _ _ _, h1.size, Nat.le_refl _, hm, fun hl g hg => ?_⟩
    rw [getD_set_ne false (by decide)] at hl
    rw [upd_other vs _ (by decide)] at hg
    obtain ⟨g', a, b, c, d, e1, e2, e3⟩ := h2 hl
    rw [e1] at hg
    simp only [Value.pointer.injEq, Option.some.injEq, Addr.mk.injEq] at hg
    have := e3.lt
    omega
  · rw [getD_set_ne false (by decide)] at hl
    rw [(h4 hl).1] at hl6; cases hl6
theorem GetX.box {a b c d : Value} {ty : TypeId} (h : GetX wb x L vs w) (hl10 : L.getD 10 false = false) : GetX wb x (L.setIfInBounds 10 true) (upd vs 10 (.pointer (some ⟨w.heap.size, 0, none⟩))) (w.alloc (.cells #[a, b, c, d] ty)) := by
  obtain ⟨h1, h2, h3, h4⟩ := h
  have t := (Only.refl w).alloc (.cells #[a, b, c, d] ty)
  refine ⟨h1.trans t, fun hl => ?_, fun hl => ?_, fun hl => ?_⟩
  · exact ⟨w.heap.size, a, b, c, d, upd_same _ _ _, h1.size, Own4.new _ _ _ _ _ _⟩
  · rw [getD_set_ne false (by decide)] at hl
    obtain ⟨lo, hi, v', e1, e2, e3, e4, e5⟩ := h3 hl
    refine ⟨lo, hi, v', by rw [upd_other vs _ (by decide)]; exact e1, e2, Nat.le_trans e3 t.size, e4.keep e3 t, fun hl g hg => ?_⟩
    rw [upd_same] at hg
    simp only [Value.pointer.injEq, Option.some.injEq, Addr.mk.injEq] at hg
    omega
  · rw [getD_set_ne false (by decide)] at hl
    rw [(h4 hl).2.1] at hl10; cases hl10
theorem GetX.put {g : Nat} {a b c d u : Value} (h : GetX wb x L vs w) (l6 : L.getD 6 false = true) (l10 : L.getD 10 false = true) (hg : vs 10 = .pointer (some ⟨g, 0, none⟩)) (hv : vs 6 = .tuple #[.agg #[a, b, c, d], .bool true]) :
    GetX wb x (L.setIfInBounds 11 true) (upd vs 11 u) ((((w.setCell ⟨g, 0, none⟩ a).setCell ⟨g, 1, none⟩ b).setCell ⟨g, 2, none⟩ c).setCell ⟨g, 3, none⟩ d) := by
  obtain ⟨h1, h2, h3, h4⟩ := h
  obtain ⟨g', a', b', c', d', e1, e2, e3⟩ := h2 l10
  obtain rfl : g' = g := by rw [e1] at hg; simpa using hg
  obtain ⟨lo, hi, v', f1, f2, f3, f4, f5⟩ := h3 l6
  have hgd := f5 l10 _ hg
  refine ⟨(((h1.set (p := g') e2 0 a).set (p := g') e2 1 b).set (p := g') e2 2 c).set (p := g') e2 3 d, fun hl => ?_, fun hl => ?_, fun hl => ?_⟩
  · exact ⟨g', a, b, c, d, by rw [upd_other vs _ (by decide)]; exact hg, e2, e3.set _ _ _ _⟩
  · refine ⟨lo, hi, v', by rw [upd_other vs _ (by decide)]; exact f1, f2, by simpa using f3, f4.mono (Nat.le_refl _) (Nat.le_refl _) (fun _ _ _ q => q) (fun k k1 k2 _ => ?_), fun _ g2 hg2 => ?_⟩
    · exact put4_heap (w := w) (g := g') (o := 0) (a := a) (b := b) (c := c) (d := d) (by omega)
    · rw [upd_other vs _ (by decide)] at hg2; exact f5 l10 g2 hg2
  · exact ⟨by rw [getD_set_ne false (by decide)]; exact l6, by rw [getD_set_ne false (by decide)]; exact l10, g', a, b, c, d, by rw [upd_other vs _ (by decide)]; exact hg, by rw [upd_other vs _ (by decide)]; exact hv, e3.set _ _ _ _⟩

/-- what is said of each operation of such a region -/
def getV (c0 c1 c2 c3 c4 c5 : Value) : Nat → Value → List Value → Prop
  | 0, v, _ => v = c0
  | 1, v, _ => v = c1
  | 2, v, _ => v = c2
  | 3, v, _ => v = c3
  | 4, v, _ => v = c4
  | 5, v, _ => v = c5
  | 7, v, ds => ds = [v]
  | 8, v, ds => ∀ a b, ds = [.tuple #[a, b]] → v = a
  | 9, v, ds => ∀ a b, ds = [.tuple #[a, b]] → v = b
  | 12, v, ds => ds.head? = some v
  | _, _, _ => True
end Go.Proofs.YtfcplpejifmohaaDoor
