/-
  A region that draws its order, of which one operation writes into memory that stood there before: something is kept by all that is made and by that write, and what each operation leaves is said of its own value.
-/
import Derived.Test.YtagilpgplcphpaaNRich
namespace Go.Proofs.Ytagilpgplcphpaa
open Go Go.RowKit

section
variable (P : Program) (l : List Oper) (a0 : Act) (I : World → Prop) (S : World → World → Prop) (st : Nat) (V : Nat → Value → List Value → World → Prop)

/-- operation i leaves what is said of it, wherever those that it waits for have -/
def StepAtI (F : (Nat → Value) → Act) (i : Nat) (o : Oper) : Prop := ∀ (vs : Nat → Value) (w : World), I w → GotAll l V vs w (depsOf o) →
  ∀ K : Value → World → Prop, (∀ v w', (Only w w' ∨ (i = st ∧ S w w')) → V i v ((depsOf o).map vs) w' → K v w') →
    if Region.wanted o (yielded l.toArray (F vs).tmps) then RichAt P o (F vs) w K else K undef w

def StepsFromI (F : (Nat → Value) → Act) : List Oper → Nat → Prop
  | [], _ => True
  | o :: r, i => StepAtI P l I S st V F i o ∧ StepsFromI F r (i + 1)
end

section
variable {P : Program} {l : List Oper} {a0 : Act} {I : World → Prop} {S : World → World → Prop} {st : Nat} {V : Nat → Value → List Value → World → Prop} {F : (Nat → Value) → Act} {Q : Exit → Act → World → Prop}

theorem stepsFromI_at : ∀ (r : List Oper) (k : Nat), StepsFromI P l I S st V F r k → ∀ i o, r[i]? = some o → StepAtI P l I S st V F (k + i) o
  | [], _, _, _, _, h => by simp at h
  | o' :: r, k, hs, 0, o, h => by simp at h; subst h; exact hs.1
  | o' :: r, k, hs, i + 1, o, h => by
    rw [show k + (i + 1) = k + 1 + i by omega]
    exact stepsFromI_at r (k + 1) hs.2 i o (by simpa using h)

theorem rich_anyI (hI : ∀ w w', I w → Only w w' → I w') (hb : richB l = true) (hF : ∀ vs, F vs = fills l 0 vs a0) (hO : ∀ i v ds w w', I w → Only w w' → V i v ds w → V i v ds w') (hS : ∀ i v ds w w', i ≠ st → I w → S w w' → V i v ds w → V i v ds w')
    (hC : ∀ w w', I w → S w w' → I w') (hst : StepsFromI P l I S st V F l 0) (hend : ∀ vs w, I w → (∀ i, i < l.length → Got l V vs i w) → Q .normal (F vs) w) :
    ∀ (f : Nat) (listed : Array Bool) (vs : Nat → Value) (w : World), listed.size = l.length → (∀ j oj, l[j]? = some oj → listed.getD j false = true → ∀ k ∈ depsOf oj, listed.getD k false = true) → I w →
      (∀ i, listed.getD i false = true → Got l V vs i w) → listed.toList.count false ≤ f → wpAny P .any l.toArray Q f listed (F vs) w := by
  have hdist : (l.filterMap (·.dst)).Nodup := by unfold richB at hb; simp only [Bool.and_eq_true, decide_eq_true_eq] at hb; exact hb.2
  have hback : ∀ i o, l[i]? = some o → ∀ j ∈ depsOf o, j < i := fun i o ho j hj => by
    unfold richB at hb
    simp only [Bool.and_eq_true] at hb
    have hd := List.all_eq_true.1 hb.1 i (List.mem_range.2 (List.getElem?_eq_some_iff.1 ho).1)
    rw [ho] at hd
    have := List.all_eq_true.1 hd j hj
    simpa using this
  have fin : ∀ (listed : Array Bool) (vs : Nat → Value) (w : World), listed.size = l.length → I w → (∀ i, listed.getD i false = true → Got l V vs i w) → Region.ready .any l.toArray listed = [] → Q .normal (F vs) w := by
    intro listed vs w hs hw hg hr
    refine hend vs w hw fun i hi => hg i ?_
    have := rich_listed hb hs hr (i + 1) i (by omega) hi
    have hi2 : i < listed.size := by omega
    simp [hi2] at this ⊢; exact this
  intro f
  induction f with
  | zero =>
    intro listed vs w hs hcl hw hg hc
    have hr : Region.ready .any l.toArray listed = [] := by
      cases hr : Region.ready .any l.toArray listed with
      | nil => rfl
      | cons i r =>
        exfalso
        have hi : i ∈ Region.ready .any l.toArray listed := by rw [hr]; simp
        obtain ⟨hu, o, ho, -⟩ := mem_ready.1 hi
        have hlt : i < listed.size := by have := (Array.getElem?_eq_some_iff.1 ho).1; simp at this; omega
        simp [hlt] at hu
        have : false ∈ listed.toList := by rw [← hu]; simp
        have := List.count_pos_iff.2 this
        omega
    exact ⟨hr, fin listed vs w hs hw hg hr⟩
  | succ f ih =>
    intro listed vs w hs hcl hw hg hc
    refine ⟨fun hr => fin listed vs w hs hw hg hr, fun i hi => ?_⟩
    obtain ⟨hu, o, ho, hdep⟩ := mem_ready.1 hi
    have ho' : l[i]? = some o := by simpa using ho
    have hlt : i < listed.size := by have := (List.getElem?_eq_some_iff.1 ho').1; omega
    have hui : listed.getD i false = false := getD_both hu
    have hgd : ∀ j ∈ depsOf o, Got l V vs j w := fun j hj => by
      obtain ⟨e, h1, h2, h3⟩ := depsOf_mem.1 hj
      subst h3
      exact hg _ (hdep e h1 h2)
    have hstep := stepsFromI_at l 0 hst i o ho'
    rw [Nat.zero_add] at hstep
    have hcount := count_set listed.toList i (by simp [hlt] at hu; simp [hlt, hu])
    have next : ∀ v w', (Only w w' ∨ (i = st ∧ S w w')) → V i v ((depsOf o).map vs) w' → wpAny P .any l.toArray Q f (listed.setIfInBounds i true) ((F vs).put o.dst v) w' := by
      intro v w' hmv hV
      have e1 : (F vs).put o.dst v = F (upd vs i v) := by
        rw [hF, hF, ← fills_upd l 0 vs a0 i v o ho' hdist, Nat.zero_add]
      rw [e1]
      have hw' : I w' := by
        rcases hmv with h | ⟨-, h⟩
        · exact hI _ _ hw h
        · exact hC _ _ hw h
      refine ih (listed.setIfInBounds i true) (upd vs i v) w' (by simpa using hs) ?_ hw' ?_ (by rw [show (listed.setIfInBounds i true).toList = listed.toList.set i true by simp]; omega)
      · intro j oj hj hl k hk
        by_cases hji : i = j
        · subst hji
          have : oj = o := Option.some.inj (hj.symm.trans ho')
          subst this
          obtain ⟨e, h1, h2, h3⟩ := depsOf_mem.1 hk
          subst h3
          exact getD_set_true (hdep e h1 h2)
        · rw [getD_set_ne false hji] at hl
          exact getD_set_true (hcl j oj hj hl k hk)
      · intro j hl oj hj
        by_cases hji : j = i
        · subst hji
          have : oj = o := Option.some.inj (hj.symm.trans ho')
          subst this
          rw [upd_same, List.map_congr_left (g := vs) (fun k hk => upd_other vs v (by have := hback j oj hj k hk; omega))]
          exact hV
        · rw [getD_set_ne false (fun e => hji e.symm)] at hl
          have hgj := hg j hl oj hj
          rw [upd_other vs v hji, List.map_congr_left (g := vs) (fun k hk => upd_other vs v (fun e => by
            subst e
            have := hcl j oj hj hl k hk
            rw [hui] at this; cases this))]
          rcases hmv with h | ⟨h1, h⟩
          · exact hO _ _ _ _ _ hw h hgj
          · exact hS _ _ _ _ _ (by omega) hw h hgj
    have h := hstep vs w hw (gotAll_of hgd) _ next
    unfold wpOp
    rw [ho]
    simp only
    split
    · rename_i hwant
      rw [if_pos hwant] at h
      exact Or.inl (wp_of_rich (fun v w' hk => hk) h)
    · rename_i hwant
      rw [if_neg hwant] at h
      exact h

/-- every order of a region leaves what is said of each of its operations, and keeps I -/
theorem wp_region_richI {id : Nat} {a : Act} {w : World} (I : World → Prop) (S : World → World → Prop) (st : Nat) (V : Nat → Value → List Value → World → Prop) {F : (Nat → Value) → Act} (hm : P.follows .mixedOrders = true) (hb : richB l = true) (hF : ∀ vs, fills l 0 vs a = F vs)
    (h0 : I w) (hI : ∀ W W', I W → Only W W' → I W') (hO : ∀ i v ds W W', I W → Only W W' → V i v ds W → V i v ds W') (hS : ∀ i v ds W W', i ≠ st → I W → S W W' → V i v ds W → V i v ds W')
    (hC : ∀ W W', I W → S W W' → I W') (hst : StepsFromI P l I S st V F l 0) (hend : ∀ vs W, I W → GotAll l V vs W (List.range l.length) → Q .normal (F vs) W) :
    (Code.region id l.toArray true).wp P Q a w := by
  refine wp_region_any hm ?_
  have hs := rich_anyI (P := P) (a0 := a) (Q := Q) hI hb (fun vs => (hF vs).symm) hO hS hC hst (fun vs W hW hg => hend vs W hW (gotAll_of fun j hj => hg j (List.mem_range.1 hj))) l.toArray.size (Array.replicate l.toArray.size false)
    (fun i => ((l[i]?).bind (·.dst)).elim undef fun d => a.tmps.getD d undef) { w with drawn := w.drawn + 1 } (by simp) (fun j oj _ hl => by rw [getD_replicate_false] at hl; cases hl) (hI _ _ h0 (Only.refl w).drew) (fun i hl => by rw [getD_replicate_false] at hl; cases hl) (by simp)
  rw [← hF, fills_start l 0 _ a (fun i o d h1 h2 => by simp [h1, h2])] at hs
  exact hs
end

section
variable (P : Program) (l : List Oper) (I : World → Prop) (ps : List Said) (F : (Nat → Value) → Act)
/-- an operation leaves p, and only makes memory -/
def StepPI (o : Oper) (p : Said) : Prop := ∀ (vs : Nat → Value) (w : World), I w → GotAll l (saidV ps) vs w (depsOf o) →
  ∀ K : Value → World → Prop, (∀ v w', Only w w' → p v ((depsOf o).map vs) w' → K v w') →
    if Region.wanted o (yielded l.toArray (F vs).tmps) then RichAt P o (F vs) w K else K undef w
def StepsPI : List Oper → List Said → Prop
  | [], _ => True
  | o :: r, p :: qs => StepPI P l I ps F o p ∧ StepsPI r qs
  | _ :: _, [] => False
/-- operation i may write, too -/
def StepWI (S : World → World → Prop) (o : Oper) (p : Said) : Prop := ∀ (vs : Nat → Value) (w : World), I w → GotAll l (saidV ps) vs w (depsOf o) →
  ∀ K : Value → World → Prop, (∀ v w', S w w' → p v ((depsOf o).map vs) w' → K v w') →
    if Region.wanted o (yielded l.toArray (F vs).tmps) then RichAt P o (F vs) w K else K undef w
/-- operation st of the list writes, all others only make memory -/
def StepsWI (S : World → World → Prop) : Nat → List Oper → List Said → Prop
  | _, [], _ => True
  | 0, o :: r, p :: qs => StepWI P l I ps F S o p ∧ StepsPI P l I ps F r qs
  | st + 1, o :: r, p :: qs => StepPI P l I ps F o p ∧ StepsWI S st r qs
  | _, _ :: _, [] => False
end
section
variable {P : Program} {l : List Oper} {I : World → Prop} {ps : List Said} {F : (Nat → Value) → Act}
theorem stepsFromI_ofP {S : World → World → Prop} {st : Nat} : ∀ (r : List Oper) (qs : List Said) (k : Nat), (∀ i, ps[k + i]? = qs[i]?) → StepsPI P l I ps F r qs → StepsFromI P l I S st (saidV ps) F r k
  | [], _, _, _, _ => trivial
  | o :: r, [], k, _, h => h.elim
  | o :: r, p :: qs, k, hp, h => ⟨fun vs w hw hd K hK => h.1 vs w hw hd K fun v w' t k' => hK v w' (Or.inl t) (by rw [saidV_at (show ps[k]? = some p by simpa using hp 0)]; exact k'),
      stepsFromI_ofP r qs (k + 1) (fun i => by rw [show k + 1 + i = k + (i + 1) by omega]; simpa using hp (i + 1)) h.2⟩
theorem stepsFromI_ofW {S : World → World → Prop} : ∀ (st : Nat) (r : List Oper) (qs : List Said) (k : Nat), (∀ i, ps[k + i]? = qs[i]?) → StepsWI P l I ps F S st r qs → StepsFromI P l I S (k + st) (saidV ps) F r k
  | _, [], _, _, _, _ => trivial
  | 0, o :: r, [], k, _, h => h.elim
  | st + 1, o :: r, [], k, _, h => h.elim
  | 0, o :: r, p :: qs, k, hp, h => ⟨fun vs w hw hd K hK => by
      have e := saidV_at (show ps[k]? = some p by simpa using hp 0)
      exact h.1 vs w hw hd K fun v w' t k' => hK v w' (Or.inr ⟨rfl, t⟩) (by rw [e]; exact k'),
      stepsFromI_ofP r qs (k + 1) (fun i => by rw [show k + 1 + i = k + (i + 1) by omega]; simpa using hp (i + 1)) h.2⟩
  | st + 1, o :: r, p :: qs, k, hp, h => ⟨fun vs w hw hd K hK => by
      have e := saidV_at (show ps[k]? = some p by simpa using hp 0)
      exact h.1 vs w hw hd K fun v w' t k' => hK v w' (Or.inl t) (by rw [e]; exact k'), by
      rw [show k + (st + 1) = k + 1 + st by omega]
      exact stepsFromI_ofW st r qs (k + 1) (fun i => by rw [show k + 1 + i = k + (i + 1) by omega]; simpa using hp (i + 1)) h.2⟩

/-- operation st writes what S says; all keep I -/
theorem wp_richI {id : Nat} {a : Act} {w : World} {Q : Exit → Act → World → Prop} (I : World → Prop) (S : World → World → Prop) (st : Nat) (ps : List Said) {F : (Nat → Value) → Act} (hm : P.follows .mixedOrders = true) (hb : richB l = true) (hF : ∀ vs, fills l 0 vs a = F vs)
    (h0 : I w) (hI : ∀ W W', I W → Only W W' → I W') (hC : ∀ W W', I W → S W W' → I W')
    (hst : StepsWI P l I ps F S st l ps) (hO : ∀ p ∈ ps, StabO p) (hS : ∀ q ∈ ps.eraseIdx st, ∀ v ds W W', I W → S W W' → q v ds W → q v ds W')
    (hend : ∀ vs W, I W → GotAll l (saidV ps) vs W (List.range l.length) → Q .normal (F vs) W) : (Code.region id l.toArray true).wp P Q a w :=
  wp_region_richI I S st (saidV ps) hm hb hF h0 hI (fun i v ds W W' _ t k => by
      unfold saidV at *
      cases hp : ps[i]? with
      | none => trivial
      | some p =>
        rw [hp] at k
        exact (hO p (List.mem_of_getElem? hp)) v ds W W' t k) (fun i v ds W W' hi hw hs k => by
      unfold saidV at k ⊢
      cases hp : ps[i]? with
      | none => trivial
      | some p =>
        rw [hp] at k
        exact hS p (List.mem_eraseIdx_iff_getElem?.2 ⟨i, hi, hp⟩) v ds W W' hw hs k) hC
    (by have := stepsFromI_ofW st _ _ 0 (fun i => by rw [Nat.zero_add]) hst; rwa [Nat.zero_add] at this) hend
end
end Go.Proofs.Ytagilpgplcphpaa
