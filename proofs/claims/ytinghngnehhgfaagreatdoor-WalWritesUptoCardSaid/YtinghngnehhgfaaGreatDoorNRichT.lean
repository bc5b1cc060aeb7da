/-
  A region that draws its order with a tail in one order; what its head's operations leave is said one by one, and of all together (X).
-/
import Derived.Test.YtinghngnehhgfaaGreatDoorNRich
namespace Go.Proofs.YtinghngnehhgfaaGreatDoor
open Go Go.RowKit

section
variable {P : Program} {l : List Oper} {n : Nat} {a0 : Act} {M : World → World → Prop} {X : Array Bool → (Nat → Value) → World → Prop} {V : Nat → Value → List Value → World → Prop} {F : (Nat → Value) → Act} {Q : Exit → Act → World → Prop}

theorem rich_headT (hn : n < l.length) (hb : richB (l.take n) = true) (hsk : Region.sinkB .any l.toArray n = true) (hwt : waitsB .any l.toArray n = true) (hguard : ∀ i o, l[i]? = some o → i < n → ∀ j b, o.guard = some (j, b) → j < n) (hF : ∀ vs, F vs = fills (l.take n) 0 vs a0) (hV : ∀ i v ds w w', M w w' → V i v ds w → V i v ds w')
    (hst : ∀ i o, (l.take n)[i]? = some o → ∀ (L : Array Bool) (vs : Nat → Value) (w : World), L.size = n → X L vs w → L.getD i false = false → (∀ j oj, (l.take n)[j]? = some oj → L.getD j false = true → ∀ k ∈ depsOf oj, L.getD k false = true) → (∀ i, L.getD i false = true → Got (l.take n) V vs i w) → (∀ j ∈ depsOf o, L.getD j false = true) → GotAll (l.take n) V vs w (depsOf o) →
      ∀ K : Value → World → Prop, (∀ v w', M w w' → V i v ((depsOf o).map vs) w' → X (L.setIfInBounds i true) (upd vs i v) w' → K v w') →
      if Region.wanted o (yielded (l.take n).toArray (F vs).tmps) then RichAt P o (F vs) w K else K undef w)
    (hend : ∀ vs w, X (Array.replicate n true) vs w → (∀ i, i < n → Got (l.take n) V vs i w) → wpAny P .any l.toArray Q (l.length - n) (marks (Array.replicate n true) (l.length - n)) (F vs) w) :
    ∀ (f : Nat) (listed : Array Bool) (vs : Nat → Value) (w : World), listed.size = n → HeadInv .any l.toArray n (marks listed (l.length - n)) → X listed vs w →
      (∀ i, listed.getD i false = true → Got (l.take n) V vs i w) → listed.toList.count false ≤ f → wpAny P .any l.toArray Q (f + (l.length - n)) (marks listed (l.length - n)) (F vs) w := by
  have htl : (l.take n).length = n := by simp; omega
  have hdist : ((l.take n).filterMap (·.dst)).Nodup := by unfold richB at hb; simp only [Bool.and_eq_true, decide_eq_true_eq] at hb; exact hb.2
  have hback : ∀ i o, (l.take n)[i]? = some o → ∀ j ∈ depsOf o, j < i := fun i o ho j hj => by
    unfold richB at hb
    simp only [Bool.and_eq_true] at hb
    have hd := List.all_eq_true.1 hb.1 i (List.mem_range.2 (List.getElem?_eq_some_iff.1 ho).1)
    rw [ho] at hd
    have := List.all_eq_true.1 hd j hj
    simpa using this
  have fin : ∀ (f : Nat) (listed : Array Bool) (vs : Nat → Value) (w : World), listed.size = n → X listed vs w → (∀ i, listed.getD i false = true → Got (l.take n) V vs i w) → Region.ready .any (l.take n).toArray listed = [] → wpAny P .any l.toArray Q (f + (l.length - n)) (marks listed (l.length - n)) (F vs) w := by
    intro f listed vs w hs hw hg hr
    have hall : ∀ i, i < n → listed.getD i true = true := fun i hi => rich_listed hb (by omega) hr (i + 1) i (by omega) (by omega)
    have e : listed = Array.replicate n true := by
      apply Array.ext (by simp [hs])
      intro i h1 h2
      have := hall i (by omega)
      simpa [h1] using this
    rw [e] at hw ⊢
    refine fuel_most (hend vs w hw fun i hi => hg i ?_) f
    rw [e]; simp [hi]
  have hsz : n < l.toArray.size := by simpa using hn
  intro f
  induction f with
  | zero =>
    intro listed vs w hs inv hw hg hc
    refine fin 0 listed vs w hs hw hg ?_
    cases hr : Region.ready .any (l.take n).toArray listed with
    | nil => rfl
    | cons i r =>
      exfalso
      have hi : i ∈ Region.ready .any (l.take n).toArray listed := by rw [hr]; simp
      obtain ⟨hu, o, ho, -⟩ := mem_ready.1 hi
      have hlt : i < listed.size := by have := (Array.getElem?_eq_some_iff.1 ho).1; simp at this; omega
      simp [hlt] at hu
      have : false ∈ listed.toList := by rw [← hu]; simp
      have := List.count_pos_iff.2 this
      omega
  | succ f ih =>
    intro listed vs w hs inv hw hg hc
    by_cases hr : Region.ready .any (l.take n).toArray listed = []
    · exact fin (f + 1) listed vs w hs hw hg hr
    · obtain ⟨i0, hi0⟩ := List.exists_mem_of_ne_nil _ hr
      obtain ⟨u0, o0, ho0, d0⟩ := mem_ready.1 hi0
      have hi0n : i0 < n := by have := (Array.getElem?_eq_some_iff.1 ho0).1; simp at this; omega
      have hall : ∀ j ∈ Region.ready .any l.toArray (marks listed (l.length - n)), j < n := fun j hj => by
        rcases Nat.lt_or_ge j n with k | k
        · exact k
        · exact absurd hj (tail_waits2 hsk hwt hsz inv _ i0 rfl hi0n (by rw [marks_lt true (by omega)]; exact u0) j k)
      rw [show f + 1 + (l.length - n) = f + (l.length - n) + 1 by omega]
      refine ⟨fun h0 => ?_, fun i hi => ?_⟩
      · exfalso
        have : i0 ∈ Region.ready .any l.toArray (marks listed (l.length - n)) := mem_ready.2 ⟨by rw [marks_lt true (by omega)]; exact u0, o0, (head_at hi0n).symm.trans ho0, fun e he hbd => by
          have h2 := d0 e he hbd
          have h3 := hback i0 o0 (by simpa using ho0) e.on (depsOf_mem.2 ⟨e, he, hbd, rfl⟩)
          rw [marks_lt false (by omega)]; exact h2⟩
        rw [h0] at this; cases this
      · have hin := hall i hi
        obtain ⟨hu, o, ho, hdep⟩ := mem_ready.1 hi
        have ho1 : l[i]? = some o := by simpa using ho
        have ho' : (l.take n)[i]? = some o := by rw [List.getElem?_take, if_pos hin]; exact ho1
        have hlt : i < listed.size := by omega
        rw [marks_lt true hlt] at hu
        have hui : listed.getD i false = false := getD_both hu
        have hdep' : ∀ k ∈ depsOf o, listed.getD k false = true := fun k hk => by
          obtain ⟨e, h1, h2, h3⟩ := depsOf_mem.1 hk
          subst h3
          have h4 := hdep e h1 h2
          have h5 := hback i o ho' e.on hk
          rwa [marks_lt false (by omega)] at h4
        have hgd : ∀ j ∈ depsOf o, Got (l.take n) V vs j w := fun j hj => hg _ (hdep' j hj)
        have hstep := hst i o ho'
        have hcount := count_set listed.toList i (by simp [hlt] at hu; simp [hlt, hu])
        have next : ∀ v w', M w w' → V i v ((depsOf o).map vs) w' → X (listed.setIfInBounds i true) (upd vs i v) w' → wpAny P .any l.toArray Q (f + (l.length - n)) ((marks listed (l.length - n)).setIfInBounds i true) ((F vs).put o.dst v) w' := by
          intro v w' hmv hVi hX
          have e1 : (F vs).put o.dst v = F (upd vs i v) := by
            rw [hF, hF, ← fills_upd (l.take n) 0 vs a0 i v o ho' hdist, Nat.zero_add]
          rw [e1, marks_set hlt]
          refine ih (listed.setIfInBounds i true) (upd vs i v) w' (by simpa using hs) (by rw [← marks_set hlt]; exact inv.set hi hin) hX ?_ (by rw [show (listed.setIfInBounds i true).toList = listed.toList.set i true by simp]; omega)
          intro j hl oj hj
          by_cases hji : j = i
          · subst hji
            have : oj = o := Option.some.inj (hj.symm.trans ho')
            subst this
            rw [upd_same, List.map_congr_left (g := vs) (fun k hk => upd_other vs v (by have := hback j oj hj k hk; omega))]
            exact hVi
          · rw [getD_set_ne false (fun e => hji e.symm)] at hl
            have hgj := hg j hl oj hj
            have hjn : j < n := by have := (List.getElem?_eq_some_iff.1 hj).1; omega
            rw [upd_other vs v hji, List.map_congr_left (g := vs) (fun k hk => upd_other vs v (fun e => by
              subst e
              obtain ⟨e, h1, h2, h3⟩ := depsOf_mem.1 hk
              have h6 : l[j]? = some oj := by rw [List.getElem?_take, if_pos hjn] at hj; exact hj
              have := inv.closed j oj (by simpa using h6) (by rw [marks_lt false (by omega)]; exact hl) e h1 h2
              rw [h3, marks_lt false hlt, hui] at this
              cases this))]
            exact hV _ _ _ _ _ hmv hgj
        have hclo : ∀ j oj, (l.take n)[j]? = some oj → listed.getD j false = true → ∀ k ∈ depsOf oj, listed.getD k false = true := fun j oj hj hl k hk => by
          have hjn : j < n := by have := (List.getElem?_eq_some_iff.1 hj).1; omega
          obtain ⟨e, h1, h2, h3⟩ := depsOf_mem.1 hk
          have h6 : l[j]? = some oj := by rw [List.getElem?_take, if_pos hjn] at hj; exact hj
          have := inv.closed j oj (by simpa using h6) (by rw [marks_lt false (by omega)]; exact hl) e h1 h2
          rw [h3] at this
          have hkj := hback j oj hj k hk
          rwa [marks_lt false (by omega)] at this
        have h := hstep listed vs w hs hw hui hclo hg hdep' (gotAll_of hgd) _ next
        unfold wpOp
        rw [ho]
        simp only
        have hgu : Region.wanted o (yielded (l.take n).toArray (F vs).tmps) = Region.wanted o (yielded l.toArray (F vs).tmps) := by
          exact wanted_head fun j b hg => hguard i o ho1 hin j b hg
        rw [hgu] at h
        split
        · rename_i hwant
          rw [if_pos hwant] at h
          exact Or.inl (wp_of_rich (fun v w' hk => hk) h)
        · rename_i hwant
          rw [if_neg hwant] at h
          exact h
end

section
variable {P : Program} {l : List Oper} {Q : Exit → Act → World → Prop}
/-- a head of which every order leaves what is said of its operations; a tail in its one order -/
theorem wp_region_rich_tailT {id : Nat} {a : Act} {w : World} (n : Nat) (V : Nat → Value → List Value → World → Prop) {F : (Nat → Value) → Act} (hm : P.follows .mixedOrders = true) (hn : decide (n < l.length) = true) (hb : richB (l.take n) = true) (hg : guardB l n = true)
    (hsk : Region.sinkB .any l.toArray n = true) (hwt : waitsB .any l.toArray n = true) (hq : Region.seqB .any l.toArray (l.drop n).length n (marks (Array.replicate n true) (l.drop n).length) = true) (hF : ∀ vs, fills (l.take n) 0 vs a = F vs)
    (M : World → World → Prop) (X : Array Bool → (Nat → Value) → World → Prop) (hV : ∀ i v ds w w', M w w' → V i v ds w → V i v ds w') (h0 : ∀ vs, X (Array.replicate n false) vs { w with drawn := w.drawn + 1 })
    (hst : ∀ i o, (l.take n)[i]? = some o → ∀ (L : Array Bool) (vs : Nat → Value) (w : World), L.size = n → X L vs w → L.getD i false = false → (∀ j oj, (l.take n)[j]? = some oj → L.getD j false = true → ∀ k ∈ depsOf oj, L.getD k false = true) → (∀ i, L.getD i false = true → Got (l.take n) V vs i w) → (∀ j ∈ depsOf o, L.getD j false = true) → GotAll (l.take n) V vs w (depsOf o) →
      ∀ K : Value → World → Prop, (∀ v w', M w w' → V i v ((depsOf o).map vs) w' → X (L.setIfInBounds i true) (upd vs i v) w' → K v w') →
      if Region.wanted o (yielded (l.take n).toArray (F vs).tmps) then RichAt P o (F vs) w K else K undef w)
    (hend : ∀ vs W, X (Array.replicate n true) vs W → GotAll (l.take n) V vs W (List.range n) → wpList P l.toArray Q (l.drop n) (F vs) W) :
    (Code.region id l.toArray true).wp P Q a w := by
  have hn' : n < l.length := of_decide_eq_true hn
  refine wp_region_any hm ?_
  have hd : (l.drop n).length = l.length - n := by simp
  have inv : HeadInv .any l.toArray n (marks (Array.replicate n false) (l.length - n)) := by
    have e : marks (Array.replicate n false) (l.length - n) = Array.replicate l.toArray.size false := by
      simp only [marks, Array.replicate_append_replicate]; congr 1; simp; omega
    rw [e]
    exact ⟨by simp, fun j oj _ hl => (by rw [getD_replicate_false] at hl; cases hl), fun t _ ht => getD_in (by simpa using ht) (getD_replicate_false _ _)⟩
  have hs := rich_headT (P := P) (a0 := a) (Q := Q) (M := M) (X := X) hn' hb hsk hwt (fun i o ho hi j b hj => by
      have h1 := List.all_eq_true.1 hg o (List.mem_of_getElem? (i := i) (by rw [List.getElem?_take, if_pos hi]; exact ho))
      rw [hj] at h1
      simpa using h1) (fun vs => (hF vs).symm) hV hst
    (fun vs W hW hgot => by
      have := wpAny_of_seq (md := .any) (Q' := Q) (l.drop n) n _ (F vs) W (fun j => by simp [List.getElem?_drop]) hq (hend vs W hW (gotAll_of fun j hj => hgot j (List.mem_range.1 hj)))
      rwa [hd] at this)
    n (Array.replicate n false) (fun i => (((l.take n)[i]?).bind (·.dst)).elim undef fun d => a.tmps.getD d undef) { w with drawn := w.drawn + 1 } (by simp) inv (h0 _) (fun i hl => by rw [getD_replicate_false] at hl; cases hl) (by simp)
  rw [← hF, fills_start (l.take n) 0 _ a (fun i o d h1 h2 => by simp [h1, h2])] at hs
  have e : marks (Array.replicate n false) (l.length - n) = Array.replicate l.toArray.size false := by
    simp only [marks, Array.replicate_append_replicate]; congr 1; simp; omega
  rw [e, show n + (l.length - n) = l.toArray.size by simp; omega] at hs
  exact hs
end
section
variable (P : Program) (l : List Oper) (wx : World) (M : World → World → Prop) (X : Array Bool → (Nat → Value) → World → Prop) (ps : List Said) (F : (Nat → Value) → Act)
/-- an operation keeps what is said of all together -/
def StepM (i : Nat) (o : Oper) (p : Said) : Prop := ∀ (L : Array Bool) (vs : Nat → Value) (w : World), L.size = l.length → X L vs w → L.getD i false = false → (∀ j oj, l[j]? = some oj → L.getD j false = true → ∀ k ∈ depsOf oj, L.getD k false = true) → (∀ i, L.getD i false = true → Got l (saidV ps) vs i w) → (∀ j ∈ depsOf o, L.getD j false = true) → GotAll l (saidV ps) vs w (depsOf o) →
  ∀ K : Value → World → Prop, (∀ v w', M w w' → p v ((depsOf o).map vs) w' → X (L.setIfInBounds i true) (upd vs i v) w' → K v w') →
    if Region.wanted o (yielded l.toArray (F vs).tmps) then RichAt P o (F vs) w K else K undef w
/-- those of bs are said of all together; the others only make memory -/
def StepsX : List Oper → List Said → List Bool → Nat → Prop
  | [], _, _, _ => True
  | o :: r, p :: qs, b :: bs, i => (match b with | true => StepM P l M X ps F i o p | false => StepP P l wx ps F o p) ∧ StepsX r qs bs (i + 1)
  | _ :: _, _, _, _ => False
end
section
variable {P : Program} {l : List Oper} {wx : World} {M : World → World → Prop} {X : Array Bool → (Nat → Value) → World → Prop} {ps : List Said} {bs : List Bool} {F : (Nat → Value) → Act} {Q : Exit → Act → World → Prop}
theorem stepsX_at (hM : ∀ w w', Only w w' → M w w') (hXw : ∀ L vs w, X L vs w → Only wx w) (hX : ∀ i L vs w v w', bs.getD i false = false → X L vs w → Only w w' → X (L.setIfInBounds i true) (upd vs i v) w') :
    ∀ (r : List Oper) (qs : List Said) (cs : List Bool) (k : Nat), (∀ i, ps[k + i]? = qs[i]?) → (∀ i, bs[k + i]? = cs[i]?) → StepsX P l wx M X ps F r qs cs k → ∀ i o, r[i]? = some o → ∃ p, ps[k + i]? = some p ∧ StepM P l M X ps F (k + i) o p
  | [], _, _, _, _, _, _, _, _, h => by simp at h
  | o' :: r, [], _, _, _, _, h, _, _, _ => h.elim
  | o' :: r, p :: qs, [], _, _, _, h, _, _, _ => h.elim
  | o' :: r, p :: qs, b :: cs, k, hp, hb, hs, 0, o, h => by
    simp at h; subst h
    have e1 : ps[k]? = some p := by simpa using hp 0
    have e2 : bs[k]? = some b := by simpa using hb 0
    have e3 : bs.getD k false = b := by rw [List.getD_eq_getElem?_getD, e2]; rfl
    refine ⟨p, e1, ?_⟩
    have h1 := hs.1
    cases b with
    | true => exact h1
    | false => exact fun L vs w hL hx hu hcl hg hdl hga K hK => h1 vs w (hXw _ _ _ hx) hga K fun v w' t hpv => hK v w' (hM _ _ t) hpv (hX _ _ _ _ _ _ e3 hx t)
  | o' :: r, p :: qs, b :: cs, k, hp, hb, hs, i + 1, o, h => by
    rw [show k + (i + 1) = k + 1 + i by omega]
    exact stepsX_at hM hXw hX r qs cs (k + 1) (fun i => by rw [show k + 1 + i = k + (i + 1) by omega]; simpa using hp (i + 1)) (fun i => by rw [show k + 1 + i = k + (i + 1) by omega]; simpa using hb (i + 1)) hs.2 i o (by simpa using h)
theorem wp_rich_tailT {id : Nat} {a : Act} {w : World} (n : Nat) (M : World → World → Prop) (X : Array Bool → (Nat → Value) → World → Prop) (ps : List Said) (bs : List Bool) {F : (Nat → Value) → Act} (hm : P.follows .mixedOrders = true) (hn : decide (n < l.length) = true) (hb : richB (l.take n) = true) (hg : guardB l n = true)
    (hsk : Region.sinkB .any l.toArray n = true) (hwt : waitsB .any l.toArray n = true) (hq : Region.seqB .any l.toArray (l.drop n).length n (marks (Array.replicate n true) (l.drop n).length) = true) (hF : ∀ vs, fills (l.take n) 0 vs a = F vs)
    (hM : ∀ w w', Only w w' → M w w') (hXw : ∀ L vs W, X L vs W → Only w W) (hX : ∀ i L vs w v w', bs.getD i false = false → X L vs w → Only w w' → X (L.setIfInBounds i true) (upd vs i v) w')
    (hO : ∀ p ∈ ps, ∀ v ds W W', M W W' → p v ds W → p v ds W') (h0 : ∀ vs, X (Array.replicate n false) vs { w with drawn := w.drawn + 1 }) (hst : StepsX P (l.take n) w M X ps F (l.take n) ps bs 0)
    (hend : ∀ vs W, X (Array.replicate n true) vs W → GotAll (l.take n) (saidV ps) vs W (List.range n) → wpList P l.toArray Q (l.drop n) (F vs) W) :
    (Code.region id l.toArray true).wp P Q a w := by
  have htl : (l.take n).length = n := by have := of_decide_eq_true hn; simp; omega
  refine wp_region_rich_tailT n (saidV ps) hm hn hb hg hsk hwt hq hF M X (fun i v ds W W' t k => by
      unfold saidV at *
      cases hp : ps[i]? with
      | none => trivial
      | some p => rw [hp] at k; exact hO p (List.mem_of_getElem? hp) v ds W W' t k) h0 (fun i o ho => by
      obtain ⟨p, hp, h⟩ := stepsX_at hM hXw hX (l.take n) ps bs 0 (fun i => by rw [Nat.zero_add]) (fun i => by rw [Nat.zero_add]) hst i o ho
      rw [Nat.zero_add] at hp h
      intro L vs W h1 h2 h3 h4 h5 h6 h7 K hK
      exact h L vs W (by rw [htl]; exact h1) h2 h3 h4 h5 h6 h7 K fun v w' t k x => hK v w' t (by rw [saidV_at hp]; exact k) x) hend
end
end Go.Proofs.YtinghngnehhgfaaGreatDoor
