/-
  A region that draws its order: what each operation leaves is said of its own value and of those that it waits for; then every order leaves all of it. Memory may be made and new memory written.
-/
import Derived.Test.YtinghngnehhgfaaGreatDoorNRest
namespace Go.Proofs.YtinghngnehhgfaaGreatDoor
open Go Go.RowKit

/-- what an operation yields -/
def richUpon (P : Program) (K : Value → World → Prop) : Result Next → Prop
  | .ok (.value u) w' => K u w'
  | .ok .skip w' => K undef w'
  | .ok (.enter f args) w' => Calls P f args w' fun e w'' => ∃ v, e = .returned v ∧ K v w''
  | _ => False
def RichAt (P : Program) (o : Oper) (a : Act) (w : World) (K : Value → World → Prop) : Prop := richUpon P K ((execOp a.eval o).run P w)

theorem wp_of_rich {P : Program} {o : Oper} {a : Act} {w : World} {K : Value → World → Prop} {K' : Act → World → Prop} {Q : Exit → Act → World → Prop} (h : ∀ v w', K v w' → K' (a.put o.dst v) w') (hh : RichAt P o a w K) : o.wp P a w K' Q := by
  unfold RichAt at hh
  unfold Oper.wp
  generalize (execOp a.eval o).run P w = r at *
  cases r with
  | ok n w' =>
    cases n <;> simp only [richUpon] at hh <;> simp only [Oper.upon]
    case value u => exact h _ _ hh
    case skip => exact h _ _ hh
    case enter f args => exact hh.mono fun e w'' ⟨v, he, hk⟩ => by subst he; exact h _ _ hk
  | halt x w' => simp only [richUpon] at hh

/-- the frame behind a region's values -/
def fills : List Oper → Nat → (Nat → Value) → Act → Act
  | [], _, _, a => a
  | o :: r, k, vs, a => fills r (k + 1) vs (a.put o.dst (vs k))
/-- what an operation waits for -/
def depsOf (o : Oper) : List Nat := (o.after.toList.filter (Region.binds .any)).map (·.on)
/-- edges go back; each slot is written once -/
def richB (l : List Oper) : Bool := ((List.range l.length).all fun i => match l[i]? with | some o => (depsOf o).all (decide <| · < i) | none => true) && decide (l.filterMap (·.dst)).Nodup

def upd (vs : Nat → Value) (i : Nat) (v : Value) : Nat → Value := fun j => if j = i then v else vs j
theorem upd_same (vs : Nat → Value) (i : Nat) (v : Value) : upd vs i v i = v := if_pos rfl
theorem upd_other (vs : Nat → Value) {i j : Nat} (v : Value) (h : j ≠ i) : upd vs i v j = vs j := if_neg h

theorem act_put_put (a : Act) (d : Option Tmp) (x y : Value) : (a.put d x).put d y = a.put d y := by
  cases d with
  | none => rfl
  | some d => simp only [Act.put]; congr 1; apply Array.ext' ; simp
theorem put_self (a : Act) (d : Tmp) : a.put (some d) (a.tmps.getD d undef) = a := by
  cases a with
  | mk t ds =>
    simp only [Act.put, Act.mk.injEq, and_true]
    apply Array.ext
    · simp
    · intro i h1 h2
      rw [Array.getElem_setIfInBounds]
      split
      · rename_i e; subst e; simp [h2]
      · rfl

theorem fills_put : ∀ (r : List Oper) (k : Nat) (vs : Nat → Value) (a : Act) (d : Option Tmp) (v : Value), (∀ x, d = some x → x ∉ r.filterMap (·.dst)) → (fills r k vs a).put d v = fills r k vs (a.put d v)
  | [], _, _, _, _, _, _ => rfl
  | o :: r, k, vs, a, d, v, h => by
    simp only [fills]
    rw [fills_put r (k + 1) vs _ d v (fun x hx hm => h x hx (by
      cases hd : o.dst with
      | none => simpa [hd] using hm
      | some y => simp [hd]; right; simpa using hm))]
    congr 1
    refine Act.put_comm a (vs k) v (fun y hy e => ?_)
    exact h y e (by simp [hy])

theorem fills_upd : ∀ (r : List Oper) (k : Nat) (vs : Nat → Value) (a : Act) (i : Nat) (v : Value) (o : Oper), r[i]? = some o → (r.filterMap (·.dst)).Nodup → fills r k (upd vs (k + i) v) a = (fills r k vs a).put o.dst v
  | [], _, _, _, _, _, _, h, _ => by simp at h
  | o' :: r, k, vs, a, 0, v, o, h, hn => by
    simp at h; subst h
    simp only [fills, Nat.add_zero, upd_same]
    have hk : ∀ (r : List Oper) (m : Nat) (b : Act), k < m → fills r m (upd vs k v) b = fills r m vs b := by
      intro r
      induction r with
      | nil => intro m b _; rfl
      | cons x r ih => intro m b hm; simp only [fills]; rw [upd_other vs v (by omega), ih _ _ (by omega)]
    rw [hk _ _ _ (by omega), fills_put r (k + 1) vs _ o'.dst v (fun x hx hm => by simp [hx] at hn; simp at hm; obtain ⟨y, hy, he⟩ := hm; exact hn.1 y hy he), act_put_put]
  | o' :: r, k, vs, a, i + 1, v, o, h, hn => by
    simp at h
    simp only [fills]
    rw [upd_other vs v (by omega), show k + (i + 1) = (k + 1) + i by omega]
    refine fills_upd r (k + 1) vs _ i v o h ?_
    cases hd : o'.dst with
    | none => simpa [hd] using hn
    | some y => simp [hd] at hn; exact hn.2

theorem fills_start : ∀ (r : List Oper) (k : Nat) (vs : Nat → Value) (a : Act), (∀ i o d, r[i]? = some o → o.dst = some d → vs (k + i) = a.tmps.getD d undef) → fills r k vs a = a
  | [], _, _, _, _ => rfl
  | o :: r, k, vs, a, h => by
    simp only [fills]
    have e : a.put o.dst (vs k) = a := by
      cases hd : o.dst with
      | none => rfl
      | some d => rw [show vs k = a.tmps.getD d undef from h 0 o d rfl hd]; exact put_self a d
    rw [e]
    exact fills_start r (k + 1) vs a fun i o d h1 h2 => by rw [show k + 1 + i = k + (i + 1) by omega]; exact h (i + 1) o d h1 h2

section
variable (P : Program) (l : List Oper) (a0 : Act) (wx : World) (S : World → World → Prop) (st : Nat) (V : Nat → Value → List Value → World → Prop)

/-- operation i has left what is said of it -/
def Got (vs : Nat → Value) (i : Nat) (w : World) : Prop := ∀ o, l[i]? = some o → V i (vs i) ((depsOf o).map vs) w

def GotAll (vs : Nat → Value) (w : World) : List Nat → Prop
  | [] => True
  | j :: r => (l[j]?).elim True (fun o => V j (vs j) ((depsOf o).map vs) w) ∧ GotAll vs w r

/-- operation i leaves what is said of it, wherever those that it waits for have -/
def StepAt (F : (Nat → Value) → Act) (i : Nat) (o : Oper) : Prop := ∀ (vs : Nat → Value) (w : World), Only wx w → GotAll l V vs w (depsOf o) →
  ∀ K : Value → World → Prop, (∀ v w', (Only w w' ∨ (i = st ∧ S w w')) → V i v ((depsOf o).map vs) w' → K v w') →
    if Region.wanted o (yielded l.toArray (F vs).tmps) then RichAt P o (F vs) w K else K undef w

def StepsFrom (F : (Nat → Value) → Act) : List Oper → Nat → Prop
  | [], _ => True
  | o :: r, i => StepAt P l wx S st V F i o ∧ StepsFrom F r (i + 1)
end

section
variable {P : Program} {l : List Oper} {a0 : Act} {wx : World} {S : World → World → Prop} {st : Nat} {V : Nat → Value → List Value → World → Prop} {F : (Nat → Value) → Act} {Q : Exit → Act → World → Prop}

theorem gotAll_of {vs : Nat → Value} {w : World} : ∀ {ds : List Nat}, (∀ j ∈ ds, Got l V vs j w) → GotAll l V vs w ds
  | [], _ => trivial
  | j :: r, h => ⟨by
      have := h j (by simp)
      unfold Got at this
      cases hl : l[j]? with
      | none => trivial
      | some o => exact this o hl, gotAll_of fun k hk => h k (by simp [hk])⟩

theorem stepsFrom_at : ∀ (r : List Oper) (k : Nat), StepsFrom P l wx S st V F r k → ∀ i o, r[i]? = some o → StepAt P l wx S st V F (k + i) o
  | [], _, _, _, _, h => by simp at h
  | o' :: r, k, hs, 0, o, h => by simp at h; subst h; exact hs.1
  | o' :: r, k, hs, i + 1, o, h => by
    rw [show k + (i + 1) = k + 1 + i by omega]
    exact stepsFrom_at r (k + 1) hs.2 i o (by simpa using h)

theorem depsOf_mem {o : Oper} {j : Nat} : j ∈ depsOf o ↔ ∃ e ∈ o.after, Region.binds .any e = true ∧ e.on = j := by
  unfold depsOf
  simp only [List.mem_map, List.mem_filter, Array.mem_toList_iff]
  constructor
  · rintro ⟨e, ⟨h1, h2⟩, h3⟩; exact ⟨e, h1, h2, h3⟩
  · rintro ⟨e, h1, h2, h3⟩; exact ⟨e, ⟨h1, h2⟩, h3⟩

theorem count_set : ∀ (l : List Bool) (i : Nat), l[i]? = some false → (l.set i true).count false + 1 = l.count false
  | [], _, h => by simp at h
  | b :: l, 0, h => by simp at h; subst h; simp
  | b :: l, i + 1, h => by
    have := count_set l i (by simpa using h)
    simp only [List.set_cons_succ, List.count_cons]
    omega

theorem rich_listed {listed : Array Bool} (hb : richB l = true) (hs : listed.size = l.length) (hr : Region.ready .any l.toArray listed = []) : ∀ m i, i < m → i < l.length → listed.getD i true = true := by
  intro m
  induction m with
  | zero => intro i hi; omega
  | succ m ih =>
    intro i _ hi
    cases hu : listed.getD i true with
    | true => rfl
    | false =>
      exfalso
      have ho : l[i]? = some l[i] := List.getElem?_eq_getElem hi
      unfold richB at hb
      simp only [Bool.and_eq_true] at hb
      have hd := List.all_eq_true.1 hb.1 i (List.mem_range.2 hi)
      rw [ho] at hd
      simp only at hd
      have : i ∈ Region.ready .any l.toArray listed := mem_ready.2 ⟨hu, l[i], by simp [ho], fun e he hbd => by
        have h1 := List.all_eq_true.1 hd e.on (depsOf_mem.2 ⟨e, he, hbd, rfl⟩)
        simp only [decide_eq_true_eq] at h1
        have h2 := ih e.on (by omega) (by omega)
        have h3 : e.on < listed.size := by omega
        simp [h3] at h2 ⊢; exact h2⟩
      rw [hr] at this
      cases this

theorem rich_any (hb : richB l = true) (hF : ∀ vs, F vs = fills l 0 vs a0) (hO : ∀ i v ds w w', Only wx w → Only w w' → V i v ds w → V i v ds w') (hS : ∀ i v ds w w', i ≠ st → Only wx w → S w w' → V i v ds w → V i v ds w')
    (hC : ∀ w w', Only wx w → S w w' → Only wx w') (hst : StepsFrom P l wx S st V F l 0) (hend : ∀ vs w, Only wx w → (∀ i, i < l.length → Got l V vs i w) → Q .normal (F vs) w) :
    ∀ (f : Nat) (listed : Array Bool) (vs : Nat → Value) (w : World), listed.size = l.length → (∀ j oj, l[j]? = some oj → listed.getD j false = true → ∀ k ∈ depsOf oj, listed.getD k false = true) → Only wx w →
      (∀ i, listed.getD i false = true → Got l V vs i w) → listed.toList.count false ≤ f → wpAny P .any l.toArray Q f listed (F vs) w := by
  have hdist : (l.filterMap (·.dst)).Nodup := by unfold richB at hb; simp only [Bool.and_eq_true, decide_eq_true_eq] at hb; exact hb.2
  have hback : ∀ i o, l[i]? = some o → ∀ j ∈ depsOf o, j < i := fun i o ho j hj => by
    unfold richB at hb
    simp only [Bool.and_eq_true] at hb
    have hd := List.all_eq_true.1 hb.1 i (List.mem_range.2 (List.getElem?_eq_some_iff.1 ho).1)
    rw [ho] at hd
    have := List.all_eq_true.1 hd j hj
    simpa using this
  have fin : ∀ (listed : Array Bool) (vs : Nat → Value) (w : World), listed.size = l.length → Only wx w → (∀ i, listed.getD i false = true → Got l V vs i w) → Region.ready .any l.toArray listed = [] → Q .normal (F vs) w := by
    intro listed vs w hs hw hg hr
    refine hend vs w hw fun i hi => hg i ?_
    have := rich_listed hb hs hr (i + 1) i (by omega) hi
    have hi2 : i < listed.size := by omega
    simp [hi2] at this ⊢; exact this
  intro f
  induction f with
  | zero =>
    intro listed vs w hs hcl hw hg hc
    have hr : Region.ready .any l.toArray listed = [] := by
      cases hr : Region.ready .any l.toArray listed with
      | nil => rfl
      | cons i r =>
        exfalso
        have hi : i ∈ Region.ready .any l.toArray listed := by rw [hr]; simp
        obtain ⟨hu, o, ho, -⟩ := mem_ready.1 hi
        have hlt : i < listed.size := by have := (Array.getElem?_eq_some_iff.1 ho).1; simp at this; omega
        simp [hlt] at hu
        have : false ∈ listed.toList := by rw [← hu]; simp
        have := List.count_pos_iff.2 this
        omega
    exact ⟨hr, fin listed vs w hs hw hg hr⟩
  | succ f ih =>
    intro listed vs w hs hcl hw hg hc
    refine ⟨fun hr => fin listed vs w hs hw hg hr, fun i hi => ?_⟩
    obtain ⟨hu, o, ho, hdep⟩ := mem_ready.1 hi
    have ho' : l[i]? = some o := by simpa using ho
    have hlt : i < listed.size := by have := (List.getElem?_eq_some_iff.1 ho').1; omega
    have hui : listed.getD i false = false := getD_both hu
    have hgd : ∀ j ∈ depsOf o, Got l V vs j w := fun j hj => by
      obtain ⟨e, h1, h2, h3⟩ := depsOf_mem.1 hj
      subst h3
      exact hg _ (hdep e h1 h2)
    have hstep := stepsFrom_at l 0 hst i o ho'
    rw [Nat.zero_add] at hstep
    have hcount := count_set listed.toList i (by simp [hlt] at hu; simp [hlt, hu])
    have next : ∀ v w', (Only w w' ∨ (i = st ∧ S w w')) → V i v ((depsOf o).map vs) w' → wpAny P .any l.toArray Q f (listed.setIfInBounds i true) ((F vs).put o.dst v) w' := by
      intro v w' hmv hV
      have e1 : (F vs).put o.dst v = F (upd vs i v) := by
        rw [hF, hF, ← fills_upd l 0 vs a0 i v o ho' hdist, Nat.zero_add]
      rw [e1]
      have hw' : Only wx w' := by
        rcases hmv with h | ⟨-, h⟩
        · exact hw.trans h
        · exact hC _ _ hw h
      refine ih (listed.setIfInBounds i true) (upd vs i v) w' (by simpa using hs) ?_ hw' ?_ (by rw [show (listed.setIfInBounds i true).toList = listed.toList.set i true by simp]; omega)
      · intro j oj hj hl k hk
        by_cases hji : i = j
        · subst hji
          have : oj = o := Option.some.inj (hj.symm.trans ho')
          subst this
          obtain ⟨e, h1, h2, h3⟩ := depsOf_mem.1 hk
          subst h3
          exact getD_set_true (hdep e h1 h2)
        · rw [getD_set_ne false hji] at hl
          exact getD_set_true (hcl j oj hj hl k hk)
      · intro j hl oj hj
        by_cases hji : j = i
        · subst hji
          have : oj = o := Option.some.inj (hj.symm.trans ho')
          subst this
          rw [upd_same, List.map_congr_left (g := vs) (fun k hk => upd_other vs v (by have := hback j oj hj k hk; omega))]
          exact hV
        · rw [getD_set_ne false (fun e => hji e.symm)] at hl
          have hgj := hg j hl oj hj
          rw [upd_other vs v hji, List.map_congr_left (g := vs) (fun k hk => upd_other vs v (fun e => by
            subst e
            have := hcl j oj hj hl k hk
            rw [hui] at this; cases this))]
          rcases hmv with h | ⟨h1, h⟩
          · exact hO _ _ _ _ _ hw h hgj
          · exact hS _ _ _ _ _ (by omega) hw h hgj
    have h := hstep vs w hw (gotAll_of hgd) _ next
    unfold wpOp
    rw [ho]
    simp only
    split
    · rename_i hwant
      rw [if_pos hwant] at h
      exact Or.inl (wp_of_rich (fun v w' hk => hk) h)
    · rename_i hwant
      rw [if_neg hwant] at h
      exact h

/-- every order of a region leaves what is said of each of its operations -/
theorem wp_region_rich {id : Nat} {a : Act} {w : World} (S : World → World → Prop) (st : Nat) (V : Nat → Value → List Value → World → Prop) {F : (Nat → Value) → Act} (hm : P.follows .mixedOrders = true) (hb : richB l = true) (hF : ∀ vs, fills l 0 vs a = F vs)
    (hO : ∀ i v ds W W', Only w W → Only W W' → V i v ds W → V i v ds W') (hS : ∀ i v ds W W', i ≠ st → Only w W → S W W' → V i v ds W → V i v ds W')
    (hC : ∀ W W', Only w W → S W W' → Only w W') (hst : StepsFrom P l w S st V F l 0) (hend : ∀ vs W, Only w W → GotAll l V vs W (List.range l.length) → Q .normal (F vs) W) :
    (Code.region id l.toArray true).wp P Q a w := by
  refine wp_region_any hm ?_
  have hs := rich_any (P := P) (a0 := a) (Q := Q) hb (fun vs => (hF vs).symm) hO hS hC hst (fun vs W hW hg => hend vs W hW (gotAll_of fun j hj => hg j (List.mem_range.1 hj))) l.toArray.size (Array.replicate l.toArray.size false)
    (fun i => ((l[i]?).bind (·.dst)).elim undef fun d => a.tmps.getD d undef) { w with drawn := w.drawn + 1 } (by simp) (fun j oj _ hl => by rw [getD_replicate_false] at hl; cases hl) (Only.refl w).drew (fun i hl => by rw [getD_replicate_false] at hl; cases hl) (by simp)
  rw [← hF, fills_start l 0 _ a (fun i o d h1 h2 => by simp [h1, h2])] at hs
  exact hs
end

section
variable {P : Program} {l : List Oper} {n : Nat} {a0 : Act} {wx : World} {S : World → World → Prop} {st : Nat} {V : Nat → Value → List Value → World → Prop} {F : (Nat → Value) → Act} {Q : Exit → Act → World → Prop}

theorem marks_ge_true {listed : Array Bool} {g j : Nat} (h : listed.size ≤ j) (hj : j < listed.size + g) : (marks listed g).getD j true = false := by
  have : ¬ j < listed.size := by omega
  simp [marks, Array.getElem?_append, this, show j - listed.size < g by omega]

theorem rich_head (hn : n < l.length) (hb : richB (l.take n) = true) (hsk : Region.sinkB .any l.toArray n = true) (hwt : waitsB .any l.toArray n = true) (hguard : ∀ i o, l[i]? = some o → i < n → ∀ j b, o.guard = some (j, b) → j < n) (hF : ∀ vs, F vs = fills (l.take n) 0 vs a0) (hO : ∀ i v ds w w', Only wx w → Only w w' → V i v ds w → V i v ds w')
    (hst : StepsFrom P (l.take n) wx (fun _ _ => False) n V F (l.take n) 0)
    (hend : ∀ vs w, Only wx w → (∀ i, i < n → Got (l.take n) V vs i w) → wpAny P .any l.toArray Q (l.length - n) (marks (Array.replicate n true) (l.length - n)) (F vs) w) :
    ∀ (f : Nat) (listed : Array Bool) (vs : Nat → Value) (w : World), listed.size = n → HeadInv .any l.toArray n (marks listed (l.length - n)) → Only wx w →
      (∀ i, listed.getD i false = true → Got (l.take n) V vs i w) → listed.toList.count false ≤ f → wpAny P .any l.toArray Q (f + (l.length - n)) (marks listed (l.length - n)) (F vs) w := by
  have htl : (l.take n).length = n := by simp; omega
  have hdist : ((l.take n).filterMap (·.dst)).Nodup := by unfold richB at hb; simp only [Bool.and_eq_true, decide_eq_true_eq] at hb; exact hb.2
  have hback : ∀ i o, (l.take n)[i]? = some o → ∀ j ∈ depsOf o, j < i := fun i o ho j hj => by
    unfold richB at hb
    simp only [Bool.and_eq_true] at hb
    have hd := List.all_eq_true.1 hb.1 i (List.mem_range.2 (List.getElem?_eq_some_iff.1 ho).1)
    rw [ho] at hd
    have := List.all_eq_true.1 hd j hj
    simpa using this
  have fin : ∀ (f : Nat) (listed : Array Bool) (vs : Nat → Value) (w : World), listed.size = n → Only wx w → (∀ i, listed.getD i false = true → Got (l.take n) V vs i w) → Region.ready .any (l.take n).toArray listed = [] → wpAny P .any l.toArray Q (f + (l.length - n)) (marks listed (l.length - n)) (F vs) w := by
    intro f listed vs w hs hw hg hr
    have hall : ∀ i, i < n → listed.getD i true = true := fun i hi => rich_listed hb (by omega) hr (i + 1) i (by omega) (by omega)
    have e : listed = Array.replicate n true := by
      apply Array.ext (by simp [hs])
      intro i h1 h2
      have := hall i (by omega)
      simpa [h1] using this
    rw [e]
    refine fuel_most (hend vs w hw fun i hi => hg i ?_) f
    rw [e]; simp [hi]
  have hsz : n < l.toArray.size := by simpa using hn
  intro f
  induction f with
  | zero =>
    intro listed vs w hs inv hw hg hc
    refine fin 0 listed vs w hs hw hg ?_
    cases hr : Region.ready .any (l.take n).toArray listed with
    | nil => rfl
    | cons i r =>
      exfalso
      have hi : i ∈ Region.ready .any (l.take n).toArray listed := by rw [hr]; simp
      obtain ⟨hu, o, ho, -⟩ := mem_ready.1 hi
      have hlt : i < listed.size := by have := (Array.getElem?_eq_some_iff.1 ho).1; simp at this; omega
      simp [hlt] at hu
      have : false ∈ listed.toList := by rw [← hu]; simp
      have := List.count_pos_iff.2 this
      omega
  | succ f ih =>
    intro listed vs w hs inv hw hg hc
    by_cases hr : Region.ready .any (l.take n).toArray listed = []
    · exact fin (f + 1) listed vs w hs hw hg hr
    · obtain ⟨i0, hi0⟩ := List.exists_mem_of_ne_nil _ hr
      obtain ⟨u0, o0, ho0, d0⟩ := mem_ready.1 hi0
      have hi0n : i0 < n := by have := (Array.getElem?_eq_some_iff.1 ho0).1; simp at this; omega
      have hall : ∀ j ∈ Region.ready .any l.toArray (marks listed (l.length - n)), j < n := fun j hj => by
        rcases Nat.lt_or_ge j n with k | k
        · exact k
        · exact absurd hj (tail_waits2 hsk hwt hsz inv _ i0 rfl hi0n (by rw [marks_lt true (by omega)]; exact u0) j k)
      rw [show f + 1 + (l.length - n) = f + (l.length - n) + 1 by omega]
      refine ⟨fun h0 => ?_, fun i hi => ?_⟩
      · exfalso
        have : i0 ∈ Region.ready .any l.toArray (marks listed (l.length - n)) := mem_ready.2 ⟨by rw [marks_lt true (by omega)]; exact u0, o0, (head_at hi0n).symm.trans ho0, fun e he hbd => by
          have h2 := d0 e he hbd
          have h3 := hback i0 o0 (by simpa using ho0) e.on (depsOf_mem.2 ⟨e, he, hbd, rfl⟩)
          rw [marks_lt false (by omega)]; exact h2⟩
        rw [h0] at this; cases this
      · have hin := hall i hi
        obtain ⟨hu, o, ho, hdep⟩ := mem_ready.1 hi
        have ho1 : l[i]? = some o := by simpa using ho
        have ho' : (l.take n)[i]? = some o := by rw [List.getElem?_take, if_pos hin]; exact ho1
        have hlt : i < listed.size := by omega
        rw [marks_lt true hlt] at hu
        have hui : listed.getD i false = false := getD_both hu
        have hdep' : ∀ k ∈ depsOf o, listed.getD k false = true := fun k hk => by
          obtain ⟨e, h1, h2, h3⟩ := depsOf_mem.1 hk
          subst h3
          have h4 := hdep e h1 h2
          have h5 := hback i o ho' e.on hk
          rwa [marks_lt false (by omega)] at h4
        have hgd : ∀ j ∈ depsOf o, Got (l.take n) V vs j w := fun j hj => hg _ (hdep' j hj)
        have hstep := stepsFrom_at (l.take n) 0 hst i o ho'
        rw [Nat.zero_add] at hstep
        have hcount := count_set listed.toList i (by simp [hlt] at hu; simp [hlt, hu])
        have next : ∀ v w', (Only w w' ∨ (i = n ∧ False)) → V i v ((depsOf o).map vs) w' → wpAny P .any l.toArray Q (f + (l.length - n)) ((marks listed (l.length - n)).setIfInBounds i true) ((F vs).put o.dst v) w' := by
          intro v w' hmv hV
          have e1 : (F vs).put o.dst v = F (upd vs i v) := by
            rw [hF, hF, ← fills_upd (l.take n) 0 vs a0 i v o ho' hdist, Nat.zero_add]
          rw [e1, marks_set hlt]
          have hmv : Only w w' := by
            rcases hmv with h | ⟨-, h⟩
            · exact h
            · exact h.elim
          have hw' : Only wx w' := hw.trans hmv
          refine ih (listed.setIfInBounds i true) (upd vs i v) w' (by simpa using hs) (by rw [← marks_set hlt]; exact inv.set hi hin) hw' ?_ (by rw [show (listed.setIfInBounds i true).toList = listed.toList.set i true by simp]; omega)
          intro j hl oj hj
          by_cases hji : j = i
          · subst hji
            have : oj = o := Option.some.inj (hj.symm.trans ho')
            subst this
            rw [upd_same, List.map_congr_left (g := vs) (fun k hk => upd_other vs v (by have := hback j oj hj k hk; omega))]
            exact hV
          · rw [getD_set_ne false (fun e => hji e.symm)] at hl
            have hgj := hg j hl oj hj
            have hjn : j < n := by have := (List.getElem?_eq_some_iff.1 hj).1; omega
            rw [upd_other vs v hji, List.map_congr_left (g := vs) (fun k hk => upd_other vs v (fun e => by
              subst e
              obtain ⟨e, h1, h2, h3⟩ := depsOf_mem.1 hk
              have h6 : l[j]? = some oj := by rw [List.getElem?_take, if_pos hjn] at hj; exact hj
              have := inv.closed j oj (by simpa using h6) (by rw [marks_lt false (by omega)]; exact hl) e h1 h2
              rw [h3, marks_lt false hlt, hui] at this
              cases this))]
            exact hO _ _ _ _ _ hw hmv hgj
        have h := hstep vs w hw (gotAll_of hgd) _ next
        unfold wpOp
        rw [ho]
        simp only
        have hgu : Region.wanted o (yielded (l.take n).toArray (F vs).tmps) = Region.wanted o (yielded l.toArray (F vs).tmps) := by
          exact wanted_head fun j b hg => hguard i o ho1 hin j b hg
        rw [hgu] at h
        split
        · rename_i hwant
          rw [if_pos hwant] at h
          exact Or.inl (wp_of_rich (fun v w' hk => hk) h)
        · rename_i hwant
          rw [if_neg hwant] at h
          exact h
end

section
variable {P : Program} {l : List Oper} {Q : Exit → Act → World → Prop}
/-- the guards of the head stand in the head -/
def guardB (l : List Oper) (n : Nat) : Bool := (l.take n).all fun o => match o.guard with | some (j, _) => decide (j < n) | none => true

/-- a head of which every order leaves what is said of its operations; a tail in its one order -/
theorem wp_region_rich_tail {id : Nat} {a : Act} {w : World} (n : Nat) (V : Nat → Value → List Value → World → Prop) {F : (Nat → Value) → Act} (hm : P.follows .mixedOrders = true) (hn : decide (n < l.length) = true) (hb : richB (l.take n) = true) (hg : guardB l n = true)
    (hsk : Region.sinkB .any l.toArray n = true) (hwt : waitsB .any l.toArray n = true) (hq : Region.seqB .any l.toArray (l.drop n).length n (marks (Array.replicate n true) (l.drop n).length) = true) (hF : ∀ vs, fills (l.take n) 0 vs a = F vs)
    (hO : ∀ i v ds W W', Only w W → Only W W' → V i v ds W → V i v ds W') (hst : StepsFrom P (l.take n) w (fun _ _ => False) n V F (l.take n) 0)
    (hend : ∀ vs W, Only w W → GotAll (l.take n) V vs W (List.range n) → wpList P l.toArray Q (l.drop n) (F vs) W) :
    (Code.region id l.toArray true).wp P Q a w := by
  have hn' : n < l.length := of_decide_eq_true hn
  refine wp_region_any hm ?_
  have hd : (l.drop n).length = l.length - n := by simp
  have inv : HeadInv .any l.toArray n (marks (Array.replicate n false) (l.length - n)) := by
    have e : marks (Array.replicate n false) (l.length - n) = Array.replicate l.toArray.size false := by
      simp only [marks, Array.replicate_append_replicate]; congr 1; simp; omega
    rw [e]
    exact ⟨by simp, fun j oj _ hl => (by rw [getD_replicate_false] at hl; cases hl), fun t _ ht => getD_in (by simpa using ht) (getD_replicate_false _ _)⟩
  have hs := rich_head (P := P) (a0 := a) (Q := Q) hn' hb hsk hwt (fun i o ho hi j b hj => by
      have h1 := List.all_eq_true.1 hg o (List.mem_of_getElem? (i := i) (by rw [List.getElem?_take, if_pos hi]; exact ho))
      rw [hj] at h1
      simpa using h1) (fun vs => (hF vs).symm) hO hst
    (fun vs W hW hgot => by
      have := wpAny_of_seq (md := .any) (Q' := Q) (l.drop n) n _ (F vs) W (fun j => by simp [List.getElem?_drop]) hq (hend vs W hW (gotAll_of fun j hj => hgot j (List.mem_range.1 hj)))
      rwa [hd] at this)
    n (Array.replicate n false) (fun i => (((l.take n)[i]?).bind (·.dst)).elim undef fun d => a.tmps.getD d undef) { w with drawn := w.drawn + 1 } (by simp) inv (Only.refl w).drew (fun i hl => by rw [getD_replicate_false] at hl; cases hl) (by simp)
  rw [← hF, fills_start (l.take n) 0 _ a (fun i o d h1 h2 => by simp [h1, h2])] at hs
  have e : marks (Array.replicate n false) (l.length - n) = Array.replicate l.toArray.size false := by
    simp only [marks, Array.replicate_append_replicate]; congr 1; simp; omega
  rw [e, show n + (l.length - n) = l.toArray.size by simp; omega] at hs
  exact hs
end
/-! ### what is said of the operations, as a list -/
abbrev Said := Value → List Value → World → Prop
def saidV (ps : List Said) : Nat → Value → List Value → World → Prop := fun i v ds w => (ps[i]?).elim True fun p => p v ds w
abbrev pVal (c : Value) : Said := fun v _ _ => v = c
def StabO (p : Said) : Prop := ∀ v ds W W', Only W W' → p v ds W → p v ds W'
theorem stab_val (c : Value) : StabO (pVal c) := fun _ _ _ _ _ h => h
theorem saidV_only {ps : List Said} (h : ∀ p ∈ ps, StabO p) {w : World} : ∀ i v ds W W', Only w W → Only W W' → saidV ps i v ds W → saidV ps i v ds W' := by
  intro i v ds W W' _ t k
  unfold saidV at *
  cases hp : ps[i]? with
  | none => trivial
  | some p =>
    rw [hp] at k
    exact h p (List.mem_of_getElem? hp) v ds W W' t k
theorem rich_value {P : Program} {o : Oper} {a : Act} {w w' : World} {K : Value → World → Prop} {u : Value} (h : (execOp a.eval o).run P w = .ok (.value u) w') (k : K u w') : RichAt P o a w K := by
  unfold RichAt; rw [h]; exact k
section
variable (P : Program) (l : List Oper) (wx : World) (ps : List Said) (F : (Nat → Value) → Act)
/-- an operation leaves p, and only makes memory -/
def StepP (o : Oper) (p : Said) : Prop := ∀ (vs : Nat → Value) (w : World), Only wx w → GotAll l (saidV ps) vs w (depsOf o) →
  ∀ K : Value → World → Prop, (∀ v w', Only w w' → p v ((depsOf o).map vs) w' → K v w') →
    if Region.wanted o (yielded l.toArray (F vs).tmps) then RichAt P o (F vs) w K else K undef w
def StepsP : List Oper → List Said → Prop
  | [], _ => True
  | o :: r, p :: qs => StepP P l wx ps F o p ∧ StepsP r qs
  | _ :: _, [] => False
/-- operation i may write, too -/
def StepW (S : World → World → Prop) (o : Oper) (p : Said) : Prop := ∀ (vs : Nat → Value) (w : World), Only wx w → GotAll l (saidV ps) vs w (depsOf o) →
  ∀ K : Value → World → Prop, (∀ v w', S w w' → p v ((depsOf o).map vs) w' → K v w') →
    if Region.wanted o (yielded l.toArray (F vs).tmps) then RichAt P o (F vs) w K else K undef w
/-- operation st of the list writes, all others only make memory -/
def StepsW (S : World → World → Prop) : Nat → List Oper → List Said → Prop
  | _, [], _ => True
  | 0, o :: r, p :: qs => StepW P l wx ps F S o p ∧ StepsP P l wx ps F r qs
  | st + 1, o :: r, p :: qs => StepP P l wx ps F o p ∧ StepsW S st r qs
  | _, _ :: _, [] => False
end
section
variable {P : Program} {l : List Oper} {wx : World} {ps : List Said} {F : (Nat → Value) → Act}
theorem saidV_at {i : Nat} {p : Said} (h : ps[i]? = some p) : saidV ps i = p := by
  funext v ds w; unfold saidV; rw [h]; rfl
theorem stepsFrom_ofP {S : World → World → Prop} {st : Nat} : ∀ (r : List Oper) (qs : List Said) (k : Nat), (∀ i, ps[k + i]? = qs[i]?) → StepsP P l wx ps F r qs → StepsFrom P l wx S st (saidV ps) F r k
  | [], _, _, _, _ => trivial
  | o :: r, [], k, _, h => h.elim
  | o :: r, p :: qs, k, hp, h => ⟨fun vs w hw hd K hK => h.1 vs w hw hd K fun v w' t k' => hK v w' (Or.inl t) (by rw [saidV_at (show ps[k]? = some p by simpa using hp 0)]; exact k'),
      stepsFrom_ofP r qs (k + 1) (fun i => by rw [show k + 1 + i = k + (i + 1) by omega]; simpa using hp (i + 1)) h.2⟩
theorem stepsFrom_ofW {S : World → World → Prop} : ∀ (st : Nat) (r : List Oper) (qs : List Said) (k : Nat), (∀ i, ps[k + i]? = qs[i]?) → StepsW P l wx ps F S st r qs → StepsFrom P l wx S (k + st) (saidV ps) F r k
  | _, [], _, _, _, _ => trivial
  | 0, o :: r, [], k, _, h => h.elim
  | st + 1, o :: r, [], k, _, h => h.elim
  | 0, o :: r, p :: qs, k, hp, h => ⟨fun vs w hw hd K hK => by
      have e := saidV_at (show ps[k]? = some p by simpa using hp 0)
      exact h.1 vs w hw hd K fun v w' t k' => hK v w' (Or.inr ⟨rfl, t⟩) (by rw [e]; exact k'),
      stepsFrom_ofP r qs (k + 1) (fun i => by rw [show k + 1 + i = k + (i + 1) by omega]; simpa using hp (i + 1)) h.2⟩
  | st + 1, o :: r, p :: qs, k, hp, h => ⟨fun vs w hw hd K hK => by
      have e := saidV_at (show ps[k]? = some p by simpa using hp 0)
      exact h.1 vs w hw hd K fun v w' t k' => hK v w' (Or.inl t) (by rw [e]; exact k'), by
      rw [show k + (st + 1) = k + 1 + st by omega]
      exact stepsFrom_ofW st r qs (k + 1) (fun i => by rw [show k + 1 + i = k + (i + 1) by omega]; simpa using hp (i + 1)) h.2⟩

/-- a head of which every order leaves what the list says; a tail in its one order -/
theorem wp_rich_tail {id : Nat} {a : Act} {w : World} {Q : Exit → Act → World → Prop} (n : Nat) (ps : List Said) {F : (Nat → Value) → Act} (hm : P.follows .mixedOrders = true) (hn : decide (n < l.length) = true) (hb : richB (l.take n) = true) (hg : guardB l n = true)
    (hsk : Region.sinkB .any l.toArray n = true) (hwt : waitsB .any l.toArray n = true) (hq : Region.seqB .any l.toArray (l.drop n).length n (marks (Array.replicate n true) (l.drop n).length) = true) (hF : ∀ vs, fills (l.take n) 0 vs a = F vs)
    (hst : StepsP P (l.take n) w ps F (l.take n) ps) (hO : ∀ p ∈ ps, StabO p)
    (hend : ∀ vs W, Only w W → GotAll (l.take n) (saidV ps) vs W (List.range n) → wpList P l.toArray Q (l.drop n) (F vs) W) :
    (Code.region id l.toArray true).wp P Q a w :=
  wp_region_rich_tail n (saidV ps) hm hn hb hg hsk hwt hq hF (saidV_only hO) (stepsFrom_ofP _ _ 0 (fun i => by rw [Nat.zero_add]) hst) hend

/-- every order leaves what the list says, and only makes memory -/
theorem wp_rich {id : Nat} {a : Act} {w : World} {Q : Exit → Act → World → Prop} (ps : List Said) {F : (Nat → Value) → Act} (hm : P.follows .mixedOrders = true) (hb : richB l = true) (hF : ∀ vs, fills l 0 vs a = F vs)
    (hst : StepsP P l w ps F l ps) (hO : ∀ p ∈ ps, StabO p) (hend : ∀ vs W, Only w W → GotAll l (saidV ps) vs W (List.range l.length) → Q .normal (F vs) W) :
    (Code.region id l.toArray true).wp P Q a w :=
  wp_region_rich (fun _ _ => False) l.length (saidV ps) hm hb hF (saidV_only hO) (fun _ _ _ _ _ _ _ h => h.elim) (fun _ _ _ h => h.elim) (stepsFrom_ofP _ _ 0 (fun i => by rw [Nat.zero_add]) hst) hend

/-! ### one box of two cells that is made and filled -/
/-- a box of ours is filled -/
def Fills2 (base : Nat) (w w' : World) : Prop := ∃ g x y u v, base ≤ g ∧ Own2 w g x y ∧ w' = (w.setCell ⟨g, 0, none⟩ u).setCell ⟨g, 1, none⟩ v
def pNew (base : Nat) : Said := fun v _ w => ∃ g x y, v = .pointer (some ⟨g, 0, none⟩) ∧ base ≤ g ∧ Own2 w g x y
/-- the box that the k-th of those waited for is, holds x and y -/
def pFill (base k : Nat) (x y : Value) : Said := fun _ ds w => ∃ g, ds[k]? = some (.pointer (some ⟨g, 0, none⟩)) ∧ base ≤ g ∧ Own2 w g x y
def StabF (base : Nat) (p : Said) : Prop := StabO p ∧ ∀ v ds W W', Fills2 base W W' → p v ds W → p v ds W'
theorem stabF_val (base : Nat) (c : Value) : StabF base (pVal c) := ⟨stab_val c, fun _ _ _ _ _ h => h⟩
theorem stabF_new (base : Nat) : StabF base (pNew base) := ⟨fun _ _ _ _ t ⟨g, x, y, e, h, o⟩ => ⟨g, x, y, e, h, o.only t⟩, fun _ _ _ _ ⟨g', x', y', u', v', h', o', e'⟩ ⟨g, x, y, e, h, o⟩ => by
  subst e'
  by_cases hg : g = g'
  · subst hg; exact ⟨g, u', v', e, h, o.set u' v'⟩
  · exact ⟨g, x, y, e, h, (o.far hg 0 u').far hg 1 v'⟩⟩
theorem stabO_fill (base k : Nat) (x y : Value) : StabO (pFill base k x y) := fun _ _ _ _ t ⟨g, e, h, o⟩ => ⟨g, e, h, o.only t⟩

theorem wp_rich_box {id : Nat} {a : Act} {w : World} {Q : Exit → Act → World → Prop} (st : Nat) (ps : List Said) {F : (Nat → Value) → Act} (hm : P.follows .mixedOrders = true) (hb : richB l = true) (hF : ∀ vs, fills l 0 vs a = F vs)
    (hst : StepsW P l w ps F (Fills2 w.heap.size) st l ps) (hO : ∀ p ∈ ps, StabO p) (hS : ∀ q ∈ ps.eraseIdx st, StabF w.heap.size q)
    (hend : ∀ vs W, Only w W → GotAll l (saidV ps) vs W (List.range l.length) → Q .normal (F vs) W) : (Code.region id l.toArray true).wp P Q a w :=
  wp_region_rich (Fills2 w.heap.size) st (saidV ps) hm hb hF (saidV_only hO) (fun i v ds W W' hi _ hs k => by
      unfold saidV at k ⊢
      cases hp : ps[i]? with
      | none => trivial
      | some p =>
        rw [hp] at k
        exact (hS p (List.mem_eraseIdx_iff_getElem?.2 ⟨i, hi, hp⟩)).2 v ds W W' hs k) (fun W W' t ⟨g, x, y, u, v, h, o, e⟩ => by subst e; exact (t.set h 0 u).set h 1 v)
    (by have := stepsFrom_ofW st _ _ 0 (fun i => by rw [Nat.zero_add]) hst; rwa [Nat.zero_add] at this) hend
end
end Go.Proofs.YtinghngnehhgfaaGreatDoor
