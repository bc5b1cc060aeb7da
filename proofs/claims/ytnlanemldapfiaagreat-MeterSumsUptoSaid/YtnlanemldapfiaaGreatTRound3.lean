/-
  A region that draws its order, in the wide fence, inside a round or not: its head reads and calls what only reads, its tail has one order and is walked in the fence.
-/
import Derived.Test.YtnlanemldapfiaaGreatTRound2
import Derived.BigQuiet
namespace Go.Proofs.YtnlanemldapfiaaGreat.Qt
open Go

section
variable {P : Program} {md : Region.Mode} {C : World → Prop} {l : List Oper} {n : Nat}

/-- the marks of the head, those of the tail unset -/
abbrev marks (listed : Array Bool) (g : Nat) : Array Bool := listed ++ Array.replicate g false

/-- the head's edges go back, and its guards stand in it -/
def backB (md : Region.Mode) (l : List Oper) (n : Nat) : Bool := (List.range n).all fun i =>
  match l[i]? with
  | some o => (o.after.all fun e => !Region.binds md e || decide (e.on < i)) && (match o.guard with | some (j, _) => decide (j < n) | none => true)
  | none => false

theorem backB_at {i : Nat} {o : Oper} (h : backB md l n = true) (hi : i < n) (ho : l[i]? = some o) : (∀ e ∈ o.after, Region.binds md e = true → e.on < i) ∧ (∀ j b, o.guard = some (j, b) → j < n) := by
  have k := List.all_eq_true.1 h i (List.mem_range.2 hi)
  simp only [ho, Bool.and_eq_true] at k
  refine ⟨fun e he hbd => ?_, fun j b hg => ?_⟩
  · obtain ⟨x, hx, rfl⟩ := Array.mem_iff_getElem.1 he
    have := Array.all_eq_true.1 k.1 x hx
    simpa [hbd] using this
  · have k2 := k.2
    rw [hg] at k2
    simpa using k2

theorem head_at {i : Nat} (hi : i < n) : (l.take n).toArray[i]? = l.toArray[i]? := by simp [hi]

theorem yielded_head {t : Array Value} {j : Nat} (hj : j < n) : yielded (l.take n).toArray t j = yielded l.toArray t j := by
  unfold yielded; rw [head_at hj]

theorem wanted_head {o : Oper} {t : Array Value} (h : ∀ j b, o.guard = some (j, b) → j < n) : Region.wanted o (yielded (l.take n).toArray t) = Region.wanted o (yielded l.toArray t) := by
  unfold Region.wanted
  cases hg : o.guard with
  | none => rfl
  | some x => obtain ⟨j, b⟩ := x; simp only [yielded_head (h j b hg)]

theorem marks_lt {listed : Array Bool} {g j : Nat} (d : Bool) (h : j < listed.size) : (marks listed g).getD j d = listed.getD j d := by
  simp [marks, Array.getElem?_append, h]
theorem marks_ge {listed : Array Bool} {g j : Nat} (h : listed.size ≤ j) : (marks listed g).getD j false = false := by
  have : ¬ j < listed.size := by omega
  rcases Nat.lt_or_ge (j - listed.size) g with k | k
  · simp [marks, Array.getElem?_append, this, k]
  · simp [marks, Array.getElem?_append, this, k]
theorem marks_set {listed : Array Bool} {g i : Nat} (h : i < listed.size) : (marks listed g).setIfInBounds i true = marks (listed.setIfInBounds i true) g := by
  simp [marks, Array.setIfInBounds_append_left, h]

/-- what of the head is ready, is ready in the head -/
theorem ready_head {listed : Array Bool} {g i : Nat} (hs : listed.size = n) (hi : i < n) (h : i ∈ Region.ready md l.toArray (marks listed g)) : i ∈ Region.ready md (l.take n).toArray listed := by
  obtain ⟨h1, o, ho, h2⟩ := mem_ready.1 h
  rw [marks_lt true (by omega)] at h1
  refine mem_ready.2 ⟨h1, o, (head_at hi).trans ho, fun e he hb => ?_⟩
  have h3 := h2 e he hb
  rcases Nat.lt_or_ge e.on n with k | k
  · rwa [marks_lt false (by omega)] at h3
  · rw [marks_ge (by omega)] at h3; cases h3

/-- where none of the head is ready, all of it is listed -/
theorem all_listed {listed : Array Bool} (hb : backB md l n = true) (hn : n ≤ l.length) (hs : listed.size = n) (hr : Region.ready md (l.take n).toArray listed = []) : listed = Array.replicate n true := by
  have k : ∀ m i, i < m → i < n → listed.getD i true = true := by
    intro m
    induction m with
    | zero => intro i hi; omega
    | succ m ih =>
      intro i _ hi
      cases hu : listed.getD i true with
      | true => rfl
      | false =>
        exfalso
        have ho : l[i]? = some l[i] := List.getElem?_eq_getElem (by omega)
        obtain ⟨b1, b2⟩ := backB_at hb hi ho
        have : i ∈ Region.ready md (l.take n).toArray listed := mem_ready.2 ⟨hu, l[i], (head_at hi).trans (by simp), fun e he hbd => by
          have h1 := b1 e he hbd
          have h2 := ih e.on (by omega) (by omega)
          have h3 : e.on < listed.size := by omega
          simp [h3] at h2 ⊢; exact h2⟩
        rw [hr] at this
        cases this
  apply Array.ext (by simp [hs])
  intro i h1 h2
  have := k (i + 1) i (by omega) (by omega)
  simpa [h1] using this

end

section
variable {P : Program} {m : Nat} {ro : Option Nat} {md : Region.Mode} {C : World → Prop} {l : List Oper} {n : Nat}

theorem opIn_of_quiet {ops : Array Oper} {w : World} {i : Nat} {a : Act} {K : Act → Prop} {K' : Act → World → Prop} {Q : Exit → Act → World → Prop} (hd : ∀ (i : Nat) (o : Oper), ops[i]? = some o → ∀ c, o.op ≠ .defer c) (hC : C w) (hK : ∀ a w', C w' → K a → K' a w') (h : qOp P ops C i K a) :
    wpOpIn (wideAt ro) m P ops Q i K' a w := by
  have h1 := wpOp_of_qOp (Q' := fun _ _ _ => False) (K' := K') hC hK h
  unfold wpOp at h1
  unfold wpOpIn
  cases ho : ops[i]? with
  | none => rw [ho] at h1; exact h1
  | some o =>
    rw [ho] at h1
    simp only at h1 ⊢
    by_cases hw : Region.wanted o (yielded ops a.tmps) = true
    · rw [if_pos hw] at h1 ⊢
      rcases h1 with h1 | h1
      · refine ⟨fun _ _ => trivial, ?_⟩
        rw [Oper.semAt_plain _ _ _ (hd i o ho)]
        exact upon_at (fun _ _ h => h) (fun _ _ _ h => h.elim) h1
      · obtain ⟨_, _, h2⟩ := h1.2; exact h2.elim
    · rw [if_neg hw] at h1 ⊢
      exact ⟨fun _ _ => trivial, h1⟩

theorem fuel_more {F : Fence} {ops : Array Oper} {Q : Exit → Act → World → Prop} : ∀ (f : Nat) (listed : Array Bool) (a : Act) (w : World), wpAnyIn F m P md ops Q f listed a w → wpAnyIn F m P md ops Q (f + 1) listed a w
  | 0, listed, a, w, h => ⟨fun _ => h.2, fun i hi => by rw [h.1] at hi; cases hi⟩
  | f + 1, listed, a, w, h => ⟨h.1, fun i hi => wpOpIn_mono (fun a' w' h' => fuel_more f _ a' w' h') (h.2 i hi)⟩
theorem fuel_most {F : Fence} {ops : Array Oper} {Q : Exit → Act → World → Prop} {g : Nat} {listed : Array Bool} {a : Act} {w : World} (h : wpAnyIn F m P md ops Q g listed a w) : ∀ f, wpAnyIn F m P md ops Q (f + g) listed a w
  | 0 => by rw [Nat.zero_add]; exact h
  | f + 1 => by rw [show f + 1 + g = f + g + 1 by omega]; exact fuel_more _ _ _ _ (fuel_most h f)

theorem anyIn_of_head_walk {Q : Act → Prop} {Q' : Exit → Act → World → Prop} {g : Nat} (hd : ∀ (i : Nat) (o : Oper), (l.take n).toArray[i]? = some o → ∀ c, o.op ≠ .defer c) (hb : backB md l n = true) (hs : Region.sinkB md l.toArray n = true) (hc : Region.chainB md l.toArray n = true) (hn : n < l.length)
    (_hg : g = l.length - n) (ht : ∀ a w, C w → Q a → wpAnyIn (wideAt ro) m P md l.toArray Q' g (marks (Array.replicate n true) g) a w) :
    ∀ (f : Nat) (listed : Array Bool) (a : Act) (w : World), listed.size = n → HeadInv md l.toArray n (marks listed g) → C w → wpAnyQ P md (l.take n).toArray C Q f listed a → wpAnyIn (wideAt ro) m P md l.toArray Q' (f + g) (marks listed g) a w := by
  intro f
  induction f with
  | zero =>
    intro listed a w hz inv hw h
    rw [all_listed hb (by omega) hz h.1, Nat.zero_add]
    exact ht a w hw h.2
  | succ f ih =>
    intro listed a w hz inv hw h
    by_cases hr : Region.ready md (l.take n).toArray listed = []
    · have := ht a w hw (h.1 hr)
      rw [← all_listed hb (by omega) hz hr] at this
      exact fuel_most this (f + 1)
    · obtain ⟨i0, hi0⟩ := List.exists_mem_of_ne_nil _ hr
      obtain ⟨u0, o0, ho0, -⟩ := mem_ready.1 hi0
      have hi0n : i0 < n := by have := (Array.getElem?_eq_some_iff.1 ho0).1; simp at this; omega
      have hsz : n < l.toArray.size := by simpa using hn
      have hall : ∀ j ∈ Region.ready md l.toArray (marks listed g), j < n := fun j hj => by
        rcases Nat.lt_or_ge j n with k | k
        · exact k
        · exact absurd hj (tail_waits hs hc hsz inv _ i0 rfl hi0n (by rw [marks_lt true (by omega)]; exact u0) j k)
      rw [show f + 1 + g = f + g + 1 by omega]
      refine ⟨fun h0 => ?_, fun i hi => ?_⟩
      · exfalso
        have : i0 ∈ Region.ready md l.toArray (marks listed g) := by
          obtain ⟨u1, o1, ho1, h1⟩ := mem_ready.1 hi0
          refine mem_ready.2 ⟨by rw [marks_lt true (by omega)]; exact u1, o1, (head_at hi0n).symm.trans ho1, fun e he hbd => ?_⟩
          have h2 := h1 e he hbd
          rcases Nat.lt_or_ge e.on n with k | k
          · rw [marks_lt false (by omega)]; exact h2
          · have : ¬ e.on < listed.size := by omega
            simp [this] at h2
        rw [h0] at this; cases this
      · have hin := hall i hi
        have hri := ready_head (g := g) hz hin hi
        have h1 := opIn_of_quiet (ro := ro) (m := m) (Q := Q') (K' := wpAnyIn (wideAt ro) m P md l.toArray Q' (f + g) ((marks listed g).setIfInBounds i true)) hd hw (fun a' w' hw' hK => by
          rw [marks_set (by omega)]
          exact ih _ a' w' (by simpa using hz) (by rw [← marks_set (by omega)]; exact inv.set hi hin) hw' hK) (h.2 i hri)
        unfold wpOpIn at h1 ⊢
        rw [head_at hin] at h1
        have ho : l.toArray[i]? = some l[i] := by simp [List.getElem?_eq_getElem (show i < l.length by omega)]
        rw [ho] at h1 ⊢
        simp only at h1 ⊢
        rwa [wanted_head (backB_at hb hin (by simp)).2] at h1

/-- reads, and calls of what only reads, in whatever order; then a tail in its one order, walked in the fence -/
theorem quiet_tail_in {id : Nat} {Q : Exit → Act → World → Prop} {a : Act} {w : World} (n : Nat) (hd : noDefer l = true) (hm : P.follows .mixedOrders = true)
    (hb : backB .any l n = true) (hs : Region.sinkB .any l.toArray n = true) (hc : Region.chainB .any l.toArray n = true) (hn : decide (n < l.length) = true) (hq : Region.seqB .any l.toArray (l.drop n).length n (marks (Array.replicate n true) (l.drop n).length) = true) (hB : Region.lexB .any (l.take n).toArray = true)
    (h : wpQuiet P (l.take n).toArray (fun w' => ∃ k, w' = w.drewN k) (fun a' => ∀ w', (∃ k, w' = w.drewN k) → wpListIn (wideAt ro) m P l.toArray Q (l.drop n) a' w') (l.take n) a) : (Code.region id l.toArray true).wpIn (wideAt ro) m P Q a w := by
  have hn' : n < l.length := of_decide_eq_true hn
  simp only [Region.lexB, Bool.and_eq_true] at hB
  have hsize : (l.take n).toArray.size = n := by simp; omega
  have H := wpAnyQ_lex (C := fun w' => ∃ k, w' = w.drewN k) (md := .any) hB.1 (l.take n) 0 (Array.replicate (l.take n).toArray.size false) a (by simp) (by simpa using hB.2) h
  rw [hsize, show (l.take n).length = n by simp; omega] at H
  have hdl : (l.drop n).length = l.length - n := by simp
  have inv : HeadInv .any l.toArray n (marks (Array.replicate n false) (l.drop n).length) := by
    have e : marks (Array.replicate n false) (l.drop n).length = Array.replicate l.toArray.size false := by
      rw [hdl]; simp only [marks, Array.replicate_append_replicate]; congr 1; simp; omega
    rw [e]
    exact ⟨by simp, fun j oj _ hl => (by rw [getD_replicate_false] at hl; cases hl), fun t _ ht => getD_in (by simpa using ht) (getD_replicate_false _ _)⟩
  refine wpIn_region_any hm ?_
  have hdd : ∀ (i : Nat) (o : Oper), (l.take n).toArray[i]? = some o → ∀ c, o.op ≠ .defer c := fun i o ho => noDefer_spec hd i o (by
    have hi : i < n := by have := (Array.getElem?_eq_some_iff.1 ho).1; simp at this; omega
    rwa [head_at hi] at ho)
  have R := anyIn_of_head_walk (ro := ro) (m := m) (Q' := Q) hdd hb hs hc hn' hdl (fun a' w' hw' hQ => anyIn_of_seq (F := wideAt ro) (n := m) (md := .any) (Q := Q) (l.drop n) n _ a' w' (fun j => by simp [List.getElem?_drop]) hq (hQ w' hw')) n (Array.replicate n false) a
    w.drew (by simp) inv ⟨1, rfl⟩ H
  rw [hdl, show n + (l.length - n) = l.toArray.size by simp; omega] at R
  have e : marks (Array.replicate n false) (l.length - n) = Array.replicate l.toArray.size false := by
    simp only [marks, Array.replicate_append_replicate]; congr 1; simp; omega
  rw [e] at R
  exact R

theorem quiet_tail_wide {id : Nat} {Q : Exit → Act → World → Prop} {a : Act} {w : World} (n : Nat) (hd : noDefer l = true) (hm : P.follows .mixedOrders = true)
    (hb : backB .any l n = true) (hs : Region.sinkB .any l.toArray n = true) (hc : Region.chainB .any l.toArray n = true) (hn : decide (n < l.length) = true) (hq : Region.seqB .any l.toArray (l.drop n).length n (marks (Array.replicate n true) (l.drop n).length) = true) (hB : Region.lexB .any (l.take n).toArray = true)
    (h : wpQuiet P (l.take n).toArray (fun w' => ∃ k, w' = w.drewN k) (fun a' => ∀ w', (∃ k, w' = w.drewN k) → wpListIn Fence.wide m P l.toArray Q (l.drop n) a' w') (l.take n) a) : (Code.region id l.toArray true).wpIn Fence.wide m P Q a w :=
  quiet_tail_in (ro := none) n hd hm hb hs hc hn hq hB h
end
end Go.Proofs.YtnlanemldapfiaaGreat.Qt
