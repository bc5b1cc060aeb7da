/-
  A region that draws its order: its head reads and calls what only makes memory, its tail waits for the head, in whatever orders of its own.
-/
import Derived.Test.YtinghngnehhgfaaGreatDoorNTail
namespace Go.Proofs.YtinghngnehhgfaaGreatDoor
open Go Go.RowKit

section
variable {P : Program} {md : Region.Mode} {C : World → Prop} {l : List Oper} {n : Nat}

/-- each of the tail but its first waits for one of the tail ahead of it -/
def waitsB (md : Region.Mode) (ops : Array Oper) (n : Nat) : Bool :=
  (List.range ops.size).all fun t => decide (t ≤ n) || (List.range t).any fun j => decide (n ≤ j) && Region.waitsFor md ops t j

theorem tail_waits2 {ops : Array Oper} {listed : Array Bool} (hs : Region.sinkB md ops n = true) (hc : waitsB md ops n = true) (hn : n < ops.size) (inv : HeadInv md ops n listed) :
    ∀ (d i : Nat), n - i = d → i < n → listed.getD i true = false → ∀ t, n ≤ t → t ∉ Region.ready md ops listed := by
  intro d
  induction d using Nat.strongRecOn with
  | _ d ih =>
    intro i hd hi hun t ht hr
    obtain ⟨_, ot, hot, hall⟩ := mem_ready.1 hr
    have htlt : t < ops.size := (Array.getElem?_eq_some_iff.1 hot).1
    by_cases htn : t = n
    · subst htn
      have h1 := List.all_eq_true.1 hs i (List.mem_range.2 hi)
      obtain ⟨j, hj, hj2⟩ := List.any_eq_true.1 h1
      simp only [Bool.and_eq_true, decide_eq_true_eq] at hj2
      obtain ⟨oj, hoj, e, he, hb, hon⟩ := Region.waitsFor_spec hj2.2
      have hjle : j ≤ t := by have := List.mem_range.1 hj; omega
      by_cases hjt : j = t
      · subst hjt
        have : oj = ot := Option.some.inj (hoj.symm.trans hot)
        subst this
        have h2 := hall e he hb
        rw [hon, getD_both hun] at h2
        cases h2
      · cases hl : listed.getD j false with
        | true =>
          have h2 := inv.closed j oj hoj hl e he hb
          rw [hon, getD_both hun] at h2
          cases h2
        | false =>
          have hjs : j < listed.size := by rw [inv.size]; omega
          exact ih (t - j) (by omega) j rfl (by omega) (getD_in hjs hl) t (Nat.le_refl _) hr
    · have h1 := List.all_eq_true.1 hc t (List.mem_range.2 htlt)
      simp only [Bool.or_eq_true, decide_eq_true_eq] at h1
      rcases h1 with h1 | h1
      · omega
      · obtain ⟨j, hj, hj2⟩ := List.any_eq_true.1 h1
        simp only [Bool.and_eq_true, decide_eq_true_eq] at hj2
        obtain ⟨o', ho', e, he, hb, hon⟩ := Region.waitsFor_spec hj2.2
        have hjt := List.mem_range.1 hj
        have : o' = ot := Option.some.inj (ho'.symm.trans hot)
        subst this
        have h2 := hall e he hb
        rw [hon, getD_both (inv.tail j hj2.1 (by omega))] at h2
        cases h2

theorem wpAny_of_head_walk2 {Q : Act → Prop} {Q' : Exit → Act → World → Prop} {g : Nat} (hb : backB md l n = true) (hs : Region.sinkB md l.toArray n = true) (hc : waitsB md l.toArray n = true) (hn : n < l.length)
    (_hg : g = l.length - n) (ht : ∀ a w, C w → Q a → wpAny P md l.toArray Q' g (marks (Array.replicate n true) g) a w) :
    ∀ (f : Nat) (listed : Array Bool) (a : Act) (w : World), listed.size = n → HeadInv md l.toArray n (marks listed g) → C w → wpAnyQ P md (l.take n).toArray C Q f listed a → wpAny P md l.toArray Q' (f + g) (marks listed g) a w := by
  intro f
  induction f with
  | zero =>
    intro listed a w hz inv hw h
    rw [all_listed hb (by omega) hz h.1, Nat.zero_add]
    exact ht a w hw h.2
  | succ f ih =>
    intro listed a w hz inv hw h
    by_cases hr : Region.ready md (l.take n).toArray listed = []
    · have := ht a w hw (h.1 hr)
      rw [← all_listed hb (by omega) hz hr] at this
      exact fuel_most this (f + 1)
    · obtain ⟨i0, hi0⟩ := List.exists_mem_of_ne_nil _ hr
      obtain ⟨u0, o0, ho0, -⟩ := mem_ready.1 hi0
      have hi0n : i0 < n := by have := (Array.getElem?_eq_some_iff.1 ho0).1; simp at this; omega
      have hsz : n < l.toArray.size := by simpa using hn
      have hall : ∀ j ∈ Region.ready md l.toArray (marks listed g), j < n := fun j hj => by
        rcases Nat.lt_or_ge j n with k | k
        · exact k
        · exact absurd hj (tail_waits2 hs hc hsz inv _ i0 rfl hi0n (by rw [marks_lt true (by omega)]; exact u0) j k)
      rw [show f + 1 + g = f + g + 1 by omega]
      refine ⟨fun h0 => ?_, fun i hi => ?_⟩
      · exfalso
        -- the least of the head that is not listed is ready
        have hx : Region.ready md (l.take n).toArray listed ≠ [] := hr
        have : i0 ∈ Region.ready md l.toArray (marks listed g) := by
          obtain ⟨u1, o1, ho1, h1⟩ := mem_ready.1 hi0
          refine mem_ready.2 ⟨by rw [marks_lt true (by omega)]; exact u1, o1, (head_at hi0n).symm.trans ho1, fun e he hbd => ?_⟩
          have h2 := h1 e he hbd
          rcases Nat.lt_or_ge e.on n with k | k
          · rw [marks_lt false (by omega)]; exact h2
          · have : ¬ e.on < listed.size := by omega
            simp [this] at h2
        rw [h0] at this; cases this
      · have hin := hall i hi
        have hri := ready_head (g := g) hz hin hi
        have h1 := wpOp_of_qOp (Q' := Q') (K' := wpAny P md l.toArray Q' (f + g) ((marks listed g).setIfInBounds i true)) hw (fun a' w' hw' hK => by
          rw [marks_set (by omega)]
          exact ih _ a' w' (by simpa using hz) (by rw [← marks_set (by omega)]; exact inv.set hi hin) hw' hK) (h.2 i hri)
        unfold wpOp at h1 ⊢
        rw [head_at hin] at h1
        have ho : l.toArray[i]? = some l[i] := by simp [List.getElem?_eq_getElem (show i < l.length by omega)]
        rw [ho] at h1 ⊢
        simp only at h1 ⊢
        rwa [wanted_head (backB_at hb hin (by simp)).2] at h1

/-- a head whose operations read and call what only makes memory, in whatever order; the tail, which waits for the head, is left to be walked in whatever orders it has -/
theorem wp_region_cone_rest2 {id : Nat} {Q : Exit → Act → World → Prop} {a : Act} {w : World} (n : Nat) (hm : P.follows .mixedOrders = true)
    (hb : backB .any l n = true) (hs : Region.sinkB .any l.toArray n = true) (hc : waitsB .any l.toArray n = true) (hn : decide (n < l.length) = true) (hB : Region.lexB .any (l.take n).toArray = true)
    (h : wpQuiet P (l.take n).toArray (fun w' => ∃ c : Cone w, w' = c.out) (fun a' => ∀ w', (∃ c : Cone w, w' = c.out) → wpAny P .any l.toArray Q (l.length - n) (marks (Array.replicate n true) (l.length - n)) a' w') (l.take n) a) : (Code.region id l.toArray true).wp P Q a w := by
  have hn' : n < l.length := of_decide_eq_true hn
  simp only [Region.lexB, Bool.and_eq_true] at hB
  have hsize : (l.take n).toArray.size = n := by simp; omega
  have H := wpAnyQ_lex (C := fun w' => ∃ c : Cone w, w' = c.out) (md := .any) hB.1 (l.take n) 0 (Array.replicate (l.take n).toArray.size false) a (by simp) (by simpa using hB.2) h
  rw [hsize, show (l.take n).length = n by simp; omega] at H
  have inv : HeadInv .any l.toArray n (marks (Array.replicate n false) (l.length - n)) := by
    have e : marks (Array.replicate n false) (l.length - n) = Array.replicate l.toArray.size false := by
      simp only [marks, Array.replicate_append_replicate]; congr 1; simp; omega
    rw [e]
    exact ⟨by simp, fun j oj _ hl => (by rw [getD_replicate_false] at hl; cases hl), fun t _ ht => getD_in (by simpa using ht) (getD_replicate_false _ _)⟩
  refine wp_region_any hm ?_
  have R := wpAny_of_head_walk2 (Q' := Q) hb hs hc hn' rfl (fun a' w' hw' hQ => hQ w' hw') n (Array.replicate n false) a
    { w with drawn := w.drawn + 1 } (by simp) inv ⟨⟨_, (Only.refl w).drew⟩, rfl⟩ H
  rw [show n + (l.length - n) = l.toArray.size by simp; omega] at R
  have e : marks (Array.replicate n false) (l.length - n) = Array.replicate l.toArray.size false := by
    simp only [marks, Array.replicate_append_replicate]; congr 1; simp; omega
  rw [e] at R
  exact R
end
end Go.Proofs.YtinghngnehhgfaaGreatDoor
