/-
  The records of a list of our own, written over.
-/
import Derived.Test.YtkhlejficonhpaaGreatDoorWLent
namespace Go.Proofs.YtkhlejficonhpaaGreatDoor
open Go.RowKit Go.Maps Go.WideMaps

section
variable {w w' : World}

/-- lists of the same lengths -/
def SameShape (l m : List (List UInt8)) : Prop := m.map List.length = l.map List.length

theorem SameShape.at_ {l m : List (List UInt8)} (h : SameShape l m) {i : Nat} {q : List UInt8} (hq : l[i]? = some q) : ∃ q', m[i]? = some q' ∧ q'.length = q.length := by
  have h1 : (m.map List.length)[i]? = (l.map List.length)[i]? := by rw [h]
  rw [List.getElem?_map, List.getElem?_map, hq] at h1
  obtain ⟨q', e, e2⟩ := Option.map_eq_some_iff.1 h1
  exact ⟨q', e, e2⟩

theorem row_set {base g k n : Nat} {u : Value} {q : List UInt8} {x : UInt8} (h : w.ownsRow base 5 1 u n (q.map byteV)) (hg : u.ownBlock = some g) : (w.setCell ⟨g, k, none⟩ (byteV x)).ownsRow base 5 1 u n ((q.set k x).map byteV) := by
  obtain ⟨h1, h2⟩ := h
  refine ⟨by simpa using h1, ?_⟩
  rcases h2 with ⟨rfl, _⟩ | ⟨g', cap, cur, rfl, hb, hh, hc, hm, hs, hx⟩
  · cases hg
  · simp only [Value.ownBlock, Option.some.injEq] at hg
    subst hg
    refine Or.inr ⟨g', cap, cur.setIfInBounds k (byteV x), rfl, hb, heap_setCell_same hh _, hc, hm, by simpa using hs, ?_⟩
    rw [Array.toList_setIfInBounds, List.take_set, hx, List.map_set]

theorem row_else {base g k n : Nat} {u : Value} {xs : List Value} {e : TypeId} {y : Value} (h : w.ownsRow base e 1 u n xs) (hg : ¬ u.ownBlock = some g) : (w.setCell ⟨g, k, none⟩ y).ownsRow base e 1 u n xs :=
  ownsRow_turned h (turnP w g k y) (fun r hr e' => hg (by rw [← show r = g from e']; exact hr))

theorem ListsO.scribble {base g k : Nat} {v : Value} {l : List (List UInt8)} {x : UInt8} {cur : Array Value} (h : ListsO w base v l) (hg : w.heap[g]? = some (.cells cur 5 (0, 0))) :
    ∃ l', SameShape l l' ∧ ListsO (w.setCell ⟨g, k, none⟩ (byteV x)) base v l' := by
  obtain ⟨xs, h1, h2, h3⟩ := h
  have hv : ¬ v.ownBlock = some g := fun e => by
    obtain ⟨_, _, cur2, hc⟩ := own_block h1 e
    rw [hg] at hc; cases hc
  have hlen : (List.zipWith (fun (u : Value) (q : List UInt8) => if u.ownBlock = some g then q.set k x else q) xs l).length = l.length := by
    rw [List.length_zipWith, h2, Nat.min_self]
  refine ⟨List.zipWith (fun (u : Value) (q : List UInt8) => if u.ownBlock = some g then q.set k x else q) xs l, ?_, xs, by rw [hlen]; exact row_else h1 hv, by rw [hlen]; exact h2, fun j q' hj => ?_⟩
  · unfold SameShape
    apply List.ext_getElem?
    intro j
    rw [List.getElem?_map, List.getElem?_map, List.getElem?_zipWith]
    cases hl : l[j]? with
    | none =>
      have : xs[j]? = none := by rw [List.getElem?_eq_none_iff] at hl ⊢; omega
      rw [this]
    | some q =>
      obtain ⟨u, e, _⟩ := h3 j q hl
      rw [e]
      simp only [Option.map_some]
      split <;> simp
  · rw [List.getElem?_zipWith] at hj
    cases hl : l[j]? with
    | none => rw [hl] at hj; cases hx : xs[j]? <;> simp [hx] at hj
    | some q =>
      obtain ⟨u, e, ho⟩ := h3 j q hl
      rw [hl, e] at hj
      simp only [Option.some.injEq] at hj
      refine ⟨u, e, ?_⟩
      by_cases hu : u.ownBlock = some g
      · rw [if_pos hu] at hj
        subst hj
        rw [List.length_set]
        exact row_set ho hu
      · rw [if_neg hu] at hj
        subst hj
        exact row_else ho hu

end
end Go.Proofs.YtkhlejficonhpaaGreatDoor
