/-
  Lists of bytes in memory: new ones; read ones.
-/
import Derived.Test.YtjjajnfkngfpjaaGreatDoorWBase
import Derived.Maps.AppendAt
import Derived.RangeFuncBox
import Derived.RangeFuncFrom
namespace Go.Proofs.YtjjajnfkngfpjaaGreatDoor
open Go.RowKit Go.Maps Go.WideMaps

section
variable {w w' : World} {p : Nat} {S S' : Fsp.Fs} {c c' : Bool} {Q : Nat → Prop} {mo : Option Nat} {pl : List UInt8 → Pl}

/-- v is a list of these, all of it in blocks from base on -/
def ListsO (w : World) (base : Nat) (v : Value) (l : List (List UInt8)) : Prop :=
  ∃ xs : List Value, w.ownsRow base 37 1 v l.length xs ∧ xs.length = l.length ∧ ∀ (j : Nat) (q : List UInt8), l[j]? = some q → ∃ u, xs[j]? = some u ∧ w.ownsRow base 5 1 u q.length (q.map byteV)

/-- v reads as a list of these -/
def ListsR (w : World) (v : Value) (l : List (List UInt8)) : Prop :=
  ∃ sp cap, v = .slice sp l.length cap ∧ (0 < l.length → ∃ ad, sp = some ad ∧ ∀ j q, l[j]? = some q → ∃ u, w.cell? (ad.add j) = some u ∧ SliceR w u q)

theorem own_block {base : Nat} {e : TypeId} {size n : Nat} {v : Value} {xs : List Value} (h : w.ownsRow base e size v n xs) {r : Nat} (hr : v.ownBlock = some r) : base ≤ r ∧ r < w.heap.size ∧ ∃ cur, w.heap[r]? = some (.cells cur e (0, 0)) := by
  rcases h.2 with ⟨rfl, _⟩ | ⟨g, cap, cur, rfl, hg, hh, _⟩
  · cases hr
  · simp [Value.ownBlock] at hr; subst hr
    exact ⟨hg, (Array.getElem?_eq_some_iff.1 hh).1, cur, hh⟩

theorem ListsO.nil (w : World) (base : Nat) : ListsO w base (.slice none 0 0) [] := ⟨[], World.ownsRow_nil _ _ _ _, rfl, fun j q h => by simp at h⟩

theorem ListsO.turned {base : Nat} {v : Value} {l : List (List UInt8)} (h : ListsO w base v l) (ht : Turn Q w w') (hq : ∀ b cs t fr, Q b → base ≤ b → w.heap[b]? ≠ some (.cells cs t fr)) : ListsO w' base v l := by
  obtain ⟨xs, h1, h2, h3⟩ := h
  refine ⟨xs, ownsRow_turned h1 ht (fun r hr q => ?_), h2, fun j q hj => ?_⟩
  · obtain ⟨hb, _, cur, hc⟩ := own_block h1 hr
    exact hq _ _ _ _ q hb hc
  · obtain ⟨u, e, ho⟩ := h3 j q hj
    refine ⟨u, e, ownsRow_turned ho ht (fun r hr q => ?_)⟩
    obtain ⟨hb, _, cur, hc⟩ := own_block ho hr
    exact hq _ _ _ _ q hb hc

theorem ListsO.new {base : Nat} {v : Value} {l : List (List UInt8)} (h : ListsO w base v l) (ht : Turn (fun _ => False) w w') : ListsO w' base v l := h.turned ht (fun _ _ _ _ q => q.elim)

theorem ListsO.mono {base base' : Nat} {v : Value} {l : List (List UInt8)} (h : ListsO w base v l) (hb : base' ≤ base) : ListsO w base' v l := by
  have key : ∀ {e : TypeId} {n : Nat} {u : Value} {xs : List Value}, w.ownsRow base e 1 u n xs → w.ownsRow base' e 1 u n xs := fun {e n u xs} k => by
    refine ⟨k.1, ?_⟩
    rcases k.2 with k | ⟨g, cap, cur, e1, hg, r⟩
    · exact Or.inl k
    · exact Or.inr ⟨g, cap, cur, e1, Nat.le_trans hb hg, r⟩
  obtain ⟨xs, h1, h2, h3⟩ := h
  exact ⟨xs, key h1, h2, fun j q hj => by obtain ⟨u, e, ho⟩ := h3 j q hj; exact ⟨u, e, key ho⟩⟩

theorem own_cell {base : Nat} {e : TypeId} {n : Nat} {v : Value} {xs : List Value} (h : w.ownsRow base e 1 v n xs) (hx : xs.length = n) : ∃ sp cap, v = .slice sp n cap ∧ (0 < n → ∃ ad, sp = some ad ∧ ∀ j x, xs[j]? = some x → w.cell? (ad.add j) = some x) := by
  rcases h.2 with ⟨rfl, rfl⟩ | ⟨g, cap, cur, rfl, hg, hh, _⟩
  · exact ⟨none, 0, rfl, fun h0 => by omega⟩
  · refine ⟨_, cap, rfl, fun _ => ⟨_, rfl, fun j x hj => ?_⟩⟩
    have hlt : j < xs.length := (List.getElem?_eq_some_iff.1 hj).1
    rw [add_head, h.cellAt j (by omega), hj]

theorem ListsO.toR {base : Nat} {v : Value} {l : List (List UInt8)} (h : ListsO w base v l) : ListsR w v l := by
  obtain ⟨xs, h1, h2, h3⟩ := h
  obtain ⟨sp, cap, hv, hc⟩ := own_cell h1 h2
  refine ⟨sp, cap, hv, fun h0 => ?_⟩
  obtain ⟨ad, e, hx⟩ := hc h0
  refine ⟨ad, e, fun j q hj => ?_⟩
  obtain ⟨u, hu, ho⟩ := h3 j q hj
  exact ⟨u, hx j u hu, SliceR.of_own ho⟩

theorem ListsR.turned {v : Value} {l : List (List UInt8)} (h : ListsR w v l) (ht : Turn (fun _ => False) w w') : ListsR w' v l := by
  obtain ⟨sp, cap, hv, hc⟩ := h
  refine ⟨sp, cap, hv, fun h0 => ?_⟩
  obtain ⟨ad, e, hx⟩ := hc h0
  refine ⟨ad, e, fun j q hj => ?_⟩
  obtain ⟨u, hu, ho⟩ := hx j q hj
  exact ⟨u, turn_cell ht hu, ho.turned ht⟩

theorem ListsR.like {v : Value} {l : List (List UInt8)} (h : ListsR w v l) (k : Like w w') : ListsR w' v l := h.turned k.turn

/-- one more behind the others -/
theorem lists_snoc {base : Nat} {v' : Value} {l : List (List UInt8)} {q : List UInt8} {u : Value} {xs : List Value} (h1 : w.ownsRow base 37 1 v' (l.length + 1) (xs ++ [u])) (h2 : xs.length = l.length)
    (h3 : ∀ (j : Nat) (q : List UInt8), l[j]? = some q → ∃ u, xs[j]? = some u ∧ w.ownsRow base 5 1 u q.length (q.map byteV)) (hu : w.ownsRow base 5 1 u q.length (q.map byteV)) : ListsO w base v' (l ++ [q]) := by
  refine ⟨xs ++ [u], by simpa using h1, by simp [h2], fun j x hj => ?_⟩
  by_cases hlt : j < l.length
  · rw [List.getElem?_append_left hlt] at hj
    obtain ⟨y, e, ho⟩ := h3 j x hj
    exact ⟨y, by rw [List.getElem?_append_left (by omega)]; exact e, ho⟩
  · have hj0 : j = l.length := by
      have := (List.getElem?_eq_some_iff.1 hj).1
      simp at this; omega
    subst hj0
    rw [List.getElem?_append_right (Nat.le_refl _), Nat.sub_self] at hj
    cases hj
    refine ⟨u, ?_, hu⟩
    rw [← h2, List.getElem?_append_right (Nat.le_refl _), Nat.sub_self]; rfl

/-- a turn of a block that is no cells leaves them -/
theorem lists_own (base B : Nat) (W W' : World) (row : Option Nat) (v : Value) (l : List (List UInt8)) (h : ListsO W base v l) (hg : W.grownBy W' row) (hr : ∀ r, row = some r → B ≤ r ∧ ∃ o : Obj, W.heap[r]? = some o ∧ o.isCells = false) : ListsO W' base v l := by
  have ht : Turn (fun b => row = some b) W W' := (Turn.refl _ W).grown hg (fun k e => Or.inl e)
  refine h.turned ht (fun b cs t fr q _ hc => ?_)
  obtain ⟨_, o, ho, hn⟩ := hr b q
  rw [hc] at ho; cases ho; cases hn

end
end Go.Proofs.YtjjajnfkngfpjaaGreatDoor
