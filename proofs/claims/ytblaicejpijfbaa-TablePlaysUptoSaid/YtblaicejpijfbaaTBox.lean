/-
  Lists of ints, boxes: what serves the laws over a seat of tables of texts alone.
-/
import Derived.Test.YtblaicejpijfbaaTFirst
import Derived.RangeFuncFrom
import Derived.RangeFuncBox
import Derived.Maps.AppendAt
namespace Go.Proofs.Ytblaicejpijfbaa
open Go.RowKit Go.Maps Go.WideMaps Go.Proofs.Ytblaicejpijfbaa.Tb

theorem infoInt : (Try.prog.info? 3).map (fun i => (i.zero, i.size, i.bytes)) = some (some (.int .i64 0), 1, 8) := by kernel_rfl

abbrev intV (x : Int) : Value := .int .i64 x

/-- v reads as these numbers -/
def IntsR (w : World) (v : Value) (l : List Int) : Prop :=
  ∃ sp cap, v = .slice sp l.length cap ∧ (0 < l.length → ∃ ad, sp = some ad ∧ ∀ j x, l[j]? = some x → w.cell? (ad.add j) = some (intV x))

section
variable {w w' : World} {Q : Nat → Prop}

theorem IntsR.later {v : Value} {l : List Int} (h : IntsR w v l) (ht : Turn (fun _ => False) w w') : IntsR w' v l := by
  obtain ⟨sp, cap, hv, hc⟩ := h
  refine ⟨sp, cap, hv, fun h0 => ?_⟩
  obtain ⟨ad, e, hx⟩ := hc h0
  exact ⟨ad, e, fun j x hj => turn_cell ht (hx j x hj)⟩

theorem add_head (g j : Nat) : (⟨g, 0, none⟩ : Addr).add j = ⟨g, j, none⟩ := by
  unfold Addr.add; split <;> simp_all

theorem IntsR.of_own {base : Nat} {v : Value} {l : List Int} (h : w.ownsRow base 3 1 v l.length (l.map intV)) : IntsR w v l := by
  rcases h.2 with ⟨hv, hn⟩ | ⟨g, cap, cur, hv, hg, hh, h1, h2, h3, h4⟩
  · exact ⟨none, 0, by rw [hv, hn], fun h0 => by omega⟩
  · refine ⟨some ⟨g, 0, none⟩, cap, hv, fun _ => ⟨_, rfl, fun j x hj => ?_⟩⟩
    have hown : w.ownsRow base 3 1 (.slice (some ⟨g, 0, none⟩) l.length cap) l.length (l.map intV) := by rw [← hv]; exact h
    have hlt : j < l.length := (List.getElem?_eq_some_iff.1 hj).1
    have := hown.cellAt j (by omega)
    rw [add_head, this, List.getElem?_map, hj]; rfl

theorem own_block {base : Nat} {e : TypeId} {size n : Nat} {v : Value} {xs : List Value} (h : w.ownsRow base e size v n xs) {r : Nat} (hr : v.ownBlock = some r) : base ≤ r ∧ r < w.heap.size ∧ ∃ cur, w.heap[r]? = some (.cells cur e (0, 0)) := by
  rcases h.2 with ⟨rfl, _⟩ | ⟨g, cap, cur, rfl, hg, hh, _⟩
  · cases hr
  · simp [Value.ownBlock] at hr; subst hr
    exact ⟨hg, (Array.getElem?_eq_some_iff.1 hh).1, cur, hh⟩

theorem undInts : Try.prog.underlying 30 = some (.slice 3) := by kernel_rfl

theorem boxed_same {B : Nat} {t : TypeId} {v : Value} (h : Boxed w B t v) (ht : Turn (fun _ => False) w w') : Boxed w' B t v := (ht.block B h.lt (fun q => q)).trans h
theorem boxed_other {B Y : Nat} {t : TypeId} {v : Value} (h : Boxed w B t v) (ht : Turn (fun b => b = Y) w w') (hne : B ≠ Y) : Boxed w' B t v := (ht.block B h.lt hne).trans h

end
end Go.Proofs.Ytblaicejpijfbaa
