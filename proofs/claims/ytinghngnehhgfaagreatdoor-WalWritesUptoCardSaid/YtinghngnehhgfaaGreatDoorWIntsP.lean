/-
  Ints in a slice.
-/
import Derived.Test.YtinghngnehhgfaaGreatDoorWB
namespace Go.Proofs.YtinghngnehhgfaaGreatDoor
open Go.RowKit Go.Maps Go.WideMaps
/-- ints that came in -/
def IntsIn (w : World) (v : Value) (l : List Int) : Prop :=
  ∃ sp cap, v = .slice sp l.length cap ∧ l.length ≤ maxLen ∧ ∀ (i : Nat) x, l[i]? = some x → (∃ ad, sp = some ad ∧ w.cell? (ad.add i) = some (.int .i64 x)) ∧ -9223372036854775808 ≤ x ∧ x ≤ 9223372036854775807
theorem IntsIn.turned {w w' : World} {v : Value} {l : List Int} (h : IntsIn w v l) (t : Turn (fun _ => False) w w') : IntsIn w' v l := by
  obtain ⟨sp, cap, hv, hm, hc⟩ := h
  refine ⟨sp, cap, hv, hm, fun i x hx => ?_⟩
  obtain ⟨⟨ad, e, hu⟩, hb⟩ := hc i x hx
  exact ⟨⟨ad, e, turn_cell t hu⟩, hb⟩
end Go.Proofs.YtinghngnehhgfaaGreatDoor
