/-
  CONTRACTS OF THE LIBRARY, laid off the shelf: strings.Clone, strings.HasPrefix, slices.Sort.
-/
import Derived.Test.YtjjajnfkngfpjaaGreatDoorWalk2
import Derived.Shelf.Strconv.Clone
import Derived.Shelf.Strings.Prefix
import Derived.Shelf.Lay
namespace Go.Proofs
open Go.Shelf
shelf_lay LaysM.n316 Nm 316 at Tryz as Tryz.laysM316
shelf_lay Lays.n99 Nm 99 at Tryz as Tryz.lays99
end Go.Proofs
namespace Go.Proofs.YtjjajnfkngfpjaaGreatDoor
open Go.RowKit Go.Maps Go.WideMaps

theorem sClone_any (s : ByteArray) (hs : s.size ≤ 281474976710656) (w : World) : Calls Tryz.prog 70 #[.string s] w fun r w' => r = .returned (.string s) ∧ Below w.heap.size w w' := Any.stringslite_Clone Tryz.laysM316 s w hs

theorem Below.turn {w w' : World} (h : Below w.heap.size w w') (Q : Nat → Prop) : Turn Q w w' := ⟨h.os, h.tape, h.output, h.size, fun k hk _ => h.block k hk⟩

theorem clone_any (s : ByteArray) (hs : s.size ≤ 281474976710656) (w : World) : Calls Tryz.prog 48 #[.string s] w fun r w' => r = .returned (.string s) ∧ Turn (fun _ => False) w w' := by
  go_enter Tryz.func48, Tryz.ntmps48
  go_wp2_with (go_at_call 70; refine (sClone_any s hs _).mono ?_; rintro r w' ⟨rfl, hb⟩)
  go_ret
  exact ⟨rfl, Below.turn hb _⟩

theorem hasPrefix_any (s t : ByteArray) (w : World) : Calls Tryz.prog 64 #[.string s, .string t] w fun r w' => r = .returned (.bool (Lib.hasPrefix s.data.toList t.data.toList)) ∧ w' = w := Any.strings_HasPrefix Tryz.lays99 s t w

end Go.Proofs.YtjjajnfkngfpjaaGreatDoor
