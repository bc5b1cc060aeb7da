/-
  The order of an account's events: by instants.
-/
import Derived.Test.YtnlanemldapfiaaGreatV5Swap
namespace Go.Proofs.YtnlanemldapfiaaGreat.st
open Go.RowKit Go.Shelf Go.Proofs.YtnlanemldapfiaaGreat.se Go.Proofs.YtnlanemldapfiaaGreat.Tb
set_option linter.unusedVariables false

theorem isNaNI_any (a : Int) (w : World) : Calls Tryz.prog 71 #[.int .i64 a] w fun r w' => r = .returned (.bool false) ∧ w' = w := by
  have e : (a != a) = false := by simp
  go_enter Tryz.func71, Tryz.ntmps71
  go_wp2
  go_ret
  exact ⟨ret_bool (by simp), rfl⟩

/-- how two numbers stand -/
def cmpN (a b : Int) : Int := if a < b then -1 else if b < a then 1 else 0

theorem cmpI_any (a b : Int) (w : World) : Calls Tryz.prog 47 #[.int .i64 a, .int .i64 b] w fun r w' => r = .returned (.int .i64 (cmpN a b)) ∧ w' = w := by
  unfold cmpN
  by_cases h1 : a < b
  · rw [if_pos h1]
    go_enter Tryz.func47, Tryz.ntmps47
    go_wp2_with (go_at_call 71; refine (isNaNI_any _ _).mono ?_; rintro r w' ⟨rfl, rfl⟩)
    go_ret
    exact ⟨rfl, rfl⟩
  · rw [if_neg h1]
    by_cases h2 : b < a
    · rw [if_pos h2]
      go_enter Tryz.func47, Tryz.ntmps47
      go_wp2_with (go_at_call 71; refine (isNaNI_any _ _).mono ?_; rintro r w' ⟨rfl, rfl⟩)
      go_ret
      exact ⟨rfl, rfl⟩
    · rw [if_neg h2]
      have h3 : ¬ a > b := h2
      go_enter Tryz.func47, Tryz.ntmps47
      go_wp2_with (go_at_call 71; refine (isNaNI_any _ _).mono ?_; rintro r w' ⟨rfl, rfl⟩)
      go_ret
      exact ⟨rfl, rfl⟩

theorem cmpEv_any (x y : Ev) (w : World) : Calls Tryz.prog 46 #[valV x, valV y] w fun r w' => r = .returned (.int .i64 (cmpN x.at_ y.at_)) ∧ Only w w' := by
  obtain ⟨W1, hW1⟩ : ∃ W1, w.alloc (evBox x) = W1 := ⟨_, rfl⟩
  have t1 := turnBox w (evBox x)
  rw [hW1] at t1
  have hx : W1.heap[w.heap.size]? = some (evBox x) := by rw [← hW1]; exact heap_alloc_new w _
  obtain ⟨W2, hW2⟩ : ∃ W2, W1.alloc (evBox y) = W2 := ⟨_, rfl⟩
  have t2 := turnBox W1 (evBox y)
  rw [hW2] at t2
  have hy : W2.heap[W1.heap.size]? = some (evBox y) := by rw [← hW2]; exact heap_alloc_new W1 _
  obtain ⟨⟨b0, b1, b2, b3, b4⟩, _⟩ := ev_open (turn_heap t2 hx)
  obtain ⟨⟨d0, d1, d2, d3, d4⟩, _⟩ := ev_open hy
  have T := Lib.hid (t1.trans t2 (fun _ _ q => q))
  clear t1 t2 hx hy
  go_enter Tryz.func46, Tryz.ntmps46
  go_wp2_with (go_at_call 47; refine (cmpI_any _ _ _).mono ?_; rintro r w' ⟨rfl, rfl⟩)
  go_ret
  exact ⟨rfl, T.out⟩
end Go.Proofs.YtnlanemldapfiaaGreat.st
