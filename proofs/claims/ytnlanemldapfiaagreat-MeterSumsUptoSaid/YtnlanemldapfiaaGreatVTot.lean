/-
  fault; Totals.
-/
import Derived.Test.YtnlanemldapfiaaGreatVDur
import Derived.Test.YtnlanemldapfiaaGreatVRise
import Derived.Test.YtnlanemldapfiaaGreatVName
import Derived.Maps.AppendAt
namespace Go.Proofs.YtnlanemldapfiaaGreat.se
open Go.RowKit Go.Maps Go.WideMaps Go.Shelf Go.Sort Go.Proofs.YtnlanemldapfiaaGreat.Tb

/-- why there is no such time of such an account -/
def faultE (acc : List UInt8) (fr to : Int) : Int := if nameB acc then (if 0 ≤ fr ∧ fr ≤ to ∧ to ≤ 1099511627777 then 0 else 6) else 1

set_option maxRecDepth 100000 in
set_option maxHeartbeats 1000000 in
theorem fault_any (acc : List UInt8) (ha : acc.length ≤ 281474976710656) (fr to : Int) (w : World) :
    Calls Tryz.prog 28 #[strE acc, .int .i64 fr, .int .i64 to] w fun r w' => r = .returned (.int .i64 (faultE acc fr to)) ∧ Turn (fun _ => False) w w' := by
  have HA := Lib.hid (validName_any acc ha)
  unfold faultE
  cases hn : nameB acc with
  | false =>
    rw [hn] at HA
    clear hn ha
    go_enter Tryz.func28, Tryz.ntmps28
    go_wp2_with (go_at_call 33; refine (HA.out _).mono ?_; rintro e w3 ⟨rfl, t3⟩)
    go_ret
    exact ⟨rfl, t3⟩
  | true =>
    rw [hn] at HA
    clear hn ha
    rw [if_pos rfl]
    by_cases h1 : fr < 0
    · rw [if_neg (by omega)]
      go_enter Tryz.func28, Tryz.ntmps28
      go_wp2_with (go_at_call 33; refine (HA.out _).mono ?_; rintro e w3 ⟨rfl, t3⟩)
      go_ret
      exact ⟨rfl, t3⟩
    · by_cases h2 : to < fr
      · rw [if_neg (by omega)]
        go_enter Tryz.func28, Tryz.ntmps28
        go_wp2_with (go_at_call 33; refine (HA.out _).mono ?_; rintro e w3 ⟨rfl, t3⟩)
        go_ret
        exact ⟨rfl, t3⟩
      · by_cases h3 : 1099511627777 < to
        · rw [if_neg (by omega)]
          go_enter Tryz.func28, Tryz.ntmps28
          go_wp2_with (go_at_call 33; refine (HA.out _).mono ?_; rintro e w3 ⟨rfl, t3⟩)
          go_ret
          exact ⟨rfl, t3⟩
        · rw [if_pos (by omega)]
          go_enter Tryz.func28, Tryz.ntmps28
          go_wp2_with (go_at_call 33; refine (HA.out _).mono ?_; rintro e w3 ⟨rfl, t3⟩)
          go_ret
          exact ⟨rfl, t3⟩
end Go.Proofs.YtnlanemldapfiaaGreat.se
