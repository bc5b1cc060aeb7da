/-
  exref1: Keep, New.
-/
import Derived.Test.YtpaekggmphahoaaEValid
import Derived.Deep.DeepCutAuto
namespace Go.Proofs.Ytpaekggmphahoaa
open Go.RowKit Go.Maps Go.WideMaps
set_option linter.unusedVariables false
set_option linter.unusedSimpArgs false

/-- how many bytes a crash keeps of a name -/
def keepI (s : ByteArray) (n : Int) : Int := if n < 0 ∨ 1000000 < n then n else n % ((s.size : Int) + 7)

set_option maxRecDepth 100000 in
theorem rKeep_any (s : ByteArray) (hs : s.size ≤ maxLen - 7) (n : Int) (hn : -9223372036854775808 ≤ n ∧ n ≤ 9223372036854775807) (w : World) : Calls Try.prog 61 #[.string s, .int .i64 n] w fun r w' => r = .returned (.int .i64 (keepI s n)) ∧ w = w' := by
  unfold maxLen at hs
  have hb : (0 : Int) ≤ s.size ∧ (s.size : Int) + 7 ≤ 9223372036854775807 := by omega
  by_cases h1 : n < 0
  · have e : keepI s n = n := by unfold keepI; rw [if_pos (Or.inl h1)]
    rw [e]
    go_enter Try.func61, Try.ntmps61
    go_wp2
    go_ret
    exact ⟨rfl, rfl⟩
  by_cases h2 : 1000000 < n
  · have e : keepI s n = n := by unfold keepI; rw [if_pos (Or.inr h2)]
    rw [e]
    go_enter Try.func61, Try.ntmps61
    go_wp2
    go_ret
    exact ⟨rfl, rfl⟩
  have e : keepI s n = n % ((s.size : Int) + 7) := by unfold keepI; rw [if_neg (by omega)]
  rw [e]
  clear e
  go_enter Try.func61, Try.ntmps61
  go_wp2
  go_ret
  exact ⟨rfl, rfl⟩

theorem RefX.newborn (w : World) (n : Int) :
    RefX (w.alloc (.cells #[.int .i64 (min (max n 0) 67108864), .slice none 0 0, .int .i64 0, .int .i64 0, .bool false] 41)) w.heap.size (Fsp.new n) (fun b => b = w.heap.size) (.slice none 0 0) [] := by
  have e : (((Fsp.new n).room : Nat) : Int) = min (max n 0) 67108864 := by
    show ((min n.toNat 67108864 : Nat) : Int) = _
    omega
  refine ⟨?_, RfsO.nil _ 0, rfl, fun i x hx => by simp at hx, fun i x hx => by simp at hx, (by intro k; cases k), rfl, (by intro r hr; cases hr), fun i x hx => by simp at hx, fun b hb => by rw [hb]; exact (by simp [World.alloc_eq] : w.heap.size < (w.heap.push _).size)⟩
  rw [e]
  show (w.heap.push _)[w.heap.size]? = _
  rw [Array.getElem?_push_size]; rfl

set_option maxRecDepth 100000 in
theorem rNew_any (n : Int) (hn : -9223372036854775808 ≤ n ∧ n ≤ 9223372036854775807) (w : World) : Calls Try.prog 7 #[.int .i64 n] w fun r w' => r = .returned (.pointer (some ⟨w.heap.size, 0, none⟩)) ∧ RefX w' w.heap.size (Fsp.new n) (fun b => b = w.heap.size) (.slice none 0 0) [] ∧ Turn (fun _ => False) w w' := by
  have HX := Lib.hid (RefX.newborn w n)
  have HT := Lib.hid ((Turn.refl (fun _ => False) w).alloc (.cells #[.int .i64 (min (max n 0) 67108864), .slice none 0 0, .int .i64 0, .int .i64 0, .bool false] 41))
  go_enter Try.func7, Try.ntmps7
  go_wp2_with fail
  go_ret
  exact ⟨rfl, HX.out, HT.out⟩
end Go.Proofs.Ytpaekggmphahoaa
