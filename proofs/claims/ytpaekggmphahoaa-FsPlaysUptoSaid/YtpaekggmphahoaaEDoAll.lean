/-
  THE LAW FsPlays: Does, of any operation.
-/
import Derived.Test.YtpaekggmphahoaaEDo7C
import Derived.Test.YtpaekggmphahoaaESame
namespace Go.Proofs.Ytpaekggmphahoaa
open Go.RowKit Go.Maps Go.WideMaps
set_option linter.unusedVariables false
set_option linter.unusedSimpArgs false
section
variable {w w1 w2 w' : World} {p q base : Nat} {S S' : Fsp.Fs} {Q R : Nat → Prop} {v : Value} {l : List RF}
/-- what an operation makes of both -/
def doesS (S : Fsp.Fs) (o : OpD) : Fsp.Fs := if o.kind = 7 then Fsp.crash S (keepN o.n) else (toldS S o).1
theorem steps_does (S : Fsp.Fs) (o : OpD) : (doesS S o).steps ≤ S.steps + 1 := by
  unfold doesS
  split
  · exact Nat.le_succ _
  · exact steps_told S o
theorem does_any (h : Both w p q S base) (hb : base ≤ w.heap.size) (hs : StepsOk S) (o : OpD) (ho : OpOk w o) (hl : o.b.length ≤ 1048576) (hv : ∀ W, Turn (fun b => base ≤ b) w W → SliceI W o.bv o.b) :
    Calls Try.prog 11 #[.pointer (some ⟨p, 0, none⟩), .pointer (some ⟨q, 0, none⟩), opVal o] w fun r w' => r = .returned (.bool true) ∧ BPost w p q (doesS S o) base w' := by
  by_cases k7 : o.kind = 7
  · have e : doesS S o = Fsp.crash S (keepN o.n) := by unfold doesS; rw [if_pos k7]
    rw [e]
    exact does_7 h hb o ho k7
  have e : doesS S o = (toldS S o).1 := by unfold doesS; rw [if_neg k7]
  rw [e]
  by_cases k0 : o.kind = 0
  · exact does_0 h hb hs o ho k0
  by_cases k1 : o.kind = 1
  · exact does_1 h hb hs o ho hl hv k1
  by_cases k2 : o.kind = 2
  · exact does_2 h hb hs o ho k2
  by_cases k3 : o.kind = 3
  · exact does_3 h hb hs o ho k3
  by_cases k4 : o.kind = 4
  · exact does_4 h hb hs o ho k4
  by_cases k5 : o.kind = 5
  · exact does_5 h hb hs o ho k5
  by_cases k6 : o.kind = 6
  · exact does_6 h hb hs o ho k6
  have hk : ¬ (o.kind = 0 ∨ o.kind = 1 ∨ o.kind = 2 ∨ o.kind = 3 ∨ o.kind = 4 ∨ o.kind = 5 ∨ o.kind = 6 ∨ o.kind = 7) := by simp only [not_or]; exact ⟨k0, k1, k2, k3, k4, k5, k6, k7⟩
  cases hat : atN S.L o.name.data.toList with
  | none => exact does_8n h hb o ho (atN_none hat) hat hk
  | some i =>
    obtain ⟨f, -, hf⟩ := atN_some hat
    exact does_8s h hb o ho hf hat hk
end
end Go.Proofs.Ytpaekggmphahoaa
