/-
  between, of every tree: the empty one. (si)
-/
import Derived.Test.YtblaicejpijfbaaTAll2Si
import Derived.Test.YtblaicejpijfbaaTRound2
namespace Go.Proofs.Ytblaicejpijfbaa.si
open Go.RowKit Go.Maps Go.WideMaps Go.Shelf Go.Proofs.Ytblaicejpijfbaa.Tb
attribute [local go_sem] Oper.semAt_some

theorem less_any (a b : Key) (w : World) : Calls Try.prog 66 #[keyV a, keyV b] w fun r w' => r = .returned (.bool (decide (a < b))) ∧ w = w' := by
  have e := less_eq a b
  go_enter Try.func66, Try.ntmps66
  go_wp2_with (go_at_call 70; refine (isNaN_any _ _).mono ?_; rintro r w' ⟨rfl, rfl⟩)
  go_ret
  exact ⟨rfl, rfl⟩

section
variable {J Jx : List Pr → World → Prop} {l N : Nat}

theorem betw_nil (n : Nat) (pre : List Pr) (W : World) (x y : Key) (hJ : J pre W) :
    CallsIn Fence.wide n Try.prog 41 #[.pointer none, keyV x, keyV y, .func (.yield l) #[] #[]] W (AllSays J Jx W pre (Tr.nil : Tr Key Val).list) := by
  have HJ := Lib.hid hJ
  clear hJ
  refine callsIn_of_wp Try.func41 rfl trivial ?_ rfl
  simp only [Try.ntmps41, List.size_toArray, List.length_cons, List.length_nil, Nat.reduceAdd, Nat.reduceSub, Array.replicate_succ, Array.replicate_zero, List.push_toArray, List.append_toArray, List.nil_append, List.cons_append]
  gi_wp2
  go_ret
  exact Or.inl ⟨rfl, by simpa [Tr.list] using HJ.out, KeepsN.refl _⟩
end
end Go.Proofs.Ytblaicejpijfbaa.si
