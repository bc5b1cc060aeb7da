/-
  all, of every tree. (si)
-/
import Derived.Test.YtblaicejpijfbaaTAllSi
namespace Go.Proofs.Ytblaicejpijfbaa.si
open Go.RowKit Go.Maps Go.WideMaps Go.Shelf Go.Proofs.Ytblaicejpijfbaa.Tb

section
variable {J Jx : List Pr → World → Prop} {l N : Nat}

theorem all_any (hJd : ∀ pre W, J pre W → J pre W.drew) (hY : Round J Jx l N) (t : Tr Key Val) : ∀ (n : Nat) (p : Option Addr) (pre : List Pr) (W : World), TrAt W (.pointer p) t → J pre W → pre.length + t.list.length ≤ N →
    CallsIn Fence.wide n Try.prog 39 #[.pointer p, .func (.yield l) #[] #[]] W (AllSays J Jx W pre t.list) := by
  induction t with
  | nil =>
    intro n p pre W h hJ _
    cases h
    exact all_nil n pre W hJd hJ
  | node k x s tl tr ihl ihr =>
    intro n p pre W h hJ hN
    obtain ⟨b, lv, rv, hp, hb, hl, hr⟩ := h
    cases hp
    rw [Tr.list] at hN ⊢
    simp only [List.length_append, List.length_cons] at hN
    exact all_node hY ⟨hb⟩ hr (ihl (n - 1) lv pre W.drew hl.drew (hJd _ _ hJ) (by omega)) (fun pre W ht hj hn => ihr (n - 1) rv pre W ht hj hn) (by omega)
end
end Go.Proofs.Ytblaicejpijfbaa.si
