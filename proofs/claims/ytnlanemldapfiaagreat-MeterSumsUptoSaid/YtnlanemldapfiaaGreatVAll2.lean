/-
  all, of every tree. (se)
-/
import Derived.Test.YtnlanemldapfiaaGreatVAll
namespace Go.Proofs.YtnlanemldapfiaaGreat.se
open Go.RowKit Go.Maps Go.WideMaps Go.Shelf Go.Proofs.YtnlanemldapfiaaGreat.Tb

section
variable {J Jx : List Pr → World → Prop} {l N : Nat}

theorem all_any (hJd : ∀ pre W, J pre W → J pre W.drew) {Pp : Pr → Prop} (hY : Round Pp J Jx l N) (t : Tr Key Val) : ∀ (n : Nat) (p : Option Addr) (pre : List Pr) (W : World), (∀ q ∈ t.list, Pp q) → TrAt W (.pointer p) t → J pre W → pre.length + t.list.length ≤ N →
    CallsIn Fence.wide n Tryz.prog 69 #[.pointer p, .func (.yield l) #[] #[]] W (AllSays J Jx W pre t.list) := by
  induction t with
  | nil =>
    intro n p pre W _ h hJ _
    cases h
    exact all_nil n pre W hJd hJ
  | node k x s tl tr ihl ihr =>
    intro n p pre W hpp h hJ hN
    obtain ⟨b, lv, rv, hp, hb, hl, hr⟩ := h
    cases hp
    rw [Tr.list] at hN hpp ⊢
    simp only [List.length_append, List.length_cons] at hN
    exact all_node hY (hpp _ (by simp)) ⟨hb⟩ hr (ihl (n - 1) lv pre W.drew (fun q hq => hpp q (by simp [hq])) hl.drew (hJd _ _ hJ) (by omega)) (fun pre W ht hj hn => ihr (n - 1) rv pre W (fun q hq => hpp q (by simp [hq])) ht hj hn) (by omega)
end
end Go.Proofs.YtnlanemldapfiaaGreat.se
