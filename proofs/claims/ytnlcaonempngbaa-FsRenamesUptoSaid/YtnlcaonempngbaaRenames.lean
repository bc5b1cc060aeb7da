/-
  FsRenames: the walk.
-/
import Derived.Test.YtnlcaonempngbaaSafe
namespace Go.Proofs.Ytnlcaonempngbaa
open Go.RowKit Go.Maps Go.WideMaps Go.Sort

namespace Fsp
/-- what a rename that is done leaves -/
structure Renamed (S S2 : Fs) (a b : List UInt8) (f : File) : Prop where
  synced : AllSynced S2.L
  at_ : find S2.L b = some f
  gone : a ≠ b → find S2.L a = none
  other : ∀ m, m ≠ a → m ≠ b → find S2.L m = find S.L m

theorem rename_done {S : Fs} {n : Nat} (h : Calm S n) (hs : Sorted S.L) (hsy : AllSynced S.L) {a b : List UInt8} {f : File} (hf : find S.L a = some f) (hv : valid b = true) : ∃ S2, rename S a b = (S2, 0) ∧ Renamed S S2 a b f := by
  have h1 : ¬ S.armed = 1 := by rw [h.armed]; decide
  have hv' : ¬ valid b = false := by rw [hv]; decide
  unfold rename
  simp only [h.down, Bool.false_eq_true, if_false, if_neg h1, hf, if_neg hv']
  by_cases hab : a = b
  · subst hab
    rw [if_pos rfl]
    have hL := stepped_L S
    exact ⟨_, rfl, ⟨by rw [hL]; exact hsy, by rw [hL]; exact hf, fun hne => absurd rfl hne, fun m _ _ => by rw [hL]⟩⟩
  · rw [if_neg hab]
    refine ⟨_, rfl, ⟨?_, find_put_same _ _ _, fun _ => ?_, fun m hma hmb => ?_⟩⟩
    · exact put_synced (del_synced (del_synced hsy b) a) (find_synced hsy hf)
    · show find (put (del (del S.L b) a) b f) a = none
      rw [find_put_other _ hab, find_del_same (del_sorted hs b)]
    · show find (put (del (del S.L b) a) b f) m = find S.L m
      rw [find_put_other _ hmb, find_del_other _ hma, find_del_other _ hmb]
end Fsp

section
variable {w w' : World} {p : Nat} {S S' : Fsp.Fs} {c : Bool} {Q : Nat → Prop} {mo : Option Nat} {pl : List UInt8 → Pl}

theorem enter_renames (args : Array Value) (w : World) : (callFunc 41 args).run Try.prog w = .ok (.enter 41 args) w := by kernel_rfl

theorem renamesKeep_any {s : ByteArray} {n k : Int} {bx : Nat} {w : World} (hc : w.heap[bx]? = some (.cells #[.int .i64 k] 3 (0, 0))) :
    Calls Try.prog 41 #[.string s, .int .i64 n, .pointer (some ⟨bx, 0, none⟩)] w fun r w' => r = .returned (.int .i64 k) ∧ w = w' := by
  have c0 : w.cell? ⟨bx, 0, none⟩ = some (.int .i64 k) := by simp [World.cell?, hc]
  clear hc
  go_enter Try.func41, Try.ntmps41
  go_wp2
  go_ret
  exact ⟨rfl, rfl⟩

theorem keeper_renames (bx : Nat) (k : Int) : Keeper (.func (.func 41) #[] #[.pointer (some ⟨bx, 0, none⟩)]) (fun w _ => w.heap[bx]? = some (.cells #[.int .i64 k] 3 (0, 0))) (fun _ _ => k) (fun b => b = bx) := keeper_box bx k enter_renames (fun s n _ h => renamesKeep_any (s := s) (n := n) h)

end
end Go.Proofs.Ytnlcaonempngbaa
