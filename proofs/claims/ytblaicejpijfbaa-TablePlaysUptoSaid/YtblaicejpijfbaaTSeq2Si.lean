/-
  All of a snapshot: what goes over it. (si)
-/
import Derived.Test.YtblaicejpijfbaaTSeqSi
import Derived.Test.YtblaicejpijfbaaTTab2Si
namespace Go.Proofs.Ytblaicejpijfbaa.si
open Go.RowKit Go.Maps Go.WideMaps Go.Shelf Go.Proofs.Ytblaicejpijfbaa.Tb
attribute [local go_sem] Oper.semAt_some

section
variable {w : World} {sp : Nat} {ver : Int} {root : Option Addr}

set_option maxRecDepth 100000 in
set_option maxHeartbeats 1000000 in
theorem sall1_in {J Jx : List Pr → World → Prop} {l N n B1 : Nat} {W : World} {t : Tr Key Val} (hJL : ∀ pre A B, J pre A → Like A B → J pre B) (hY : Round J Jx l N) (hN : t.list.length ≤ N)
    (hB : W.cell? ⟨B1, 0, none⟩ = some (.pointer (some ⟨sp, 0, none⟩))) (h : SnapC W sp root ver) (ht : TrAt W (.pointer root) t) (hj : J [] W) :
    CallsIn Fence.wide n Try.prog 37 #[.func (.yield l) #[] #[], .pointer (some ⟨B1, 0, none⟩)] W (Over J Jx t.list) := by
  have HNOW := Lib.hid (then_any h)
  have HALL := Lib.hid (fun (W1 : World) (hk : Like W W1) => all_any (fun pre W h => hJL pre W W.drew h (like_drew W)) hY t (n - 1) root [] W1 (ht.like hk) (hJL _ _ _ hj hk) (by simpa using hN))
  clear h ht hj hN hY hJL
  refine callsIn_of_wp Try.func37 rfl trivial ?_ rfl
  simp only [Try.ntmps37, List.size_toArray, List.length_cons, List.length_nil, Nat.reduceAdd, Nat.reduceSub, Array.replicate_succ, Array.replicate_zero, List.push_toArray, List.append_toArray, List.nil_append, List.cons_append]
  gi_wp2_with (first | ((first | (refine ⟨trivial, fun h => (by cases h), ?_⟩) | (refine ⟨trivial, ?_⟩)); gi_at_call 38; refine (callsIn_wide.2 HNOW.out).mono ?_; rintro e W1 ⟨rfl, rfl⟩) | ((first | (refine ⟨trivial, fun h => (by cases h), ?_⟩) | (refine ⟨trivial, ?_⟩)); gi_at_call 39; refine (HALL.out _ (Like.refl _)).mono ?_; rintro e W2 (⟨rfl, hj2, hk2⟩ | ⟨rfl, q, hq, hx2⟩)))
  · go_end0
    exact ⟨rfl, .inl ⟨_, rfl, hj2⟩⟩
  · go_end0
    exact ⟨rfl, .inr ⟨_, hq, hx2⟩⟩

set_option maxRecDepth 100000 in
set_option maxHeartbeats 1000000 in
theorem sseq1_in {J Jx : List Pr → World → Prop} {l N n B1 B2 : Nat} {W : World} {t : Tr Key Val} (hJL : ∀ pre A B, J pre A → Like A B → J pre B) (hY : Round J Jx l N) (hN : t.list.length ≤ N)
    (hB2 : W.cell? ⟨B2, 0, none⟩ = some (.func (.func 37) #[] #[.pointer (some ⟨B1, 0, none⟩)]))
    (hB : W.cell? ⟨B1, 0, none⟩ = some (.pointer (some ⟨sp, 0, none⟩))) (h : SnapC W sp root ver) (ht : TrAt W (.pointer root) t) (hj : J [] W) :
    CallsIn Fence.wide n Try.prog 65 #[.func (.yield l) #[] #[], .pointer (some ⟨B2, 0, none⟩)] W (Over J Jx t.list) := by
  have hne : ∀ w : World, (binOp .neq 78 (.func (.yield l) #[] #[]) .nilFunc).run Try.prog w = .ok (.bool true) w := fun w => by kernel_rfl
  have HA := Lib.hid (sall1_in (n := n - 1) hJL hY hN hB h ht hj)
  clear h ht hj hN hY hJL hB
  refine callsIn_of_wp Try.func65 rfl trivial ?_ rfl
  simp only [Try.ntmps65, List.size_toArray, List.length_cons, List.length_nil, Nat.reduceAdd, Nat.reduceSub, Array.replicate_succ, Array.replicate_zero, List.push_toArray, List.append_toArray, List.nil_append, List.cons_append]
  gi_wp2_with ((first | (refine ⟨trivial, fun h => (by cases h), ?_⟩) | (refine ⟨fun _ _ => trivial, fun h => (by cases h), ?_⟩) | (refine ⟨trivial, ?_⟩)); gi_at_call 37; refine HA.out.mono ?_; rintro e W2 ⟨rfl, ho⟩)
  go_end0
  exact ⟨rfl, ho⟩

/-- **what a snapshot's All hands back**: all pairs, by rising keys; or a front of them -/
theorem sall_stops {n B1 B2 : Nat} {t : Tr Key Val} (hB2 : w.cell? ⟨B2, 0, none⟩ = some (.func (.func 37) #[] #[.pointer (some ⟨B1, 0, none⟩)]))
    (hB : w.cell? ⟨B1, 0, none⟩ = some (.pointer (some ⟨sp, 0, none⟩))) (h : SnapC w sp root ver) (ht : TrAt w (.pointer root) t) :
    SeqStopsK Fence.wide n Try.prog 65 #[.pointer (some ⟨B2, 0, none⟩)] encs KeepsN (fun ys => ys = t.list) (fun pre => pre <+: t.list) t.list.length w := by
  intro l J Jx W hW hJ _ hY h0
  have hT : Turn (fun _ => False) w W := Below.turn hW _
  refine (sseq1_in (J := J) (Jx := Jx) (fun pre A B hj hk => abides_like hJ hj hk) (round_of (J := J) (Jx := Jx) hY) (Nat.le_refl _) (turn_cell hT hB2) (turn_cell hT hB) (h.later hT (fun q => q)) (ht.later hT) h0).mono ?_
  rintro e W' ⟨rfl, ho⟩
  exact ⟨⟨_, rfl⟩, ho⟩

set_option maxHeartbeats 400000 in
theorem sall_any (sp : Option Addr) (w : World) : Calls Try.prog 19 #[.pointer sp] w fun r w' => r = .returned (.func (.func 65) #[] #[.pointer (some ⟨w.heap.size + 1, 0, none⟩)]) ∧
    (w.alloc (.cells #[.pointer sp] 39)).alloc (.cells #[.func (.func 37) #[] #[.pointer (some ⟨w.heap.size, 0, none⟩)]] 45) = w' := by
  have hseq : ∀ (fn : Fn) (x y : Array Value) (W : World), Calls Try.prog 36 #[.func fn x y] W fun r w' => r = .returned (.func (.func 65) #[] #[.pointer (some ⟨W.heap.size, 0, none⟩)]) ∧ W.alloc (.cells #[.func fn x y] 45) = w' := by
    intro fn x y W
    go_enter Try.func36, Try.ntmps36
    go_wp2
    go_ret
    exact ⟨rfl, rfl⟩
  have HS := Lib.hid hseq
  clear hseq
  go_enter Try.func19, Try.ntmps19
  go_wp2_with (go_at_call 36; refine (HS.out _ _ _ _).mono ?_; rintro e w' ⟨rfl, rfl⟩)
  go_ret
  exact ⟨by simp, rfl⟩
end
end Go.Proofs.Ytblaicejpijfbaa.si
