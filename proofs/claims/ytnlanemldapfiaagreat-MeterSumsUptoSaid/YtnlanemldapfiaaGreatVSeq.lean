/-
  All of a meter's table: what goes over it.
-/
import Derived.Test.YtnlanemldapfiaaGreatVAll2
import Derived.Test.YtnlanemldapfiaaGreatVTab
namespace Go.Proofs.YtnlanemldapfiaaGreat.se
open Go.RowKit Go.Maps Go.WideMaps Go.Shelf Go.Proofs.YtnlanemldapfiaaGreat.Tb
attribute [local go_sem] Oper.semAt_some

theorem like_grown {A B : World} (h : Like A B) (row : Option Nat) : A.grownBy B row := ⟨h.os, h.tape, h.output, by rw [h.heap]; exact Nat.le_refl _, fun k _ _ => by rw [h.heap]⟩

theorem abides_like {B0 : Nat} {J : List Pr → World → Prop} (hJ : AbidesFrom B0 J) {pre : List Pr} {A B : World} (hj : J pre A) (h : Like A B) : J pre B := hJ pre A B none hj (like_grown h none) (fun r e => by cases e)

theorem KeepsN.like {A B : World} (h : Like A B) : KeepsN A B := KeepsN.turn (h.turn (fun _ => False)) (fun _ _ _ q => q.elim)

section
variable {w : World} {mp : Nat} {s ver rep : Int} {root : Option Addr}

/-- what goes over a tree hands back -/
def Over (J Jx : List Pr → World → Prop) (xs : List Pr) (e : Ending) (W' : World) : Prop := e = .returned (.tuple #[]) ∧ ((∃ ys, ys = xs ∧ J ys W') ∨ (∃ pre, pre <+: xs ∧ Jx pre W'))

set_option maxRecDepth 100000 in
set_option maxHeartbeats 1000000 in
theorem all1_in {J Jx : List Pr → World → Prop} {l N n B1 : Nat} {W : World} {t : Tr Key Val} (hJL : ∀ pre A B, J pre A → Like A B → J pre B) {Pp : Pr → Prop} (hY : Round Pp J Jx l N) (hpp : ∀ q ∈ t.list, Pp q) (hN : t.list.length ≤ N)
    (hB : W.cell? ⟨B1, 0, none⟩ = some (.pointer (some ⟨mp, 2, none⟩))) (h : MetC W mp s 0 0 root ver rep) (ht : TrAt W (.pointer root) t) (hj : J [] W) :
    CallsIn Fence.wide n Tryz.prog 68 #[.func (.yield l) #[] #[], .pointer (some ⟨B1, 0, none⟩)] W (Over J Jx t.list) := by
  have HNOW := Lib.hid (now_q h)
  have HALL := Lib.hid (fun (W1 : World) (hk : Like W W1) => all_any (fun pre W h => hJL pre W W.drew h (like_drew W)) hY t (n - 1) root [] W1 hpp (ht.like hk) (hJL _ _ _ hj hk) (by simpa using hN))
  clear h ht hj hN hY hJL hpp
  refine callsIn_of_wp Tryz.func68 rfl trivial ?_ rfl
  simp only [Tryz.ntmps68, List.size_toArray, List.length_cons, List.length_nil, Nat.reduceAdd, Nat.reduceSub, Array.replicate_succ, Array.replicate_zero, List.push_toArray, List.append_toArray, List.nil_append, List.cons_append]
  gi_wp2_with (first | ((first | (refine ⟨trivial, fun h => (by cases h), ?_⟩) | (refine ⟨trivial, ?_⟩)); gi_at_call 50; refine (callsIn_wide.2 HNOW.out).mono ?_; rintro e W1 ⟨rfl, rfl⟩) | ((first | (refine ⟨trivial, fun h => (by cases h), ?_⟩) | (refine ⟨trivial, ?_⟩)); gi_at_call 69; refine (HALL.out _ (Like.refl _)).mono ?_; rintro e W2 (⟨rfl, hj2, hk2⟩ | ⟨rfl, q, hq, hx2⟩)))
  · go_end0
    exact ⟨rfl, .inl ⟨_, rfl, hj2⟩⟩
  · go_end0
    exact ⟨rfl, .inr ⟨_, hq, hx2⟩⟩

set_option maxRecDepth 100000 in
set_option maxHeartbeats 1000000 in
theorem seq1_in {J Jx : List Pr → World → Prop} {l N n B1 B2 : Nat} {W : World} {t : Tr Key Val} (hJL : ∀ pre A B, J pre A → Like A B → J pre B) {Pp : Pr → Prop} (hY : Round Pp J Jx l N) (hpp : ∀ q ∈ t.list, Pp q) (hN : t.list.length ≤ N)
    (hB2 : W.cell? ⟨B2, 0, none⟩ = some (.func (.func 68) #[] #[.pointer (some ⟨B1, 0, none⟩)]))
    (hB : W.cell? ⟨B1, 0, none⟩ = some (.pointer (some ⟨mp, 2, none⟩))) (h : MetC W mp s 0 0 root ver rep) (ht : TrAt W (.pointer root) t) (hj : J [] W) :
    CallsIn Fence.wide n Tryz.prog 95 #[.func (.yield l) #[] #[], .pointer (some ⟨B2, 0, none⟩)] W (Over J Jx t.list) := by
  have hne : ∀ w : World, (binOp .neq 123 (.func (.yield l) #[] #[]) .nilFunc).run Tryz.prog w = .ok (.bool true) w := fun w => by kernel_rfl
  have HA := Lib.hid (all1_in (n := n - 1) hJL hY hpp hN hB h ht hj)
  clear h ht hj hN hY hJL hB hpp
  refine callsIn_of_wp Tryz.func95 rfl trivial ?_ rfl
  simp only [Tryz.ntmps95, List.size_toArray, List.length_cons, List.length_nil, Nat.reduceAdd, Nat.reduceSub, Array.replicate_succ, Array.replicate_zero, List.push_toArray, List.append_toArray, List.nil_append, List.cons_append]
  gi_wp2_with ((first | (refine ⟨trivial, fun h => (by cases h), ?_⟩) | (refine ⟨fun _ _ => trivial, fun h => (by cases h), ?_⟩) | (refine ⟨trivial, ?_⟩)); gi_at_call 68; refine HA.out.mono ?_; rintro e W2 ⟨rfl, ho⟩)
  go_end0
  exact ⟨rfl, ho⟩

/-- a pair of a tree -/
abbrev PrT (t : Tr Key Val) : Type := { p : Pr // p ∈ t.list }
abbrev encT {t : Tr Key Val} (x : PrT t) : Array Value := encs x.1

theorem round_of {t : Tr Key Val} {J Jx : List (PrT t) → World → Prop} {l N m : Nat} (hY : ∀ pre x W1, J pre W1 → pre.length < N → YieldAt Fence.wide m Tryz.prog l (encT x) W1 fun e W' =>
      (e = .returned (.bool true) ∧ J (pre ++ [x]) W' ∧ KeepsN W1 W') ∨ (e = .returned (.bool false) ∧ Jx (pre ++ [x]) W')) :
    Round (fun p => p ∈ t.list) (fun pre W => ∃ ys : List (PrT t), ys.map Subtype.val = pre ∧ J ys W) (fun pre W => ∃ ys : List (PrT t), ys.map Subtype.val = pre ∧ Jx ys W) l N := by
  rintro k pre x W hx ⟨ys, rfl, hj⟩ hl
  obtain ⟨fn, tmps, assign, body, hy, h1, h2⟩ := hY ys ⟨x, hx⟩ W hj (by simpa using hl)
  refine ⟨fn, tmps, assign, body, hy, RoundIn.mono ⟨h1, fun c cs _ => h2 c cs (fun d hd => by cases hd)⟩ ?_⟩
  rintro e W' (⟨rfl, hj2, hk2⟩ | ⟨rfl, hx2⟩)
  · exact .inl ⟨rfl, ⟨_, by simp, hj2⟩, hk2⟩
  · exact .inr ⟨rfl, _, by simp, hx2⟩

/-- **what All hands back**: all pairs, by rising keys; or a front of them -/
theorem tall_stops {n B1 B2 : Nat} {t : Tr Key Val} (hB2 : w.cell? ⟨B2, 0, none⟩ = some (.func (.func 68) #[] #[.pointer (some ⟨B1, 0, none⟩)]))
    (hB : w.cell? ⟨B1, 0, none⟩ = some (.pointer (some ⟨mp, 2, none⟩))) (h : MetC w mp s 0 0 root ver rep) (ht : TrAt w (.pointer root) t) :
    SeqStopsK Fence.wide n Tryz.prog 95 #[.pointer (some ⟨B2, 0, none⟩)] (encT (t := t)) KeepsN (fun ys => ys.map Subtype.val = t.list) (fun pre => pre.map Subtype.val <+: t.list) t.list.length w := by
  intro l J Jx W hW hJ _ hY h0
  have hT : Turn (fun _ => False) w W := Below.turn hW _
  refine (seq1_in (J := fun pre W => ∃ ys : List (PrT t), ys.map Subtype.val = pre ∧ J ys W) (Jx := fun pre W => ∃ ys : List (PrT t), ys.map Subtype.val = pre ∧ Jx ys W) ?_ (round_of (J := J) (Jx := Jx) hY) (fun q hq => hq) (Nat.le_refl _) (turn_cell hT hB2) (turn_cell hT hB) (h.later hT (fun q => q)) (ht.later hT) ⟨[], rfl, h0⟩).mono ?_
  · rintro pre A B ⟨ys, e, hj⟩ hk
    refine ⟨ys, e, hJ ys A B none hj (like_grown hk none) (fun r e => by cases e)⟩
  rintro e W' ⟨rfl, ho⟩
  refine ⟨⟨_, rfl⟩, ?_⟩
  rcases ho with ⟨_, rfl, ys, e, hj⟩ | ⟨pre, hp, ys, rfl, hj⟩
  · exact .inl ⟨ys, e, hj⟩
  · exact .inr ⟨ys, hp, hj⟩

set_option maxHeartbeats 400000 in
theorem tall_any (tp : Option Addr) (w : World) : Calls Tryz.prog 43 #[.pointer tp] w fun r w' => r = .returned (.func (.func 95) #[] #[.pointer (some ⟨w.heap.size + 1, 0, none⟩)]) ∧
    (w.alloc (.cells #[.pointer tp] 101)).alloc (.cells #[.func (.func 68) #[] #[.pointer (some ⟨w.heap.size, 0, none⟩)]] 99) = w' := by
  have hmf : ∀ (fn : Fn) (first cap : Array Value) (w : World), (Instr.makeFunc fn first cap).run Tryz.prog w = .ok (.func fn first cap) w := fun _ _ _ _ => rfl
  have hseq : ∀ (fn : Fn) (x y : Array Value) (W : World), Calls Tryz.prog 67 #[.func fn x y] W fun r w' => r = .returned (.func (.func 95) #[] #[.pointer (some ⟨W.heap.size, 0, none⟩)]) ∧ W.alloc (.cells #[.func fn x y] 99) = w' := by
    intro fn x y W
    go_enter Tryz.func67, Tryz.ntmps67
    go_wp2
    go_ret
    exact ⟨rfl, rfl⟩
  have HS := Lib.hid hseq
  clear hseq
  go_enter Tryz.func43, Tryz.ntmps43
  go_wp2_with (go_at_call 67; refine (HS.out _ _ _ _).mono ?_; rintro e w' ⟨rfl, rfl⟩)
  go_ret
  exact ⟨by simp, rfl⟩
end
end Go.Proofs.YtnlanemldapfiaaGreat.se
