/-
  Crash: asked, tear.
-/
import Derived.Test.YtjjajnfkngfpjaaGreatDoorOps7
import Derived.Tactics
import Derived.Tactics2
import Derived.Defers
import Derived.Recover
import Derived.Laws.Pointers
namespace Go.Proofs.YtjjajnfkngfpjaaGreatDoor
open Go.RowKit Go.Maps Go.WideMaps

section
variable {w w' : World} {p : Nat} {S S' : Fsp.Fs} {c c' : Bool} {Q : Nat → Prop} {mo : Option Nat} {pl : List UInt8 → Pl}

theorem catch_idle (a : Addr) (w : World) :
    CallsD Tryz.prog 89 #[.pointer (some a)] .returning w fun e u' w' => e = .returned (.tuple #[]) ∧ u' = .returning ∧ w' = w := by
  refine callsD_of_wpS Tryz.func89 rfl fun c₀ cs hu => ?_
  apply wpS_seq
  apply wpS_region
  simp [wpOpsS, go_sem, recoverD, hu, Tryz.ntmps89, Exit.thenS]
  refine wpS_cond (t := false) (by simp [Act.eval, Array.replicate]) ?_
  simp only [Bool.false_eq_true, if_false]
  refine wpS_of_wp (wp_skip ?_)
  cases c₀
  simp_all [bodyPostS, results, Tryz.results89]

theorem eqlNil (w : World) : (binOp .eql 39 .nilFunc .nilFunc).run Tryz.prog w = .ok (.bool true) w := by kernel_rfl
theorem eqlFn (g : Nat) (caps : Array Value) (w : World) : (binOp .eql 39 (.func (.func g) #[] caps) .nilFunc).run Tryz.prog w = .ok (.bool false) w := by kernel_rfl

set_option maxRecDepth 100000 in
theorem asked_nil (s : ByteArray) (n : Int) (w : World) :
    Calls Tryz.prog 74 #[.nilFunc, .string s, .int .i64 n] w fun r w' => r = .returned (.int .i64 0) ∧ Turn (fun _ => False) w w' := by
  have h1 := eqlNil
  go_enter_defers Tryz.func74, Tryz.ntmps74
  go_wp2
  have ht : Turn (fun _ => False) w (w.alloc (.cells #[.int .i64 0] 3)) := (Turn.refl _ w).alloc _
  simp [bodyPostD, Leaves, results, Tryz.results74, go_sem, ht]

/-- what a crash is to ask: kf says what it answers; I holds of the worlds in which it was asked so far; its own blocks are Qc -/
structure Keeper (kv : Value) (I : World → List (List UInt8 × Nat) → Prop) (kf : List UInt8 → Nat → Int) (Qc : Nat → Prop) : Prop where
  stable : ∀ (Q : Nat → Prop) (w w' : World) (l : List (List UInt8 × Nat)), I w l → Turn Q w w' → (∀ b, Qc b → ¬ Q b) → I w' l
  lt : ∀ (w : World) (l : List (List UInt8 × Nat)), I w l → ∀ b, Qc b → b < w.heap.size
  asks : ∀ (s : ByteArray) (n : Nat) (w : World) (l : List (List UInt8 × Nat)), I w l → s.size ≤ maxLen → n ≤ 67108864 →
    Calls Tryz.prog 74 #[kv, .string s, .int .i64 n] w fun r w' => r = .returned (.int .i64 (kf s.data.toList n)) ∧ I w' (l ++ [(s.data.toList, n)]) ∧ Turn Qc w w'

theorem keeper_nil : Keeper .nilFunc (fun _ _ => True) (fun _ _ => 0) (fun _ => False) where
  stable := fun _ _ _ _ _ _ _ => trivial
  lt := fun _ _ _ _ q => q.elim
  asks := fun s n _ _ _ _ _ => (asked_nil s n _).mono fun _ _ ⟨h1, h2⟩ => ⟨h1, trivial, h2⟩

set_option maxRecDepth 100000 in
/-- a function value: by its own contract -/
theorem asked_some {g : Nat} {caps : Array Value} {I : World → List (List UInt8 × Nat) → Prop} {kf : List UInt8 → Nat → Int} {Qc : Nat → Prop} (hent : ∀ args w, (callFunc g args).run Tryz.prog w = .ok (.enter g args) w)
    (stable : ∀ (Q : Nat → Prop) (w w' : World) (l : List (List UInt8 × Nat)), I w l → Turn Q w w' → (∀ b, Qc b → ¬ Q b) → I w' l)
    (lt : ∀ (w : World) (l : List (List UInt8 × Nat)), I w l → ∀ b, Qc b → b < w.heap.size)
    (hcall : ∀ (s : ByteArray) (n : Nat) (w : World) (l : List (List UInt8 × Nat)), I w l → s.size ≤ maxLen → n ≤ 67108864 →
      Calls Tryz.prog g (#[.string s, .int .i64 n] ++ caps) w fun r w' => r = .returned (.int .i64 (kf s.data.toList n)) ∧ I w' (l ++ [(s.data.toList, n)]) ∧ Turn Qc w w')
    (s : ByteArray) (n : Nat) (w : World) (l : List (List UInt8 × Nat)) (hI : I w l) (hz : s.size ≤ maxLen) (hn : n ≤ 67108864) :
    Calls Tryz.prog 74 #[.func (.func g) #[] caps, .string s, .int .i64 n] w fun r w' => r = .returned (.int .i64 (kf s.data.toList n)) ∧ I w' (l ++ [(s.data.toList, n)]) ∧ Turn Qc w w' := by
  have hmf : ∀ (fn : Fn) (first cap : Array Value) (w : World), (Instr.makeFunc fn first cap).run Tryz.prog w = .ok (.func fn first cap) w := fun _ _ _ _ => rfl
  have h1 := eqlFn g caps
  have hI1 : I (w.alloc (.cells #[.int .i64 0] 3)) l := stable _ _ _ _ hI ((Turn.refl (fun _ => False) w).alloc _) (fun _ _ q => q)
  have hlt := lt _ _ hI
  have hc := hcall s n _ _ hI1 hz hn
  have HC := Lib.hid hc
  have HT := Lib.hid hlt
  have HI := Lib.hid hI1
  have HE := Lib.hid stable
  clear hc hcall hlt hn hI1 stable lt hI
  go_enter_defers Tryz.func74, Tryz.ntmps74
  go_wp2_with fail
  refine HC.out.mono ?_
  rintro r w2 ⟨rfl, hI2, ht2⟩
  have hb : w2.heap[w.heap.size]? = some (.cells #[.int .i64 0] 3 (0, 0)) := (ht2.block w.heap.size (by simp) (fun q => by have := HT.out _ q; omega)).trans (heap_alloc_new _ _)
  have k0 : w2.cell? ⟨w.heap.size, 0, none⟩ = some (.int .i64 0) := by simp [World.cell?, hb]
  have k1 : w2.frozen? ⟨w.heap.size, 0, none⟩ = false := by simp [World.frozen?, hb]
  have h3 : (w2.setCell ⟨w.heap.size, 0, none⟩ (.int .i64 (kf s.data.toList n))).cell? ⟨w.heap.size, 0, none⟩ = some (.int .i64 (kf s.data.toList n)) := by
    simp [World.cell?, heap_setCell_same hb]
  have t2 : Turn Qc w w2 := ((Turn.refl Qc w).alloc _).trans ht2 (fun _ _ q => q)
  have t3 : Turn Qc w (w2.setCell ⟨w.heap.size, 0, none⟩ (.int .i64 (kf s.data.toList n))) := t2.set _ _ (Or.inr (Nat.le_refl _)) _
  have i3 : I (w2.setCell ⟨w.heap.size, 0, none⟩ (.int .i64 (kf s.data.toList n))) (l ++ [(s.data.toList, n)]) := HE.out _ _ _ _ hI2 (turnP _ _ _ _) (fun b q e => by have := HT.out _ q; omega)
  have H3 := Lib.hid t3
  have HJ := Lib.hid i3
  clear t3 i3 t2 hI2
  go_wp2
  refine leaves_cons (f := 89) (args := #[.pointer (some ⟨w.heap.size, 0, none⟩)]) (by simp) (by simp [go_sem]) ?_
  refine (catch_idle ⟨w.heap.size, 0, none⟩ _).mono ?_
  rintro e u' w'' ⟨rfl, rfl, rfl⟩
  have g3 := H3.out
  have g4 := HJ.out
  simp [Leaves, settle, results, Tryz.results74, go_sem, h3]
  exact ⟨g4, g3⟩

theorem keeper_some {g : Nat} {caps : Array Value} {I : World → List (List UInt8 × Nat) → Prop} {kf : List UInt8 → Nat → Int} {Qc : Nat → Prop} (hent : ∀ args w, (callFunc g args).run Tryz.prog w = .ok (.enter g args) w)
    (stable : ∀ (Q : Nat → Prop) (w w' : World) (l : List (List UInt8 × Nat)), I w l → Turn Q w w' → (∀ b, Qc b → ¬ Q b) → I w' l)
    (lt : ∀ (w : World) (l : List (List UInt8 × Nat)), I w l → ∀ b, Qc b → b < w.heap.size)
    (hcall : ∀ (s : ByteArray) (n : Nat) (w : World) (l : List (List UInt8 × Nat)), I w l → s.size ≤ maxLen → n ≤ 67108864 →
      Calls Tryz.prog g (#[.string s, .int .i64 n] ++ caps) w fun r w' => r = .returned (.int .i64 (kf s.data.toList n)) ∧ I w' (l ++ [(s.data.toList, n)]) ∧ Turn Qc w w') : Keeper (.func (.func g) #[] caps) I kf Qc where
  stable := stable
  lt := lt
  asks := fun s n w l hI hz hn => asked_some hent stable lt hcall s n w l hI hz hn

end
end Go.Proofs.YtjjajnfkngfpjaaGreatDoor
