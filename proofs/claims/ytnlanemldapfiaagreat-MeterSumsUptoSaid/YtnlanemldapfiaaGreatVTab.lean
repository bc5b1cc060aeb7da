/-
  A meter in memory: its lock, its table of events, its repeats; New, kept, Len, Repeats.
-/
import Derived.Test.YtnlanemldapfiaaGreatVAll2
import Derived.Test.YtnlanemldapfiaaGreatVName
import Derived.Test.YtnlanemldapfiaaGreatTLocks
import Derived.Conc.RwLoneW
namespace Go.Proofs.YtnlanemldapfiaaGreat.se
open Go.RowKit Go.Maps Go.WideMaps Go.RwLone Go.Proofs.YtnlanemldapfiaaGreat.Tb

/-- a meter's cells: its lock's two, the table's lock's six, the root, the version, the repeats -/
abbrev mCells (s m rc : Int) (root : Option Addr) (ver rep : Int) : Array Value := #[.int .i32 s, .int .u32 0, .int .i32 m, .int .u32 0, .int .u32 0, .int .u32 0, .int .i32 rc, .int .i32 0, .pointer root, .int .i64 ver, .int .i64 rep]

def MetC (w : World) (mp : Nat) (s m rc : Int) (root : Option Addr) (ver rep : Int) : Prop := w.heap[mp]? = some (.cells (mCells s m rc root ver rep) 75 (0, 0))

theorem new_any (w : World) : Calls Tryz.prog 8 #[] w fun r w' => r = .returned (.pointer (some ⟨w.heap.size, 0, none⟩)) ∧ w.alloc (.cells (mCells 0 0 0 none 0 0) 75) = w' := by
  go_enter Tryz.func8, Tryz.ntmps8
  go_wp2
  go_ret
  exact ⟨rfl, rfl⟩

section
variable {w w' : World} {mp : Nat} {s m rc ver rep : Int} {root : Option Addr}

theorem MetC.cell (h : MetC w mp s m rc root ver rep) (j : Nat) : w.cell? ⟨mp, j, none⟩ = (mCells s m rc root ver rep)[j]? := by
  unfold MetC at h
  simp only [World.cell?, h]
  rfl
theorem MetC.free (h : MetC w mp s m rc root ver rep) (j : Nat) : w.frozen? ⟨mp, j, none⟩ = false := by
  unfold MetC at h
  simp [World.frozen?, h]
theorem MetC.set0 (h : MetC w mp s m rc root ver rep) (x : Int) : MetC (w.setCell ⟨mp, 0, none⟩ (.int .i32 x)) mp x m rc root ver rep := heap_setCell_same h _
theorem MetC.set2 (h : MetC w mp s m rc root ver rep) (x : Int) : MetC (w.setCell ⟨mp, 2, none⟩ (.int .i32 x)) mp s x rc root ver rep := heap_setCell_same h _
theorem MetC.set6 (h : MetC w mp s m rc root ver rep) (x : Int) : MetC (w.setCell ⟨mp, 6, none⟩ (.int .i32 x)) mp s m x root ver rep := heap_setCell_same h _
theorem MetC.set8 (h : MetC w mp s m rc root ver rep) (x : Option Addr) : MetC (w.setCell ⟨mp, 8, none⟩ (.pointer x)) mp s m rc x ver rep := heap_setCell_same h _
theorem MetC.set9 (h : MetC w mp s m rc root ver rep) (x : Int) : MetC (w.setCell ⟨mp, 9, none⟩ (.int .i64 x)) mp s m rc root x rep := heap_setCell_same h _
theorem MetC.set10 (h : MetC w mp s m rc root ver rep) (x : Int) : MetC (w.setCell ⟨mp, 10, none⟩ (.int .i64 x)) mp s m rc root ver x := heap_setCell_same h _
theorem MetC.later (h : MetC w mp s m rc root ver rep) {Q : Nat → Prop} (ht : Turn Q w w') (hq : ¬ Q mp) : MetC w' mp s m rc root ver rep := (ht.block mp (Array.getElem?_eq_some_iff.1 h).1 hq).trans h
theorem MetC.noNode (h : MetC w mp s m rc root ver rep) : NoNode w (fun b => b = mp) := by
  intro b cs fr e
  subst e
  unfold MetC at h
  rw [h]
  intro q
  cases q
theorem turn1 (w : World) (mp j : Nat) (v : Value) : Turn (fun b => b = mp) w (w.setCell ⟨mp, j, none⟩ v) := Turn.setCell (Turn.refl (fun b => b = mp) w) (p := ⟨mp, j, none⟩) (Or.inl rfl) v

/-- the table's lock goes up and down again -/
theorem set_back (h : MetC w mp s m rc root ver rep) (x : Int) : (w.setCell ⟨mp, 6, none⟩ (.int .i32 x)).setCell ⟨mp, 6, none⟩ (.int .i32 rc) = w := by
  have h1 : ((w.setCell ⟨mp, 6, none⟩ (.int .i32 x)).setCell ⟨mp, 6, none⟩ (.int .i32 rc)).heap = w.heap := by
    apply Array.ext_getElem?
    intro i
    by_cases e : i = mp
    · subst e
      have h1 : MetC ((w.setCell ⟨i, 6, none⟩ (.int .i32 x)).setCell ⟨i, 6, none⟩ (.int .i32 rc)) i s m rc root ver rep := (h.set6 x).set6 rc
      unfold MetC at h1 h
      rw [h1, h]
    · rw [heap_setCell_other e, heap_setCell_other e]
  obtain ⟨hp, tape, drawn, os, out⟩ := w
  simp only [World.setCell] at h1 ⊢
  rw [h1]

theorem one32 : wrap32 (0 + 1) = 1 := by kernel_rfl
theorem zero32 : wrap32 (1 + -1) = 0 := by kernel_rfl

set_option maxRecDepth 100000 in
set_option maxHeartbeats 1600000 in
theorem now_q (h : MetC w mp s 0 0 root ver rep) : Calls Tryz.prog 50 #[.pointer (some ⟨mp, 2, none⟩)] w fun r w' => r = .returned (.pointer root) ∧ w' = w := by
  have hc6 : (w.setCell ⟨mp, 6, none⟩ (.int .i32 1)).cell? ⟨mp, 8, none⟩ = some (.pointer root) := (h.set6 1).cell 8
  have HT := Lib.hid h
  clear h
  go_enter_defers Tryz.func50, Tryz.ntmps50
  go_wp2_with (go_at_call 80; refine (rlock_open Tryz.rwRLib mp 2 0 (.int .i32 0) (.int .u32 0) _ (HT.out.cell 2) (HT.out.cell 5) (HT.out.cell 6) (HT.out.free 6) (by rw [one32]; decide)).mono ?_; rw [one32]; rintro e w' ⟨rfl, rfl⟩)
  refine leaves_cons (f := 81) (args := #[.pointer (some ⟨mp, 2, none⟩)]) (by simp) (by simp [go_sem]) ?_
  refine (runlock_deferred Tryz.rwRLib mp 2 1 (.int .i32 0) (.int .u32 0) .returning _ ((HT.out.set6 1).cell 2) ((HT.out.set6 1).cell 4) ((HT.out.set6 1).cell 6) ((HT.out.set6 1).free 6) (by rw [zero32]; decide)).mono ?_
  rw [zero32]
  rintro e u' w'' ⟨rfl, rfl, rfl⟩
  exact ⟨_, results_tmp rfl _ _ _, rfl, set_back HT.out 1⟩

theorem load_any (h : MetC w mp s m rc root ver rep) : Calls Tryz.prog 36 #[.pointer (some ⟨mp, 10, none⟩)] w fun r w' => r = .returned (.int .i64 rep) ∧ w = w' := by
  have hl := run_call_load (P := Tryz.prog) Tryz.func64 (by kernel_rfl) (by kernel_rfl) (by kernel_rfl) .i64 (by kernel_rfl) (h.cell 10)
  go_enter Tryz.func36, Tryz.ntmps36
  go_wp2
  go_ret
  exact ⟨rfl, rfl⟩

theorem addv_any (h : MetC w mp s m rc root ver rep) (h0 : 0 ≤ ver) (h1 : ver < 1000000000000000) : Calls Tryz.prog 24 #[.pointer (some ⟨mp, 9, none⟩), .int .i64 1] w fun r w' => r = .returned (.int .i64 (ver + 1)) ∧ w.setCell ⟨mp, 9, none⟩ (.int .i64 (ver + 1)) = w' := by
  have hs : (Op.intArith .add .i64 ver 1).run Tryz.prog w = .ok (.int .i64 (ver + 1)) w := by
    simp [go_sem]
    rw [IntWalk.i64_in _ (by omega)]
  have hl := run_call_add (P := Tryz.prog) Tryz.func52 (by kernel_rfl) (by kernel_rfl) (by kernel_rfl) .i64 (by kernel_rfl) (h.cell 9) (h.free 9) hs
  go_enter Tryz.func24, Tryz.ntmps24
  go_wp2
  go_ret
  exact ⟨rfl, rfl⟩

theorem addr_any (h : MetC w mp s m rc root ver rep) (h0 : 0 ≤ rep) (h1 : rep < 1000000000000000) : Calls Tryz.prog 24 #[.pointer (some ⟨mp, 10, none⟩), .int .i64 1] w fun r w' => r = .returned (.int .i64 (rep + 1)) ∧ w.setCell ⟨mp, 10, none⟩ (.int .i64 (rep + 1)) = w' := by
  have hs : (Op.intArith .add .i64 rep 1).run Tryz.prog w = .ok (.int .i64 (rep + 1)) w := by
    simp [go_sem]
    rw [IntWalk.i64_in _ (by omega)]
  have hl := run_call_add (P := Tryz.prog) Tryz.func52 (by kernel_rfl) (by kernel_rfl) (by kernel_rfl) .i64 (by kernel_rfl) (h.cell 10) (h.free 10) hs
  go_enter Tryz.func24, Tryz.ntmps24
  go_wp2
  go_ret
  exact ⟨rfl, rfl⟩

theorem len_q (h : MetC w mp s 0 0 root ver rep) {t : Tr Key Val} (ht : TrAt w (.pointer root) t) {n : Nat} (hn : n = t.count) : Calls Tryz.prog 25 #[.pointer (some ⟨mp, 2, none⟩)] w fun r w' => r = .returned (.int .i64 (n : Nat)) ∧ w' = w := by
  have HN := Lib.hid (now_q h)
  have HC := Lib.hid (count_q ht hn)
  clear h ht hn
  go_enter Tryz.func25, Tryz.ntmps25
  go_wp2_with (first | (go_at_call 50; refine HN.out.mono ?_; rintro e w1 ⟨rfl, rfl⟩) | (go_at_call 53; refine HC.out.mono ?_; rintro e w' ⟨rfl, rfl⟩))
  go_ret
  exact ⟨rfl, rfl⟩

theorem kept_any (mp : Nat) (w : World) : Calls Tryz.prog 42 #[.pointer (some ⟨mp, 0, none⟩)] w fun r w' => r = .returned (.pointer (some ⟨mp, 2, none⟩)) ∧ w' = w := by
  go_enter Tryz.func42, Tryz.ntmps42
  go_wp2
  go_ret
  exact ⟨rfl, rfl⟩

theorem mlen_any (h : MetC w mp s 0 0 root ver rep) {t : Tr Key Val} (ht : TrAt w (.pointer root) t) {n : Nat} (hn : n = t.count) : Calls Tryz.prog 20 #[.pointer (some ⟨mp, 0, none⟩)] w fun r w' => r = .returned (.int .i64 (n : Nat)) ∧ w' = w := by
  have HL := Lib.hid (len_q h ht hn)
  clear h ht hn
  go_enter Tryz.func20, Tryz.ntmps20
  go_wp2_with (first | (go_at_call 42; refine (kept_any _ _).mono ?_; rintro e w1 ⟨rfl, rfl⟩) | (go_at_call 25; refine HL.out.mono ?_; rintro e w' ⟨rfl, rfl⟩))
  go_ret
  exact ⟨rfl, rfl⟩

theorem repeats_any (h : MetC w mp s m rc root ver rep) : Calls Tryz.prog 16 #[.pointer (some ⟨mp, 0, none⟩)] w fun r w' => r = .returned (.int .i64 rep) ∧ w' = w := by
  have HL := Lib.hid (load_any h)
  clear h
  go_enter Tryz.func16, Tryz.ntmps16
  go_wp2_with (go_at_call 36; refine HL.out.mono ?_; rintro e w' ⟨rfl, rfl⟩)
  go_ret
  exact ⟨rfl, rfl⟩
end
end Go.Proofs.YtnlanemldapfiaaGreat.se
