/-
  The chapter's example of an allocation: 34, 33, 33.
-/
import Derived.Test.YtopklnaahdjafaaGreatDoorMThree
namespace Go.Proofs.YtopklnaahdjafaaGreatDoor
open Go.RowKit Go.Shelf
set_option linter.unusedVariables false

set_option maxRecDepth 20000 in
theorem allocated3 {b : Nat} {w : World} (hb : At w b #[.int .i64 1, .int .i64 1, .int .i64 1]) :
    Calls Tryz.prog 42 #[.int .i64 100, .slice (some ⟨b, 0, none⟩) 3 3, .int .i64 3] w fun e w' => e = .returned (.slice (some ⟨w.heap.size, 0, none⟩) 3 3) ∧ At w' w.heap.size #[.int .i64 34, .int .i64 1, .int .i64 33, .int .i64 1, .int .i64 33, .int .i64 1] ∧ Only w w' := by
  have hmk : ∀ w, (Instr.makeSlice 77 (.int .i64 3) (.int .i64 3)).run Tryz.prog w = .ok (.slice (some ⟨w.heap.size, 0, none⟩) 3 3) (w.alloc (.cells #[.int .i64 0, .int .i64 0, .int .i64 0, .int .i64 0, .int .i64 0, .int .i64 0] 80)) := fun _ => by kernel_rfl
  have S : ∀ w, Calls Tryz.prog 75 #[.int .i64 100, .int .i64 1, .int .i64 3] w fun e w' => e = .returned (.agg #[.int .i64 33, .int .i64 1]) ∧ Only w w' := fun w => share_any (n := 100) (u := 1) (t := 3) (by decide) (by decide) (by decide) w
  have S := Lib.hid S
  have ht := (Only.refl w).alloc (.cells #[.int .i64 0, .int .i64 0, .int .i64 0, .int .i64 0, .int .i64 0, .int .i64 0] 80)
  have hN := At.new w #[.int .i64 0, .int .i64 0, .int .i64 0, .int .i64 0, .int .i64 0, .int .i64 0] 80
  have HB := Lib.hid hb
  clear hb
  go_enter Tryz.func42, Tryz.ntmps42
  go_wp2_with fail
  go_loopw [8, 19] (fun l i wr => ((l = .int .i64 100 ∧ i = .int .i64 0 ∧ At wr w.heap.size #[.int .i64 0, .int .i64 0, .int .i64 0, .int .i64 0, .int .i64 0, .int .i64 0]) ∨ (l = .int .i64 67 ∧ i = .int .i64 1 ∧ At wr w.heap.size #[.int .i64 33, .int .i64 1, .int .i64 0, .int .i64 0, .int .i64 0, .int .i64 0]) ∨ (l = .int .i64 34 ∧ i = .int .i64 2 ∧ At wr w.heap.size #[.int .i64 33, .int .i64 1, .int .i64 33, .int .i64 1, .int .i64 0, .int .i64 0]) ∨ (l = .int .i64 1 ∧ i = .int .i64 3 ∧ At wr w.heap.size #[.int .i64 33, .int .i64 1, .int .i64 33, .int .i64 1, .int .i64 33, .int .i64 1])) ∧ Only w wr) (fun _ i _ => 3 - (intOf i).toNat)
  case atStart => exact ⟨Or.inl ⟨rfl, rfl, hN⟩, ht⟩
  case round =>
    clear hN ht hmk
    obtain ⟨h0, ht⟩ := hrel
    have gb := HB.out.only ht
    rcases h0 with ⟨rfl, rfl, hA⟩ | ⟨rfl, rfl, hA⟩ | ⟨rfl, rfl, hA⟩ | ⟨rfl, rfl, hA⟩
    · have b0 := gb.cell 0 (.int .i64 1) rfl
      clear gb
      go_wp2_with fail
      go_at_call 75
      refine (S.out _).mono ?_
      rintro r w1 ⟨rfl, t1⟩
      have h1 := hA.only t1
      have f0 := h1.free 0
      have f1 := h1.free 1
      have c0 := h1.cell 0 (.int .i64 0) rfl
      have c1 := h1.cell 1 (.int .i64 0) rfl
      have hN := Lib.hid ((h1.set 0 (.int .i64 33)).set 1 (.int .i64 1))
      have hT := Lib.hid (((ht.trans t1).set (p := w.heap.size) (Nat.le_refl _) 0 (.int .i64 33)).set (p := w.heap.size) (Nat.le_refl _) 1 (.int .i64 1))
      have g0 : ((w1.setCell ⟨w.heap.size, 0, none⟩ (.int .i64 33)).setCell ⟨w.heap.size, 1, none⟩ (.int .i64 1)).cell? ⟨w.heap.size, 0, none⟩ = some (.int .i64 33) := hN.out.cell 0 (.int .i64 33) rfl
      clear h1 hA ht t1 b0
      go_wp2
      go_roundw
      case rel => exact ⟨Or.inr (Or.inl ⟨rfl, rfl, hN.out⟩), hT.out⟩
      case measure => simp [intOf]
    · have b0 := gb.cell 1 (.int .i64 1) rfl
      clear gb
      go_wp2_with fail
      go_at_call 75
      refine (S.out _).mono ?_
      rintro r w1 ⟨rfl, t1⟩
      have h1 := hA.only t1
      have f0 := h1.free 2
      have f1 := h1.free 3
      have c0 := h1.cell 2 (.int .i64 0) rfl
      have c1 := h1.cell 3 (.int .i64 0) rfl
      have hN := Lib.hid ((h1.set 2 (.int .i64 33)).set 3 (.int .i64 1))
      have hT := Lib.hid (((ht.trans t1).set (p := w.heap.size) (Nat.le_refl _) 2 (.int .i64 33)).set (p := w.heap.size) (Nat.le_refl _) 3 (.int .i64 1))
      have g0 : ((w1.setCell ⟨w.heap.size, 2, none⟩ (.int .i64 33)).setCell ⟨w.heap.size, 3, none⟩ (.int .i64 1)).cell? ⟨w.heap.size, 2, none⟩ = some (.int .i64 33) := hN.out.cell 2 (.int .i64 33) rfl
      clear h1 hA ht t1 b0
      go_wp2
      go_roundw
      case rel => exact ⟨Or.inr (Or.inr (Or.inl ⟨rfl, rfl, hN.out⟩)), hT.out⟩
      case measure => simp [intOf]
    · have b0 := gb.cell 2 (.int .i64 1) rfl
      clear gb
      go_wp2_with fail
      go_at_call 75
      refine (S.out _).mono ?_
      rintro r w1 ⟨rfl, t1⟩
      have h1 := hA.only t1
      have f0 := h1.free 4
      have f1 := h1.free 5
      have c0 := h1.cell 4 (.int .i64 0) rfl
      have c1 := h1.cell 5 (.int .i64 0) rfl
      have hN := Lib.hid ((h1.set 4 (.int .i64 33)).set 5 (.int .i64 1))
      have hT := Lib.hid (((ht.trans t1).set (p := w.heap.size) (Nat.le_refl _) 4 (.int .i64 33)).set (p := w.heap.size) (Nat.le_refl _) 5 (.int .i64 1))
      have g0 : ((w1.setCell ⟨w.heap.size, 4, none⟩ (.int .i64 33)).setCell ⟨w.heap.size, 5, none⟩ (.int .i64 1)).cell? ⟨w.heap.size, 4, none⟩ = some (.int .i64 33) := hN.out.cell 4 (.int .i64 33) rfl
      clear h1 hA ht t1 b0
      go_wp2
      go_roundw
      case rel => exact ⟨Or.inr (Or.inr (Or.inr (⟨rfl, rfl, hN.out⟩))), hT.out⟩
      case measure => simp [intOf]
    · clear gb
      go_wp2_with fail
      go_at_call 76
      refine (byLoss3 hA).mono ?_
      rintro r w1 ⟨rfl, hP, t1⟩
      have h1 := hA.only t1
      have hT := ht.trans t1
      have p0 := hP.cell 0 (.int .i64 0) rfl
      have c0 := h1.cell 0 (.int .i64 33) rfl
      have f0 := h1.free 0
      have hN := Lib.hid (h1.set 0 (.int .i64 34))
      have hT := Lib.hid (hT.set (p := w.heap.size) (Nat.le_refl _) 0 (.int .i64 34))
      clear h1 hA ht t1 hP
      go_wp2_with fail
      refine wp_loop_rounds 2 ?_
      rw [rounds_succ]
      go_wp2_with fail
      rw [rounds_succ]
      go_wp2
      go_ret
      exact ⟨rfl, hN.out, hT.out⟩
end Go.Proofs.YtopklnaahdjafaaGreatDoor
