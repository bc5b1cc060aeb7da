/-
  The chapter's example of an allocation: the sort of three places that lost as much as one another.
-/
import Derived.Test.YtopklnaahdjafaaGreatDoorMShare
import Derived.Test.YtopklnaahdjafaaGreatDoorGTl
namespace Go.Proofs.YtopklnaahdjafaaGreatDoor
open Go.RowKit Go.Shelf
set_option linter.unusedVariables false

theorem At.cone {w : World} {b : Nat} {cs : Array Value} (h : At w b cs) (j : Nat) (v : Value) (e : cs[j]? = some v) : ∀ n : Cone w, n.out.cell? ⟨b, j, none⟩ = some v := fun n => (h.only n.only).cell j v e

/-- the shares -/
abbrev shares3 : Array Value := #[.int .i64 33, .int .i64 1, .int .i64 33, .int .i64 1, .int .i64 33, .int .i64 1]
abbrev places3 : Array Value := #[.int .i64 0, .int .i64 1, .int .i64 2]

theorem less_10 {p b : Nat} {w : World} (hp : At w p #[.slice (some ⟨b, 0, none⟩) 3 3]) (hb : At w b shares3) :
    Calls Tryz.prog 110 #[.int .i64 1, .int .i64 0, .pointer (some ⟨p, 0, none⟩)] w fun e w' => e = .returned (.int .i64 0) ∧ Only w w' := by
  have k1 := hp.cone 0 (.slice (some ⟨b, 0, none⟩) 3 3) rfl
  have k2 := hb.cone 3 (.int .i64 1) rfl
  have k3 := hb.cone 1 (.int .i64 1) rfl
  go_enter Tryz.func110, Tryz.ntmps110
  go_wp2_with fail
  refine wp_region_cone (by kernel_rfl) (by kernel_rfl) ?_
  repeat (any_goals (first | go_big_quiet_step ((go_at_call 68; with_reducible exact Cone.same (compareI_any _ _ _))) | quiet_step ((go_at_call 68; with_reducible exact Cone.same (compareI_any _ _ _)))))
  refine wpQuiet_nil ?_
  rintro w6 ⟨⟨_, t6⟩, rfl⟩
  clear k1 k2 k3
  go_wp2
  go_ret
  exact ⟨by simp [cmpI], t6⟩

theorem less_21 {p b : Nat} {w : World} (hp : At w p #[.slice (some ⟨b, 0, none⟩) 3 3]) (hb : At w b shares3) :
    Calls Tryz.prog 110 #[.int .i64 2, .int .i64 1, .pointer (some ⟨p, 0, none⟩)] w fun e w' => e = .returned (.int .i64 0) ∧ Only w w' := by
  have k1 := hp.cone 0 (.slice (some ⟨b, 0, none⟩) 3 3) rfl
  have k2 := hb.cone 5 (.int .i64 1) rfl
  have k3 := hb.cone 3 (.int .i64 1) rfl
  go_enter Tryz.func110, Tryz.ntmps110
  go_wp2_with fail
  refine wp_region_cone (by kernel_rfl) (by kernel_rfl) ?_
  repeat (any_goals (first | go_big_quiet_step ((go_at_call 68; with_reducible exact Cone.same (compareI_any _ _ _))) | quiet_step ((go_at_call 68; with_reducible exact Cone.same (compareI_any _ _ _)))))
  refine wpQuiet_nil ?_
  rintro w6 ⟨⟨_, t6⟩, rfl⟩
  clear k1 k2 k3
  go_wp2
  go_ret
  exact ⟨by simp [cmpI], t6⟩

/-- the insertion sort finds nothing to do -/
theorem insertion3 {p b q : Nat} {w : World} (hp : At w p #[.slice (some ⟨b, 0, none⟩) 3 3]) (hb : At w b shares3) (hq : At w q places3) :
    Calls Tryz.prog 131 #[.slice (some ⟨q, 0, none⟩) 3 3, .int .i64 0, .int .i64 3, .func (.func 110) #[] #[.pointer (some ⟨p, 0, none⟩)]] w fun e w' => e = .returned (.tuple #[]) ∧ Only w w' := by
  have hent : ∀ args w, (callFunc 110 args).run Tryz.prog w = .ok (.enter 110 args) w := fun _ _ => by kernel_rfl
  have HP := Lib.hid hp
  have HB := Lib.hid hb
  have HQ := Lib.hid hq
  clear hp hb hq
  go_enter Tryz.func131, Tryz.ntmps131
  go_wp2_with fail
  go_loopw [8] (fun i wr => ∃ k : Int, 1 ≤ k ∧ k ≤ 3 ∧ i = .int .i64 k ∧ Only w wr) (fun i _ => 3 - (intOf i).toNat)
  case atStart => exact ⟨1, by omega, by omega, rfl, Only.refl w⟩
  case round =>
    obtain ⟨k, hk0, hk, rfl, ht⟩ := hrel
    have gp := HP.out.only ht
    have gb := HB.out.only ht
    have gq := HQ.out.only ht
    rcases (by omega : k = 1 ∨ k = 2 ∨ k = 3) with rfl | rfl | rfl
    · clear hk0 hk
      have k1 := gq.cone 1 (.int .i64 1) rfl
      have k2 := gq.cone 0 (.int .i64 0) rfl
      have hless : ∀ n : Cone wr, Calls Tryz.prog 110 #[.int .i64 1, .int .i64 0, .pointer (some ⟨p, 0, none⟩)] n.out fun e w' => e = .returned (.int .i64 0) ∧ Only n.out w' := fun n => less_10 (gp.only n.only) (gb.only n.only)
      go_wp2_with fail
      refine wp_loop_rounds 1 ?_
      rw [rounds_succ]
      go_wp2_with fail
      refine wp_region_cone (by kernel_rfl) (by kernel_rfl) ?_
      repeat (any_goals (first | go_big_quiet_step ((go_at_call 110; with_reducible exact Cone.call (hless _))) | quiet_step ((go_at_call 110; with_reducible exact Cone.call (hless _)))))
      refine wpQuiet_nil ?_
      rintro w6 ⟨⟨_, t6⟩, rfl⟩
      have ht := ht.trans t6
      clear k1 k2 hless gp gb gq t6
      go_wp2_with fail
      go_roundw
      case rel => exact ⟨2, by omega, by omega, rfl, ht⟩
      case measure => simp [intOf]
    · clear hk0 hk
      have k1 := gq.cone 2 (.int .i64 2) rfl
      have k2 := gq.cone 1 (.int .i64 1) rfl
      have hless : ∀ n : Cone wr, Calls Tryz.prog 110 #[.int .i64 2, .int .i64 1, .pointer (some ⟨p, 0, none⟩)] n.out fun e w' => e = .returned (.int .i64 0) ∧ Only n.out w' := fun n => less_21 (gp.only n.only) (gb.only n.only)
      go_wp2_with fail
      refine wp_loop_rounds 1 ?_
      rw [rounds_succ]
      go_wp2_with fail
      refine wp_region_cone (by kernel_rfl) (by kernel_rfl) ?_
      repeat (any_goals (first | go_big_quiet_step ((go_at_call 110; with_reducible exact Cone.call (hless _))) | quiet_step ((go_at_call 110; with_reducible exact Cone.call (hless _)))))
      refine wpQuiet_nil ?_
      rintro w6 ⟨⟨_, t6⟩, rfl⟩
      have ht := ht.trans t6
      clear k1 k2 hless gp gb gq t6
      go_wp2_with fail
      go_roundw
      case rel => exact ⟨3, by omega, by omega, rfl, ht⟩
      case measure => simp [intOf]
    · clear hk0 hk
      go_wp2
      go_end0
      exact ⟨rfl, ht⟩

theorem stable3 {p b q : Nat} {w : World} (hp : At w p #[.slice (some ⟨b, 0, none⟩) 3 3]) (hb : At w b shares3) (hq : At w q places3) :
    Calls Tryz.prog 119 #[.slice (some ⟨q, 0, none⟩) 3 3, .int .i64 3, .func (.func 110) #[] #[.pointer (some ⟨p, 0, none⟩)]] w fun e w' => e = .returned (.tuple #[]) ∧ Only w w' := by
  have hI := insertion3 hp hb hq
  have hI := Lib.hid hI
  clear hp hb hq
  go_enter Tryz.func119, Tryz.ntmps119
  go_wp2_with fail
  refine wp_loop_rounds 1 ?_
  rw [rounds_succ]
  go_wp2_with fail
  go_at_call 131
  refine hI.out.mono ?_
  rintro r w1 ⟨rfl, t1⟩
  go_wp2_with fail
  refine wp_loop_rounds 1 ?_
  rw [rounds_succ]
  go_wp2_with fail
  go_end0
  exact ⟨rfl, t1⟩

theorem sort3 {p b q : Nat} {w : World} (hp : At w p #[.slice (some ⟨b, 0, none⟩) 3 3]) (hb : At w b shares3) (hq : At w q places3) :
    Calls Tryz.prog 109 #[.slice (some ⟨q, 0, none⟩) 3 3, .func (.func 110) #[] #[.pointer (some ⟨p, 0, none⟩)]] w fun e w' => e = .returned (.tuple #[]) ∧ Only w w' := by
  have hI := stable3 hp hb hq
  have hI := Lib.hid hI
  clear hp hb hq
  go_enter Tryz.func109, Tryz.ntmps109
  go_wp2_with fail
  go_at_call 119
  refine hI.out.mono ?_
  rintro r w1 ⟨rfl, t1⟩
  go_wp2_with fail
  go_end0
  exact ⟨rfl, t1⟩

theorem byLoss3 {b : Nat} {w : World} (hb : At w b shares3) :
    Calls Tryz.prog 76 #[.slice (some ⟨b, 0, none⟩) 3 3] w fun e w' => e = .returned (.slice (some ⟨w.heap.size + 1, 0, none⟩) 3 3) ∧ At w' (w.heap.size + 1) places3 ∧ Only w w' := by
  have hp := At.new w #[.slice (some ⟨b, 0, none⟩) 3 3] 77
  have hb1 := hb.alloc (.cells #[.slice (some ⟨b, 0, none⟩) 3 3] 77)
  have ht := (Only.refl w).alloc (.cells #[.slice (some ⟨b, 0, none⟩) 3 3] 77)
  have hmk : ∀ w, (Instr.makeSlice 24 (.int .i64 3) (.int .i64 3)).run Tryz.prog w = .ok (.slice (some ⟨w.heap.size, 0, none⟩) 3 3) (w.alloc (.cells #[.int .i64 0, .int .i64 0, .int .i64 0] 3)) := fun _ => by kernel_rfl
  go_enter Tryz.func76, Tryz.ntmps76
  go_wp2_with fail
  go_loopw [10] (fun i wr => ((i = .int .i64 0 ∧ At wr (w.heap.size + 1) #[.int .i64 0, .int .i64 0, .int .i64 0]) ∨ (i = .int .i64 1 ∧ At wr (w.heap.size + 1) #[.int .i64 0, .int .i64 0, .int .i64 0]) ∨ (i = .int .i64 2 ∧ At wr (w.heap.size + 1) #[.int .i64 0, .int .i64 1, .int .i64 0]) ∨ (i = .int .i64 3 ∧ At wr (w.heap.size + 1) places3)) ∧ Only w wr ∧ At wr w.heap.size #[.slice (some ⟨b, 0, none⟩) 3 3]) (fun i _ => 3 - (intOf i).toNat)
  case atStart =>
    refine ⟨Or.inl ⟨rfl, ?_⟩, ht.alloc _, hp.alloc _⟩
    have := At.new (w.alloc (.cells #[.slice (some ⟨b, 0, none⟩) 3 3] 77)) #[.int .i64 0, .int .i64 0, .int .i64 0] 3
    simpa using this
  case round =>
    have HB := Lib.hid hb
    clear hb hb1 hp ht
    obtain ⟨h0, ht, hp⟩ := hrel
    have hlt := hp.lt
    rcases h0 with ⟨rfl, hA⟩ | ⟨rfl, hA⟩ | ⟨rfl, hA⟩ | ⟨rfl, hA⟩
    · have c0 := hA.cell 0 (.int .i64 0) rfl
      have f0 := hA.free 0
      have hN := Lib.hid (hA.set 0 (.int .i64 0))
      have hM := Lib.hid (hp.far (p := w.heap.size + 1) (by omega) 0 (.int .i64 0))
      have hT := Lib.hid (ht.set (p := w.heap.size + 1) (by omega) 0 (.int .i64 0))
      clear hA hp ht
      go_wp2
      go_roundw
      case rel => exact ⟨Or.inr (Or.inl ⟨rfl, hN.out⟩), hT.out, hM.out⟩
      case measure => simp [intOf]
    · have c0 := hA.cell 1 (.int .i64 0) rfl
      have f0 := hA.free 1
      have hN := Lib.hid (hA.set 1 (.int .i64 1))
      have hM := Lib.hid (hp.far (p := w.heap.size + 1) (by omega) 1 (.int .i64 1))
      have hT := Lib.hid (ht.set (p := w.heap.size + 1) (by omega) 1 (.int .i64 1))
      clear hA hp ht
      go_wp2
      go_roundw
      case rel => exact ⟨Or.inr (Or.inr (Or.inl ⟨rfl, hN.out⟩)), hT.out, hM.out⟩
      case measure => simp [intOf]
    · have c0 := hA.cell 2 (.int .i64 0) rfl
      have f0 := hA.free 2
      have hN := Lib.hid (hA.set 2 (.int .i64 2))
      have hM := Lib.hid (hp.far (p := w.heap.size + 1) (by omega) 2 (.int .i64 2))
      have hT := Lib.hid (ht.set (p := w.heap.size + 1) (by omega) 2 (.int .i64 2))
      clear hA hp ht
      go_wp2
      go_roundw
      case rel => exact ⟨Or.inr (Or.inr (Or.inr (⟨rfl, hN.out⟩))), hT.out, hM.out⟩
      case measure => simp [intOf]
    · go_wp2_with fail
      go_at_call 109
      refine (sort3 hp (HB.out.only ht) hA).mono ?_
      rintro r w1 ⟨rfl, t1⟩
      have hN := Lib.hid (hA.only t1)
      have hT := Lib.hid (ht.trans t1)
      clear hA hp ht t1
      go_wp2
      go_ret
      exact ⟨rfl, hN.out, hT.out⟩
end Go.Proofs.YtopklnaahdjafaaGreatDoor
