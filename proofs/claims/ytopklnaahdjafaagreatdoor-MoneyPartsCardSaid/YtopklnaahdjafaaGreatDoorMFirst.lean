/-
  The chapter's example: Allocate of 100 USD by 1, 1, 1; all of it.
-/
import Derived.Test.YtopklnaahdjafaaGreatDoorMAllocd
import Derived.Test.YtopklnaahdjafaaGreatDoorMStr
import Derived.Test.YtopklnaahdjafaaGreatDoorMParse2
namespace Go.Proofs.YtopklnaahdjafaaGreatDoor
open Go.RowKit Go.Shelf
set_option linter.unusedVariables false

theorem usd_100 : CurIs 100 ⟨#[85, 83, 68]⟩ ⟨#[85, 83, 68]⟩ 2 0 := currency_any 100 ⟨#[85, 83, 68]⟩

set_option maxRecDepth 20000 in
theorem allocate3 {b : Nat} {w : World} (hb : At w b #[.int .i64 1, .int .i64 1, .int .i64 1]) :
    Calls Tryz.prog 8 #[.agg #[.int .i64 100, .string ⟨#[85, 83, 68]⟩], .slice (some ⟨b, 0, none⟩) 3 3] w fun e w' => ∃ q, e = .returned (.tuple #[.slice (some ⟨q, 0, none⟩) 3 3, .int .i64 0]) ∧ At w' q #[.int .i64 34, .string ⟨#[85, 83, 68]⟩, .int .i64 33, .string ⟨#[85, 83, 68]⟩, .int .i64 33, .string ⟨#[85, 83, 68]⟩] ∧ Only w w' := by
  have hmk : ∀ w, (Instr.makeSlice 26 (.int .i64 3) (.int .i64 3)).run Tryz.prog w = .ok (.slice (some ⟨w.heap.size, 0, none⟩) 3 3) (w.alloc (.cells #[.int .i64 0, .string ⟨#[]⟩, .int .i64 0, .string ⟨#[]⟩, .int .i64 0, .string ⟨#[]⟩] 23)) := fun _ => by kernel_rfl
  have C := Lib.hid usd_100
  have o1 := Own2.new w (.int .i64 100) (.string ⟨#[85, 83, 68]⟩) 23
  have ht := (Only.refl w).alloc (.cells #[.int .i64 100, .string ⟨#[85, 83, 68]⟩] 23)
  have hb1 := hb.alloc (.cells #[.int .i64 100, .string ⟨#[85, 83, 68]⟩] 23)
  go_enter Tryz.func8, Tryz.ntmps8
  go_wp2_with fail
  go_at_call 40
  refine (C.out _).mono ?_
  rintro r w1 ⟨rfl, t1⟩
  have o2 := Own2.new w1 (.string ⟨#[85, 83, 68]⟩) (.int .i64 2) 45
  have o1 := (o1.only t1).alloc (.cells #[.string ⟨#[85, 83, 68]⟩, .int .i64 2] 45)
  have hb2 := (hb1.only t1).alloc (.cells #[.string ⟨#[85, 83, 68]⟩, .int .i64 2] 45)
  have hT1 := (ht.trans t1).alloc (.cells #[.string ⟨#[85, 83, 68]⟩, .int .i64 2] 45)
  obtain ⟨d1, d2, f1, f2, z1⟩ := o1.all
  have hw1 : w.heap.size ≤ w1.heap.size := (ht.trans t1).size
  clear t1 ht hb1 o1
  go_wp2_with fail
  go_at_call 41
  refine (total3 hb2).mono ?_
  rintro r w2 ⟨rfl, rfl⟩
  have hb3 := hb2.alloc (.cells #[.int .i64 0, .string ⟨#[]⟩, .int .i64 0, .string ⟨#[]⟩, .int .i64 0, .string ⟨#[]⟩] 23)
  have hQ := At.new (w1.alloc (.cells #[.string ⟨#[85, 83, 68]⟩, .int .i64 2] 45)) #[.int .i64 0, .string ⟨#[]⟩, .int .i64 0, .string ⟨#[]⟩, .int .i64 0, .string ⟨#[]⟩] 23
  have hT2 := hT1.alloc (.cells #[.int .i64 0, .string ⟨#[]⟩, .int .i64 0, .string ⟨#[]⟩, .int .i64 0, .string ⟨#[]⟩] 23)
  have o3 := o2.alloc (.cells #[.int .i64 0, .string ⟨#[]⟩, .int .i64 0, .string ⟨#[]⟩, .int .i64 0, .string ⟨#[]⟩] 23)
  rw [show (w1.alloc (.cells #[.string ⟨#[85, 83, 68]⟩, .int .i64 2] 45)).heap.size = w1.heap.size + 1 by simp] at hQ
  clear hb hb2 hT1 o2
  go_wp2_with fail
  go_at_call 42
  refine (allocated3 hb3).mono ?_
  rintro r w3 ⟨rfl, hS, t3⟩
  have hQ2 := hQ.only t3
  have hT3 := hT2.trans t3
  have o4 := o3.only t3
  obtain ⟨S, hSe⟩ : ∃ S, S = ((w1.alloc (.cells #[.string ⟨#[85, 83, 68]⟩, .int .i64 2] 45)).alloc (.cells #[.int .i64 0, .string ⟨#[]⟩, .int .i64 0, .string ⟨#[]⟩, .int .i64 0, .string ⟨#[]⟩] 23)).heap.size := ⟨_, rfl⟩
  have hSv : S = w1.heap.size + 1 + 1 := by rw [hSe]; simp
  rw [← hSe] at hS
  subst hSv
  clear hSe hb3 hQ hT2 o3 t3 d1 d2 f1 f2 z1
  go_wp2_with fail
  go_loopw [44] (fun i wr => ((i = .int .i64 0 ∧ At wr (w1.heap.size + 1) #[.int .i64 0, .string ⟨#[]⟩, .int .i64 0, .string ⟨#[]⟩, .int .i64 0, .string ⟨#[]⟩]) ∨ (i = .int .i64 1 ∧ At wr (w1.heap.size + 1) #[.int .i64 34, .string ⟨#[85, 83, 68]⟩, .int .i64 0, .string ⟨#[]⟩, .int .i64 0, .string ⟨#[]⟩]) ∨ (i = .int .i64 2 ∧ At wr (w1.heap.size + 1) #[.int .i64 34, .string ⟨#[85, 83, 68]⟩, .int .i64 33, .string ⟨#[85, 83, 68]⟩, .int .i64 0, .string ⟨#[]⟩]) ∨ (i = .int .i64 3 ∧ At wr (w1.heap.size + 1) #[.int .i64 34, .string ⟨#[85, 83, 68]⟩, .int .i64 33, .string ⟨#[85, 83, 68]⟩, .int .i64 33, .string ⟨#[85, 83, 68]⟩])) ∧ Only w wr ∧ At wr (w1.heap.size + 1 + 1) #[.int .i64 34, .int .i64 1, .int .i64 33, .int .i64 1, .int .i64 33, .int .i64 1] ∧ Own2 wr w1.heap.size (.string ⟨#[85, 83, 68]⟩) (.int .i64 2)) (fun i _ => 3 - (intOf i).toNat)
  case atStart => exact ⟨Or.inl ⟨rfl, hQ2⟩, hT3, hS, o4⟩
  case round =>
    clear hQ2 hT3 hS o4
    obtain ⟨h0, ht, hS, oc⟩ := hrel
    obtain ⟨d1, d2, -, -, z1⟩ := oc.all
    rcases h0 with ⟨rfl, hA⟩ | ⟨rfl, hA⟩ | ⟨rfl, hA⟩ | ⟨rfl, hA⟩
    · have s0 := hS.cell 0 (.int .i64 34) rfl
      have s1 := hS.cell 1 (.int .i64 1) rfl
      have hz := hA.lt
      have c0 := hA.cell 0 (.int .i64 0) rfl
      have c1 := hA.cell 1 (.string ⟨#[]⟩) rfl
      have f0 := hA.free 0
      have f1 := hA.free 1
      have hN := Lib.hid (((hA.set 0 (.int .i64 34)).set 1 (.string ⟨#[85, 83, 68]⟩)).alloc (.cells #[.int .i64 34, .int .i64 1] 80))
      have hT := Lib.hid (((ht.set (p := w1.heap.size + 1) (by omega) 0 (.int .i64 34)).set (p := w1.heap.size + 1) (by omega) 1 (.string ⟨#[85, 83, 68]⟩)).alloc (.cells #[.int .i64 34, .int .i64 1] 80))
      have hX := Lib.hid (((hS.far (p := w1.heap.size + 1) (by omega) 0 (.int .i64 34)).far (p := w1.heap.size + 1) (by omega) 1 (.string ⟨#[85, 83, 68]⟩)).alloc (.cells #[.int .i64 34, .int .i64 1] 80))
      have hO := Lib.hid (((oc.far (p := w1.heap.size + 1) (by omega) 0 (.int .i64 34)).far (p := w1.heap.size + 1) (by omega) 1 (.string ⟨#[85, 83, 68]⟩)).alloc (.cells #[.int .i64 34, .int .i64 1] 80))
      clear hA ht hS oc
      go_wp2
      go_roundw
      case rel => exact ⟨Or.inr (Or.inl ⟨rfl, hN.out⟩), hT.out, hX.out, hO.out⟩
      case measure => simp [intOf]
    · have s0 := hS.cell 2 (.int .i64 33) rfl
      have s1 := hS.cell 3 (.int .i64 1) rfl
      have hz := hA.lt
      have c0 := hA.cell 2 (.int .i64 0) rfl
      have c1 := hA.cell 3 (.string ⟨#[]⟩) rfl
      have f0 := hA.free 2
      have f1 := hA.free 3
      have hN := Lib.hid (((hA.set 2 (.int .i64 33)).set 3 (.string ⟨#[85, 83, 68]⟩)).alloc (.cells #[.int .i64 33, .int .i64 1] 80))
      have hT := Lib.hid (((ht.set (p := w1.heap.size + 1) (by omega) 2 (.int .i64 33)).set (p := w1.heap.size + 1) (by omega) 3 (.string ⟨#[85, 83, 68]⟩)).alloc (.cells #[.int .i64 33, .int .i64 1] 80))
      have hX := Lib.hid (((hS.far (p := w1.heap.size + 1) (by omega) 2 (.int .i64 33)).far (p := w1.heap.size + 1) (by omega) 3 (.string ⟨#[85, 83, 68]⟩)).alloc (.cells #[.int .i64 33, .int .i64 1] 80))
      have hO := Lib.hid (((oc.far (p := w1.heap.size + 1) (by omega) 2 (.int .i64 33)).far (p := w1.heap.size + 1) (by omega) 3 (.string ⟨#[85, 83, 68]⟩)).alloc (.cells #[.int .i64 33, .int .i64 1] 80))
      clear hA ht hS oc
      go_wp2
      go_roundw
      case rel => exact ⟨Or.inr (Or.inr (Or.inl ⟨rfl, hN.out⟩)), hT.out, hX.out, hO.out⟩
      case measure => simp [intOf]
    · have s0 := hS.cell 4 (.int .i64 33) rfl
      have s1 := hS.cell 5 (.int .i64 1) rfl
      have hz := hA.lt
      have c0 := hA.cell 4 (.int .i64 0) rfl
      have c1 := hA.cell 5 (.string ⟨#[]⟩) rfl
      have f0 := hA.free 4
      have f1 := hA.free 5
      have hN := Lib.hid (((hA.set 4 (.int .i64 33)).set 5 (.string ⟨#[85, 83, 68]⟩)).alloc (.cells #[.int .i64 33, .int .i64 1] 80))
      have hT := Lib.hid (((ht.set (p := w1.heap.size + 1) (by omega) 4 (.int .i64 33)).set (p := w1.heap.size + 1) (by omega) 5 (.string ⟨#[85, 83, 68]⟩)).alloc (.cells #[.int .i64 33, .int .i64 1] 80))
      have hX := Lib.hid (((hS.far (p := w1.heap.size + 1) (by omega) 4 (.int .i64 33)).far (p := w1.heap.size + 1) (by omega) 5 (.string ⟨#[85, 83, 68]⟩)).alloc (.cells #[.int .i64 33, .int .i64 1] 80))
      have hO := Lib.hid (((oc.far (p := w1.heap.size + 1) (by omega) 4 (.int .i64 33)).far (p := w1.heap.size + 1) (by omega) 5 (.string ⟨#[85, 83, 68]⟩)).alloc (.cells #[.int .i64 33, .int .i64 1] 80))
      clear hA ht hS oc
      go_wp2
      go_roundw
      case rel => exact ⟨Or.inr (Or.inr (Or.inr (⟨rfl, hN.out⟩))), hT.out, hX.out, hO.out⟩
      case measure => simp [intOf]
    · go_wp2
      go_ret2
      exact ⟨w1.heap.size + 1, rfl, hA, ht⟩

theorem numM_any (n : Int) (w : World) : Calls Tryz.prog 9 #[.int .i64 n] w fun e w' => e = .returned (.int .i64 n) ∧ w' = w := by
  go_enter Tryz.func9, Tryz.ntmps9
  go_wp2
  go_ret
  exact ⟨rfl, rfl⟩

theorem parse_one : ParseIs ⟨#[49, 50, 46, 51, 32, 85, 83, 68]⟩ 1230 ⟨#[85, 83, 68]⟩ 0 := parse_any ⟨#[49, 50, 46, 51, 32, 85, 83, 68]⟩ (by decide)
theorem parse_two : ParseIs ⟨#[49, 46, 50, 51, 52, 32, 85, 83, 68]⟩ 0 ⟨#[]⟩ 19 := parse_any ⟨#[49, 46, 50, 51, 52, 32, 85, 83, 68]⟩ (by decide)
theorem ratio_one : AnsIs 34 #[.agg #[.int .i64 5, .string ⟨#[85, 83, 68]⟩], .int .i64 1, .int .i64 2] 2 ⟨#[85, 83, 68]⟩ 0 := ratio_any ⟨#[85, 83, 68]⟩ ⟨by decide, by decide⟩ ⟨by decide, by decide⟩ ⟨by decide, by decide⟩
theorem string_one {w : World} (hP : Pow w) : StringIs w 1230 ⟨#[85, 83, 68]⟩ ⟨#[49, 50, 46, 51, 48, 32, 85, 83, 68]⟩ := by
  have h := string_anyM 1230 ⟨#[85, 83, 68]⟩ hP
  have e : strL 1230 ⟨#[85, 83, 68]⟩ = [49, 50, 46, 51, 48, 32, 85, 83, 68] := by decide +kernel
  rw [e] at h
  exact h

set_option maxRecDepth 20000 in
theorem first_money {w : World} (hP : Pow w) : Calls Tryz.prog 7 #[] w fun e w' => e = .returned (.bool true) ∧ Only w w' := by
  have HP := Lib.hid hP
  clear hP
  have ht := Only.refl w
  go_enter Tryz.func7, Tryz.ntmps7
  go_wp2_with fail
  go_at_call 23
  refine (parse_one _).mono ?_
  rintro r w1 ⟨rfl, t1⟩
  have o1 := Own2.new w1 (.int .i64 1230) (.string ⟨#[85, 83, 68]⟩) 23
  have ht1 := t1.alloc (.cells #[.int .i64 1230, .string ⟨#[85, 83, 68]⟩] 23)
  clear t1
  go_wp2_with fail
  go_at_call 23
  refine (parse_two _).mono ?_
  rintro r w2 ⟨rfl, t2⟩
  have o2 := (o1.only t2).alloc (.cells #[.int .i64 0, .string ⟨#[]⟩] 23)
  have ht2 := (ht1.trans t2).alloc (.cells #[.int .i64 0, .string ⟨#[]⟩] 23)
  clear t2 o1 ht1
  have hb := At.new (w2.alloc (.cells #[.int .i64 0, .string ⟨#[]⟩] 23)) #[.int .i64 1, .int .i64 1, .int .i64 1] 3
  have ht3 := ht2.alloc (.cells #[.int .i64 1, .int .i64 1, .int .i64 1] 3)
  have o3 := o2.alloc (.cells #[.int .i64 1, .int .i64 1, .int .i64 1] 3)
  rw [show (w2.alloc (.cells #[.int .i64 0, .string ⟨#[]⟩] 23)).heap.size = w2.heap.size + 1 by simp] at hb
  clear ht2 o2
  go_wp2_with fail
  go_at_call 8
  refine (allocate3 hb).mono ?_
  rintro r w3 ⟨q, rfl, hq, t3⟩
  have o4 := o3.only t3
  have ht4 := ht3.trans t3
  clear t3 o3 ht3 hb
  go_wp2_with fail
  go_at_call 34
  refine (ratio_one _).mono ?_
  rintro r w4 ⟨rfl, t4⟩
  have o5 := (o4.only t4).alloc (.cells #[.int .i64 2, .string ⟨#[85, 83, 68]⟩] 23)
  have o6 := Own2.new w4 (.int .i64 2) (.string ⟨#[85, 83, 68]⟩) 23
  have ht5 := (ht4.trans t4).alloc (.cells #[.int .i64 2, .string ⟨#[85, 83, 68]⟩] 23)
  have hq5 := (hq.only t4).alloc (.cells #[.int .i64 2, .string ⟨#[85, 83, 68]⟩] 23)
  clear t4 o4 ht4 hq
  obtain ⟨d1, d2, -, -, z1⟩ := o5.all
  go_wp2_with fail
  go_at_call 25
  refine (string_one (HP.out.only ht5)).mono ?_
  rintro r w5 ⟨rfl, t5⟩
  obtain ⟨e1, e2, -, -, z2⟩ := (o6.only t5).all
  have q0 := (hq5.only t5).cell 0 (.int .i64 34) rfl
  have q4 := (hq5.only t5).cell 4 (.int .i64 33) rfl
  have ht6 := ht5.trans t5
  clear d1 d2 z1 o5 o6 ht5 hq5 t5
  go_wp2_with (go_at_call 9; refine (numM_any _ _).mono ?_; rintro r w' ⟨rfl, rfl⟩)
  go_ret
  exact ⟨by simp, ht6⟩
end Go.Proofs.YtopklnaahdjafaaGreatDoor
