/-
  Small functions of the laws of package money; Neg.
-/
import Derived.Test.YtopklnaahdjafaaGreatDoorMRef
import Derived.Test.YtopklnaahdjafaaGreatDoorMOps
import Derived.Test.YtopklnaahdjafaaGreatDoorMFirst
namespace Go.Proofs.YtopklnaahdjafaaGreatDoor
open Go.RowKit Go.Shelf
set_option linter.unusedVariables false

abbrev FirstM (w : World) : Prop := ∀ W, Only w W → Calls Tryz.prog 7 #[] W fun e w' => e = .returned (.bool true) ∧ Only W w'
theorem first_isM {w : World} (hP : Pow w) : FirstM w := fun W t => first_money (hP.only t)

theorem amountR_any (u : Int) (s : ByteArray) (w : World) : Calls Tryz.prog 22 #[.agg #[.int .i64 u, .string s]] w fun e w' => e = .returned (.agg #[.int .i64 u, .string s]) ∧ Only w w' := by
  have ht := ((Only.refl w).alloc (.cells #[.int .i64 u, .string s] 23)).alloc (.cells #[.int .i64 0, .string ⟨#[]⟩] 51)
  have o1 := (Own2.new w (.int .i64 u) (.string s) 23).alloc (.cells #[.int .i64 0, .string ⟨#[]⟩] 51)
  have o2 := Own2.new1 w (.cells #[.int .i64 u, .string s] 23) (.int .i64 0) (.string ⟨#[]⟩) 51
  obtain ⟨x1, x2, -, -, x3⟩ := o1.all
  obtain ⟨d1, d2, f1, f2, z1⟩ := o2.all
  go_enter Tryz.func22, Tryz.ntmps22
  go_wp2
  simp [bodyPost, results, Tryz.results22, go_sem]
  exact ((Only.refl w).alloc _).alloc _

theorem same_self (u : Int) (s : ByteArray) (w : World) : Calls Tryz.prog 27 #[.agg #[.int .i64 u, .string s], .agg #[.int .i64 u, .string s]] w fun e w' => e = .returned (.bool true) ∧ Only w w' := by
  have ht := ((Only.refl w).alloc (.cells #[.int .i64 u, .string s] 23)).alloc (.cells #[.int .i64 u, .string s] 51)
  have o1 := (Own2.new w (.int .i64 u) (.string s) 23).alloc (.cells #[.int .i64 u, .string s] 51)
  have o2 := Own2.new1 w (.cells #[.int .i64 u, .string s] 23) (.int .i64 u) (.string s) 51
  obtain ⟨x1, x2, -, -, x3⟩ := o1.all
  obtain ⟨d1, d2, f1, f2, z1⟩ := o2.all
  go_enter Tryz.func27, Tryz.ntmps27
  go_wp2
  go_ret
  exact ⟨rfl, ht⟩

theorem neg_walk {u n e : Int} {s d : ByteArray} (SU : AnsIs 30 #[.agg #[.int .i64 0, .string s], .agg #[.int .i64 u, .string s]] n d e) : AnsIs 37 #[.agg #[.int .i64 u, .string s]] n d e := by
  intro w
  have SU := Lib.hid SU
  have ht := ((Only.refl w).alloc (.cells #[.int .i64 u, .string s] 23)).alloc (.cells #[.int .i64 0, .string ⟨#[]⟩] 23)
  have o1 := (Own2.new w (.int .i64 u) (.string s) 23).alloc (.cells #[.int .i64 0, .string ⟨#[]⟩] 23)
  have o2 := Own2.new1 w (.cells #[.int .i64 u, .string s] 23) (.int .i64 0) (.string ⟨#[]⟩) 23
  obtain ⟨x1, x2, -, -, x3⟩ := o1.all
  go_enter Tryz.func37, Tryz.ntmps37
  go_wp2_with fail
  go_at_call 30
  refine (SU.out _).mono ?_
  rintro r w1 ⟨rfl, t1⟩
  replace ht := ht.trans t1
  obtain ⟨d1, d2, f1, f2, z1⟩ := (o2.only t1).all
  clear o1 o2 x1 x2 x3 t1
  go_wp2_with fail
  simp [bodyPost, results, Tryz.results37, go_sem, World.cell?_setCell_other, d1, d2]
  exact (ht.set (by omega) 0 _).set (by omega) 1 _

theorem neg_anyM {u : Int} (s : ByteArray) (hu : I64 u) : AnsIs 37 #[.agg #[.int .i64 u, .string s]] (okI (curE u s) (-u)) (okS (curE u s) s) (curE u s) := by
  have SU := subM_any s s (u := 0) (v := u) ⟨by omega, by omega⟩ hu
  have e : sumE 0 s u s (0 - u) = curE u s := by
    unfold sumE besE
    by_cases hc : (curOf s).isSome = true
    · have h0 : curE 0 s = 0 := by unfold curE; rw [if_pos hc, if_pos (show Bd 0 by unfold Bd; omega)]
      rw [if_pos h0]
      by_cases hb : curE u s = 0
      · have hbd := curE_bd hb
        rw [if_pos hb, if_pos rfl, if_pos rfl, hb]
        unfold amE
        rw [if_pos]
        obtain ⟨a, b⟩ := hbd
        exact ⟨by omega, by omega⟩
      · rw [if_neg hb, if_neg hb]
    · have h0 : curE 0 s = 18 := by unfold curE; rw [if_neg hc]
      have h1 : curE u s = 18 := by unfold curE; rw [if_neg hc]
      rw [h0, h1]; rfl
  rw [e, Int.zero_sub] at SU
  exact neg_walk SU
end Go.Proofs.YtopklnaahdjafaaGreatDoor
