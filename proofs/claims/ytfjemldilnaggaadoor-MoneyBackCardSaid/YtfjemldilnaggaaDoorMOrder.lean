/-
  MoneyOrder.
-/
import Derived.Test.YtfjemldilnaggaaDoorMFirst
namespace Go.Proofs.YtfjemldilnaggaaDoor
open Go.RowKit Go.Shelf
set_option linter.unusedVariables false

abbrev FirstIs (w : World) : Prop := ∀ W, Only w W → Calls Tryd.prog 6 #[] W fun e w' => e = .returned (.bool true) ∧ Only W w'
theorem first_is {w : World} (hP : Pow w) : FirstIs w := fun W t => first_money (hP.only t)

theorem order_long1 {u v : Int} {s t : ByteArray} {w : World} (FM : FirstIs w) (h1 : (200 : Int) < (s.size : Int)) :
    Calls Tryd.prog 4 #[.agg #[.int .i64 u, .string s], .agg #[.int .i64 v, .string t]] w fun e w' => e = .returned (.bool true) ∧ Only w w' := by
  have FM := Lib.hid FM
  have o1 := (Own2.new w (.int .i64 u) (.string s) 23).alloc (.cells #[.int .i64 v, .string t] 23)
  have o2 := Own2.new1 w (.cells #[.int .i64 u, .string s] 23) (.int .i64 v) (.string t) 23
  have ht := ((Only.refl w).alloc (.cells #[.int .i64 u, .string s] 23)).alloc (.cells #[.int .i64 v, .string t] 23)
  go_enter Tryd.func4, Tryd.ntmps4
  go_wp2_with fail
  go_at_call 6
  refine (FM.out _ ht).mono ?_
  rintro r w1 ⟨rfl, t1⟩
  have o3 := o1.only t1
  have o4 := o2.only t1
  have ht1 := ht.trans t1
  obtain ⟨d1, d2, -, -, z1⟩ := o3.all
  obtain ⟨c1, c2, -, -, z2⟩ := o4.all
  clear ht o1 o2 t1
  go_wp2
  go_ret
  exact ⟨rfl, ht1⟩

theorem order_long2 {u v : Int} {s t : ByteArray} {w : World} (FM : FirstIs w) (h1 : (s.size : Int) ≤ 200) (h2 : (200 : Int) < (t.size : Int)) :
    Calls Tryd.prog 4 #[.agg #[.int .i64 u, .string s], .agg #[.int .i64 v, .string t]] w fun e w' => e = .returned (.bool true) ∧ Only w w' := by
  have FM := Lib.hid FM
  have o1 := (Own2.new w (.int .i64 u) (.string s) 23).alloc (.cells #[.int .i64 v, .string t] 23)
  have o2 := Own2.new1 w (.cells #[.int .i64 u, .string s] 23) (.int .i64 v) (.string t) 23
  have ht := ((Only.refl w).alloc (.cells #[.int .i64 u, .string s] 23)).alloc (.cells #[.int .i64 v, .string t] 23)
  go_enter Tryd.func4, Tryd.ntmps4
  go_wp2_with fail
  go_at_call 6
  refine (FM.out _ ht).mono ?_
  rintro r w1 ⟨rfl, t1⟩
  have o3 := o1.only t1
  have o4 := o2.only t1
  have ht1 := ht.trans t1
  obtain ⟨d1, d2, -, -, z1⟩ := o3.all
  obtain ⟨c1, c2, -, -, z2⟩ := o4.all
  clear ht o1 o2 t1
  go_wp2
  go_ret
  exact ⟨rfl, ht1⟩

set_option maxRecDepth 20000 in
theorem order_bad {u v n g e f : Int} {s t m : ByteArray} {w : World} (FM : FirstIs w) (h1 : (s.size : Int) ≤ 200) (h2 : (t.size : Int) ≤ 200)
    (C : CmpMIs u s v t 0 e) (D : CmpMIs v t u s 0 f) (S : AnsIs 11 #[.agg #[.int .i64 u, .string s], .agg #[.int .i64 v, .string t]] n m g) (he : e ≠ 0) (hf : f ≠ 0) (hg : g ≠ 0) :
    Calls Tryd.prog 4 #[.agg #[.int .i64 u, .string s], .agg #[.int .i64 v, .string t]] w fun e w' => e = .returned (.bool true) ∧ Only w w' := by
  have C := Lib.hid C
  have D := Lib.hid D
  have S := Lib.hid S
  have e1 : (e == 0) = false := by simpa using he
  have e2 : (e != 0) = true := by simpa using he
  have f1 : (f == 0) = false := by simpa using hf
  have g1 : (g == 0) = false := by simpa using hg
  clear he hf hg
  have FM := Lib.hid FM
  have o1 := (Own2.new w (.int .i64 u) (.string s) 23).alloc (.cells #[.int .i64 v, .string t] 23)
  have o2 := Own2.new1 w (.cells #[.int .i64 u, .string s] 23) (.int .i64 v) (.string t) 23
  have ht := ((Only.refl w).alloc (.cells #[.int .i64 u, .string s] 23)).alloc (.cells #[.int .i64 v, .string t] 23)
  go_enter Tryd.func4, Tryd.ntmps4
  go_wp2_with fail
  go_at_call 6
  refine (FM.out _ ht).mono ?_
  rintro r w1 ⟨rfl, t1⟩
  have o3 := o1.only t1
  have o4 := o2.only t1
  have ht1 := ht.trans t1
  obtain ⟨d1, d2, -, -, z1⟩ := o3.all
  obtain ⟨c1, c2, -, -, z2⟩ := o4.all
  clear ht o1 o2 t1
  go_wp2_with fail
  go_at_call 13
  refine (C.out _).mono ?_
  rintro r w2 ⟨rfl, t2⟩
  have o5 := o3.only t2
  have o6 := o4.only t2
  have ht2 := ht1.trans t2
  clear ht1 o3 o4 t2 d1 d2 z1 c1 c2 z2
  obtain ⟨d1, d2, -, -, z1⟩ := o5.all
  obtain ⟨c1, c2, -, -, z2⟩ := o6.all
  go_wp2_with fail
  go_at_call 13
  refine (D.out _).mono ?_
  rintro r w3 ⟨rfl, t3⟩
  have o3 := o5.only t3
  have o4 := o6.only t3
  have ht3 := ht2.trans t3
  clear ht2 o5 o6 t3 d1 d2 z1 c1 c2 z2
  obtain ⟨d1, d2, -, -, z1⟩ := o3.all
  obtain ⟨c1, c2, -, -, z2⟩ := o4.all
  go_wp2_with (go_at_call 9; refine (numM_any _ _).mono ?_; rintro r w' ⟨rfl, rfl⟩)
  go_at_call 11
  refine (S.out _).mono ?_
  rintro r w4 ⟨rfl, t4⟩
  have ht4 := (ht3.trans t4).alloc (.cells #[.int .i64 n, .string m] 23)
  have o5 := (o3.only t4).alloc (.cells #[.int .i64 n, .string m] 23)
  have o6 := (o4.only t4).alloc (.cells #[.int .i64 n, .string m] 23)
  clear ht3 o3 o4 t4 d1 d2 z1 c1 c2 z2
  obtain ⟨d1, d2, -, -, z1⟩ := o5.all
  obtain ⟨c1, c2, -, -, z2⟩ := o6.all
  go_wp2_with (go_at_call 9; refine (numM_any _ _).mono ?_; rintro r w' ⟨rfl, rfl⟩)
  go_ret
  exact ⟨by simp, ht4⟩

/-- what Cmp and Sub say together -/
def Agree (d n g : Int) : Prop := (d = 1 ∧ n < 0 ∧ g = 0) ∨ (d = -1 ∧ 0 < n ∧ g = 0) ∨ (d = 0 ∧ n = 0 ∧ g = 0) ∨ ((d = 1 ∨ d = -1 ∨ d = 0) ∧ g ≠ 0)

set_option maxRecDepth 20000 in
set_option maxHeartbeats 1600000 in
theorem order_good {u v n g d : Int} {s m : ByteArray} {w : World} (FM : FirstIs w) (h1 : (s.size : Int) ≤ 200)
    (C : CmpMIs u s v s (-d) 0) (D : CmpMIs v s u s d 0) (S : AnsIs 11 #[.agg #[.int .i64 u, .string s], .agg #[.int .i64 v, .string s]] n m g) (ha : Agree d n g) :
    Calls Tryd.prog 4 #[.agg #[.int .i64 u, .string s], .agg #[.int .i64 v, .string s]] w fun e w' => e = .returned (.bool true) ∧ Only w w' := by
  have hd : d = 1 ∨ d = -1 ∨ d = 0 := by rcases ha with h | h | h | h <;> omega
  have HA := Lib.hid ha
  have C := Lib.hid C
  have D := Lib.hid D
  have S := Lib.hid S
  have HD : -1 ≤ d ∧ d ≤ 1 := by omega
  obtain ⟨i1, i2⟩ := HD
  clear hd ha
  have FM := Lib.hid FM
  have o1 := (Own2.new w (.int .i64 u) (.string s) 23).alloc (.cells #[.int .i64 v, .string s] 23)
  have o2 := Own2.new1 w (.cells #[.int .i64 u, .string s] 23) (.int .i64 v) (.string s) 23
  have ht := ((Only.refl w).alloc (.cells #[.int .i64 u, .string s] 23)).alloc (.cells #[.int .i64 v, .string s] 23)
  go_enter Tryd.func4, Tryd.ntmps4
  go_wp2_with fail
  go_at_call 6
  refine (FM.out _ ht).mono ?_
  rintro r w1 ⟨rfl, t1⟩
  have o3 := o1.only t1
  have o4 := o2.only t1
  have ht1 := ht.trans t1
  obtain ⟨d1, d2, -, -, z1⟩ := o3.all
  obtain ⟨c1, c2, -, -, z2⟩ := o4.all
  clear ht o1 o2 t1
  go_wp2_with fail
  go_at_call 13
  refine (C.out _).mono ?_
  rintro r w2 ⟨rfl, t2⟩
  have o5 := o3.only t2
  have o6 := o4.only t2
  have ht2 := ht1.trans t2
  clear ht1 o3 o4 t2 d1 d2 z1 c1 c2 z2
  obtain ⟨d1, d2, -, -, z1⟩ := o5.all
  obtain ⟨c1, c2, -, -, z2⟩ := o6.all
  go_wp2_with fail
  go_at_call 13
  refine (D.out _).mono ?_
  rintro r w3 ⟨rfl, t3⟩
  have o3 := o5.only t3
  have o4 := o6.only t3
  have ht3 := ht2.trans t3
  clear ht2 o5 o6 t3 d1 d2 z1 c1 c2 z2
  obtain ⟨d1, d2, -, -, z1⟩ := o3.all
  obtain ⟨c1, c2, -, -, z2⟩ := o4.all
  go_wp2_with (go_at_call 9; refine (numM_any _ _).mono ?_; rintro r w' ⟨rfl, rfl⟩)
  go_at_call 11
  refine (S.out _).mono ?_
  rintro r w4 ⟨rfl, t4⟩
  have ht4 := (ht3.trans t4).alloc (.cells #[.int .i64 n, .string m] 23)
  have o5 := (o3.only t4).alloc (.cells #[.int .i64 n, .string m] 23)
  have o6 := (o4.only t4).alloc (.cells #[.int .i64 n, .string m] 23)
  clear ht3 o3 o4 t4 d1 d2 z1 c1 c2 z2
  obtain ⟨d1, d2, -, -, z1⟩ := o5.all
  obtain ⟨c1, c2, -, -, z2⟩ := o6.all
  rcases HA.out with ⟨rfl, hn, rfl⟩ | ⟨rfl, hn, rfl⟩ | ⟨rfl, rfl, rfl⟩ | ⟨hd, hg⟩
  · have k1 : decide (0 < n) = false := by simp; omega
    have k2 : decide (n < 0) = true := by simp; omega
    have k3 : (n == 0) = false := by simp; omega
    go_wp2_with (go_at_call 9; refine (numM_any _ _).mono ?_; rintro r w' ⟨rfl, rfl⟩)
    go_ret
    exact ⟨by simp, ht4⟩
  · have k1 : decide (0 < n) = true := by simp; omega
    have k2 : decide (n < 0) = false := by simp; omega
    have k3 : (n == 0) = false := by simp; omega
    go_wp2_with (go_at_call 9; refine (numM_any _ _).mono ?_; rintro r w' ⟨rfl, rfl⟩)
    go_ret
    exact ⟨by simp, ht4⟩
  · go_wp2_with (go_at_call 9; refine (numM_any _ _).mono ?_; rintro r w' ⟨rfl, rfl⟩)
    go_ret
    exact ⟨by simp, ht4⟩
  · have g1 : (g == 0) = false := by simpa using hg
    clear hd hg
    go_wp2_with (go_at_call 9; refine (numM_any _ _).mono ?_; rintro r w' ⟨rfl, rfl⟩)
    go_ret
    exact ⟨by simp, ht4⟩

theorem besE_iff (u : Int) (s : ByteArray) (v : Int) (t : ByteArray) : besE u s v t = 0 ↔ curE u s = 0 ∧ curE v t = 0 ∧ s = t := by
  unfold besE
  by_cases h1 : curE u s = 0
  · rw [if_pos h1]
    by_cases h2 : curE v t = 0
    · rw [if_pos h2]
      by_cases h3 : s = t
      · rw [if_pos h3]; exact ⟨fun _ => ⟨h1, h2, h3⟩, fun _ => rfl⟩
      · rw [if_neg h3]; exact ⟨fun h => by omega, fun h => absurd h.2.2 h3⟩
    · rw [if_neg h2]; exact ⟨fun h => absurd h h2, fun h => h.2.1⟩
  · rw [if_neg h1]; exact ⟨fun h => absurd h h1, fun h => h.1⟩
theorem besE_sym (u : Int) (s : ByteArray) (v : Int) (t : ByteArray) : besE u s v t = 0 ↔ besE v t u s = 0 := by
  rw [besE_iff, besE_iff]
  exact ⟨fun h => ⟨h.2.1, h.1, h.2.2.symm⟩, fun h => ⟨h.2.1, h.1, h.2.2.symm⟩⟩

theorem besE_same {u v : Int} {s t : ByteArray} (h : besE u s v t = 0) : s = t := by
  unfold besE at h
  split at h
  · split at h
    · split at h
      · assumption
      · omega
    · contradiction
  · contradiction

theorem moneyOrder_any {u v : Int} (s t : ByteArray) (hu : I64 u) (hv : I64 v) {w : World} (hP : Pow w) :
    Calls Tryd.prog 4 #[.agg #[.int .i64 u, .string s], .agg #[.int .i64 v, .string t]] w fun e w' => e = .returned (.bool true) ∧ Only w w' := by
  have FM := first_is hP
  by_cases h1 : 200 < s.size
  · exact order_long1 FM (by omega)
  by_cases h2 : 200 < t.size
  · exact order_long2 FM (by omega) (by omega)
  have C := cmpM_any u s v t
  have D := cmpM_any v t u s
  have S := subM_any s t hu hv
  by_cases h : besE u s v t = 0
  · have h' := (besE_sym u s v t).1 h
    obtain rfl := besE_same h
    have hsum : sumE u s v s (u - v) = amE (u - v) := by unfold sumE; rw [if_pos h]
    rw [h, okI_0] at C
    rw [h', okI_0] at D
    have q1 := cmpI_cases u v
    have q2 := cmpI_cases v u
    rw [show cmpI u v = -(cmpI v u) by omega] at C
    rw [hsum] at S
    refine order_good FM (by omega) C D S ?_
    unfold Agree
    by_cases hb : amE (u - v) = 0
    · rw [hb, okI_0]; omega
    · rw [okI_ne hb]; exact Or.inr (Or.inr (Or.inr ⟨by omega, hb⟩))
  · have h' : besE v t u s ≠ 0 := fun k => h ((besE_sym u s v t).2 k)
    have hsum : sumE u s v t (u - v) = besE u s v t := by unfold sumE; rw [if_neg h]
    rw [okI_ne h] at C
    rw [okI_ne h'] at D
    exact order_bad FM (by omega) (by omega) C D S h h' (by rw [hsum]; exact h)
end Go.Proofs.YtfjemldilnaggaaDoor
