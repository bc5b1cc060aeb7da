/-
  Two amounts beside one another; an amount made of a number.
-/
import Derived.Test.YtopklnaahdjafaaGreatDoorMCur
namespace Go.Proofs.YtopklnaahdjafaaGreatDoor
open Go.RowKit Go.Shelf
set_option linter.unusedVariables false

abbrev BesIs (u : Int) (s : ByteArray) (v : Int) (t c : ByteArray) (k e : Int) : Prop := ∀ w, Calls Tryz.prog 44 #[.agg #[.int .i64 u, .string s], .agg #[.int .i64 v, .string t]] w fun r w' => r = .returned (.tuple #[.agg #[.string c, .int .i64 k], .int .i64 e]) ∧ Only w w'

theorem boxesAAC (w : World) (u v : Int) (s t : ByteArray) : Only w (((w.alloc (.cells #[.int .i64 u, .string s] 23)).alloc (.cells #[.int .i64 v, .string t] 23)).alloc (.cells #[.string ⟨#[]⟩, .int .i64 0] 45)) ∧
    Own2 (((w.alloc (.cells #[.int .i64 u, .string s] 23)).alloc (.cells #[.int .i64 v, .string t] 23)).alloc (.cells #[.string ⟨#[]⟩, .int .i64 0] 45)) w.heap.size (.int .i64 u) (.string s) ∧
    Own2 (((w.alloc (.cells #[.int .i64 u, .string s] 23)).alloc (.cells #[.int .i64 v, .string t] 23)).alloc (.cells #[.string ⟨#[]⟩, .int .i64 0] 45)) (w.heap.size + 1) (.int .i64 v) (.string t) ∧
    Own2 (((w.alloc (.cells #[.int .i64 u, .string s] 23)).alloc (.cells #[.int .i64 v, .string t] 23)).alloc (.cells #[.string ⟨#[]⟩, .int .i64 0] 45)) (w.heap.size + 1 + 1) (.string ⟨#[]⟩) (.int .i64 0) :=
  ⟨(((Only.refl w).alloc _).alloc _).alloc _, ((Own2.new w _ _ _).alloc _).alloc _, (Own2.new1 w _ _ _ _).alloc _, Own2.new2 w _ _ _ _ _⟩

theorem beside_1 {u v k e : Int} {s t c : ByteArray} (C : CurIs u s c k e) (h1 : (e == 0) = false) (h2 : (e != 0) = true) : BesIs u s v t ⟨#[]⟩ 0 e := by
  intro w
  have C := Lib.hid C
  obtain ⟨ht, o1, o2, o3⟩ := boxesAAC w u v s t
  go_enter Tryz.func44, Tryz.ntmps44
  go_wp2_with fail
  go_at_call 40
  refine (C.out _).mono ?_
  rintro r w1 ⟨rfl, t1⟩
  have o3 := (o3.only t1).alloc (.cells #[.string c, .int .i64 k] 45)
  have ht := (ht.trans t1).alloc (.cells #[.string c, .int .i64 k] 45)
  obtain ⟨d1, d2, f1, f2, z1⟩ := o3.all
  clear t1 o1 o2 o3
  go_wp2
  simp [bodyPost, results, Tryz.results44, go_sem, World.cell?_setCell_other, d1, d2]
  exact (ht.set (by omega) 0 _).set (by omega) 1 _

theorem beside_2 {u v k m e : Int} {s t c d : ByteArray} (C : CurIs u s c k 0) (D : CurIs v t d m e) (h1 : (e == 0) = false) (h2 : (e != 0) = true) : BesIs u s v t ⟨#[]⟩ 0 e := by
  intro w
  have C := Lib.hid C
  have D := Lib.hid D
  obtain ⟨ht, o1, o2, o3⟩ := boxesAAC w u v s t
  go_enter Tryz.func44, Tryz.ntmps44
  go_wp2_with fail
  go_at_call 40
  refine (C.out _).mono ?_
  rintro r w1 ⟨rfl, t1⟩
  have o2 := (o2.only t1).alloc (.cells #[.string c, .int .i64 k] 45)
  have o3 := (o3.only t1).alloc (.cells #[.string c, .int .i64 k] 45)
  have ht := (ht.trans t1).alloc (.cells #[.string c, .int .i64 k] 45)
  obtain ⟨d1, d2, f1, f2, z1⟩ := o2.all
  clear t1 o1
  go_wp2_with fail
  go_at_call 40
  refine (D.out _).mono ?_
  rintro r w2 ⟨rfl, t2⟩
  have o3 := (o3.only t2).alloc (.cells #[.string d, .int .i64 m] 45)
  have ht := (ht.trans t2).alloc (.cells #[.string d, .int .i64 m] 45)
  clear d1 d2 f1 f2 z1 o2 t2
  obtain ⟨d1, d2, f1, f2, z1⟩ := o3.all
  clear o3
  go_wp2
  simp [bodyPost, results, Tryz.results44, go_sem, World.cell?_setCell_other, d1, d2]
  exact (ht.set (by omega) 0 _).set (by omega) 1 _

theorem beside_3 {u v k m : Int} {s t c d : ByteArray} {b : Bool} (C : CurIs u s c k 0) (D : CurIs v t d m 0) (hcd : (c.toList == d.toList) = b) (hkm : b = true → (k == m) = true) :
    BesIs u s v t (if b then c else ⟨#[]⟩) (if b then k else 0) (if b then 0 else 18) := by
  intro w
  have C := Lib.hid C
  have D := Lib.hid D
  obtain ⟨ht, o1, o2, o3⟩ := boxesAAC w u v s t
  go_enter Tryz.func44, Tryz.ntmps44
  go_wp2_with fail
  go_at_call 40
  refine (C.out _).mono ?_
  rintro r w1 ⟨rfl, t1⟩
  have o2 := (o2.only t1).alloc (.cells #[.string c, .int .i64 k] 45)
  have o3 := (o3.only t1).alloc (.cells #[.string c, .int .i64 k] 45)
  have o4 := Own2.new w1 (.string c) (.int .i64 k) 45
  have ht := (ht.trans t1).alloc (.cells #[.string c, .int .i64 k] 45)
  obtain ⟨d1, d2, f1, f2, z1⟩ := o2.all
  clear t1 o1
  go_wp2_with fail
  go_at_call 40
  refine (D.out _).mono ?_
  rintro r w2 ⟨rfl, t2⟩
  have o3 := (o3.only t2).alloc (.cells #[.string d, .int .i64 m] 45)
  have o4 := (o4.only t2).alloc (.cells #[.string d, .int .i64 m] 45)
  have ht := (ht.trans t2).alloc (.cells #[.string d, .int .i64 m] 45)
  clear d1 d2 f1 f2 z1 o2 t2
  obtain ⟨d1, d2, f1, f2, z1⟩ := o3.all
  obtain ⟨c1, c2, -, -, z2⟩ := o4.all
  clear o3 o4
  cases b
  · clear hkm
    go_wp2
    simp [bodyPost, results, Tryz.results44, go_sem, World.cell?_setCell_other, d1, d2]
    exact (ht.set (by omega) 0 _).set (by omega) 1 _
  · have hkm := hkm rfl
    go_wp2
    simp [bodyPost, results, Tryz.results44, go_sem, World.cell?_setCell_other, d1, d2]
    exact (ht.set (by omega) 0 _).set (by omega) 1 _

def besE (u : Int) (s : ByteArray) (v : Int) (t : ByteArray) : Int := if curE u s = 0 then if curE v t = 0 then if s = t then 0 else 18 else curE v t else curE u s

theorem ne_eqs {e : Int} (h : e ≠ 0) : (e == 0) = false ∧ (e != 0) = true := by simp [h]

theorem beside_any (u : Int) (s : ByteArray) (v : Int) (t : ByteArray) : BesIs u s v t (okS (besE u s v t) s) (okI (besE u s v t) (fK s)) (besE u s v t) := by
  have C := currency_any u s
  have D := currency_any v t
  unfold besE
  by_cases h1 : curE u s = 0
  · rw [if_pos h1]
    rw [h1] at C
    by_cases h2 : curE v t = 0
    · rw [if_pos h2]
      rw [h2] at D
      have B := beside_3 C D (b := decide (s = t)) (by rw [okS_0, okS_0, toList_beq]) (by simp [okI_0]; rintro rfl; rfl)
      by_cases h3 : s = t
      · simpa [h3, okS, okI] using B
      · simpa [h3, okS, okI] using B
    · rw [if_neg h2]
      rw [okS_ne h2, okI_ne h2]
      exact beside_2 C D (ne_eqs h2).1 (ne_eqs h2).2
  · rw [if_neg h1]
    rw [okS_ne h1, okI_ne h1]
    exact beside_1 C (ne_eqs h1).1 (ne_eqs h1).2

/-! ### an amount of a number -/
abbrev IntIs (v : Value) (n e : Int) : Prop := ∀ w, Calls Tryz.prog 81 #[v] w fun r w' => r = .returned (.tuple #[.int .i64 n, .int .i64 e]) ∧ Only w w'
abbrev AmIs (c : ByteArray) (k : Int) (v : Value) (n : Int) (d : ByteArray) (e : Int) : Prop := ∀ w, Calls Tryz.prog 47 #[.agg #[.string c, .int .i64 k], v] w fun r w' => r = .returned (.tuple #[.agg #[.int .i64 n, .string d], .int .i64 e]) ∧ Only w w'

theorem boxesCWA (w : World) (c : ByteArray) (k h l : Int) : Only w (((w.alloc (.cells #[.string c, .int .i64 k] 45)).alloc (.cells #[.int .u64 h, .int .u64 l] 85)).alloc (.cells #[.int .i64 0, .string ⟨#[]⟩] 23)) ∧
    Own2 (((w.alloc (.cells #[.string c, .int .i64 k] 45)).alloc (.cells #[.int .u64 h, .int .u64 l] 85)).alloc (.cells #[.int .i64 0, .string ⟨#[]⟩] 23)) w.heap.size (.string c) (.int .i64 k) ∧
    Own2 (((w.alloc (.cells #[.string c, .int .i64 k] 45)).alloc (.cells #[.int .u64 h, .int .u64 l] 85)).alloc (.cells #[.int .i64 0, .string ⟨#[]⟩] 23)) (w.heap.size + 1 + 1) (.int .i64 0) (.string ⟨#[]⟩) :=
  ⟨(((Only.refl w).alloc _).alloc _).alloc _, ((Own2.new w _ _ _).alloc _).alloc _, Own2.new2 w _ _ _ _ _⟩

theorem amount_walk {c : ByteArray} {k h l n e : Int} {b : Bool} (I : IntIs (.agg #[.int .u64 h, .int .u64 l]) n e) (he : (e = 0 ∧ WithinIs n b) ∨ (e = 16 ∧ b = false)) :
    AmIs c k (.agg #[.int .u64 h, .int .u64 l]) (if b then n else 0) (if b then c else ⟨#[]⟩) (if b then 0 else 16) := by
  intro w
  have I := Lib.hid I
  obtain ⟨ht, o1, o2⟩ := boxesCWA w c k h l
  rcases he with ⟨rfl, B⟩ | ⟨rfl, rfl⟩
  · have B := Lib.hid B
    cases b
    all_goals
      go_enter Tryz.func47, Tryz.ntmps47
      go_wp2_with fail
      go_at_call 81
      refine (I.out _).mono ?_
      rintro r w1 ⟨rfl, t1⟩
      obtain ⟨d1, d2, f1, f2, z1⟩ := (o2.only t1).all
      obtain ⟨c1, c2, -, -, z2⟩ := (o1.only t1).all
      have ht := ht.trans t1
      clear t1 o1 o2
      go_wp2_with (go_at_call 74; refine (B.out _).mono ?_; rintro r w1 ⟨rfl, rfl⟩)
      simp [bodyPost, results, Tryz.results47, go_sem, World.cell?_setCell_other, d1, d2]
      exact (ht.set (by omega) 0 _).set (by omega) 1 _
  · go_enter Tryz.func47, Tryz.ntmps47
    go_wp2_with fail
    go_at_call 81
    refine (I.out _).mono ?_
    rintro r w1 ⟨rfl, t1⟩
    obtain ⟨d1, d2, f1, f2, z1⟩ := (o2.only t1).all
    have ht := ht.trans t1
    clear t1 o1 o2
    go_wp2
    simp [bodyPost, results, Tryz.results47, go_sem, World.cell?_setCell_other, d1, d2]
    exact (ht.set (by omega) 0 _).set (by omega) 1 _

def amE (n : Int) : Int := if Bd n then 0 else 16

theorem amount_any (c : ByteArray) (k : Int) {n : Int} (hn : In n) : AmIs c k (enc n) (okI (amE n) n) (okS (amE n) c) (amE n) := by
  have I := int_any hn
  unfold intAns at I
  obtain ⟨h, l, -, -, -, -, -, e1⟩ := enc_words n
  rw [e1] at I ⊢
  have key : okI (amE n) n = (if decide (Bd n) then n else 0) ∧ okS (amE n) c = (if decide (Bd n) then c else ⟨#[]⟩) ∧ amE n = (if decide (Bd n) then 0 else 16) := by
    unfold amE okI okS
    by_cases hb : Bd n <;> simp [hb]
  rw [key.1, key.2.1, key.2.2]
  by_cases hf : -9223372036854775808 ≤ n ∧ n < 9223372036854775808
  · simp only [if_pos hf] at I
    exact amount_walk I (Or.inl ⟨rfl, within_any n⟩)
  · simp only [if_neg hf] at I
    have hb : decide (Bd n) = false := decide_eq_false fun h => hf ⟨by have := h.1; omega, by have := h.2; omega⟩
    rw [hb]
    have A := amount_walk (c := c) (k := k) (b := false) I (Or.inr ⟨rfl, rfl⟩)
    simpa using A
end Go.Proofs.YtopklnaahdjafaaGreatDoor
