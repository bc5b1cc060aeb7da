/-
  Add, Sub, Cmp, New, Ratio: for all amounts.
-/
import Derived.Test.YtopklnaahdjafaaGreatDoorMSum
namespace Go.Proofs.YtopklnaahdjafaaGreatDoor
open Go.RowKit Go.Shelf
set_option linter.unusedVariables false

theorem bd_i64 {u : Int} (h : Bd u) : I64 u := by obtain ⟨a, b⟩ := h; exact ⟨by omega, by omega⟩
theorem curE_bd {u : Int} {s : ByteArray} (h : curE u s = 0) : Bd u := by
  unfold curE at h
  split at h
  · split at h
    · assumption
    · omega
  · omega
theorem besE_bd {u v : Int} {s t : ByteArray} (h : besE u s v t = 0) : Bd u ∧ Bd v := by
  unfold besE at h
  split at h
  · rename_i h1
    split at h
    · rename_i h2
      exact ⟨curE_bd h1, curE_bd h2⟩
    · contradiction
  · contradiction

/-- the error of what two amounts make -/
def sumE (u : Int) (s : ByteArray) (v : Int) (t : ByteArray) (n : Int) : Int := if besE u s v t = 0 then amE n else besE u s v t

theorem from_any {n : Int} (h : I64 n) : FromIs n (enc n) := fun w => (fromInt_any n h.1 h.2 w).mono fun _ _ k => ⟨k.1, k.2.only⟩

theorem joined_any {u v n : Int} {s t : ByteArray} {f : FuncId} (hu : I64 u) (hv : I64 v) (hent : ∀ args w, (callFunc f args).run Tryz.prog w = .ok (.enter f args) w)
    (J : In u → In v → ∀ w, Calls Tryz.prog f #[enc u, enc v] w fun r w' => r = .returned (ans n) ∧ Only w w') (hn : Bd u → Bd v → In n) :
    AnsIs 64 #[.agg #[.int .i64 u, .string s], .agg #[.int .i64 v, .string t], .func (.func f) #[enc u] #[]] (okI (sumE u s v t n) n) (okS (sumE u s v t n) s) (sumE u s v t n) := by
  have B := beside_any u s v t
  unfold sumE
  by_cases h : besE u s v t = 0
  · rw [if_pos h]
    rw [h] at B
    obtain ⟨b1, b2⟩ := besE_bd h
    have A := amount_any s (fK s) (hn b1 b2)
    have J := J hu.in_ hv.in_
    rw [ans_in (hn b1 b2)] at J
    have F := from_any hv
    obtain ⟨i, j, -, -, -, -, -, e1⟩ := enc_words u
    obtain ⟨h, l, -, -, -, -, -, e2⟩ := enc_words v
    obtain ⟨p, q, -, -, -, -, -, e3⟩ := enc_words n
    rw [e1, e2, e3] at J; rw [e2] at F; rw [e3] at A; rw [e1]
    exact joined_good hent B F J A
  · rw [if_neg h]
    rw [okI_ne h, okS_ne h]
    exact joined_bad B (ne_eqs h).1 (ne_eqs h).2

theorem addM_any {u v : Int} (s t : ByteArray) (hu : I64 u) (hv : I64 v) : AnsIs 28 #[.agg #[.int .i64 u, .string s], .agg #[.int .i64 v, .string t]] (okI (sumE u s v t (u + v)) (u + v)) (okS (sumE u s v t (u + v)) s) (sumE u s v t (u + v)) := by
  have J := joined_any (n := u + v) (s := s) (t := t) (f := 45) hu hv (fun _ _ => by kernel_rfl) (fun a b w => add_any a b w) (fun a b => by obtain ⟨a1, a2⟩ := a; obtain ⟨b1, b2⟩ := b; exact ⟨by omega, by omega⟩)
  have F := from_any hu
  obtain ⟨i, j, -, -, -, -, -, e1⟩ := enc_words u
  rw [e1] at J F
  exact addM_walk F J

theorem subM_any {u v : Int} (s t : ByteArray) (hu : I64 u) (hv : I64 v) : AnsIs 30 #[.agg #[.int .i64 u, .string s], .agg #[.int .i64 v, .string t]] (okI (sumE u s v t (u - v)) (u - v)) (okS (sumE u s v t (u - v)) s) (sumE u s v t (u - v)) := by
  have J := joined_any (n := u - v) (s := s) (t := t) (f := 67) hu hv (fun _ _ => by kernel_rfl) (fun a b w => sub_any a b w) (fun a b => by obtain ⟨a1, a2⟩ := a; obtain ⟨b1, b2⟩ := b; exact ⟨by omega, by omega⟩)
  have F := from_any hu
  obtain ⟨i, j, -, -, -, -, -, e1⟩ := enc_words u
  rw [e1] at J F
  exact subM_walk F J

/-! ### Cmp -/
theorem isNaNI_any (x : Int) (w : World) : Calls Tryz.prog 99 #[.int .i64 x] w fun e w' => e = .returned (.bool false) ∧ w' = w := by
  go_enter Tryz.func99, Tryz.ntmps99
  go_wp2
  go_ret
  exact ⟨by simp, rfl⟩

theorem compareI_any (x y : Int) (w : World) : Calls Tryz.prog 68 #[.int .i64 x, .int .i64 y] w fun e w' => e = .returned (.int .i64 (cmpI x y)) ∧ w' = w := by
  unfold cmpI
  by_cases c1 : x < y
  · rw [if_pos c1]
    go_enter Tryz.func68, Tryz.ntmps68
    go_wp2_with (go_at_call 99; refine (isNaNI_any _ _).mono ?_; rintro r w1 ⟨rfl, rfl⟩)
    go_ret
    exact ⟨rfl, rfl⟩
  · rw [if_neg c1]
    by_cases c2 : y < x
    · rw [if_pos c2]
      go_enter Tryz.func68, Tryz.ntmps68
      go_wp2_with (go_at_call 99; refine (isNaNI_any _ _).mono ?_; rintro r w1 ⟨rfl, rfl⟩)
      go_ret
      exact ⟨rfl, rfl⟩
    · rw [if_neg c2]
      go_enter Tryz.func68, Tryz.ntmps68
      go_wp2_with (go_at_call 99; refine (isNaNI_any _ _).mono ?_; rintro r w1 ⟨rfl, rfl⟩)
      go_ret
      exact ⟨rfl, rfl⟩

abbrev CmpMIs (u : Int) (s : ByteArray) (v : Int) (t : ByteArray) (c e : Int) : Prop := ∀ w, Calls Tryz.prog 32 #[.agg #[.int .i64 u, .string s], .agg #[.int .i64 v, .string t]] w fun r w' => r = .returned (.tuple #[.int .i64 c, .int .i64 e]) ∧ Only w w'

theorem cmpM_bad {u v k e : Int} {s t c : ByteArray} (B : BesIs u s v t c k e) (h1 : (e == 0) = false) (h2 : (e != 0) = true) : CmpMIs u s v t 0 e := by
  intro w
  have B := Lib.hid B
  obtain ⟨ht, o1, o2, o3⟩ := boxesAAA w u v s t
  clear o3
  have ht := ((Only.refl w).alloc (.cells #[.int .i64 u, .string s] 23)).alloc (.cells #[.int .i64 v, .string t] 23)
  go_enter Tryz.func32, Tryz.ntmps32
  go_wp2_with fail
  go_at_call 44
  refine (B.out _).mono ?_
  rintro r w1 ⟨rfl, t1⟩
  have ht := (ht.trans t1).alloc (.cells #[.string c, .int .i64 k] 45)
  clear t1 o1 o2
  go_wp2
  go_ret2
  exact ⟨by simp, ht⟩

theorem cmpM_good {u v k : Int} {s t c : ByteArray} (B : BesIs u s v t c k 0) : CmpMIs u s v t (cmpI u v) 0 := by
  intro w
  have B := Lib.hid B
  have ht := ((Only.refl w).alloc (.cells #[.int .i64 u, .string s] 23)).alloc (.cells #[.int .i64 v, .string t] 23)
  have o1 := (Own2.new w (.int .i64 u) (.string s) 23).alloc (.cells #[.int .i64 v, .string t] 23)
  have o2 := Own2.new1 w (.cells #[.int .i64 u, .string s] 23) (.int .i64 v) (.string t) 23
  go_enter Tryz.func32, Tryz.ntmps32
  go_wp2_with fail
  go_at_call 44
  refine (B.out _).mono ?_
  rintro r w1 ⟨rfl, t1⟩
  have ht := (ht.trans t1).alloc (.cells #[.string c, .int .i64 k] 45)
  obtain ⟨d1, d2, f1, f2, z1⟩ := ((o1.only t1).alloc (.cells #[.string c, .int .i64 k] 45)).all
  obtain ⟨c1, c2, -, -, z2⟩ := ((o2.only t1).alloc (.cells #[.string c, .int .i64 k] 45)).all
  clear t1 o1 o2
  go_wp2_with (go_at_call 68; refine (compareI_any _ _ _).mono ?_; rintro r w1 ⟨rfl, rfl⟩)
  go_ret2
  exact ⟨by simp, ht⟩

theorem cmpM_any (u : Int) (s : ByteArray) (v : Int) (t : ByteArray) : CmpMIs u s v t (okI (besE u s v t) (cmpI u v)) (besE u s v t) := by
  have B := beside_any u s v t
  by_cases h : besE u s v t = 0
  · rw [h] at B ⊢
    exact cmpM_good B
  · rw [okI_ne h]
    exact cmpM_bad B (ne_eqs h).1 (ne_eqs h).2

/-! ### New -/
theorem newM_bad {u k e : Int} {s c : ByteArray} (C : CurIs u s c k e) (h1 : (e == 0) = false) (h2 : (e != 0) = true) : AnsIs 20 #[.int .i64 u, .string s] 0 ⟨#[]⟩ e := by
  intro w
  have C := Lib.hid C
  have ht := (Only.refl w).alloc (.cells #[.int .i64 0, .string ⟨#[]⟩] 23)
  have o3 := Own2.new w (.int .i64 0) (.string ⟨#[]⟩) 23
  go_enter Tryz.func20, Tryz.ntmps20
  go_wp2_with fail
  go_at_call 40
  refine (C.out _).mono ?_
  rintro r w1 ⟨rfl, t1⟩
  have o3 := (o3.only t1).alloc (.cells #[.string c, .int .i64 k] 45)
  have ht := (ht.trans t1).alloc (.cells #[.string c, .int .i64 k] 45)
  obtain ⟨d1, d2, f1, f2, z1⟩ := o3.all
  clear t1 o3
  go_wp2
  simp [bodyPost, results, Tryz.results20, go_sem, World.cell?_setCell_other, d1, d2]
  exact (ht.set (by omega) 0 _).set (by omega) 1 _

theorem newM_good {u k : Int} {s c : ByteArray} (C : CurIs u s c k 0) : AnsIs 20 #[.int .i64 u, .string s] u c 0 := by
  intro w
  have C := Lib.hid C
  have ht := (Only.refl w).alloc (.cells #[.int .i64 0, .string ⟨#[]⟩] 23)
  have o3 := Own2.new w (.int .i64 0) (.string ⟨#[]⟩) 23
  go_enter Tryz.func20, Tryz.ntmps20
  go_wp2_with fail
  go_at_call 40
  refine (C.out _).mono ?_
  rintro r w1 ⟨rfl, t1⟩
  have o3 := (o3.only t1).alloc (.cells #[.string c, .int .i64 k] 45)
  have ht := (ht.trans t1).alloc (.cells #[.string c, .int .i64 k] 45)
  obtain ⟨d1, d2, f1, f2, z1⟩ := o3.all
  clear t1 o3
  go_wp2
  simp [bodyPost, results, Tryz.results20, go_sem, World.cell?_setCell_other, d1, d2]
  exact (ht.set (by omega) 0 _).set (by omega) 1 _

theorem newM_any (u : Int) (s : ByteArray) : AnsIs 20 #[.int .i64 u, .string s] (okI (curE u s) u) (okS (curE u s) s) (curE u s) := by
  have C := currency_any u s
  by_cases h : curE u s = 0
  · rw [h] at C ⊢
    exact newM_good C
  · rw [okI_ne h, okS_ne h]
    exact newM_bad C (ne_eqs h).1 (ne_eqs h).2

/-! ### Ratio -/
theorem divEven_none {h l : Int} (w : World) : Calls Tryz.prog 70 #[.agg #[.int .u64 h, .int .u64 l], .int .i64 0] w fun e w' => e = .returned (.tuple #[.agg #[.int .u64 0, .int .u64 0], .int .i64 17]) ∧ Only w w' := by
  go_enter Tryz.func70, Tryz.ntmps70
  go_wp2_with fail
  simp [bodyPost, results, Tryz.results70, go_sem]
  first
    | exact ((Only.refl w).alloc _).alloc _
    | exact (Only.refl w).alloc _
    | exact (((Only.refl w).alloc _).alloc _).alloc _
    | exact Only.refl w

theorem boxesAA (w : World) (u : Int) (s : ByteArray) : Only w ((w.alloc (.cells #[.int .i64 u, .string s] 23)).alloc (.cells #[.int .i64 0, .string ⟨#[]⟩] 23)) ∧
    Own2 ((w.alloc (.cells #[.int .i64 u, .string s] 23)).alloc (.cells #[.int .i64 0, .string ⟨#[]⟩] 23)) w.heap.size (.int .i64 u) (.string s) ∧
    Own2 ((w.alloc (.cells #[.int .i64 u, .string s] 23)).alloc (.cells #[.int .i64 0, .string ⟨#[]⟩] 23)) (w.heap.size + 1) (.int .i64 0) (.string ⟨#[]⟩) :=
  ⟨((Only.refl w).alloc _).alloc _, (Own2.new w _ _ _).alloc _, Own2.new1 w _ _ _ _⟩

theorem ratio_bad {u k e n d : Int} {s c : ByteArray} (C : CurIs u s c k e) (h1 : (e == 0) = false) (h2 : (e != 0) = true) : AnsIs 34 #[.agg #[.int .i64 u, .string s], .int .i64 n, .int .i64 d] 0 ⟨#[]⟩ e := by
  intro w
  have C := Lib.hid C
  obtain ⟨ht, o1, o3⟩ := boxesAA w u s
  go_enter Tryz.func34, Tryz.ntmps34
  go_wp2_with fail
  go_at_call 40
  refine (C.out _).mono ?_
  rintro r w1 ⟨rfl, t1⟩
  have o3 := (o3.only t1).alloc (.cells #[.string c, .int .i64 k] 45)
  have ht := (ht.trans t1).alloc (.cells #[.string c, .int .i64 k] 45)
  obtain ⟨d1, d2, f1, f2, z1⟩ := o3.all
  clear t1 o1 o3
  go_wp2
  simp [bodyPost, results, Tryz.results34, go_sem, World.cell?_setCell_other, d1, d2]
  exact (ht.set (by omega) 0 _).set (by omega) 1 _

theorem ratio_walk {u k n d h l p q m e ed : Int} {s c r : ByteArray} (C : CurIs u s c k 0)
    (M : ∀ w, Calls Tryz.prog 69 #[.int .i64 u, .int .i64 n] w fun e w' => e = .returned (.agg #[.int .u64 h, .int .u64 l]) ∧ Only w w')
    (D : ∀ w, Calls Tryz.prog 70 #[.agg #[.int .u64 h, .int .u64 l], .int .i64 d] w fun e w' => e = .returned (.tuple #[.agg #[.int .u64 p, .int .u64 q], .int .i64 ed]) ∧ Only w w')
    (he : (ed = 0 ∧ AmIs c k (.agg #[.int .u64 p, .int .u64 q]) m r e) ∨ (ed = 17 ∧ m = 0 ∧ r = ⟨#[]⟩ ∧ e = 17)) :
    AnsIs 34 #[.agg #[.int .i64 u, .string s], .int .i64 n, .int .i64 d] m r e := by
  intro w
  have C := Lib.hid C
  have M := Lib.hid M
  have D := Lib.hid D
  obtain ⟨ht, o1, o3⟩ := boxesAA w u s
  rcases he with ⟨rfl, A⟩ | ⟨rfl, rfl, rfl, rfl⟩
  · have A := Lib.hid A
    go_enter Tryz.func34, Tryz.ntmps34
    go_wp2_with fail
    go_at_call 40
    refine (C.out _).mono ?_
    rintro r w1 ⟨rfl, t1⟩
    have o1 := (o1.only t1).alloc (.cells #[.string c, .int .i64 k] 45)
    have o3 := (o3.only t1).alloc (.cells #[.string c, .int .i64 k] 45)
    have o4 := Own2.new w1 (.string c) (.int .i64 k) 45
    have ht := (ht.trans t1).alloc (.cells #[.string c, .int .i64 k] 45)
    obtain ⟨d1, d2, f1, f2, z1⟩ := o1.all
    clear t1 o1
    go_wp2_with fail
    go_at_call 69
    refine (M.out _).mono ?_
    rintro r w2 ⟨rfl, t2⟩
    have o3 := o3.only t2
    have o4 := o4.only t2
    have ht := ht.trans t2
    clear d1 d2 f1 f2 z1 t2
    go_wp2_with fail
    go_at_call 70
    refine (D.out _).mono ?_
    rintro r w3 ⟨rfl, t3⟩
    have o3 := (o3.only t3).alloc (.cells #[.int .u64 p, .int .u64 q] 85)
    have o4 := (o4.only t3).alloc (.cells #[.int .u64 p, .int .u64 q] 85)
    have ht := (ht.trans t3).alloc (.cells #[.int .u64 p, .int .u64 q] 85)
    obtain ⟨d1, d2, f1, f2, z1⟩ := o4.all
    clear t3
    go_wp2_with fail
    go_at_call 47
    refine (A.out _).mono ?_
    rintro r w4 ⟨rfl, t4⟩
    have ht := ht.trans t4
    clear d1 d2 f1 f2 z1
    obtain ⟨d1, d2, f1, f2, z1⟩ := (o3.only t4).all
    clear o3 o4 t4
    go_wp2
    simp [bodyPost, results, Tryz.results34, go_sem, World.cell?_setCell_other, d1, d2]
    exact (ht.set (by omega) 0 _).set (by omega) 1 _
  · go_enter Tryz.func34, Tryz.ntmps34
    go_wp2_with fail
    go_at_call 40
    refine (C.out _).mono ?_
    rintro r w1 ⟨rfl, t1⟩
    have o1 := (o1.only t1).alloc (.cells #[.string c, .int .i64 k] 45)
    have o3 := (o3.only t1).alloc (.cells #[.string c, .int .i64 k] 45)
    have ht := (ht.trans t1).alloc (.cells #[.string c, .int .i64 k] 45)
    obtain ⟨d1, d2, f1, f2, z1⟩ := o1.all
    clear t1 o1
    go_wp2_with fail
    go_at_call 69
    refine (M.out _).mono ?_
    rintro r w2 ⟨rfl, t2⟩
    have o3 := o3.only t2
    have ht := ht.trans t2
    clear d1 d2 f1 f2 z1 t2
    go_wp2_with fail
    go_at_call 70
    refine (D.out _).mono ?_
    rintro r w3 ⟨rfl, t3⟩
    have o3 := (o3.only t3).alloc (.cells #[.int .u64 p, .int .u64 q] 85)
    have ht := (ht.trans t3).alloc (.cells #[.int .u64 p, .int .u64 q] 85)
    obtain ⟨d1, d2, f1, f2, z1⟩ := o3.all
    clear t3 o3
    go_wp2
    simp [bodyPost, results, Tryz.results34, go_sem, World.cell?_setCell_other, d1, d2]
    exact (ht.set (by omega) 0 _).set (by omega) 1 _

/-- the nearest quotient, halves to the even -/
def nearI (a d : Int) : Int := signed (twoSides a d) (nearest (far a) (far d))

theorem nearI_in {a d : Int} (ha : -85070591730234615865843651857942052864 ≤ a ∧ a ≤ 85070591730234615865843651857942052864) (hd : d ≠ 0) : In (nearI a d) := by
  have f1 : 0 ≤ far a ∧ far a ≤ 85070591730234615865843651857942052864 := by unfold far; split <;> omega
  have f2 : 0 < far d := by unfold far; split <;> omega
  have q0 : 0 ≤ far a / far d := Int.ediv_nonneg f1.1 (by omega)
  have q1 : far a / far d ≤ far a := Int.ediv_le_self _ f1.1
  have n0 : 0 ≤ nearest (far a) (far d) ∧ nearest (far a) (far d) ≤ far a + 1 := by unfold nearest; split <;> omega
  unfold nearI signed
  split <;> exact ⟨by omega, by omega⟩

theorem mul_bd {u n : Int} (hu : Bd u) (hn : I64 n) : -85070591730234615865843651857942052864 ≤ u * n ∧ u * n ≤ 85070591730234615865843651857942052864 := by
  obtain ⟨a1, a2⟩ := hu
  obtain ⟨b1, b2⟩ := hn
  have k1 : u.natAbs ≤ 4611686018427387904 := by omega
  have k2 : n.natAbs ≤ 9223372036854775808 := by omega
  have k3 := Nat.mul_le_mul k1 k2
  rw [← Int.natAbs_mul] at k3
  omega

def ratE (u : Int) (s : ByteArray) (n d : Int) : Int := if curE u s = 0 then if d = 0 then 17 else amE (nearI (u * n) d) else curE u s

theorem ratio_any {u n d : Int} (s : ByteArray) (hu : I64 u) (hn : I64 n) (hd : I64 d) : AnsIs 34 #[.agg #[.int .i64 u, .string s], .int .i64 n, .int .i64 d] (okI (ratE u s n d) (nearI (u * n) d)) (okS (ratE u s n d) s) (ratE u s n d) := by
  have C := currency_any u s
  unfold ratE
  by_cases h : curE u s = 0
  · rw [if_pos h]
    rw [h] at C
    have hb := curE_bd h
    have hm := mul_bd hb hn
    have hI : In (u * n) := ⟨by omega, by omega⟩
    have M : ∀ w, Calls Tryz.prog 69 #[.int .i64 u, .int .i64 n] w fun e w' => e = .returned (enc (u * n)) ∧ Only w w' := fun w => (mul_any hu hn w).mono fun _ _ k => ⟨k.1, k.2.2⟩
    by_cases h0 : d = 0
    · subst h0
      rw [if_pos rfl, okI_ne (by decide), okS_ne (by decide)]
      obtain ⟨i, j, -, -, -, -, -, e1⟩ := enc_words (u * n)
      rw [e1] at M
      exact ratio_walk C M (fun w => divEven_none w) (Or.inr ⟨rfl, rfl, rfl, rfl⟩)
    · rw [if_neg h0]
      have D := divEven_any hI hd h0
      have hN := nearI_in hm h0
      change ∀ w, Calls _ _ _ w fun e w' => e = .returned (ans (nearI (u * n) d)) ∧ Only w w' at D
      rw [ans_in hN] at D
      have A := amount_any s (fK s) hN
      obtain ⟨i, j, -, -, -, -, -, e1⟩ := enc_words (u * n)
      obtain ⟨p, q, -, -, -, -, -, e2⟩ := enc_words (nearI (u * n) d)
      rw [e1] at M D; rw [e2] at D A
      exact ratio_walk C M D (Or.inl ⟨rfl, A⟩)
  · rw [if_neg h]
    rw [okI_ne h, okS_ne h]
    exact ratio_bad C (ne_eqs h).1 (ne_eqs h).2
end Go.Proofs.YtopklnaahdjafaaGreatDoor
