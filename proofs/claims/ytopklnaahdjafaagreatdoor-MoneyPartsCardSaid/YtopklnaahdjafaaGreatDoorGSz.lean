/-
  PARTS: NSize, NSize2, NDivW, NDiv2.
-/
import Derived.Test.YtopklnaahdjafaaGreatDoorNSum
import Derived.Shelf.Bits.Mul64
import Derived.IntWalk
import Derived.Shelf.Small.Bits
import Derived.Lib.ItoaNum
import Derived.LoopTactic
import Derived.Lib.Hide
/-
  Sizes, and the numbers that they make.
-/
namespace Go.Proofs
open Go.Shelf
def Tryz.lays264_ren : Go.Shelf.Ren := ⟨fun | 264 => 100 | n => n, fun | 53 => 83 | 46 => 132 | n => n, fun | n => n⟩
theorem Tryz.lays264 : Go.Proofs.Lays.n264 Tryz.prog Tryz.lays264_ren := {
  mixed := by kernel_rfl
  f264 := Tryz.func100.trans (congrArg some (by kernel_rfl))
  t46 := Tryz.underlying132
  a46 := Tryz.isAgg132
  z46 := Tryz.sizeOf132
  v46 := Tryz.zeroValue132
  t53 := Tryz.underlying83
  a53 := Tryz.isAgg83
  z53 := Tryz.sizeOf83
  v53 := Tryz.zeroValue83 }
end Go.Proofs
namespace Go.Proofs.YtopklnaahdjafaaGreatDoor
open Go.RowKit Go.Shelf

/-- what turned answers of a number -/
abbrev TurnedIs (v u : Value) : Prop := ∀ w, Calls Tryz.prog 117 #[v] w fun e w' => e = .returned u ∧ Only w w'

theorem size_walk {h l i j : Int} {s : Bool} (B : BelowIs (.agg #[.int .u64 h, .int .u64 l]) s) (T : TurnedIs (.agg #[.int .u64 h, .int .u64 l]) (.agg #[.int .u64 i, .int .u64 j])) (w : World) :
    Calls Tryz.prog 103 #[.agg #[.int .u64 h, .int .u64 l]] w fun e w' => e = .returned (if s then .agg #[.int .u64 i, .int .u64 j] else .agg #[.int .u64 h, .int .u64 l]) ∧ Only w w' := by
  go_enter Tryz.func103, Tryz.ntmps103
  go_wp2_with fail
  go_at_call 80
  refine (B _).mono ?_
  rintro r w1 ⟨rfl, t1⟩
  obtain ⟨c1a, c1b, f1a, f1b, z1⟩ := (((Own2.new w (.int .u64 h) (.int .u64 l) 85).alloc _).only t1).all
  have o2 := (Own2.new1 w _ (.int .u64 0) (.int .u64 0) 148).only t1
  obtain ⟨c2a, c2b, f2a, f2b, z2⟩ := o2.all
  have ht := (((Only.refl w).alloc _).alloc _).trans t1
  clear t1 B
  cases s
  · go_wp2_with fail
    simp [bodyPost, results, Tryz.results103, go_sem, World.cell?_setCell_other, c2a, c2b]
    exact (ht.set (by omega) 0 _).set (by omega) 1 _
  · go_wp2_with fail
    go_at_call 117
    refine (T _).mono ?_
    rintro r w2 ⟨rfl, t2⟩
    obtain ⟨d2a, d2b, g2a, g2b, y2⟩ := (o2.only t2).all
    have ht2 := ht.trans t2
    clear t2 o2 c1a c1b c2a c2b f1a f1b f2a f2b
    go_wp2
    simp [bodyPost, results, Tryz.results103, go_sem, World.cell?_setCell_other, d2a, d2b]
    exact (ht2.set (by omega) 0 _).set (by omega) 1 _

theorem size_any {v : Int} (hv : In v) (w : World) : Calls Tryz.prog 103 #[enc v] w fun e w' => e = .returned (enc (if v < 0 then -v else v)) ∧ Only w w' := by
  have T := fun w => (turned_any v w).mono fun _ _ k => (⟨k.1, k.2.only⟩ : _ ∧ Only w _)
  have B := below_enc hv
  obtain ⟨h, l, -, -, -, -, -, e⟩ := enc_words v
  obtain ⟨i, j, -, -, -, -, -, e2⟩ := enc_words (-v)
  rw [e] at B; rw [e, e2] at T; rw [e]
  refine (size_walk B T w).mono fun r w' k => ⟨k.1.trans ?_, k.2⟩
  by_cases c : v < 0
  · simp only [c, decide_true, if_true]; rw [← e2]
  · simp only [c, decide_false, if_false]; rw [← e]; rfl

/-- what number answers, x being the number -/
def numRes (z b s : Bool) (x : Value) : Value := if z = false ∧ s ≠ b then .tuple #[.agg #[.int .u64 0, .int .u64 0], .int .i64 16] else .tuple #[x, .int .i64 0]

set_option maxHeartbeats 800000 in
theorem number_pos {h l : Int} {s z : Bool} (B : BelowIs (.agg #[.int .u64 h, .int .u64 l]) s) (hz : (z = true ∧ h = 0 ∧ l = 0) ∨ (z = false ∧ h = 0 ∧ l ≠ 0) ∨ (z = false ∧ h ≠ 0)) (w : World) :
    Calls Tryz.prog 102 #[.agg #[.int .u64 h, .int .u64 l], .bool false] w fun e w' => e = .returned (numRes z false s (.agg #[.int .u64 h, .int .u64 l])) ∧ Only w w' := by
  rcases hz with ⟨rfl, rfl, rfl⟩ | ⟨rfl, rfl, h2⟩ | ⟨rfl, h2⟩
  · go_enter Tryz.func102, Tryz.ntmps102
    go_wp2_with fail
    simp [bodyPost, results, Tryz.results102, go_sem, numRes]
    exact (((Only.refl w).alloc _).alloc _).alloc _
  all_goals
    cases s
    all_goals
      go_enter Tryz.func102, Tryz.ntmps102
      go_wp2_with fail
      go_at_call 80
      refine (B _).mono ?_
      rintro r w1 ⟨rfl, t1⟩
      obtain ⟨c2a, c2b, f2a, f2b, z2⟩ := (((Own2.new1 w _ (.int .u64 0) (.int .u64 0) 85).alloc _).only t1).all
      obtain ⟨c3a, c3b, f3a, f3b, z3⟩ := ((Own2.new2 w _ _ _ _ 85).only t1).all
      have ht := ((((Only.refl w).alloc _).alloc _).alloc _).trans t1
      clear t1 B
      go_wp2_with fail
      simp [bodyPost, results, Tryz.results102, go_sem, World.cell?_setCell_other, c2a, c2b, numRes]
      exact (ht.set (by omega) 0 _).set (by omega) 1 _

set_option maxHeartbeats 800000 in
theorem number_neg {h l i j : Int} {s z : Bool} (T : TurnedIs (.agg #[.int .u64 h, .int .u64 l]) (.agg #[.int .u64 i, .int .u64 j]))
    (B : BelowIs (.agg #[.int .u64 i, .int .u64 j]) s) (hz : (z = true ∧ h = 0 ∧ l = 0) ∨ (z = false ∧ h = 0 ∧ l ≠ 0) ∨ (z = false ∧ h ≠ 0)) (w : World) :
    Calls Tryz.prog 102 #[.agg #[.int .u64 h, .int .u64 l], .bool true] w fun e w' => e = .returned (numRes z true s (.agg #[.int .u64 i, .int .u64 j])) ∧ Only w w' := by
  rcases hz with ⟨rfl, rfl, rfl⟩ | ⟨rfl, rfl, h2⟩ | ⟨rfl, h2⟩
  · go_enter Tryz.func102, Tryz.ntmps102
    go_wp2_with fail
    go_at_call 117
    refine (T _).mono ?_
    rintro r w1 ⟨rfl, t1⟩
    obtain ⟨c1a, c1b, f1a, f1b, z1⟩ := ((((Own2.new w _ _ 148).alloc _).alloc _).only t1).all
    obtain ⟨c2a, c2b, f2a, f2b, z2⟩ := (((Own2.new1 w _ (.int .u64 0) (.int .u64 0) 85).alloc _).only t1).all
    obtain ⟨c3a, c3b, f3a, f3b, z3⟩ := ((Own2.new2 w _ _ _ _ 85).only t1).all
    have ht := ((((Only.refl w).alloc _).alloc _).alloc _).trans t1
    clear t1 B T
    go_wp2_with fail
    simp [bodyPost, results, Tryz.results102, go_sem, World.cell?_setCell_other, c2a, c2b, numRes]
    exact (((ht.set (by omega) 0 _).set (by omega) 1 _).set (by omega) 0 _).set (by omega) 1 _
  all_goals
    cases s
    all_goals
      go_enter Tryz.func102, Tryz.ntmps102
      go_wp2_with fail
      go_at_call 117
      refine (T _).mono ?_
      rintro r w1 ⟨rfl, t1⟩
      have o1 := (((Own2.new w _ _ 148).alloc _).alloc _).only t1
      have o2 := ((Own2.new1 w _ (.int .u64 0) (.int .u64 0) 85).alloc _).only t1
      have o3 := (Own2.new2 w _ _ _ _ 85).only t1
      obtain ⟨c1a, c1b, f1a, f1b, z1⟩ := o1.all
      obtain ⟨c3a, c3b, f3a, f3b, z3⟩ := o3.all
      have ht := ((((Only.refl w).alloc _).alloc _).alloc _).trans t1
      clear t1 T
      go_wp2_with fail
      go_at_call 80
      refine (B _).mono ?_
      rintro r w2 ⟨rfl, t2⟩
      obtain ⟨d2a, d2b, g2a, g2b, y2⟩ := (((o2.far (by omega) 0 _).far (by omega) 1 _).only t2).all
      obtain ⟨d3a, d3b, g3a, g3b, y3⟩ := ((o3.set _ _).only t2).all
      have ht2 := ((ht.set (by omega) 0 _).set (by omega) 1 _).trans t2
      clear t2 B o1 o2 o3 c1a c1b c3a c3b f1a f1b f3a f3b z1 z3 ht
      go_wp2_with fail
      simp [bodyPost, results, Tryz.results102, go_sem, World.cell?_setCell_other, d2a, d2b, numRes]
      exact (ht2.set (by omega) 0 _).set (by omega) 1 _

theorem number_any {v : Int} (hv : Un v) (b : Bool) (w : World) : Calls Tryz.prog 102 #[enc v, .bool b] w fun e w' => e = .returned (ans (if b then -v else v)) ∧ Only w w' := by
  have T := fun w => (turned_any v w).mono fun _ _ k => (⟨k.1, k.2.only⟩ : _ ∧ Only w _)
  obtain ⟨h, l, h0, h1, l0, l1, t, e⟩ := enc_words v
  obtain ⟨i, j, i0, i1, j0, j1, t2, e2⟩ := enc_words (-v)
  rw [e, e2] at T
  have hz : (decide (v = 0) = true ∧ h = 0 ∧ l = 0) ∨ (decide (v = 0) = false ∧ h = 0 ∧ l ≠ 0) ∨ (decide (v = 0) = false ∧ h ≠ 0) := by
    obtain ⟨eh, el⟩ := t
    obtain ⟨a, c⟩ := hv
    simp only [decide_eq_true_eq, decide_eq_false_iff_not]
    omega
  obtain ⟨a, c⟩ := hv
  rw [e]
  cases b
  · refine (number_pos (fun w => below_is h0 h1 rfl w) hz w).mono fun r w' k => ⟨k.1.trans ?_, k.2⟩
    obtain ⟨eh, el⟩ := t
    congr 1
    unfold numRes
    by_cases k : In v
    · rw [if_neg (by obtain ⟨k1, k2⟩ := k; simp only [decide_eq_false_iff_not, ne_eq]; omega)]
      exact ((ans_in k).trans (by rw [e])).symm
    · rw [if_pos (by unfold In at k; simp only [decide_eq_false_iff_not, ne_eq]; omega)]
      exact (ans_out k).symm
  · refine (number_neg T (fun w => below_is i0 i1 rfl w) hz w).mono fun r w' k => ⟨k.1.trans ?_, k.2⟩
    obtain ⟨eh, el⟩ := t2
    congr 1
    unfold numRes
    by_cases k : In (-v)
    · rw [if_neg (by obtain ⟨k1, k2⟩ := k; simp only [decide_eq_false_iff_not, ne_eq, Bool.not_eq_true]; omega)]
      exact ((ans_in k).trans (by rw [e2])).symm
    · rw [if_pos (by unfold In at k; simp only [decide_eq_false_iff_not, ne_eq, Bool.not_eq_true]; omega)]
      exact (ans_out k).symm

end Go.Proofs.YtopklnaahdjafaaGreatDoor

/-
  Sizes times a word, with a word added, by a word.
-/
namespace Go.Proofs.YtopklnaahdjafaaGreatDoor
open Go.RowKit Go.Shelf

theorem mul64 (x y : Int) (hx : Word x) (hy : Word y) (w : World) : Calls Tryz.prog 100 #[.int .u64 x, .int .u64 y] w fun e w' => e = .returned (.tuple #[.int .u64 (x * y / 18446744073709551616), .int .u64 (x * y % 18446744073709551616)]) ∧ w' = w := by
  obtain ⟨x0, x1⟩ := hx
  obtain ⟨y0, y1⟩ := hy
  obtain ⟨x, rfl⟩ := Int.eq_ofNat_of_zero_le x0
  obtain ⟨y, rfl⟩ := Int.eq_ofNat_of_zero_le y0
  have h := Any.bits_Mul64 Tryz.lays264 x y (by omega) (by omega) w
  rw [← Int.natCast_mul]
  generalize x * y = p at h ⊢
  rw [show ((p : Nat) : Int) / 18446744073709551616 = ((p / 18446744073709551616 : Nat) : Int) by omega, show ((p : Nat) : Int) % 18446744073709551616 = ((p % 18446744073709551616 : Nat) : Int) by omega]
  exact h

/-- what Mul64 answers -/
abbrev MulIs (x y hi lo : Int) : Prop := ∀ w, Calls Tryz.prog 100 #[.int .u64 x, .int .u64 y] w fun e w' => e = .returned (.tuple #[.int .u64 hi, .int .u64 lo]) ∧ w' = w
/-- what Add64 answers -/
abbrev AddIs (x y c lo hi : Int) : Prop := ∀ w, (callFunc 79 #[.int .u64 x, .int .u64 y, .int .u64 c]).run Tryz.prog w = .ok (.value (.tuple #[.int .u64 lo, .int .u64 hi])) w



theorem plus_walk {h l n c lo hi d : Int} {f : Bool} (A1 : AddIs l n 0 lo c) (A2 : AddIs h 0 c hi d) (hf : (f = true ∧ d = 0) ∨ (f = false ∧ d ≠ 0)) (w : World) :
    Calls Tryz.prog 105 #[.agg #[.int .u64 h, .int .u64 l], .int .u64 n] w fun e w' => e = .returned (.tuple #[.agg #[.int .u64 hi, .int .u64 lo], .bool f]) ∧ Only w w' := by
  rcases hf with ⟨rfl, rfl⟩ | ⟨rfl, h2⟩
  all_goals
    go_enter Tryz.func105, Tryz.ntmps105
    go_wp2_with (first | simp only [A1] | simp only [A2])
    simp [bodyPost, results, Tryz.results105, go_sem]
    first | exact ((Only.refl w).alloc _).alloc _ | exact ⟨h2, ((Only.refl w).alloc _).alloc _⟩

/-- what Div64 answers -/
abbrev DivIs (x y d q r : Int) : Prop := ∀ w, Calls Tryz.prog 118 #[.int .u64 x, .int .u64 y, .int .u64 d] w fun e w' => e = .returned (.tuple #[.int .u64 q, .int .u64 r]) ∧ Only w w'

set_option maxHeartbeats 800000 in
theorem by_walk {h l d q r : Int} (h0 : 0 ≤ h) (h1 : h < 18446744073709551616) (d0 : 0 < d) (D : DivIs (h % d) l d q r) (w : World) :
    Calls Tryz.prog 104 #[.agg #[.int .u64 h, .int .u64 l], .int .u64 d] w fun e w' => e = .returned (.tuple #[.agg #[.int .u64 (h / d), .int .u64 q], .int .u64 r]) ∧ Only w w' := by
  have i0 : 0 ≤ d := by omega
  have i1 : ¬ d = 0 := by omega
  have i2 : (d == 0) = false := by simp; omega
  go_enter Tryz.func104, Tryz.ntmps104
  go_wp2_with fail
  have o1 := (Own2.new w (.int .u64 h) (.int .u64 l) 148).alloc (.cells #[.int .u64 0, .int .u64 0] 148)
  have o2 := Own2.new1 w (.cells #[.int .u64 h, .int .u64 l] 148) (.int .u64 0) (.int .u64 0) 148
  obtain ⟨k1, k2⟩ := o1.cone
  refine wp_region_cone (by kernel_rfl) (by kernel_rfl) ?_
  repeat (any_goals (first | go_big_quiet_step ((go_at_call 118; exact Cone.call (D _))) | quiet_step ((go_at_call 118; exact Cone.call (D _)))))
  refine wpQuiet_nil ?_
  rintro _ ⟨⟨w1, t1⟩, rfl⟩
  obtain ⟨c1, c2, f1, f2, z1⟩ := (o1.only t1).all
  obtain ⟨c3, c4, f3, f4, z3⟩ := (o2.only t1).all
  have ht := (((Only.refl w).alloc _).alloc _).trans t1
  clear k1 k2 t1 o1 o2
  go_wp2_with fail
  have e1 : IntKind.u64.wrap (h.tdiv d) = h / d := by
    rw [Int.tdiv_eq_ediv_of_nonneg h0, IntKind.wrap_u64]
    have := Int.ediv_le_self d h0
    have := Int.ediv_nonneg h0 i0
    omega
  simp [bodyPost, results, Tryz.results104, go_sem, World.cell?_setCell_other, c3, c4]
  exact (ht.set (by omega) 0 _).set (by omega) 1 _

theorem enc_parts {h l v : Int} (hh : Word h) (hl : Word l) (e : v = h * 18446744073709551616 + l) : Value.agg #[.int .u64 h, .int .u64 l] = enc v := by
  obtain ⟨h0, h1⟩ := hh
  obtain ⟨l0, l1⟩ := hl
  exact enc_mk (by omega) (by omega)

theorem un_words {v : Int} (hv : Un v) : ∃ h l : Int, Word h ∧ Word l ∧ v = h * 18446744073709551616 + l ∧ enc v = .agg #[.int .u64 h, .int .u64 l] := by
  obtain ⟨a, b⟩ := hv
  refine ⟨v / 18446744073709551616, v % 18446744073709551616, ⟨by omega, by omega⟩, ⟨by omega, by omega⟩, by omega, ?_⟩
  exact (enc_mk (by omega) (by omega)).symm



theorem plus_any {v n : Int} (hv : Un v) (hn : Word n) (w : World) : Calls Tryz.prog 105 #[enc v, .int .u64 n] w fun e w' => e = .returned (.tuple #[enc (v + n), .bool (decide (Un (v + n)))]) ∧ Only w w' := by
  obtain ⟨h, l, ⟨h0, h1⟩, ⟨l0, l1⟩, rfl, e⟩ := un_words hv
  obtain ⟨n0, n1⟩ := hn
  rw [e]
  have hf : ∃ f : Bool, f = decide (Un (h * 18446744073709551616 + l + n)) := ⟨_, rfl⟩
  obtain ⟨f, hf⟩ := hf
  rw [← hf]
  refine (plus_walk (f := f) (add64_0 l n l0 n0) (add64 h 0 ((l + n) / 18446744073709551616) h0 (Int.le_refl 0) (by omega) (by omega)) ?_ w).mono fun r w' k => ⟨k.1.trans ?_, k.2⟩
  · by_cases c : Un (h * 18446744073709551616 + l + n)
    · rw [decide_eq_true c] at hf
      obtain ⟨c1, c2⟩ := c
      exact Or.inl ⟨hf, by omega⟩
    · rw [decide_eq_false c] at hf
      unfold Un at c
      exact Or.inr ⟨hf, by omega⟩
  · rw [enc_mk (v := h * 18446744073709551616 + l + n) (by omega) (by omega)]
end Go.Proofs.YtopklnaahdjafaaGreatDoor

/-
  math/bits.Div64.
-/
namespace Go.Proofs
open Go.Shelf
def Tryz.lays134_ren : Go.Shelf.Ren := ⟨fun | 134 => 130 | 129 => 136 | n => n, fun | 53 => 83 | 3 => 3 | 4 => 4 | 46 => 132 | 5 => 5 | 9 => 9 | n => n, fun | n => n⟩
theorem Tryz.lays134 : Go.Proofs.Lays.n134 Tryz.prog Tryz.lays134_ren := {
  mixed := by kernel_rfl
  f129 := Tryz.func136.trans (congrArg some (by kernel_rfl))
  f134 := Tryz.func130.trans (congrArg some (by kernel_rfl))
  t3 := Tryz.underlying3
  a3 := Tryz.isAgg3
  z3 := Tryz.sizeOf3
  v3 := Tryz.zeroValue3
  t4 := Tryz.underlying4
  a4 := Tryz.isAgg4
  z4 := Tryz.sizeOf4
  v4 := Tryz.zeroValue4
  t5 := Tryz.underlying5
  a5 := Tryz.isAgg5
  z5 := Tryz.sizeOf5
  v5 := Tryz.zeroValue5
  t9 := Tryz.underlying9
  a9 := Tryz.isAgg9
  z9 := Tryz.sizeOf9
  v9 := Tryz.zeroValue9
  t46 := Tryz.underlying132
  a46 := Tryz.isAgg132
  z46 := Tryz.sizeOf132
  v46 := Tryz.zeroValue132
  t53 := Tryz.underlying83
  a53 := Tryz.isAgg83
  z53 := Tryz.sizeOf83
  v53 := Tryz.zeroValue83 }
end Go.Proofs
namespace Go.Proofs.YtopklnaahdjafaaGreatDoor
open Go.RowKit Go.Shelf
set_option linter.unusedVariables false

/-- what a round reckons -/
theorem half_words {u d a b q r : Nat} (h : Half u d a b q r) (ha : a < 4294967296) (hb : b < 4294967296) (hd : d < 4294967296) : ∃ m t ra p : Nat, m = q * b ∧ t = 4294967296 * r + d ∧ ra = r + a ∧ p = q - 1 ∧
    IntKind.u64.wrap ((q : Int) * b) = m ∧ IntKind.u64.wrap (IntKind.u64.wrap (4294967296 * (r : Int)) + d) = t ∧ IntKind.u64.wrap ((r : Int) + a) = ra ∧ (1 ≤ q → IntKind.u64.wrap ((q : Int) - 1) = p) := by
  have h1 := h.low
  have h2 := h.small
  have k : q * b ≤ 4294967297 * 4294967295 := Nat.mul_le_mul h1 (by omega)
  refine ⟨_, _, _, _, rfl, rfl, rfl, rfl, ?_, ?_, ?_, fun h3 => ?_⟩
  · rw [← Int.natCast_mul, IntKind.wrap_u64]; generalize q * b = m at *; omega
  · rw [IntKind.wrap_u64, IntKind.wrap_u64]; omega
  · rw [IntKind.wrap_u64]; omega
  · rw [IntKind.wrap_u64]; omega

/-- the quotient of a half, as it is left -/
theorem half_end {u d a b q r : Nat} (h : Half u d a b q r) (ha : 2147483648 ≤ a) {m t : Nat} (hm : m = q * b) (ht : t = 4294967296 * r + d) (c2 : ¬ t < m) : q = (u * 4294967296 + d) / (a * 4294967296 + b) :=
  half_done h ha (by rw [← hm, ← ht]; exact c2)

set_option maxRecDepth 100000 in
set_option maxHeartbeats 3200000 in
theorem div64_great {x y d : Int} {s : Nat} (x0 : 0 ≤ x) (x1 : x < d) (y0 : 0 ≤ y) (y1 : y < 18446744073709551616) (dd : d < 18446744073709551616) (s1 : s ≤ 63)
   (LZ : ∀ w, Calls Tryz.prog 130 #[.int .u64 d] w fun e w' => e = .returned (.int .i64 s) ∧ w' = w) (hx : ¬ x = 0) {D L : Int} {a b u d1 d0 q0 r0 Q1 m1 q2 r2 Q2 : Nat} {Q R : Int}
   (e1 : IntKind.u64.wrap (d * 2 ^ s) = D) (e2 : D / 4294967296 = a) (e3 : bits .and .u64 D 4294967295 = b) (e4 : IntKind.u64.wrap (y * 2 ^ s) = L) (e5 : L / 4294967296 = d1) (e6 : bits .and .u64 L 4294967295 = d0)
   (e7 : bits .or .u64 (IntKind.u64.wrap (x * 2 ^ s)) (y / 2 ^ (64 - s)) = u) (aa : (2147483648 : Int) ≤ a) (A1 : Hid (a < 4294967296)) (HB : Hid (b < 4294967296)) (HD1 : Hid (d1 < 4294967296)) (HD0 : Hid (d0 < 4294967296))
   (e8 : (u : Int) / a = q0) (ew : IntKind.u64.wrap (q0 : Int) = q0) (e9 : IntKind.u64.wrap (u - IntKind.u64.wrap (q0 * a)) = r0) (HU : Hid (u < a * 4294967296 + b)) (HH : Hid (Half u d1 a b q0 r0)) (Q1E : Hid (Q1 = (u * 4294967296 + d1) / (a * 4294967296 + b)))
   (g1 : IntKind.u64.wrap (IntKind.u64.wrap (IntKind.u64.wrap (u * 4294967296) + d1) - IntKind.u64.wrap (Q1 * D)) = m1)
   (g8 : (m1 : Int) / a = q2) (gw : IntKind.u64.wrap (q2 : Int) = q2) (g9 : IntKind.u64.wrap (m1 - IntKind.u64.wrap (q2 * a)) = r2) (HU2 : Hid (m1 < a * 4294967296 + b)) (H2 : Hid (Half m1 d0 a b q2 r2)) (Q2E : Hid (Q2 = (m1 * 4294967296 + d0) / (a * 4294967296 + b)))
   (k1' : IntKind.u64.wrap (IntKind.u64.wrap (Q1 * 4294967296) + Q2) = Q) (k2' : IntKind.u64.wrap (IntKind.u64.wrap (IntKind.u64.wrap (m1 * 4294967296) + d0) - IntKind.u64.wrap (Q2 * D)) / 2 ^ s = R) (w : World) :
    Calls Tryz.prog 118 #[.int .u64 x, .int .u64 y, .int .u64 d] w fun e w' => e = .returned (.tuple #[.int .u64 Q, .int .u64 R]) ∧ w' = w := by
  have h1 : ¬ d = 0 := by omega
  have h2 : ¬ d ≤ x := by omega
  have A0 : Hid (2147483648 ≤ a) := Lib.hid (by omega)
  go_enter Tryz.func118, Tryz.ntmps118
  go_wp2_with (go_at_call 130; refine (LZ _).mono ?_; rintro r w1 ⟨rfl, rfl⟩)
  go_loop [15, 16] (fun i j => ∃ q r : Nat, i = .int .u64 q ∧ j = .int .u64 r ∧ Half u d1 a b q r) (fun i _ => (intOf i).toNat)
  case atStart => exact ⟨_, _, rfl, rfl, HH.out⟩
  case round =>
    obtain ⟨q, r, rfl, rfl, hq⟩ := hrel
    obtain ⟨m, t, ra, p, hm, ht, hra, hp, hmw, htw, hraw, hpw0⟩ := half_words hq A1.out HB.out HD1.out
    have HQ := Lib.hid hq
    have HM := Lib.hid hm
    have HT := Lib.hid ht
    have HRA := Lib.hid hra
    have HP := Lib.hid hp
    have HPW := Lib.hid hpw0
    clear hq hm ht hra hp hpw0
    by_cases c0 : 4294967296 ≤ q ∨ t < m
    · have hpw : IntKind.u64.wrap ((q : Int) - 1) = p := HPW.out (by rcases c0 with c | c; omega; (rcases Nat.eq_zero_or_pos q with e | e; (have := HM.out; rw [e, Nat.zero_mul] at this; omega); exact e))
      have C0 := Lib.hid (show 4294967296 ≤ q ∨ 4294967296 * r + d1 < q * b by rw [← HM.out, ← HT.out]; exact c0)
      have hq1 : Half u d1 a b q r := HQ.out
      have hlt : p < q := by have hq0 : 0 < q := Nat.lt_of_le_of_lt (Nat.zero_le _) (half_more hq1 HD1.out HU.out C0.out); clear hq1; have := HP.out; omega
      have HLT := Lib.hid hlt
      clear hq1 hlt
      by_cases c3 : 4294967296 ≤ ra
      · have hpq : p = Q1 := by rw [HP.out]; exact (half_break HQ.out HB.out HD1.out HU.out C0.out (by rw [← HRA.out]; exact c3)).trans Q1E.out.symm
        clear HP HLT
        subst hpq
        have k3 : decide ((4294967296 : Int) ≤ ra) = true := by simp; omega
        clear c3
        by_cases c1 : 4294967296 ≤ q
        all_goals
          have k1 : decide ((4294967296 : Int) ≤ q) = decide (4294967296 ≤ q) := by simp; omega
          (first | rw [decide_eq_true c1] at k1 | rw [decide_eq_false c1] at k1)
          (first | (have c2 : t < m := by rcases c0 with c | c; omega; exact c
                    have k2 : decide (t < m) = true := decide_eq_true c2
                    clear c2) | skip)
          clear c1 c0 C0
          go_wp2
          go_loop [18, 16] (fun i j => ∃ q r : Nat, i = .int .u64 q ∧ j = .int .u64 r ∧ Half m1 d0 a b q r) (fun i _ => (intOf i).toNat)
          case atStart => exact ⟨_, _, rfl, rfl, H2.out⟩
          case round =>
            obtain ⟨q, r, rfl, rfl, hq⟩ := hrel
            obtain ⟨m, t, ra, p, hm, ht, hra, hp, hmw, htw, hraw, hpw0⟩ := half_words hq A1.out HB.out HD0.out
            have HQ := Lib.hid hq
            have HM := Lib.hid hm
            have HT := Lib.hid ht
            have HRA := Lib.hid hra
            have HP := Lib.hid hp
            have HPW := Lib.hid hpw0
            clear hq hm ht hra hp hpw0
            by_cases c0 : 4294967296 ≤ q ∨ t < m
            · have hpw : IntKind.u64.wrap ((q : Int) - 1) = p := HPW.out (by rcases c0 with c | c; omega; (rcases Nat.eq_zero_or_pos q with e | e; (have := HM.out; rw [e, Nat.zero_mul] at this; omega); exact e))
              have C0 := Lib.hid (show 4294967296 ≤ q ∨ 4294967296 * r + d0 < q * b by rw [← HM.out, ← HT.out]; exact c0)
              have hq1 : Half m1 d0 a b q r := HQ.out
              have hlt : p < q := by have hq0 : 0 < q := Nat.lt_of_le_of_lt (Nat.zero_le _) (half_more hq1 HD0.out HU2.out C0.out); clear hq1; have := HP.out; omega
              have HLT := Lib.hid hlt
              clear hq1 hlt
              by_cases c3 : 4294967296 ≤ ra
              · have hpq : p = Q2 := by rw [HP.out]; exact (half_break HQ.out HB.out HD0.out HU2.out C0.out (by rw [← HRA.out]; exact c3)).trans Q2E.out.symm
                clear HP HLT
                subst hpq
                have k3 : decide ((4294967296 : Int) ≤ ra) = true := by simp; omega
                clear c3
                by_cases c1 : 4294967296 ≤ q
                all_goals
                  have k1 : decide ((4294967296 : Int) ≤ q) = decide (4294967296 ≤ q) := by simp; omega
                  (first | rw [decide_eq_true c1] at k1 | rw [decide_eq_false c1] at k1)
                  (first | (have c2 : t < m := by rcases c0 with c | c; omega; exact c
                            have k2 : decide (t < m) = true := decide_eq_true c2
                            clear c2) | skip)
                  clear c1 c0 C0
                  go_wp2
                  go_ret2
                  exact ⟨rfl, rfl⟩
              · have hn : Half m1 d0 a b p ra := by rw [HP.out, HRA.out]; exact half_next HQ.out HD0.out HU2.out C0.out (by rw [← HRA.out]; omega)
                have HN := Lib.hid hn
                clear hn
                have k3 : decide ((4294967296 : Int) ≤ ra) = false := by simp; omega
                clear c3
                by_cases c1 : 4294967296 ≤ q
                all_goals
                  have k1 : decide ((4294967296 : Int) ≤ q) = decide (4294967296 ≤ q) := by simp; omega
                  (first | rw [decide_eq_true c1] at k1 | rw [decide_eq_false c1] at k1)
                  (first | (have c2 : t < m := by rcases c0 with c | c; omega; exact c
                            have k2 : decide (t < m) = true := decide_eq_true c2
                            clear c2) | skip)
                  clear c1 c0 C0
                  go_wp2
                  go_round
                  case rel => exact ⟨p, ra, rfl, rfl, HN.out⟩
                  case measure => have := HLT.out; simp [intOf]; omega
            · have hqq : q = Q2 := (half_end HQ.out A0.out HM.out HT.out (by omega)).trans Q2E.out.symm
              subst hqq
              have k1 : decide ((4294967296 : Int) ≤ q) = false := by simp; omega
              have k2 : decide (t < m) = false := by simp; omega
              clear c0
              go_wp2
              go_ret2
              exact ⟨rfl, rfl⟩
      · have hn : Half u d1 a b p ra := by rw [HP.out, HRA.out]; exact half_next HQ.out HD1.out HU.out C0.out (by rw [← HRA.out]; omega)
        have HN := Lib.hid hn
        clear hn
        have k3 : decide ((4294967296 : Int) ≤ ra) = false := by simp; omega
        clear c3
        by_cases c1 : 4294967296 ≤ q
        all_goals
          have k1 : decide ((4294967296 : Int) ≤ q) = decide (4294967296 ≤ q) := by simp; omega
          (first | rw [decide_eq_true c1] at k1 | rw [decide_eq_false c1] at k1)
          (first | (have c2 : t < m := by rcases c0 with c | c; omega; exact c
                    have k2 : decide (t < m) = true := decide_eq_true c2
                    clear c2) | skip)
          clear c1 c0 C0
          go_wp2
          go_round
          case rel => exact ⟨p, ra, rfl, rfl, HN.out⟩
          case measure => have := HLT.out; simp [intOf]; omega
    · have hqq : q = Q1 := (half_end HQ.out A0.out HM.out HT.out (by omega)).trans Q1E.out.symm
      subst hqq
      have k1 : decide ((4294967296 : Int) ≤ q) = false := by simp; omega
      have k2 : decide (t < m) = false := by simp; omega
      clear c0
      go_wp2
      go_loop [18, 16] (fun i j => ∃ q r : Nat, i = .int .u64 q ∧ j = .int .u64 r ∧ Half m1 d0 a b q r) (fun i _ => (intOf i).toNat)
      case atStart => exact ⟨_, _, rfl, rfl, H2.out⟩
      case round =>
        obtain ⟨q, r, rfl, rfl, hq⟩ := hrel
        obtain ⟨m, t, ra, p, hm, ht, hra, hp, hmw, htw, hraw, hpw0⟩ := half_words hq A1.out HB.out HD0.out
        have HQ := Lib.hid hq
        have HM := Lib.hid hm
        have HT := Lib.hid ht
        have HRA := Lib.hid hra
        have HP := Lib.hid hp
        have HPW := Lib.hid hpw0
        clear hq hm ht hra hp hpw0
        by_cases c0 : 4294967296 ≤ q ∨ t < m
        · have hpw : IntKind.u64.wrap ((q : Int) - 1) = p := HPW.out (by rcases c0 with c | c; omega; (rcases Nat.eq_zero_or_pos q with e | e; (have := HM.out; rw [e, Nat.zero_mul] at this; omega); exact e))
          have C0 := Lib.hid (show 4294967296 ≤ q ∨ 4294967296 * r + d0 < q * b by rw [← HM.out, ← HT.out]; exact c0)
          have hq1 : Half m1 d0 a b q r := HQ.out
          have hlt : p < q := by have hq0 : 0 < q := Nat.lt_of_le_of_lt (Nat.zero_le _) (half_more hq1 HD0.out HU2.out C0.out); clear hq1; have := HP.out; omega
          have HLT := Lib.hid hlt
          clear hq1 hlt
          by_cases c3 : 4294967296 ≤ ra
          · have hpq : p = Q2 := by rw [HP.out]; exact (half_break HQ.out HB.out HD0.out HU2.out C0.out (by rw [← HRA.out]; exact c3)).trans Q2E.out.symm
            clear HP HLT
            subst hpq
            have k3 : decide ((4294967296 : Int) ≤ ra) = true := by simp; omega
            clear c3
            by_cases c1 : 4294967296 ≤ q
            all_goals
              have k1 : decide ((4294967296 : Int) ≤ q) = decide (4294967296 ≤ q) := by simp; omega
              (first | rw [decide_eq_true c1] at k1 | rw [decide_eq_false c1] at k1)
              (first | (have c2 : t < m := by rcases c0 with c | c; omega; exact c
                        have k2 : decide (t < m) = true := decide_eq_true c2
                        clear c2) | skip)
              clear c1 c0 C0
              go_wp2
              go_ret2
              exact ⟨rfl, rfl⟩
          · have hn : Half m1 d0 a b p ra := by rw [HP.out, HRA.out]; exact half_next HQ.out HD0.out HU2.out C0.out (by rw [← HRA.out]; omega)
            have HN := Lib.hid hn
            clear hn
            have k3 : decide ((4294967296 : Int) ≤ ra) = false := by simp; omega
            clear c3
            by_cases c1 : 4294967296 ≤ q
            all_goals
              have k1 : decide ((4294967296 : Int) ≤ q) = decide (4294967296 ≤ q) := by simp; omega
              (first | rw [decide_eq_true c1] at k1 | rw [decide_eq_false c1] at k1)
              (first | (have c2 : t < m := by rcases c0 with c | c; omega; exact c
                        have k2 : decide (t < m) = true := decide_eq_true c2
                        clear c2) | skip)
              clear c1 c0 C0
              go_wp2
              go_round
              case rel => exact ⟨p, ra, rfl, rfl, HN.out⟩
              case measure => have := HLT.out; simp [intOf]; omega
        · have hqq : q = Q2 := (half_end HQ.out A0.out HM.out HT.out (by omega)).trans Q2E.out.symm
          subst hqq
          have k1 : decide ((4294967296 : Int) ≤ q) = false := by simp; omega
          have k2 : decide (t < m) = false := by simp; omega
          clear c0
          go_wp2
          go_ret2
          exact ⟨rfl, rfl⟩
end Go.Proofs.YtopklnaahdjafaaGreatDoor

/-
  Div64: the quotient and the rest of two words by one.
-/
namespace Go.Proofs.YtopklnaahdjafaaGreatDoor
open Go.RowKit Go.Shelf

theorem div_facts {x y d s : Nat} (hs : s ≤ 63) (hx : x < d) (h2 : d * 2 ^ s < 18446744073709551616) (hy : y < 18446744073709551616) :
    x * 2 ^ s + y / 2 ^ (64 - s) < d * 2 ^ s ∧ (x * 2 ^ s + y / 2 ^ (64 - s)) * 18446744073709551616 + y * 2 ^ s % 18446744073709551616 = (x * 18446744073709551616 + y) * 2 ^ s ∧ x * 2 ^ s < 18446744073709551616 ∧ y / 2 ^ (64 - s) < 2 ^ s := by
  have e : 2 ^ (64 - s) * 2 ^ s = 18446744073709551616 := by rw [← Nat.pow_add, show 64 - s + s = 64 by omega]
  have h3 : y / 2 ^ (64 - s) < 2 ^ s := Nat.div_lt_of_lt_mul (by rw [e]; exact hy)
  have h4 : y * 2 ^ s / 18446744073709551616 = y / 2 ^ (64 - s) := by rw [← e]; exact Nat.mul_div_mul_right _ _ (Nat.two_pow_pos s)
  have h5 : (x + 1) * 2 ^ s ≤ d * 2 ^ s := Nat.mul_le_mul_right _ hx
  rw [Nat.add_mul] at h5
  refine ⟨by omega, ?_, by omega, h3⟩
  have h6 : (x * 18446744073709551616 + y) * 2 ^ s = x * 2 ^ s * 18446744073709551616 + y * 2 ^ s := by rw [Nat.add_mul, Nat.mul_right_comm]
  rw [h6, ← h4]
  omega

theorem bits_halves {D : Nat} (h : D < 18446744073709551616) : bits .and .u64 (D : Int) 4294967295 = ((D % 4294967296 : Nat) : Int) := Mul64.maskN D h

theorem or_parts {x z s : Nat} (hz : z < 2 ^ s) (hx : x * 2 ^ s < 18446744073709551616) (h : x * 2 ^ s + z < 18446744073709551616) : bits .or .u64 ((x * 2 ^ s : Nat) : Int) (z : Int) = ((x * 2 ^ s + z : Nat) : Int) := by
  rw [bits_or_u64_nat _ _ hx (by omega), ← Nat.shiftLeft_eq, Nat.shiftLeft_add_eq_or_of_lt hz]

theorem wrapNat (n : Nat) (h : n < 18446744073709551616) : IntKind.u64.wrap (n : Int) = n := by rw [IntKind.wrap_u64]; omega

/-- one step's rest, as the words leave it -/
theorem rest_words {u c D Q : Nat} (hD : 0 < D) (hD2 : D < 18446744073709551616) (hQ : Q = (u * 4294967296 + c) / D) : IntKind.u64.wrap (IntKind.u64.wrap (IntKind.u64.wrap ((u : Int) * 4294967296) + c) - IntKind.u64.wrap ((Q : Int) * D)) = (((u * 4294967296 + c) % D : Nat) : Int) := by
  have h1 := Nat.div_add_mod (u * 4294967296 + c) D
  have h2 := Nat.mod_lt (u * 4294967296 + c) hD
  rw [← hQ, Nat.mul_comm] at h1
  rw [← Int.natCast_mul, IntKind.wrap_u64, IntKind.wrap_u64, IntKind.wrap_u64, IntKind.wrap_u64]
  generalize Q * D = p at *
  generalize (u * 4294967296 + c) % D = m at *
  omega

theorem half_start {u c D : Nat} (hu : u < D) (hc : c < 4294967296) (hD : 9223372036854775808 ≤ D) (hD2 : D < 18446744073709551616) :
    2147483648 ≤ D / 4294967296 ∧ D / 4294967296 < 4294967296 ∧ D % 4294967296 < 4294967296 ∧ D / 4294967296 * 4294967296 + D % 4294967296 = D ∧
    Half u c (D / 4294967296) (D % 4294967296) (u / (D / 4294967296)) (u % (D / 4294967296)) ∧ ((u : Int) / ((D / 4294967296 : Nat) : Int) = ((u / (D / 4294967296) : Nat) : Int)) ∧
    IntKind.u64.wrap ((u / (D / 4294967296) : Nat) : Int) = ((u / (D / 4294967296) : Nat) : Int) ∧
    IntKind.u64.wrap (u - IntKind.u64.wrap (((u / (D / 4294967296) : Nat) : Int) * ((D / 4294967296 : Nat) : Int))) = ((u % (D / 4294967296) : Nat) : Int) := by
  have h1 : 2147483648 ≤ D / 4294967296 := by omega
  have h2 : D / 4294967296 < 4294967296 := by omega
  have h3 : D % 4294967296 < 4294967296 := by omega
  have h4 : D / 4294967296 * 4294967296 + D % 4294967296 = D := by omega
  refine ⟨h1, h2, h3, h4, half_first h1 h2 h3 hc (by omega), rfl, ?_, ?_⟩
  · have := Nat.div_le_self u (D / 4294967296)
    exact wrapNat _ (by omega)
  · have k := Nat.div_add_mod u (D / 4294967296)
    rw [Nat.mul_comm] at k
    rw [← Int.natCast_mul, wrapNat _ (by omega), IntKind.wrap_u64]
    omega

theorem div64_zero {y d : Nat} (hd : 0 < d) (hy : y < 18446744073709551616) (hd2 : d < 18446744073709551616) (w : World) :
    Calls Tryz.prog 118 #[.int .u64 (0 : Int), .int .u64 y, .int .u64 d] w fun e w' => e = .returned (.tuple #[.int .u64 ((y / d : Nat) : Int), .int .u64 ((y % d : Nat) : Int)]) ∧ Only w w' := by
  have i0 : (0 : Int) ≤ d := by omega
  have i1 : ¬ (d : Int) = 0 := by omega
  have i2 : ((d : Int) == 0) = false := by simp; omega
  have i3 : ¬ (d : Int) ≤ 0 := by omega
  go_enter Tryz.func118, Tryz.ntmps118
  go_wp2_with fail
  refine wp_region_cone (by kernel_rfl) (by kernel_rfl) ?_
  repeat (any_goals (first | go_big_quiet_step ((fail)) | quiet_step ((fail))))
  refine wpQuiet_nil ?_
  rintro _ ⟨⟨w1, t1⟩, rfl⟩
  go_wp2_with fail
  go_ret2
  have e1 : IntKind.u64.wrap ((y : Int) / d) = ((y / d : Nat) : Int) := by
    have := Nat.div_le_self y d
    exact wrapNat (y / d) (by omega)
  exact ⟨by simp [e1], t1⟩

theorem join_words {A B C : Nat} (h : A * 4294967296 + B = C) (hC : C < 18446744073709551616) : IntKind.u64.wrap (IntKind.u64.wrap ((A : Int) * 4294967296) + (B : Int)) = (C : Int) := by
  rw [IntKind.wrap_u64, IntKind.wrap_u64]; omega

theorem div64_any (x y d : Nat) (hx : x < d) (hy : y < 18446744073709551616) (hd : d < 18446744073709551616) (w : World) :
    Calls Tryz.prog 118 #[.int .u64 x, .int .u64 y, .int .u64 d] w fun e w' => e = .returned (.tuple #[.int .u64 (((x * 18446744073709551616 + y) / d : Nat) : Int), .int .u64 (((x * 18446744073709551616 + y) % d : Nat) : Int)]) ∧ Only w w' := by
  by_cases z : x = 0
  · subst z
    simpa using div64_zero hx hy hd w
  obtain ⟨bl1, bl2, bl3⟩ := Lib.bitLenAux_bounds 64 d (by omega) (by omega)
  have bl4 := Lib.bitLen_le d 64 (Nat.le_refl _) (by omega)
  have LZ := fun w => Any.bits_LeadingZeros64 Tryz.lays134 (d : Int) w (by omega) (by omega)
  change 1 ≤ Lib.bitLen d at bl1
  change 2 ^ (Lib.bitLen d - 1) ≤ d at bl2
  change d < 2 ^ Lib.bitLen d at bl3
  rw [show ((d : Int).toNat) = d by omega] at LZ
  generalize Lib.bitLen d = n at *
  obtain ⟨s, hs⟩ : ∃ s, s = 64 - n := ⟨_, rfl⟩
  rw [show (64 - (n : Int)) = (s : Int) by omega] at LZ
  have h1 : 9223372036854775808 ≤ d * 2 ^ s := by
    have k := Nat.mul_le_mul_right (2 ^ s) bl2
    rw [← Nat.pow_add, show n - 1 + s = 63 by omega] at k
    exact k
  have h2 : d * 2 ^ s < 18446744073709551616 := by
    have k := Nat.mul_lt_mul_of_pos_right bl3 (Nat.two_pow_pos s)
    rw [← Nat.pow_add, show n + s = 64 by omega] at k
    exact k
  have s63 : s ≤ 63 := by omega
  clear bl1 bl2 bl3
  obtain ⟨f1, f2, f3, f4⟩ := div_facts s63 hx h2 hy
  obtain ⟨D, hD⟩ : ∃ D, D = d * 2 ^ s := ⟨_, rfl⟩
  obtain ⟨L, hL⟩ : ∃ L, L = y * 2 ^ s % 18446744073709551616 := ⟨_, rfl⟩
  obtain ⟨u, hu⟩ : ∃ u, u = x * 2 ^ s + y / 2 ^ (64 - s) := ⟨_, rfl⟩
  have e7 : bits .or .u64 (IntKind.u64.wrap ((x : Int) * 2 ^ s)) ((y : Int) / 2 ^ (64 - s)) = u := by
    rw [show ((x : Int) * 2 ^ s) = ((x * 2 ^ s : Nat) : Int) by simp, wrapNat _ f3, show ((y : Int) / 2 ^ (64 - s)) = ((y / 2 ^ (64 - s) : Nat) : Int) by simp, hu]
    exact or_parts f4 f3 (by omega)
  have e1 : IntKind.u64.wrap ((d : Int) * 2 ^ s) = D := by
    rw [show ((d : Int) * 2 ^ s) = ((d * 2 ^ s : Nat) : Int) by simp, wrapNat _ h2, hD]
  have e4 : IntKind.u64.wrap ((y : Int) * 2 ^ s) = L := by
    rw [show ((y : Int) * 2 ^ s) = ((y * 2 ^ s : Nat) : Int) by simp, IntKind.wrap_u64, hL]; omega
  have hLl : L < 18446744073709551616 := by omega
  rw [← hu, ← hL] at f2
  rw [← hu, ← hD] at f1
  rw [← hD] at h1 h2
  have hp := Nat.two_pow_pos s
  obtain ⟨sh1, sh2⟩ := shifted (x * 18446744073709551616 + y) d s
  rw [← f2, ← hD] at sh1 sh2
  obtain ⟨j1, j2, j3, j4, j5, j6, j7, j8⟩ := half_start (c := L / 4294967296) f1 (by omega) h1 h2
  have hD0' : 0 < D := Nat.lt_of_lt_of_le (by decide) h1
  have hm1 := Nat.mod_lt (u * 4294967296 + L / 4294967296) hD0'
  have st := two_steps (u := u) (d1 := L / 4294967296) (d0 := L % 4294967296) (y := D) hD0' (Nat.div_add_mod (u * 4294967296 + L / 4294967296) D)
  have eL : L / 4294967296 * 4294967296 + L % 4294967296 = L := by rw [Nat.mul_comm]; exact Nat.div_add_mod L 4294967296
  rw [eL] at st
  have hD0 := hD0'
  have g1 := rest_words (u := u) (c := L / 4294967296) (Q := (u * 4294967296 + L / 4294967296) / D) hD0 h2 rfl
  obtain ⟨m1, hm⟩ : ∃ m1, m1 = (u * 4294967296 + L / 4294967296) % D := ⟨_, rfl⟩
  rw [← hm] at st g1 hm1
  have hc0 : L % 4294967296 < 4294967296 := by omega
  obtain ⟨-, -, -, -, i5, i6, i7, i8⟩ := half_start (c := L % 4294967296) hm1 hc0 h1 h2
  have g2 := rest_words (u := m1) (c := L % 4294967296) (Q := (m1 * 4294967296 + L % 4294967296) / D) hD0 h2 rfl
  refine (div64_great (s := s) (D := D) (L := L) (a := D / 4294967296) (b := D % 4294967296) (u := u) (d1 := L / 4294967296) (d0 := L % 4294967296) (Q1 := (u * 4294967296 + L / 4294967296) / D) (m1 := m1) (Q2 := (m1 * 4294967296 + L % 4294967296) / D)
    (by omega) (by omega) (by omega) (by omega) (by omega) (by omega) LZ (by omega) e1 (by omega) (bits_halves h2) e4 (by omega) (bits_halves hLl) e7 (by omega) j2 j3 (show L / 4294967296 < 4294967296 by omega) hc0
    j6 j7 j8 (by rw [j4]; exact f1) j5 (by show _ = _; rw [j4]) g1 i6 i7 i8 (by rw [j4]; exact hm1) i5 (by show _ = _; rw [j4]) rfl (by rw [g2]) w).mono fun r w' k => ⟨k.1.trans ?_, by rw [k.2]; exact Only.refl w⟩
  have hq := Nat.div_lt_of_lt_mul (show x * 18446744073709551616 + y < d * 18446744073709551616 by omega)
  have w1 : IntKind.u64.wrap (IntKind.u64.wrap ((((u * 4294967296 + L / 4294967296) / D : Nat) : Int) * 4294967296) + (((m1 * 4294967296 + L % 4294967296) / D : Nat) : Int)) = (((x * 18446744073709551616 + y) / d : Nat) : Int) := by
    exact join_words (st.1.trans sh1) hq
  have w2 : (((m1 * 4294967296 + L % 4294967296) % D : Nat) : Int) / 2 ^ s = (((x * 18446744073709551616 + y) % d : Nat) : Int) := by
    rw [st.2, ← sh2]; simp
  rw [w1, w2]
end Go.Proofs.YtopklnaahdjafaaGreatDoor
