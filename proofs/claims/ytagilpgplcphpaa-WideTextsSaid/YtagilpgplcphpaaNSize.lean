/-
  Sizes, and the numbers that they make.
-/
import Derived.Test.YtagilpgplcphpaaNSum
import Derived.Shelf.Bits.Mul64
namespace Go.Proofs
open Go.Shelf
def Try.lays264_ren : Go.Shelf.Ren := ⟨fun | 264 => 53 | n => n, fun | 53 => 22 | 46 => 88 | n => n, fun | n => n⟩
theorem Try.lays264 : Go.Proofs.Lays.n264 Try.prog Try.lays264_ren := {
  mixed := by kernel_rfl
  f264 := Try.func53.trans (congrArg some (by kernel_rfl))
  t46 := Try.underlying88
  a46 := Try.isAgg88
  z46 := Try.sizeOf88
  v46 := Try.zeroValue88
  t53 := Try.underlying22
  a53 := Try.isAgg22
  z53 := Try.sizeOf22
  v53 := Try.zeroValue22 }
end Go.Proofs
namespace Go.Proofs.Ytagilpgplcphpaa
open Go.RowKit Go.Shelf

/-- what turned answers of a number -/
abbrev TurnedIs (v u : Value) : Prop := ∀ w, Calls Try.prog 60 #[v] w fun e w' => e = .returned u ∧ Only w w'

theorem size_walk {h l i j : Int} {s : Bool} (B : BelowIs (.agg #[.int .u64 h, .int .u64 l]) s) (T : TurnedIs (.agg #[.int .u64 h, .int .u64 l]) (.agg #[.int .u64 i, .int .u64 j])) (w : World) :
    Calls Try.prog 40 #[.agg #[.int .u64 h, .int .u64 l]] w fun e w' => e = .returned (if s then .agg #[.int .u64 i, .int .u64 j] else .agg #[.int .u64 h, .int .u64 l]) ∧ Only w w' := by
  go_enter Try.func40, Try.ntmps40
  go_wp2_with fail
  go_at_call 39
  refine (B _).mono ?_
  rintro r w1 ⟨rfl, t1⟩
  obtain ⟨c1a, c1b, f1a, f1b, z1⟩ := (((Own2.new w (.int .u64 h) (.int .u64 l) 24).alloc _).only t1).all
  have o2 := (Own2.new1 w _ (.int .u64 0) (.int .u64 0) 67).only t1
  obtain ⟨c2a, c2b, f2a, f2b, z2⟩ := o2.all
  have ht := (((Only.refl w).alloc _).alloc _).trans t1
  clear t1 B
  cases s
  · go_wp2_with fail
    simp [bodyPost, results, Try.results40, go_sem, World.cell?_setCell_other, c2a, c2b]
    exact (ht.set (by omega) 0 _).set (by omega) 1 _
  · go_wp2_with fail
    go_at_call 60
    refine (T _).mono ?_
    rintro r w2 ⟨rfl, t2⟩
    obtain ⟨d2a, d2b, g2a, g2b, y2⟩ := (o2.only t2).all
    have ht2 := ht.trans t2
    clear t2 o2 c1a c1b c2a c2b f1a f1b f2a f2b
    go_wp2
    simp [bodyPost, results, Try.results40, go_sem, World.cell?_setCell_other, d2a, d2b]
    exact (ht2.set (by omega) 0 _).set (by omega) 1 _

theorem size_any {v : Int} (hv : In v) (w : World) : Calls Try.prog 40 #[enc v] w fun e w' => e = .returned (enc (if v < 0 then -v else v)) ∧ Only w w' := by
  have T := fun w => (turned_any v w).mono fun _ _ k => (⟨k.1, k.2.only⟩ : _ ∧ Only w _)
  have B := below_enc hv
  obtain ⟨h, l, -, -, -, -, -, e⟩ := enc_words v
  obtain ⟨i, j, -, -, -, -, -, e2⟩ := enc_words (-v)
  rw [e] at B; rw [e, e2] at T; rw [e]
  refine (size_walk B T w).mono fun r w' k => ⟨k.1.trans ?_, k.2⟩
  by_cases c : v < 0
  · simp only [c, decide_true, if_true]; rw [← e2]
  · simp only [c, decide_false, if_false]; rw [← e]; rfl

/-- what number answers, x being the number -/
def numRes (z b s : Bool) (x : Value) : Value := if z = false ∧ s ≠ b then .tuple #[.agg #[.int .u64 0, .int .u64 0], .int .i64 16] else .tuple #[x, .int .i64 0]

set_option maxHeartbeats 800000 in
theorem number_pos {h l : Int} {s z : Bool} (B : BelowIs (.agg #[.int .u64 h, .int .u64 l]) s) (hz : (z = true ∧ h = 0 ∧ l = 0) ∨ (z = false ∧ h = 0 ∧ l ≠ 0) ∨ (z = false ∧ h ≠ 0)) (w : World) :
    Calls Try.prog 43 #[.agg #[.int .u64 h, .int .u64 l], .bool false] w fun e w' => e = .returned (numRes z false s (.agg #[.int .u64 h, .int .u64 l])) ∧ Only w w' := by
  rcases hz with ⟨rfl, rfl, rfl⟩ | ⟨rfl, rfl, h2⟩ | ⟨rfl, h2⟩
  · go_enter Try.func43, Try.ntmps43
    go_wp2_with fail
    simp [bodyPost, results, Try.results43, go_sem, numRes]
    exact (((Only.refl w).alloc _).alloc _).alloc _
  all_goals
    cases s
    all_goals
      go_enter Try.func43, Try.ntmps43
      go_wp2_with fail
      go_at_call 39
      refine (B _).mono ?_
      rintro r w1 ⟨rfl, t1⟩
      obtain ⟨c2a, c2b, f2a, f2b, z2⟩ := (((Own2.new1 w _ (.int .u64 0) (.int .u64 0) 24).alloc _).only t1).all
      obtain ⟨c3a, c3b, f3a, f3b, z3⟩ := ((Own2.new2 w _ _ _ _ 24).only t1).all
      have ht := ((((Only.refl w).alloc _).alloc _).alloc _).trans t1
      clear t1 B
      go_wp2_with fail
      simp [bodyPost, results, Try.results43, go_sem, World.cell?_setCell_other, c2a, c2b, numRes]
      exact (ht.set (by omega) 0 _).set (by omega) 1 _

set_option maxHeartbeats 800000 in
theorem number_neg {h l i j : Int} {s z : Bool} (T : TurnedIs (.agg #[.int .u64 h, .int .u64 l]) (.agg #[.int .u64 i, .int .u64 j]))
    (B : BelowIs (.agg #[.int .u64 i, .int .u64 j]) s) (hz : (z = true ∧ h = 0 ∧ l = 0) ∨ (z = false ∧ h = 0 ∧ l ≠ 0) ∨ (z = false ∧ h ≠ 0)) (w : World) :
    Calls Try.prog 43 #[.agg #[.int .u64 h, .int .u64 l], .bool true] w fun e w' => e = .returned (numRes z true s (.agg #[.int .u64 i, .int .u64 j])) ∧ Only w w' := by
  rcases hz with ⟨rfl, rfl, rfl⟩ | ⟨rfl, rfl, h2⟩ | ⟨rfl, h2⟩
  · go_enter Try.func43, Try.ntmps43
    go_wp2_with fail
    go_at_call 60
    refine (T _).mono ?_
    rintro r w1 ⟨rfl, t1⟩
    obtain ⟨c1a, c1b, f1a, f1b, z1⟩ := ((((Own2.new w _ _ 67).alloc _).alloc _).only t1).all
    obtain ⟨c2a, c2b, f2a, f2b, z2⟩ := (((Own2.new1 w _ (.int .u64 0) (.int .u64 0) 24).alloc _).only t1).all
    obtain ⟨c3a, c3b, f3a, f3b, z3⟩ := ((Own2.new2 w _ _ _ _ 24).only t1).all
    have ht := ((((Only.refl w).alloc _).alloc _).alloc _).trans t1
    clear t1 B T
    go_wp2_with fail
    simp [bodyPost, results, Try.results43, go_sem, World.cell?_setCell_other, c2a, c2b, numRes]
    exact (((ht.set (by omega) 0 _).set (by omega) 1 _).set (by omega) 0 _).set (by omega) 1 _
  all_goals
    cases s
    all_goals
      go_enter Try.func43, Try.ntmps43
      go_wp2_with fail
      go_at_call 60
      refine (T _).mono ?_
      rintro r w1 ⟨rfl, t1⟩
      have o1 := (((Own2.new w _ _ 67).alloc _).alloc _).only t1
      have o2 := ((Own2.new1 w _ (.int .u64 0) (.int .u64 0) 24).alloc _).only t1
      have o3 := (Own2.new2 w _ _ _ _ 24).only t1
      obtain ⟨c1a, c1b, f1a, f1b, z1⟩ := o1.all
      obtain ⟨c3a, c3b, f3a, f3b, z3⟩ := o3.all
      have ht := ((((Only.refl w).alloc _).alloc _).alloc _).trans t1
      clear t1 T
      go_wp2_with fail
      go_at_call 39
      refine (B _).mono ?_
      rintro r w2 ⟨rfl, t2⟩
      obtain ⟨d2a, d2b, g2a, g2b, y2⟩ := (((o2.far (by omega) 0 _).far (by omega) 1 _).only t2).all
      obtain ⟨d3a, d3b, g3a, g3b, y3⟩ := ((o3.set _ _).only t2).all
      have ht2 := ((ht.set (by omega) 0 _).set (by omega) 1 _).trans t2
      clear t2 B o1 o2 o3 c1a c1b c3a c3b f1a f1b f3a f3b z1 z3 ht
      go_wp2_with fail
      simp [bodyPost, results, Try.results43, go_sem, World.cell?_setCell_other, d2a, d2b, numRes]
      exact (ht2.set (by omega) 0 _).set (by omega) 1 _

theorem number_any {v : Int} (hv : Un v) (b : Bool) (w : World) : Calls Try.prog 43 #[enc v, .bool b] w fun e w' => e = .returned (ans (if b then -v else v)) ∧ Only w w' := by
  have T := fun w => (turned_any v w).mono fun _ _ k => (⟨k.1, k.2.only⟩ : _ ∧ Only w _)
  obtain ⟨h, l, h0, h1, l0, l1, t, e⟩ := enc_words v
  obtain ⟨i, j, i0, i1, j0, j1, t2, e2⟩ := enc_words (-v)
  rw [e, e2] at T
  have hz : (decide (v = 0) = true ∧ h = 0 ∧ l = 0) ∨ (decide (v = 0) = false ∧ h = 0 ∧ l ≠ 0) ∨ (decide (v = 0) = false ∧ h ≠ 0) := by
    obtain ⟨eh, el⟩ := t
    obtain ⟨a, c⟩ := hv
    simp only [decide_eq_true_eq, decide_eq_false_iff_not]
    omega
  obtain ⟨a, c⟩ := hv
  rw [e]
  cases b
  · refine (number_pos (fun w => below_is h0 h1 rfl w) hz w).mono fun r w' k => ⟨k.1.trans ?_, k.2⟩
    obtain ⟨eh, el⟩ := t
    congr 1
    unfold numRes
    by_cases k : In v
    · rw [if_neg (by obtain ⟨k1, k2⟩ := k; simp only [decide_eq_false_iff_not, ne_eq]; omega)]
      exact ((ans_in k).trans (by rw [e])).symm
    · rw [if_pos (by unfold In at k; simp only [decide_eq_false_iff_not, ne_eq]; omega)]
      exact (ans_out k).symm
  · refine (number_neg T (fun w => below_is i0 i1 rfl w) hz w).mono fun r w' k => ⟨k.1.trans ?_, k.2⟩
    obtain ⟨eh, el⟩ := t2
    congr 1
    unfold numRes
    by_cases k : In (-v)
    · rw [if_neg (by obtain ⟨k1, k2⟩ := k; simp only [decide_eq_false_iff_not, ne_eq, Bool.not_eq_true]; omega)]
      exact ((ans_in k).trans (by rw [e2])).symm
    · rw [if_pos (by unfold In at k; simp only [decide_eq_false_iff_not, ne_eq, Bool.not_eq_true]; omega)]
      exact (ans_out k).symm

end Go.Proofs.Ytagilpgplcphpaa
