/-
  Comparisons, signs, ints.
-/
import Derived.Test.YtopklnaahdjafaaGreatDoorNProd
import Derived.Test.YtopklnaahdjafaaGreatDoorGPl
import Derived.LoopTactic
namespace Go.Proofs.YtopklnaahdjafaaGreatDoor
open Go.RowKit Go.Shelf



theorem cmpI_cases (x y : Int) : (cmpI x y = -1 ∧ x < y) ∨ (cmpI x y = 1 ∧ y < x) ∨ (cmpI x y = 0 ∧ x = y) := by
  unfold cmpI; split
  · exact Or.inl ⟨rfl, by assumption⟩
  · split
    · exact Or.inr (Or.inl ⟨rfl, by assumption⟩)
    · exact Or.inr (Or.inr ⟨rfl, by omega⟩)



/-- the first that is not 0 -/
def orI (x y : Int) : Int := if x = 0 then y else x









/-- what Int answers -/
def intAns (v : Int) : Value := if -9223372036854775808 ≤ v ∧ v < 9223372036854775808 then .tuple #[.int .i64 v, .int .i64 0] else .tuple #[.int .i64 0, .int .i64 16]

abbrev FromIs (n : Int) (v : Value) : Prop := ∀ w, Calls Tryz.prog 46 #[.int .i64 n] w fun e w' => e = .returned v ∧ Only w w'

theorem int_walk {h l n i j : Int} {b : Bool} (hn : IntKind.i64.wrap l = n) (F : FromIs n (.agg #[.int .u64 i, .int .u64 j])) (hb : (b = true ∧ h = i ∧ l = j) ∨ (b = false ∧ l = j ∧ ¬ i = h)) (w : World) :
    Calls Tryz.prog 81 #[.agg #[.int .u64 h, .int .u64 l]] w fun e w' => e = .returned (if b then .tuple #[.int .i64 n, .int .i64 0] else .tuple #[.int .i64 0, .int .i64 16]) ∧ Only w w' := by
  rcases hb with ⟨rfl, rfl, rfl⟩ | ⟨rfl, rfl, hne⟩
  all_goals
    go_enter Tryz.func81, Tryz.ntmps81
    go_wp2_with fail
    obtain ⟨k1, k2⟩ := (Own2.new w (.int .u64 h) (.int .u64 l) 85).cone
    refine wp_region_cone (by kernel_rfl) (by kernel_rfl) ?_
    repeat (any_goals (first | go_big_quiet_step ((go_at_call 46; with_reducible exact Cone.call (F _))) | quiet_step ((go_at_call 46; with_reducible exact Cone.call (F _)))))
    refine wpQuiet_nil ?_
    rintro w6 ⟨⟨_, t6⟩, rfl⟩
    have ht := ((Only.refl w).alloc _).trans t6
    clear k1 k2 t6
    go_wp2_with fail
    go_ret2
    exact ⟨by simp, ht⟩

theorem int_any {v : Int} (hv : In v) (w : World) : Calls Tryz.prog 81 #[enc v] w fun e w' => e = .returned (intAns v) ∧ Only w w' := by
  obtain ⟨h, l, h0, h1, l0, l1, t, e⟩ := enc_words v
  have hn : IntKind.i64.wrap l = (l + 9223372036854775808) % 18446744073709551616 - 9223372036854775808 := IntKind.wrap_i64 l
  obtain ⟨n, en⟩ : ∃ n, n = (l + 9223372036854775808) % 18446744073709551616 - 9223372036854775808 := ⟨_, rfl⟩
  rw [← en] at hn
  have F : FromIs n (enc n) := fun w => (fromInt_any n (by omega) (by omega) w).mono fun _ _ k => ⟨k.1, k.2.only⟩
  obtain ⟨i, j, i0, i1, j0, j1, t2, e2⟩ := enc_words n
  rw [e2] at F
  rw [e]
  have key : ((-9223372036854775808 ≤ v ∧ v < 9223372036854775808) → h = i ∧ l = j ∧ n = v) ∧ (¬ (-9223372036854775808 ≤ v ∧ v < 9223372036854775808) → l = j ∧ ¬ i = h) := by
    obtain ⟨eh, el⟩ := t
    obtain ⟨ei, ej⟩ := t2
    obtain ⟨a, b⟩ := hv
    constructor
    · intro k; omega
    · intro k; omega
  unfold intAns
  by_cases c : -9223372036854775808 ≤ v ∧ v < 9223372036854775808
  · obtain ⟨k1, k2, k3⟩ := key.1 c
    rw [if_pos c, ← k3]
    exact int_walk (b := true) hn F (Or.inl ⟨rfl, k1, k2⟩) w
  · obtain ⟨k1, k2⟩ := key.2 c
    rw [if_neg c]
    exact int_walk (b := false) hn F (Or.inr ⟨rfl, k1, k2⟩) w
end Go.Proofs.YtopklnaahdjafaaGreatDoor
