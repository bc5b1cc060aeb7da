/-
  Comparisons, signs, ints.
-/
import Derived.Test.YtagilpgplcphpaaNProd
import Derived.Test.YtagilpgplcphpaaBPlain4
import Derived.LoopTactic
namespace Go.Proofs.Ytagilpgplcphpaa
open Go.RowKit Go.Shelf

theorem isNaN_any (x : Int) (w : World) : Calls Try.prog 62 #[.int .u64 x] w fun e w' => e = .returned (.bool false) ∧ w' = w := by
  go_enter Try.func62, Try.ntmps62
  go_wp2
  go_ret
  exact ⟨by simp, rfl⟩


theorem cmpI_cases (x y : Int) : (cmpI x y = -1 ∧ x < y) ∨ (cmpI x y = 1 ∧ y < x) ∨ (cmpI x y = 0 ∧ x = y) := by
  unfold cmpI; split
  · exact Or.inl ⟨rfl, by assumption⟩
  · split
    · exact Or.inr (Or.inl ⟨rfl, by assumption⟩)
    · exact Or.inr (Or.inr ⟨rfl, by omega⟩)

theorem compare_any (x y : Int) (w : World) : Calls Try.prog 56 #[.int .u64 x, .int .u64 y] w fun e w' => e = .returned (.int .i64 (cmpI x y)) ∧ w' = w := by
  unfold cmpI
  by_cases c1 : x < y
  · rw [if_pos c1]
    go_enter Try.func56, Try.ntmps56
    go_wp2_with (go_at_call 62; refine (isNaN_any _ _).mono ?_; rintro r w1 ⟨rfl, rfl⟩)
    go_ret
    exact ⟨rfl, rfl⟩
  · rw [if_neg c1]
    by_cases c2 : y < x
    · rw [if_pos c2]
      go_enter Try.func56, Try.ntmps56
      go_wp2_with (go_at_call 62; refine (isNaN_any _ _).mono ?_; rintro r w1 ⟨rfl, rfl⟩)
      go_ret
      exact ⟨rfl, rfl⟩
    · rw [if_neg c2]
      go_enter Try.func56, Try.ntmps56
      go_wp2_with (go_at_call 62; refine (isNaN_any _ _).mono ?_; rintro r w1 ⟨rfl, rfl⟩)
      go_ret
      exact ⟨rfl, rfl⟩


/-- the first that is not 0 -/
def orI (x y : Int) : Int := if x = 0 then y else x

theorem or_any (x y : Int) (b : Nat) (w : World) (h0 : w.cell? ⟨b, 0, none⟩ = some (.int .i64 x)) (h1 : w.cell? ⟨b, 1, none⟩ = some (.int .i64 y)) :
    Calls Try.prog 55 #[.slice (some ⟨b, 0, none⟩) 2 2] w fun e w' => e = .returned (.int .i64 (orI x y)) ∧ w' = w := by
  go_enter Try.func55, Try.ntmps55
  go_wp2
  go_loop [8] (fun i => ∃ k : Nat, k ≤ 2 ∧ i = .int .i64 k ∧ (1 ≤ k → x = 0) ∧ (2 ≤ k → y = 0)) (fun i => 2 - (intOf i).toNat)
  case atStart => exact ⟨0, by omega, rfl, by omega, by omega⟩
  case round =>
    obtain ⟨k, hk, rfl, hx, hy⟩ := hrel
    rcases (by omega : k = 0 ∨ k = 1 ∨ k = 2) with rfl | rfl | rfl
    · clear hx hy hk
      by_cases c : x = 0
      · subst c
        go_wp2
        go_round
        case rel => exact ⟨1, by omega, rfl, fun _ => by simp, by omega⟩
        case measure => simp [intOf]
      · go_wp2
        go_ret
        exact ⟨by simp [orI, c], rfl⟩
    · have hx := hx (by omega)
      clear hy hk
      subst hx
      by_cases c : y = 0
      · subst c
        go_wp2
        go_round
        case rel => exact ⟨2, by omega, rfl, fun _ => by simp, fun _ => by simp⟩
        case measure => simp [intOf]
      · go_wp2
        go_ret
        exact ⟨by simp [orI], rfl⟩
    · have hx := hx (by omega)
      have hy := hy (by omega)
      subst hx hy
      clear hk
      go_wp2
      go_ret
      exact ⟨rfl, rfl⟩


/-- what Compare and Or answer of two numbers' words -/
theorem cmp_walk {h l i j hx ix a b c : Int} (X1 : bits .xor .u64 h 9223372036854775808 = hx) (X2 : bits .xor .u64 i 9223372036854775808 = ix) (C1 : cmpI hx ix = a) (C2 : cmpI l j = b) (hc : orI a b = c) (w : World) :
    Calls Try.prog 29 #[.agg #[.int .u64 h, .int .u64 l], .agg #[.int .u64 i, .int .u64 j]] w fun e w' => e = .returned (.int .i64 c) ∧ Only w w' := by
  have D1 := compare_any hx ix
  have D2 := compare_any l j
  rw [C1] at D1; rw [C2] at D2
  go_enter Try.func29, Try.ntmps29
  go_wp2_with fail
  obtain ⟨k1, k2⟩ := ((Own2.new w (.int .u64 h) (.int .u64 l) 24).alloc (.cells #[.int .u64 i, .int .u64 j] 24)).cone
  obtain ⟨k3, k4⟩ := (Own2.new1 w (.cells #[.int .u64 h, .int .u64 l] 24) (.int .u64 i) (.int .u64 j) 24).cone
  refine wp_region_cone_tail 12 (by kernel_rfl) (by kernel_rfl) (by kernel_rfl) (by kernel_rfl) (by kernel_rfl) (by kernel_rfl) (by kernel_rfl) ?_
  simp only [List.take_succ_cons, List.take_zero, List.drop_succ_cons, List.drop_zero]
  repeat (any_goals (first | go_big_quiet_step ((first | (go_at_call 56; with_reducible exact Cone.same (D1 _)) | (go_at_call 56; with_reducible exact Cone.same (D2 _)))) | quiet_step ((first | (go_at_call 56; with_reducible exact Cone.same (D1 _)) | (go_at_call 56; with_reducible exact Cone.same (D2 _))))))
  refine wpQuiet_nil ?_
  rintro w6 ⟨⟨_, t6⟩, rfl⟩
  have ht := (((Only.refl w).alloc _).alloc _).trans t6
  clear k1 k2 k3 k4 t6
  go_wp2_with fail
  go_at_call 55
  refine (or_any a b w6.heap.size _ ?_ ?_).mono ?_
  · simp
  · simp
  rintro r w7 ⟨rfl, rfl⟩
  rw [hc]
  go_wp2_with fail
  go_ret
  exact ⟨rfl, ht.alloc _⟩


theorem cmp_any {v u : Int} (hv : In v) (hu : In u) (w : World) : Calls Try.prog 29 #[enc v, enc u] w fun e w' => e = .returned (.int .i64 (cmpI v u)) ∧ Only w w' := by
  obtain ⟨h, l, h0, h1, l0, l1, t, e⟩ := enc_words v
  obtain ⟨i, j, i0, i1, j0, j1, t2, e2⟩ := enc_words u
  rw [e, e2]
  refine cmp_walk (xor_high h ⟨h0, h1⟩) (xor_high i ⟨i0, i1⟩) rfl rfl ?_ w
  obtain ⟨eh, el⟩ := t
  obtain ⟨ei, ej⟩ := t2
  obtain ⟨a, b⟩ := hv
  obtain ⟨a2, b2⟩ := hu
  have q1 := cmpI_cases ((h + 9223372036854775808) % 18446744073709551616) ((i + 9223372036854775808) % 18446744073709551616)
  have q2 := cmpI_cases l j
  have q3 := cmpI_cases v u
  unfold orI
  split <;> omega


theorem sign_any {v : Int} (hv : In v) (w : World) : Calls Try.prog 30 #[enc v] w fun e w' => e = .returned (.int .i64 (cmpI v 0)) ∧ Only w w' := by
  have C := cmp_any hv (u := 0) ⟨by decide, by decide⟩
  rw [enc_zero] at C
  obtain ⟨h, l, -, -, -, -, -, e⟩ := enc_words v
  rw [e] at C ⊢
  clear e hv
  go_enter Try.func30, Try.ntmps30
  go_wp2_with fail
  go_at_call 29
  refine (C _).mono ?_
  rintro r w1 ⟨rfl, t1⟩
  go_wp2_with fail
  go_ret
  exact ⟨rfl, ((Only.refl w).alloc _).trans t1⟩


/-- what Int answers -/
def intAns (v : Int) : Value := if -9223372036854775808 ≤ v ∧ v < 9223372036854775808 then .tuple #[.int .i64 v, .int .i64 0] else .tuple #[.int .i64 0, .int .i64 16]

abbrev FromIs (n : Int) (v : Value) : Prop := ∀ w, Calls Try.prog 14 #[.int .i64 n] w fun e w' => e = .returned v ∧ Only w w'

theorem int_walk {h l n i j : Int} {b : Bool} (hn : IntKind.i64.wrap l = n) (F : FromIs n (.agg #[.int .u64 i, .int .u64 j])) (hb : (b = true ∧ h = i ∧ l = j) ∨ (b = false ∧ l = j ∧ ¬ i = h)) (w : World) :
    Calls Try.prog 27 #[.agg #[.int .u64 h, .int .u64 l]] w fun e w' => e = .returned (if b then .tuple #[.int .i64 n, .int .i64 0] else .tuple #[.int .i64 0, .int .i64 16]) ∧ Only w w' := by
  rcases hb with ⟨rfl, rfl, rfl⟩ | ⟨rfl, rfl, hne⟩
  all_goals
    go_enter Try.func27, Try.ntmps27
    go_wp2_with fail
    obtain ⟨k1, k2⟩ := (Own2.new w (.int .u64 h) (.int .u64 l) 24).cone
    refine wp_region_cone (by kernel_rfl) (by kernel_rfl) ?_
    repeat (any_goals (first | go_big_quiet_step ((go_at_call 14; with_reducible exact Cone.call (F _))) | quiet_step ((go_at_call 14; with_reducible exact Cone.call (F _)))))
    refine wpQuiet_nil ?_
    rintro w6 ⟨⟨_, t6⟩, rfl⟩
    have ht := ((Only.refl w).alloc _).trans t6
    clear k1 k2 t6
    go_wp2_with fail
    go_ret2
    exact ⟨by simp, ht⟩

theorem int_any {v : Int} (hv : In v) (w : World) : Calls Try.prog 27 #[enc v] w fun e w' => e = .returned (intAns v) ∧ Only w w' := by
  obtain ⟨h, l, h0, h1, l0, l1, t, e⟩ := enc_words v
  have hn : IntKind.i64.wrap l = (l + 9223372036854775808) % 18446744073709551616 - 9223372036854775808 := IntKind.wrap_i64 l
  obtain ⟨n, en⟩ : ∃ n, n = (l + 9223372036854775808) % 18446744073709551616 - 9223372036854775808 := ⟨_, rfl⟩
  rw [← en] at hn
  have F : FromIs n (enc n) := fun w => (fromInt_any n (by omega) (by omega) w).mono fun _ _ k => ⟨k.1, k.2.only⟩
  obtain ⟨i, j, i0, i1, j0, j1, t2, e2⟩ := enc_words n
  rw [e2] at F
  rw [e]
  have key : ((-9223372036854775808 ≤ v ∧ v < 9223372036854775808) → h = i ∧ l = j ∧ n = v) ∧ (¬ (-9223372036854775808 ≤ v ∧ v < 9223372036854775808) → l = j ∧ ¬ i = h) := by
    obtain ⟨eh, el⟩ := t
    obtain ⟨ei, ej⟩ := t2
    obtain ⟨a, b⟩ := hv
    constructor
    · intro k; omega
    · intro k; omega
  unfold intAns
  by_cases c : -9223372036854775808 ≤ v ∧ v < 9223372036854775808
  · obtain ⟨k1, k2, k3⟩ := key.1 c
    rw [if_pos c, ← k3]
    exact int_walk (b := true) hn F (Or.inl ⟨rfl, k1, k2⟩) w
  · obtain ⟨k1, k2⟩ := key.2 c
    rw [if_neg c]
    exact int_walk (b := false) hn F (Or.inr ⟨rfl, k1, k2⟩) w
end Go.Proofs.Ytagilpgplcphpaa
