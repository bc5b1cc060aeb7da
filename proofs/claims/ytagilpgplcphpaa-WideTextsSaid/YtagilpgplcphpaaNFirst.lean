/-
  The chapter's example.
-/
import Derived.Test.YtagilpgplcphpaaNStr
import Derived.Test.YtagilpgplcphpaaNCmp
namespace Go.Proofs.Ytagilpgplcphpaa
open Go.RowKit Go.Shelf
set_option linter.unusedVariables false

theorem string_any {v : Int} (hv : In v) (w : World) : Calls Try.prog 34 #[enc v] w (StrIs (far v).toNat (decide (v < 0)) w) := by
  have S := size_any hv
  have B := below_enc hv
  have hf := far_un hv
  change ∀ w, Calls _ _ _ w fun e w' => e = .returned (enc (far v)) ∧ Only w w' at S
  have em : ((far v).toNat : Int) = far v := Int.toNat_of_nonneg hf.1
  obtain ⟨h, l, -, -, -, -, -, ev⟩ := enc_words v
  obtain ⟨i, j, -, -, -, -, -, e1⟩ := enc_words (far v)
  rw [ev, e1] at S; rw [ev] at B; rw [ev]
  refine string_walk (by omega) S (by rw [em]; exact e1) (fun n hn p q p' q' e2 e3 => ?_) B w
  have T := by_any (v := (n : Int)) (d := 10) ⟨by omega, by omega⟩ (by decide) (by decide)
  rw [e2, show ((n : Int) / 10) = ((n / 10 : Nat) : Int) by omega, e3, show ((n : Int) % 10) = ((n % 10 : Nat) : Int) by omega] at T
  exact T

theorem num_any (n : Int) (w : World) : Calls Try.prog 11 #[.int .i64 n] w fun e w' => e = .returned (.int .i64 n) ∧ w' = w := by
  go_enter Try.func11, Try.ntmps11
  go_wp2
  go_ret
  exact ⟨rfl, rfl⟩

theorem formed_0 (w : World) : Calls Try.prog 57 #[.string ⟨#[48]⟩, .bool true] w fun e w' => e = .returned (.bool false) ∧ w' = w := by
  go_enter Try.func57, Try.ntmps57
  go_wp2
  go_ret
  exact ⟨rfl, rfl⟩

theorem parse_0 (w : World) : Calls Try.prog 33 #[.string ⟨#[45, 48]⟩] w fun e w' => e = .returned (.tuple #[.agg #[.int .u64 0, .int .u64 0], .int .i64 10]) ∧ Only w w' := by
  go_enter Try.func33, Try.ntmps33
  go_wp2_with fail
  go_at_call 57
  refine (formed_0 _).mono ?_
  rintro r w1 ⟨rfl, rfl⟩
  go_wp2_with fail
  simp [bodyPost, results, Try.results33, go_sem]
  exact (Only.refl w).alloc _

theorem digits_64 (k : Nat) (h1 : 1 ≤ k) (h2 : 18446744073709551616 / 10 ^ k = 0) (h3 : 2 ≤ k → 18446744073709551616 / 10 ^ (k - 1) ≠ 0) : k = 20 := by
  have a1 : 18446744073709551616 < 10 ^ k := by
    rcases Nat.lt_or_ge 18446744073709551616 (10 ^ k) with c | c
    · exact c
    · exact absurd h2 (Nat.ne_of_gt (Nat.div_pos c (Nat.pow_pos (by decide))))
  have a2 : 10 ^ 19 < 10 ^ k := Nat.lt_trans (by decide) a1
  have a3 : 19 < k := (Nat.pow_lt_pow_iff_right (by decide)).1 a2
  rcases Nat.lt_or_ge 20 k with c | c
  · exfalso
    refine h3 (by omega) (Nat.div_eq_of_lt ?_)
    exact Nat.lt_of_lt_of_le (by decide : 18446744073709551616 < 10 ^ 20) (Nat.pow_le_pow_right (by decide) (by omega))
  · omega

theorem string_64 (w : World) : Calls Try.prog 34 #[.agg #[.int .u64 1, .int .u64 0]] w fun e w' => e = .returned (.string ⟨#[49, 56, 52, 52, 54, 55, 52, 52, 48, 55, 51, 55, 48, 57, 53, 53, 49, 54, 49, 54]⟩) ∧ Only w w' := by
  have h := string_any (v := 18446744073709551616) ⟨by decide, by decide⟩ w
  rw [show enc 18446744073709551616 = .agg #[.int .u64 1, .int .u64 0] from rfl] at h
  refine h.mono fun e w' k => ?_
  obtain ⟨⟨n, h1, h2, h3, rfl⟩, ht⟩ := k
  have e1 : (far 18446744073709551616).toNat = 18446744073709551616 := by decide
  rw [e1] at h2 h3 ⊢
  obtain rfl := digits_64 n h1 h2 h3
  exact ⟨rfl, ht⟩

/-- FromInt, the world with only more memory -/
theorem fromInt_is {n : Int} (h : I64 n) : FromIs n (enc n) := fun w => (fromInt_any n h.1 h.2 w).mono fun _ _ k => ⟨k.1, k.2.only⟩

theorem first_walk {i j a b : Int} (M : ∀ w, Calls Try.prog 25 #[.int .i64 4611686018427387904, .int .i64 4] w fun e w' => e = .returned (.agg #[.int .u64 1, .int .u64 0]) ∧ Only w w')
    (F5 : FromIs (-5) (.agg #[.int .u64 i, .int .u64 j])) (D : ∀ w, Calls Try.prog 15 #[.agg #[.int .u64 i, .int .u64 j], .int .i64 2] w fun e w' => e = .returned (.tuple #[.agg #[.int .u64 a, .int .u64 b], .int .i64 0]) ∧ Only w w')
    (F2 : FromIs (-2) (.agg #[.int .u64 a, .int .u64 b])) (w : World) : Calls Try.prog 9 #[] w fun e w' => e = .returned (.bool true) ∧ Only w w' := by
  go_enter Try.func9, Try.ntmps9
  go_wp2_with fail
  go_at_call 25
  refine (M _).mono ?_
  rintro r w1 ⟨rfl, t1⟩
  have o1 := Own2.new w1 (.int .u64 1) (.int .u64 0) 24
  have ht := t1.alloc (.cells #[.int .u64 1, .int .u64 0] 24)
  clear t1
  go_wp2_with fail
  go_at_call 14
  refine (F5 _).mono ?_
  rintro r w2 ⟨rfl, t2⟩
  have o1 := o1.only t2
  have ht := ht.trans t2
  clear t2
  go_wp2_with fail
  go_at_call 15
  refine (D _).mono ?_
  rintro r w3 ⟨rfl, t3⟩
  have o1 := (o1.only t3).alloc (.cells #[.int .u64 a, .int .u64 b] 24)
  have ht := (ht.trans t3).alloc (.cells #[.int .u64 a, .int .u64 b] 24)
  have o2 := Own2.new w3 (.int .u64 a) (.int .u64 b) 24
  clear t3
  go_wp2_with fail
  go_at_call 33
  refine (parse_0 _).mono ?_
  rintro r w4 ⟨rfl, t4⟩
  have o1 := (o1.only t4).alloc (.cells #[.int .u64 0, .int .u64 0] 24)
  have o2 := (o2.only t4).alloc (.cells #[.int .u64 0, .int .u64 0] 24)
  have ht := (ht.trans t4).alloc (.cells #[.int .u64 0, .int .u64 0] 24)
  clear t4
  go_wp2_with fail
  refine wp_name (fun W => Only w W ∧ Own2 W w1.heap.size (.int .u64 1) (.int .u64 0) ∧ Own2 W w3.heap.size (.int .u64 a) (.int .u64 b)) ⟨ht, o1, o2⟩ ?_
  clear ht o1 o2
  rintro W ⟨ht, o1, o2⟩
  obtain ⟨k1, k2⟩ := o1.cone
  obtain ⟨k3, k4⟩ := o2.cone
  have SS := string_64
  refine wp_region_cone (by kernel_rfl) (by kernel_rfl) ?_
  repeat (any_goals (first | go_big_quiet_step ((first | (go_at_call 34; with_reducible exact Cone.call (SS _)) | (go_at_call 14; with_reducible exact Cone.call (F2 _)) | (go_at_call 11; with_reducible exact Cone.same (num_any _ _)))) | quiet_step ((first | (go_at_call 34; with_reducible exact Cone.call (SS _)) | (go_at_call 14; with_reducible exact Cone.call (F2 _)) | (go_at_call 11; with_reducible exact Cone.same (num_any _ _))))))
  refine wpQuiet_nil ?_
  rintro w6 ⟨⟨_, t6⟩, rfl⟩
  have ht := ht.trans t6
  clear k1 k2 k3 k4 o1 o2 t6 SS
  go_wp2_with fail
  go_ret
  exact ⟨by simp, ht⟩

theorem first_wide (w : World) : Calls Try.prog 9 #[] w fun e w' => e = .returned (.bool true) ∧ Only w w' := by
  have M := fun w => (mul_any (n := 4611686018427387904) (k := 4) ⟨by decide, by decide⟩ ⟨by decide, by decide⟩ w).mono fun _ _ k => (⟨k.1, k.2.2⟩ : _ ∧ Only w _)
  rw [show enc (4611686018427387904 * 4) = .agg #[.int .u64 1, .int .u64 0] from rfl] at M
  have F5 := fromInt_is (n := -5) ⟨by decide, by decide⟩
  have F2 := fromInt_is (n := -2) ⟨by decide, by decide⟩
  have D := divEven_any (v := -5) (d := 2) ⟨by decide, by decide⟩ ⟨by decide, by decide⟩ (by decide)
  rw [show signed (twoSides (-5) 2) (nearest (far (-5)) (far 2)) = -2 by decide, ans_in ⟨by decide, by decide⟩] at D
  obtain ⟨i, j, -, -, -, -, -, e1⟩ := enc_words (-5)
  obtain ⟨a, b, -, -, -, -, -, e2⟩ := enc_words (-2)
  rw [e1] at F5 D; rw [e2] at F2 D
  exact first_walk M F5 D F2 w
end Go.Proofs.Ytagilpgplcphpaa
