/-
  Sums, differences, what is turned over.
-/
import Derived.Test.YtopklnaahdjafaaGreatDoorNBase
namespace Go.Proofs.YtopklnaahdjafaaGreatDoor
open Go.RowKit Go.Shelf

set_option maxHeartbeats 800000 in
theorem add_walk {h l i j lo hi c d : Int} {s1 s2 s3 : Bool} (A1 : ∀ w, (callFunc 79 #[.int .u64 l, .int .u64 j, .int .u64 0]).run Tryz.prog w = .ok (.value (.tuple #[.int .u64 lo, .int .u64 c])) w)
    (A2 : ∀ w, (callFunc 79 #[.int .u64 h, .int .u64 i, .int .u64 c]).run Tryz.prog w = .ok (.value (.tuple #[.int .u64 hi, .int .u64 d])) w)
    (B1 : BelowIs (.agg #[.int .u64 h, .int .u64 l]) s1) (B2 : BelowIs (.agg #[.int .u64 i, .int .u64 j]) s2) (B3 : BelowIs (.agg #[.int .u64 hi, .int .u64 lo]) s3) (w : World) :
    Calls Tryz.prog 45 #[.agg #[.int .u64 h, .int .u64 l], .agg #[.int .u64 i, .int .u64 j]] w fun e w' => e = .returned (if s1 = s2 ∧ s3 ≠ s1 then .tuple #[.agg #[.int .u64 0, .int .u64 0], .int .i64 16] else .tuple #[.agg #[.int .u64 hi, .int .u64 lo], .int .i64 0]) ∧ Only w w' := by
  go_enter Tryz.func45, Tryz.ntmps45
  go_wp2_with (first | simp only [A1] | simp only [A2])
  refine wp_name (fun wx => Only w wx ∧ Own2 wx w.heap.size (.int .u64 h) (.int .u64 l) ∧ Own2 wx (w.heap.size + 1) (.int .u64 i) (.int .u64 j) ∧ Own2 wx (w.heap.size + 1 + 1) (.int .u64 0) (.int .u64 0) ∧ Own2 wx (w.heap.size + 1 + 1 + 1) (.int .u64 hi) (.int .u64 lo)) ?_ ?_
  · refine ⟨((((Only.refl w).alloc _).alloc _).alloc _).alloc _, (((Own2.new w _ _ _).alloc _).alloc _).alloc _, ?_, ?_, ?_⟩
    · have := ((Own2.new (w.alloc (.cells #[.int .u64 h, .int .u64 l] 85)) (.int .u64 i) (.int .u64 j) 85).alloc (.cells #[.int .u64 0, .int .u64 0] 85)).alloc (.cells #[.int .u64 hi, .int .u64 lo] 85)
      simpa using this
    · have := (Own2.new ((w.alloc (.cells #[.int .u64 h, .int .u64 l] 85)).alloc (.cells #[.int .u64 i, .int .u64 j] 85)) (.int .u64 0) (.int .u64 0) 85).alloc (.cells #[.int .u64 hi, .int .u64 lo] 85)
      simpa using this
    · have := Own2.new (((w.alloc (.cells #[.int .u64 h, .int .u64 l] 85)).alloc (.cells #[.int .u64 i, .int .u64 j] 85)).alloc (.cells #[.int .u64 0, .int .u64 0] 85)) (.int .u64 hi) (.int .u64 lo) 85
      simpa using this
  · rintro wx ⟨ht, o1, o2, o3, o4⟩
    obtain ⟨k1a, k1b⟩ := o1.cone
    obtain ⟨k2a, k2b⟩ := o2.cone
    obtain ⟨k4a, k4b⟩ := o4.cone
    cases s1 <;> cases s2 <;> cases s3
    all_goals
      refine wp_region_cone (by kernel_rfl) (by kernel_rfl) ?_
      repeat (any_goals (first | go_big_quiet_step ((first | (go_at_call 80; with_reducible exact Cone.call (B1 _)) | (go_at_call 80; with_reducible exact Cone.call (B2 _)) | (go_at_call 80; with_reducible exact Cone.call (B3 _)))) | quiet_step ((first | (go_at_call 80; with_reducible exact Cone.call (B1 _)) | (go_at_call 80; with_reducible exact Cone.call (B2 _)) | (go_at_call 80; with_reducible exact Cone.call (B3 _))))))
      refine wpQuiet_nil ?_
      rintro _ ⟨⟨w1, t1⟩, rfl⟩
      obtain ⟨c3a, c3b, f3a, f3b, z3⟩ := (o3.only t1).all
      obtain ⟨c4a, c4b, f4a, f4b, z4⟩ := (o4.only t1).all
      clear k1a k1b k2a k2b k4a k4b o1 o2
      go_wp2
      all_goals
        simp [bodyPost, results, Tryz.results45, go_sem, World.cell?_setCell_other, c3a, c3b]
        exact ((ht.trans t1).set (by omega) 0 _).set (by omega) 1 _

set_option maxHeartbeats 800000 in
theorem sub_walk {h l i j lo hi c d : Int} {s1 s2 s3 : Bool} (A1 : ∀ w, (callFunc 98 #[.int .u64 l, .int .u64 j, .int .u64 0]).run Tryz.prog w = .ok (.value (.tuple #[.int .u64 lo, .int .u64 c])) w)
    (A2 : ∀ w, (callFunc 98 #[.int .u64 h, .int .u64 i, .int .u64 c]).run Tryz.prog w = .ok (.value (.tuple #[.int .u64 hi, .int .u64 d])) w)
    (B1 : BelowIs (.agg #[.int .u64 h, .int .u64 l]) s1) (B2 : BelowIs (.agg #[.int .u64 i, .int .u64 j]) s2) (B3 : BelowIs (.agg #[.int .u64 hi, .int .u64 lo]) s3) (w : World) :
    Calls Tryz.prog 67 #[.agg #[.int .u64 h, .int .u64 l], .agg #[.int .u64 i, .int .u64 j]] w fun e w' => e = .returned (if s1 ≠ s2 ∧ s3 ≠ s1 then .tuple #[.agg #[.int .u64 0, .int .u64 0], .int .i64 16] else .tuple #[.agg #[.int .u64 hi, .int .u64 lo], .int .i64 0]) ∧ Only w w' := by
  go_enter Tryz.func67, Tryz.ntmps67
  go_wp2_with (first | simp only [A1] | simp only [A2])
  refine wp_name (fun wx => Only w wx ∧ Own2 wx w.heap.size (.int .u64 h) (.int .u64 l) ∧ Own2 wx (w.heap.size + 1) (.int .u64 i) (.int .u64 j) ∧ Own2 wx (w.heap.size + 1 + 1) (.int .u64 0) (.int .u64 0) ∧ Own2 wx (w.heap.size + 1 + 1 + 1) (.int .u64 hi) (.int .u64 lo)) ?_ ?_
  · refine ⟨((((Only.refl w).alloc _).alloc _).alloc _).alloc _, (((Own2.new w _ _ _).alloc _).alloc _).alloc _, ?_, ?_, ?_⟩
    · have := ((Own2.new (w.alloc (.cells #[.int .u64 h, .int .u64 l] 85)) (.int .u64 i) (.int .u64 j) 85).alloc (.cells #[.int .u64 0, .int .u64 0] 85)).alloc (.cells #[.int .u64 hi, .int .u64 lo] 85)
      simpa using this
    · have := (Own2.new ((w.alloc (.cells #[.int .u64 h, .int .u64 l] 85)).alloc (.cells #[.int .u64 i, .int .u64 j] 85)) (.int .u64 0) (.int .u64 0) 85).alloc (.cells #[.int .u64 hi, .int .u64 lo] 85)
      simpa using this
    · have := Own2.new (((w.alloc (.cells #[.int .u64 h, .int .u64 l] 85)).alloc (.cells #[.int .u64 i, .int .u64 j] 85)).alloc (.cells #[.int .u64 0, .int .u64 0] 85)) (.int .u64 hi) (.int .u64 lo) 85
      simpa using this
  · rintro wx ⟨ht, o1, o2, o3, o4⟩
    obtain ⟨k1a, k1b⟩ := o1.cone
    obtain ⟨k2a, k2b⟩ := o2.cone
    obtain ⟨k4a, k4b⟩ := o4.cone
    cases s1 <;> cases s2 <;> cases s3
    all_goals
      refine wp_region_cone (by kernel_rfl) (by kernel_rfl) ?_
      repeat (any_goals (first | go_big_quiet_step ((first | (go_at_call 80; with_reducible exact Cone.call (B1 _)) | (go_at_call 80; with_reducible exact Cone.call (B2 _)) | (go_at_call 80; with_reducible exact Cone.call (B3 _)))) | quiet_step ((first | (go_at_call 80; with_reducible exact Cone.call (B1 _)) | (go_at_call 80; with_reducible exact Cone.call (B2 _)) | (go_at_call 80; with_reducible exact Cone.call (B3 _))))))
      refine wpQuiet_nil ?_
      rintro _ ⟨⟨w1, t1⟩, rfl⟩
      obtain ⟨c3a, c3b, f3a, f3b, z3⟩ := (o3.only t1).all
      obtain ⟨c4a, c4b, f4a, f4b, z4⟩ := (o4.only t1).all
      clear k1a k1b k2a k2b k4a k4b o1 o2
      go_wp2
      all_goals
        simp [bodyPost, results, Tryz.results67, go_sem, World.cell?_setCell_other, c3a, c3b]
        exact ((ht.trans t1).set (by omega) 0 _).set (by omega) 1 _

theorem below_enc {v : Int} (hv : In v) : BelowIs (enc v) (decide (v < 0)) := by
  obtain ⟨h, l, h0, h1, l0, l1, t, e⟩ := enc_words v
  rw [e]
  refine fun w => below_is h0 h1 ?_ w
  obtain ⟨eh, el⟩ := t
  obtain ⟨a, b⟩ := hv
  rw [decide_eq_decide]
  omega

theorem add_any {v u : Int} (hv : In v) (hu : In u) (w : World) : Calls Tryz.prog 45 #[enc v, enc u] w fun e w' => e = .returned (ans (v + u)) ∧ Only w w' := by
  obtain ⟨h, l, h0, h1, l0, l1, t, e⟩ := enc_words v
  obtain ⟨i, j, i0, i1, j0, j1, t2, e2⟩ := enc_words u
  have B1 := below_enc hv
  have B2 := below_enc hu
  rw [e] at B1; rw [e2] at B2; rw [e, e2]
  have B3 : BelowIs (.agg #[.int .u64 ((h + i + (l + j) / 18446744073709551616) % 18446744073709551616), .int .u64 ((l + j) % 18446744073709551616)]) _ := fun w => below_is (by omega) (by omega) rfl w
  refine (add_walk (add64_0 l j l0 j0) (add64 h i _ h0 i0 (by omega) (by omega)) B1 B2 B3 w).mono fun r w' hr => ⟨hr.1.trans ?_, hr.2⟩
  obtain ⟨eh, el⟩ := t
  obtain ⟨ei, ej⟩ := t2
  obtain ⟨a, b⟩ := hv
  obtain ⟨a2, b2⟩ := hu
  congr 1
  by_cases k : In (v + u)
  · rw [ans_in k]
    obtain ⟨k1, k2⟩ := k
    rw [if_neg]
    · rw [enc_mk (v := v + u) (by omega) (by omega)]
    · simp only [decide_eq_decide, ne_eq]; omega
  · rw [ans_out k, if_pos]
    · rfl
    · unfold In at k; simp only [decide_eq_decide, ne_eq]; omega

theorem sub_any {v u : Int} (hv : In v) (hu : In u) (w : World) : Calls Tryz.prog 67 #[enc v, enc u] w fun e w' => e = .returned (ans (v - u)) ∧ Only w w' := by
  obtain ⟨h, l, h0, h1, l0, l1, t, e⟩ := enc_words v
  obtain ⟨i, j, i0, i1, j0, j1, t2, e2⟩ := enc_words u
  have B1 := below_enc hv
  have B2 := below_enc hu
  rw [e] at B1; rw [e2] at B2; rw [e, e2]
  have B3 : BelowIs (.agg #[.int .u64 ((h - i - bor l j) % 18446744073709551616), .int .u64 ((l - j) % 18446744073709551616)]) _ := fun w => below_is (by omega) (by omega) rfl w
  refine (sub_walk (sub64_0 l j l0 j0 j1) (sub64 h i _ h0 i0 i1 (bor_lo _ _) (bor_hi _ _)) B1 B2 B3 w).mono fun r w' hr => ⟨hr.1.trans ?_, hr.2⟩
  have hb : (bor l j = 1 ∧ l < j) ∨ (bor l j = 0 ∧ j ≤ l) := by unfold bor; split <;> omega
  generalize bor l j = b0 at hb ⊢
  obtain ⟨eh, el⟩ := t
  obtain ⟨ei, ej⟩ := t2
  obtain ⟨a, b⟩ := hv
  obtain ⟨a2, b2⟩ := hu
  congr 1
  by_cases k : In (v - u)
  · rw [ans_in k]
    obtain ⟨k1, k2⟩ := k
    rw [if_neg]
    · rw [enc_mk (v := v - u) (by omega) (by omega)]
    · simp only [decide_eq_decide, ne_eq]; omega
  · rw [ans_out k, if_pos]
    · rfl
    · unfold In at k; simp only [decide_eq_decide, ne_eq]; omega


end Go.Proofs.YtopklnaahdjafaaGreatDoor
