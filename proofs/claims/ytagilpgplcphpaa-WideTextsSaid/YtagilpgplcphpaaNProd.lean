/-
  Products and quotients.
-/
import Derived.Test.YtagilpgplcphpaaNDiv2
import Derived.Test.YtagilpgplcphpaaNTail
namespace Go.Proofs.Ytagilpgplcphpaa
open Go.RowKit Go.Shelf

abbrev SizeIs (v u : Value) : Prop := ∀ w, Calls Try.prog 40 #[v] w fun e w' => e = .returned u ∧ Only w w'
abbrev SizeOfIs (n : Int) (m : Int) : Prop := ∀ w, Calls Try.prog 42 #[.int .i64 n] w fun e w' => e = .returned (.int .u64 m) ∧ w' = w
abbrev TimesIs (v : Value) (n : Int) (u : Value) (b : Bool) : Prop := ∀ w, Calls Try.prog 41 #[v, .int .u64 n] w fun e w' => e = .returned (.tuple #[u, .bool b]) ∧ Only w w'
abbrev NumberIs (v : Value) (b : Bool) (u : Value) : Prop := ∀ w, Calls Try.prog 43 #[v, .bool b] w fun e w' => e = .returned u ∧ Only w w'

set_option maxHeartbeats 1600000 in
theorem mulInt_fit {h l i j p q a b e : Int} {n m : Int} {s g bb : Bool} (S : SizeIs (.agg #[.int .u64 h, .int .u64 l]) (.agg #[.int .u64 i, .int .u64 j])) (Z : SizeOfIs n m)
    (T : TimesIs (.agg #[.int .u64 i, .int .u64 j]) m (.agg #[.int .u64 p, .int .u64 q]) true) (B : BelowIs (.agg #[.int .u64 h, .int .u64 l]) s) (hg : decide (n < 0) = g) (hb : bb = (s != g))
    (N : NumberIs (.agg #[.int .u64 p, .int .u64 q]) bb (.tuple #[.agg #[.int .u64 a, .int .u64 b], .int .i64 e])) (w : World) :
    Calls Try.prog 12 #[.agg #[.int .u64 h, .int .u64 l], .int .i64 n] w fun r w' => r = .returned (.tuple #[.agg #[.int .u64 a, .int .u64 b], .int .i64 e]) ∧ Only w w' := by
  go_enter Try.func12, Try.ntmps12
  go_wp2_with fail
  go_at_call 40
  refine (S _).mono ?_
  rintro r w1 ⟨rfl, t1⟩
  have o1 := ((Own2.new w (.int .u64 h) (.int .u64 l) 24).alloc _).only t1
  have o2 := (Own2.new1 w _ (.int .u64 0) (.int .u64 0) 24).only t1
  have ht := (((Only.refl w).alloc _).alloc _).trans t1
  clear t1 S
  go_wp2_with (first | (go_at_call 42; refine (Z _).mono ?_; rintro r w2 ⟨rfl, rfl⟩) | fail)
  go_at_call 41
  refine (T _).mono ?_
  rintro r w2 ⟨rfl, t2⟩
  have o1 := o1.only t2
  have o2 := o2.only t2
  have ht := ht.trans t2
  clear t2 T Z
  go_wp2_with fail
  refine wp_name (fun wx => Only w wx ∧ Own2 wx w.heap.size (.int .u64 h) (.int .u64 l) ∧ Own2 wx (w.heap.size + 1) (.int .u64 0) (.int .u64 0) ∧ Own2 wx w2.heap.size (.int .u64 p) (.int .u64 q)) ⟨ht.alloc _, o1.alloc _, o2.alloc _, Own2.new _ _ _ _⟩ ?_
  rintro wx ⟨h5, h6, h7, h8⟩
  have hl := o2.lt
  clear ht o1 o2
  obtain ⟨k6a, k6b⟩ := h6.cone
  obtain ⟨k8a, k8b⟩ := h8.cone
  cases s <;> cases g
  all_goals
    simp only [bne_self_eq_false, Bool.bne_true, Bool.bne_false, Bool.not_false] at hb
    subst hb
    refine wp_region_cone_tail 9 (by kernel_rfl) (by kernel_rfl) (by kernel_rfl) (by kernel_rfl) (by kernel_rfl) (by kernel_rfl) (by kernel_rfl) ?_
    simp only [List.take_succ_cons, List.take_zero, List.drop_succ_cons, List.drop_zero]
    repeat (any_goals (first | go_big_quiet_step ((first | (go_at_call 39; with_reducible exact Cone.call (B _)) | (go_at_call 43; with_reducible exact Cone.call (N _)))) | quiet_step ((first | (go_at_call 39; with_reducible exact Cone.call (B _)) | (go_at_call 43; with_reducible exact Cone.call (N _))))))
    refine wpQuiet_nil ?_
    rintro _ ⟨⟨w3, t3⟩, rfl⟩
    obtain ⟨c1, c2, f1, f2, z1⟩ := (h7.only t3).all
    have ht := h5.trans t3
    clear k6a k6b k8a k8b h6 h7 h8 t3
    go_wp2
    simp [bodyPost, results, Try.results12, go_sem, World.cell?_setCell_other, c1, c2]
    exact (ht.set (by omega) 0 _).set (by omega) 1 _


theorem mulInt_over {h l i j p q : Int} {n m : Int} (S : SizeIs (.agg #[.int .u64 h, .int .u64 l]) (.agg #[.int .u64 i, .int .u64 j])) (Z : SizeOfIs n m)
    (T : TimesIs (.agg #[.int .u64 i, .int .u64 j]) m (.agg #[.int .u64 p, .int .u64 q]) false) (w : World) :
    Calls Try.prog 12 #[.agg #[.int .u64 h, .int .u64 l], .int .i64 n] w fun r w' => r = .returned (.tuple #[.agg #[.int .u64 0, .int .u64 0], .int .i64 16]) ∧ Only w w' := by
  go_enter Try.func12, Try.ntmps12
  go_wp2_with fail
  go_at_call 40
  refine (S _).mono ?_
  rintro r w1 ⟨rfl, t1⟩
  have o2 := (Own2.new1 w _ (.int .u64 0) (.int .u64 0) 24).only t1
  have ht := (((Only.refl w).alloc _).alloc _).trans t1
  clear t1 S
  go_wp2_with (first | (go_at_call 42; refine (Z _).mono ?_; rintro r w2 ⟨rfl, rfl⟩) | fail)
  go_at_call 41
  refine (T _).mono ?_
  rintro r w2 ⟨rfl, t2⟩
  obtain ⟨c1, c2, f1, f2, z1⟩ := (o2.only t2).all
  have ht := ht.trans t2
  clear t2 T Z o2
  go_wp2_with fail
  simp [bodyPost, results, Try.results12, go_sem, World.cell?_setCell_other, c1, c2, z1, cell_kept]
  exact ((ht.set (by omega) 0 _).set (by omega) 1 _).alloc _


theorem mul_walk {n k m1 m2 h l a b e : Int} {g1 g2 bb : Bool} (Z1 : SizeOfIs n m1) (Z2 : SizeOfIs k m2) (M : MulIs m1 m2 h l) (hg1 : decide (n < 0) = g1) (hg2 : decide (k < 0) = g2) (hb : bb = (g1 != g2))
    (N : NumberIs (.agg #[.int .u64 h, .int .u64 l]) bb (.tuple #[.agg #[.int .u64 a, .int .u64 b], .int .i64 e])) (w : World) :
    Calls Try.prog 25 #[.int .i64 n, .int .i64 k] w fun r w' => r = .returned (.agg #[.int .u64 a, .int .u64 b]) ∧ Only w w' := by
  cases g1 <;> cases g2
  all_goals
    simp only [bne_self_eq_false, Bool.bne_true, Bool.bne_false, Bool.not_false] at hb
    subst hb
    go_enter Try.func25, Try.ntmps25
    go_wp2_with fail
    go_at_call 42
    refine (Z1 _).mono ?_
    rintro r w1 ⟨rfl, rfl⟩
    go_wp2_with fail
    go_at_call 42
    refine (Z2 _).mono ?_
    rintro r w1 ⟨rfl, rfl⟩
    go_wp2_with fail
    go_at_call 53
    refine (M _).mono ?_
    rintro r w1 ⟨rfl, rfl⟩
    go_wp2_with fail
    go_at_call 43
    refine (N _).mono ?_
    rintro r w1 ⟨rfl, t1⟩
    obtain ⟨c1, c2, f1, f2, z1⟩ := ((Own2.new w (.int .u64 0) (.int .u64 0) 24).only t1).all
    have ht := ((Only.refl w).alloc _).trans t1
    clear t1 N M Z1 Z2
    go_wp2_with fail
    simp [bodyPost, results, Try.results25, go_sem, World.cell?_setCell_other, c1, c2, z1, cell_kept]
    exact ((ht.set (by omega) 0 _).set (by omega) 1 _).alloc _

/-! ### what they mean -/
theorem sizeOf_is {n : Int} (h0 : -9223372036854775808 ≤ n) (h1 : n < 9223372036854775808) : SizeOfIs n (if n < 0 then -n else n) := fun w => sizeOf_any n h0 h1 w
theorem ans_form (n : Int) : ∃ h l e : Int, ans n = .tuple #[.agg #[.int .u64 h, .int .u64 l], .int .i64 e] := by
  unfold ans; split
  · exact ⟨_, _, _, rfl⟩
  · exact ⟨_, _, _, rfl⟩

/-- an int -/
def I64 (n : Int) : Prop := -9223372036854775808 ≤ n ∧ n < 9223372036854775808
theorem I64.in_ {n : Int} (h : I64 n) : In n := by obtain ⟨a, b⟩ := h; exact ⟨by omega, by omega⟩

theorem mul_any {n k : Int} (hn : I64 n) (hk : I64 k) (w : World) : Calls Try.prog 25 #[.int .i64 n, .int .i64 k] w fun r w' => r = .returned (enc (n * k)) ∧ In (n * k) ∧ Only w w' := by
  obtain ⟨a1, b1⟩ := hn
  obtain ⟨a2, b2⟩ := hk
  have Z1 := sizeOf_is a1 b1
  have Z2 := sizeOf_is a2 b2
  obtain ⟨m1, h1⟩ : ∃ m, m = if n < 0 then -n else n := ⟨_, rfl⟩
  obtain ⟨m2, h2⟩ : ∃ m, m = if k < 0 then -k else k := ⟨_, rfl⟩
  rw [← h1] at Z1; rw [← h2] at Z2
  have p1 : 0 ≤ m1 ∧ m1 ≤ 9223372036854775808 := by rw [h1]; split <;> omega
  have p2 : 0 ≤ m2 ∧ m2 ≤ 9223372036854775808 := by rw [h2]; split <;> omega
  have p3 : m1 * m2 ≤ 9223372036854775808 * 9223372036854775808 := Int.mul_le_mul p1.2 p2.2 p2.1 (by decide)
  have p4 := Int.mul_nonneg p1.1 p2.1
  have e : n * k = if (decide (n < 0) != decide (k < 0)) then -(m1 * m2) else m1 * m2 := by
    by_cases c1 : n < 0 <;> by_cases c2 : k < 0 <;> simp [c1, c2, h1, h2, Int.neg_mul, Int.mul_neg]
  have M := mul64 m1 m2 ⟨by omega, by omega⟩ ⟨by omega, by omega⟩
  have hin : In (n * k) := by rw [e]; split <;> exact ⟨by omega, by omega⟩
  have hun : Un (m1 * m2) := ⟨p4, by omega⟩
  have hen : Value.agg #[.int .u64 (m1 * m2 / 18446744073709551616), .int .u64 (m1 * m2 % 18446744073709551616)] = enc (m1 * m2) := by
    generalize m1 * m2 = p at *
    exact enc_mk (by omega) rfl
  have N : NumberIs (enc (m1 * m2)) (decide (n < 0) != decide (k < 0)) (ans (n * k)) := fun w => by
    have := number_any hun (decide (n < 0) != decide (k < 0)) w
    rwa [← e] at this
  rw [← hen, ans_in hin] at N
  exact (mul_walk Z1 Z2 M rfl rfl rfl N w).mono fun r w' k => ⟨k.1, hin, k.2⟩

theorem mulInt_any {v n : Int} (hv : In v) (hn : I64 n) (w : World) : Calls Try.prog 12 #[enc v, .int .i64 n] w fun r w' => r = .returned (ans (v * n)) ∧ Only w w' := by
  have S := size_any hv
  have B := below_enc hv
  obtain ⟨a1, b1⟩ := hn
  have Z := sizeOf_is a1 b1
  obtain ⟨m1, h1⟩ : ∃ m, m = if v < 0 then -v else v := ⟨_, rfl⟩
  obtain ⟨m2, h2⟩ : ∃ m, m = if n < 0 then -n else n := ⟨_, rfl⟩
  rw [← h1] at S; rw [← h2] at Z
  obtain ⟨va, vb⟩ := hv
  have p1 : Un m1 := by rw [h1]; split <;> exact ⟨by omega, by omega⟩
  have p2 : Word m2 := by rw [h2]; split <;> exact ⟨by omega, by omega⟩
  have p4 := Int.mul_nonneg p1.1 p2.1
  have e : v * n = if (decide (v < 0) != decide (n < 0)) then -(m1 * m2) else m1 * m2 := by
    by_cases c1 : v < 0 <;> by_cases c2 : n < 0 <;> simp [c1, c2, h1, h2, Int.neg_mul, Int.mul_neg]
  have T := times_any p1 p2
  obtain ⟨h, l, -, -, -, -, -, ev⟩ := enc_words v
  obtain ⟨i, j, -, -, -, -, -, e1⟩ := enc_words m1
  obtain ⟨p, q, -, -, -, -, -, e2⟩ := enc_words (m1 * m2)
  rw [ev, e1] at S; rw [ev] at B; rw [e1, e2] at T; rw [ev]
  by_cases c : Un (m1 * m2)
  · rw [decide_eq_true c] at T
    have N : NumberIs (enc (m1 * m2)) (decide (v < 0) != decide (n < 0)) (ans (v * n)) := fun w => by
      have := number_any c (decide (v < 0) != decide (n < 0)) w
      rwa [← e] at this
    obtain ⟨a, b, er, ea⟩ := ans_form (v * n)
    rw [e2, ea] at N
    rw [ea]
    exact mulInt_fit S Z T B rfl rfl N w
  · rw [decide_eq_false c] at T
    rw [ans_out]
    · exact mulInt_over S Z T w
    · rw [e]
      unfold Un at c
      unfold In
      split <;> omega

end Go.Proofs.Ytagilpgplcphpaa
