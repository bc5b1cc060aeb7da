/-
  The nearest quotient.
-/
import Derived.Test.YtagilpgplcphpaaNProd
namespace Go.Proofs.Ytagilpgplcphpaa
open Go.RowKit Go.Shelf

abbrev BysIs (v : Value) (d : Int) (u : Value) (r : Int) : Prop := ∀ w, Calls Try.prog 44 #[v, .int .u64 d] w fun e w' => e = .returned (.tuple #[u, .int .u64 r]) ∧ Only w w'
abbrev PlusIs (v u : Value) (f : Bool) : Prop := ∀ w, Calls Try.prog 45 #[v, .int .u64 1] w fun e w' => e = .returned (.tuple #[u, .bool f]) ∧ Only w w'

/-- which way: 2r is more than m; it is m, and q is odd; it is m, and q is even; it is less -/
def Way (t2 m q : Int) (up : Bool) : Prop := (m < t2 ∧ up = true) ∨ (t2 = m ∧ q % 2 = 1 ∧ up = true) ∨ (t2 = m ∧ q % 2 = 0 ∧ up = false) ∨ (t2 < m ∧ up = false)

set_option maxHeartbeats 3200000 in
theorem divEven_walk {h l i j p q p' q' a b e : Int} {d m r t2 : Int} {s g up f bb : Bool} (hd : ¬ d = 0) (S : SizeIs (.agg #[.int .u64 h, .int .u64 l]) (.agg #[.int .u64 i, .int .u64 j])) (Z : SizeOfIs d m)
    (T : BysIs (.agg #[.int .u64 i, .int .u64 j]) m (.agg #[.int .u64 p, .int .u64 q]) r) (ht2 : IntKind.u64.wrap (2 * r) = t2) (hq0 : 0 ≤ q) (hway : Way t2 m q up) (PL : PlusIs (.agg #[.int .u64 p, .int .u64 q]) (.agg #[.int .u64 p', .int .u64 q']) f)
    (B : BelowIs (.agg #[.int .u64 h, .int .u64 l]) s) (hg : decide (d < 0) = g) (hb : bb = (s != g))
    (N : NumberIs (if up then .agg #[.int .u64 p', .int .u64 q'] else .agg #[.int .u64 p, .int .u64 q]) bb (.tuple #[.agg #[.int .u64 a, .int .u64 b], .int .i64 e])) (w : World) :
    Calls Try.prog 15 #[.agg #[.int .u64 h, .int .u64 l], .int .i64 d] w fun x w' => x = .returned (.tuple #[.agg #[.int .u64 a, .int .u64 b], .int .i64 e]) ∧ Only w w' := by
  have hd2 : (d == 0) = false := by simp; exact hd
  go_enter Try.func15, Try.ntmps15
  go_wp2_with (first | (go_at_call 42; refine (Z _).mono ?_; rintro x w2 ⟨rfl, rfl⟩) | fail)
  go_at_call 40
  refine (S _).mono ?_
  rintro x w1 ⟨rfl, t1⟩
  have o1 := ((Own2.new w (.int .u64 h) (.int .u64 l) 24).alloc _).only t1
  have o2 := (Own2.new1 w _ (.int .u64 0) (.int .u64 0) 24).only t1
  have ht := (((Only.refl w).alloc _).alloc _).trans t1
  clear t1 S
  go_wp2_with fail
  go_at_call 44
  refine (T _).mono ?_
  rintro x w2 ⟨rfl, t2'⟩
  have o1 := o1.only t2'
  have o2 := o2.only t2'
  have ht := ht.trans t2'
  clear t2' T Z
  have hl := o2.lt
  rcases hway with ⟨k, rfl⟩ | ⟨k, k2, rfl⟩ | ⟨k, k2, rfl⟩ | ⟨k, rfl⟩
  · have n1 : decide (m < t2) = true := decide_eq_true k
    clear k
    simp only [if_true] at N
    go_wp2_with fail
    go_at_call 45
    refine (PL _).mono ?_
    rintro x w3 ⟨rfl, t3⟩
    have o1 := (o1.alloc _).only t3
    have o2 := (o2.alloc _).only t3
    have o3 := (Own2.new w2 (.int .u64 p) (.int .u64 q) 67).only t3
    have ht := (ht.alloc _).trans t3
    obtain ⟨c1, c2, f1, f2, z1⟩ := o3.all
    go_wp2_with fail
    refine wp_name (fun wx => Only w wx ∧ Own2 wx w.heap.size (.int .u64 h) (.int .u64 l) ∧ Own2 wx (w.heap.size + 1) (.int .u64 0) (.int .u64 0) ∧ Own2 wx w2.heap.size (.int .u64 p') (.int .u64 q')) ⟨(ht.set (by omega) 0 _).set (by omega) 1 _, (o1.far (by omega) 0 _).far (by omega) 1 _, (o2.far (by omega) 0 _).far (by omega) 1 _, o3.set _ _⟩ ?_
    clear c1 c2 f1 f2 o3 t3
    rintro wx ⟨h5, h6, h7, h8⟩
    clear ht o1 o2
    obtain ⟨k6a, k6b⟩ := h6.cone
    obtain ⟨k8a, k8b⟩ := h8.cone
    cases s <;> cases g
    all_goals
      simp only [bne_self_eq_false, Bool.bne_true, Bool.bne_false, Bool.not_false] at hb
      subst hb
      refine wp_region_cone_tail 9 (by kernel_rfl) (by kernel_rfl) (by kernel_rfl) (by kernel_rfl) (by kernel_rfl) (by kernel_rfl) (by kernel_rfl) ?_
      simp only [List.take_succ_cons, List.take_zero, List.drop_succ_cons, List.drop_zero]
      repeat (any_goals (first | go_big_quiet_step ((first | (go_at_call 39; with_reducible exact Cone.call (B _)) | (go_at_call 43; with_reducible exact Cone.call (N _)))) | quiet_step ((first | (go_at_call 39; with_reducible exact Cone.call (B _)) | (go_at_call 43; with_reducible exact Cone.call (N _))))))
      refine wpQuiet_nil ?_
      rintro w6 ⟨⟨_, t6⟩, rfl⟩
      obtain ⟨c1, c2, f1, f2, z1⟩ := (h7.only t6).all
      have ht := h5.trans t6
      clear k6a k6b k8a k8b h6 h7 h8 t6
      go_wp2
      simp [bodyPost, results, Try.results15, go_sem, World.cell?_setCell_other, c1, c2]
      exact (ht.set (by omega) 0 _).set (by omega) 1 _
  · have n1 : decide (m < t2) = false := decide_eq_false (by omega)
    have n2 : (t2 == m) = true := by simpa using k
    have n3 : ((q % 2 : Int) == 1) = true := by simpa using k2
    clear k k2
    simp only [if_true] at N
    go_wp2_with fail
    go_at_call 45
    refine (PL _).mono ?_
    rintro x w3 ⟨rfl, t3⟩
    have o1 := (o1.alloc _).only t3
    have o2 := (o2.alloc _).only t3
    have o3 := (Own2.new w2 (.int .u64 p) (.int .u64 q) 67).only t3
    have ht := (ht.alloc _).trans t3
    obtain ⟨c1, c2, f1, f2, z1⟩ := o3.all
    go_wp2_with fail
    refine wp_name (fun wx => Only w wx ∧ Own2 wx w.heap.size (.int .u64 h) (.int .u64 l) ∧ Own2 wx (w.heap.size + 1) (.int .u64 0) (.int .u64 0) ∧ Own2 wx w2.heap.size (.int .u64 p') (.int .u64 q')) ⟨(ht.set (by omega) 0 _).set (by omega) 1 _, (o1.far (by omega) 0 _).far (by omega) 1 _, (o2.far (by omega) 0 _).far (by omega) 1 _, o3.set _ _⟩ ?_
    clear c1 c2 f1 f2 o3 t3
    rintro wx ⟨h5, h6, h7, h8⟩
    clear ht o1 o2
    obtain ⟨k6a, k6b⟩ := h6.cone
    obtain ⟨k8a, k8b⟩ := h8.cone
    cases s <;> cases g
    all_goals
      simp only [bne_self_eq_false, Bool.bne_true, Bool.bne_false, Bool.not_false] at hb
      subst hb
      refine wp_region_cone_tail 9 (by kernel_rfl) (by kernel_rfl) (by kernel_rfl) (by kernel_rfl) (by kernel_rfl) (by kernel_rfl) (by kernel_rfl) ?_
      simp only [List.take_succ_cons, List.take_zero, List.drop_succ_cons, List.drop_zero]
      repeat (any_goals (first | go_big_quiet_step ((first | (go_at_call 39; with_reducible exact Cone.call (B _)) | (go_at_call 43; with_reducible exact Cone.call (N _)))) | quiet_step ((first | (go_at_call 39; with_reducible exact Cone.call (B _)) | (go_at_call 43; with_reducible exact Cone.call (N _))))))
      refine wpQuiet_nil ?_
      rintro w6 ⟨⟨_, t6⟩, rfl⟩
      obtain ⟨c1, c2, f1, f2, z1⟩ := (h7.only t6).all
      have ht := h5.trans t6
      clear k6a k6b k8a k8b h6 h7 h8 t6
      go_wp2
      simp [bodyPost, results, Try.results15, go_sem, World.cell?_setCell_other, c1, c2]
      exact (ht.set (by omega) 0 _).set (by omega) 1 _
  · have n1 : decide (m < t2) = false := decide_eq_false (by omega)
    have n2 : (t2 == m) = true := by simpa using k
    have n3 : ((q % 2 : Int) == 1) = false := by simp; omega
    clear k k2
    simp only [Bool.false_eq_true, if_false] at N
    go_wp2_with fail
    refine wp_name (fun wx => Only w wx ∧ Own2 wx w.heap.size (.int .u64 h) (.int .u64 l) ∧ Own2 wx (w.heap.size + 1) (.int .u64 0) (.int .u64 0) ∧ Own2 wx w2.heap.size (.int .u64 p) (.int .u64 q)) ⟨ht.alloc _, o1.alloc _, o2.alloc _, Own2.new _ _ _ _⟩ ?_
    rintro wx ⟨h5, h6, h7, h8⟩
    clear ht o1 o2
    obtain ⟨k6a, k6b⟩ := h6.cone
    obtain ⟨k8a, k8b⟩ := h8.cone
    cases s <;> cases g
    all_goals
      simp only [bne_self_eq_false, Bool.bne_true, Bool.bne_false, Bool.not_false] at hb
      subst hb
      refine wp_region_cone_tail 9 (by kernel_rfl) (by kernel_rfl) (by kernel_rfl) (by kernel_rfl) (by kernel_rfl) (by kernel_rfl) (by kernel_rfl) ?_
      simp only [List.take_succ_cons, List.take_zero, List.drop_succ_cons, List.drop_zero]
      repeat (any_goals (first | go_big_quiet_step ((first | (go_at_call 39; with_reducible exact Cone.call (B _)) | (go_at_call 43; with_reducible exact Cone.call (N _)))) | quiet_step ((first | (go_at_call 39; with_reducible exact Cone.call (B _)) | (go_at_call 43; with_reducible exact Cone.call (N _))))))
      refine wpQuiet_nil ?_
      rintro w6 ⟨⟨_, t6⟩, rfl⟩
      obtain ⟨c1, c2, f1, f2, z1⟩ := (h7.only t6).all
      have ht := h5.trans t6
      clear k6a k6b k8a k8b h6 h7 h8 t6
      go_wp2
      simp [bodyPost, results, Try.results15, go_sem, World.cell?_setCell_other, c1, c2]
      exact (ht.set (by omega) 0 _).set (by omega) 1 _
  · have n1 : decide (m < t2) = false := decide_eq_false (by omega)
    have n2 : (t2 == m) = false := by simp; omega
    clear k
    simp only [Bool.false_eq_true, if_false] at N
    go_wp2_with fail
    refine wp_name (fun wx => Only w wx ∧ Own2 wx w.heap.size (.int .u64 h) (.int .u64 l) ∧ Own2 wx (w.heap.size + 1) (.int .u64 0) (.int .u64 0) ∧ Own2 wx w2.heap.size (.int .u64 p) (.int .u64 q)) ⟨ht.alloc _, o1.alloc _, o2.alloc _, Own2.new _ _ _ _⟩ ?_
    rintro wx ⟨h5, h6, h7, h8⟩
    clear ht o1 o2
    obtain ⟨k6a, k6b⟩ := h6.cone
    obtain ⟨k8a, k8b⟩ := h8.cone
    cases s <;> cases g
    all_goals
      simp only [bne_self_eq_false, Bool.bne_true, Bool.bne_false, Bool.not_false] at hb
      subst hb
      refine wp_region_cone_tail 9 (by kernel_rfl) (by kernel_rfl) (by kernel_rfl) (by kernel_rfl) (by kernel_rfl) (by kernel_rfl) (by kernel_rfl) ?_
      simp only [List.take_succ_cons, List.take_zero, List.drop_succ_cons, List.drop_zero]
      repeat (any_goals (first | go_big_quiet_step ((first | (go_at_call 39; with_reducible exact Cone.call (B _)) | (go_at_call 43; with_reducible exact Cone.call (N _)))) | quiet_step ((first | (go_at_call 39; with_reducible exact Cone.call (B _)) | (go_at_call 43; with_reducible exact Cone.call (N _))))))
      refine wpQuiet_nil ?_
      rintro w6 ⟨⟨_, t6⟩, rfl⟩
      obtain ⟨c1, c2, f1, f2, z1⟩ := (h7.only t6).all
      have ht := h5.trans t6
      clear k6a k6b k8a k8b h6 h7 h8 t6
      go_wp2
      simp [bodyPost, results, Try.results15, go_sem, World.cell?_setCell_other, c1, c2]
      exact (ht.set (by omega) 0 _).set (by omega) 1 _
end Go.Proofs.Ytagilpgplcphpaa
