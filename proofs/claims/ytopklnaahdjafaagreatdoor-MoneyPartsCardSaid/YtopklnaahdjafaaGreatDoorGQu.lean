/-
  PARTS: NQuo, NEven, NQuo2.
-/
import Derived.Test.YtopklnaahdjafaaGreatDoorNProd
import Derived.Deep.RegionHeld3
/-
  Quotients.
-/
namespace Go.Proofs.YtopklnaahdjafaaGreatDoor
open Go.RowKit Go.Shelf

abbrev ByIs (v : Value) (d : Int) (u : Value) (r : Int) : Prop := ∀ w, Calls Tryz.prog 104 #[v, .int .u64 d] w fun e w' => e = .returned (.tuple #[u, .int .u64 r]) ∧ Only w w'

/-- what QuoRem answers, n's answer being (a b, e) -/
def quoRes (a b e r : Int) (s : Bool) (z : Bool) : Value := if z then .tuple #[.agg #[.int .u64 a, .int .u64 b], .int .i64 (if s then -r else r), .int .i64 0] else .tuple #[.agg #[.int .u64 0, .int .u64 0], .int .i64 0, .int .i64 e]

set_option maxHeartbeats 1600000 in
theorem quoRem_walk {h l i j p q a b e r : Int} {d m : Int} {s g z : Bool} (hd : ¬ d = 0) (S : SizeIs (.agg #[.int .u64 h, .int .u64 l]) (.agg #[.int .u64 i, .int .u64 j])) (Z : SizeOfIs d m)
    (T : ByIs (.agg #[.int .u64 i, .int .u64 j]) m (.agg #[.int .u64 p, .int .u64 q]) r) (B : BelowIs (.agg #[.int .u64 h, .int .u64 l]) s) (hg : decide (d < 0) = g) 
    (N : NumberIs (.agg #[.int .u64 p, .int .u64 q]) (s != g) (.tuple #[.agg #[.int .u64 a, .int .u64 b], .int .i64 e])) (hz : (z = true ∧ e = 0) ∨ (z = false ∧ e ≠ 0)) (hr0 : 0 ≤ r) (hr1 : r < 9223372036854775808) (w : World) :
    Calls Tryz.prog 108 #[.agg #[.int .u64 h, .int .u64 l], .int .i64 d] w fun x w' => x = .returned (quoRes a b e r s z) ∧ Only w w' := by
  have hd2 : (d == 0) = false := by simp; exact hd
  have hr : IntKind.i64.wrap r = r := by rw [IntKind.wrap_i64]; omega
  have hr2 : IntKind.i64.wrap (-r) = -r := by rw [IntKind.wrap_i64]; omega
  have HR0 := Lib.hid hr0
  have HR1 := Lib.hid hr1
  clear hr0 hr1
  go_enter Tryz.func108, Tryz.ntmps108
  go_wp2_with fail
  go_at_call 103
  refine (S _).mono ?_
  rintro x w1 ⟨rfl, t1⟩
  have o1 := ((Own2.new w (.int .u64 h) (.int .u64 l) 85).alloc _).only t1
  have o2 := (Own2.new1 w _ (.int .u64 0) (.int .u64 0) 85).only t1
  have ht := (((Only.refl w).alloc _).alloc _).trans t1
  clear t1 S
  go_wp2_with (first | (go_at_call 101; refine (Z _).mono ?_; rintro x w2 ⟨rfl, rfl⟩) | fail)
  go_at_call 104
  refine (T _).mono ?_
  rintro x w2 ⟨rfl, t2⟩
  have o1 := o1.only t2
  have o2 := o2.only t2
  have ht := ht.trans t2
  clear t2 T Z
  go_wp2_with fail
  refine wp_name (fun wx => Only w wx ∧ Own2 wx w.heap.size (.int .u64 h) (.int .u64 l) ∧ Own2 wx (w.heap.size + 1) (.int .u64 0) (.int .u64 0) ∧ Own2 wx w2.heap.size (.int .u64 p) (.int .u64 q)) ⟨ht.alloc _, o1.alloc _, o2.alloc _, Own2.new _ _ _ _⟩ ?_
  rintro wx ⟨h5, h6, h7, h8⟩
  have hl := o2.lt
  clear ht o1 o2
  obtain ⟨k6a, k6b⟩ := h6.cone
  obtain ⟨k8a, k8b⟩ := h8.cone
  have l8 := h8.lt
  have l6 := h6.lt
  have q8 := h8.drew
  have q6 := h6.drew
  go_region_held3 (fun w' => w'.cell? ⟨w2.heap.size, 0, none⟩ = some (.int .u64 p) ∧ w'.cell? ⟨w2.heap.size, 1, none⟩ = some (.int .u64 q) ∧ w'.cell? ⟨w.heap.size, 0, none⟩ = some (.int .u64 h) ∧ w'.cell? ⟨w.heap.size, 1, none⟩ = some (.int .u64 l)) (first | exact ⟨q8.c0, q8.c1, q6.c0, q6.c1⟩ | exact ⟨(q8.alloc _).c0, (q8.alloc _).c1, (q6.alloc _).c0, (q6.alloc _).c1⟩ | exact ⟨p8.c0, p8.c1, p6.c0, p6.c1⟩ | exact ⟨(p8.alloc _).c0, (p8.alloc _).c1, (p6.alloc _).c0, (p6.alloc _).c1⟩ | exact ⟨r8.c0, r8.c1, r6.c0, r6.c1⟩ | exact ⟨(r8.alloc _).c0, (r8.alloc _).c1, (r6.alloc _).c0, (r6.alloc _).c1⟩ | exact ⟨((r8.far (by omega) 0 _).far (by omega) 1 _).c0, ((r8.far (by omega) 0 _).far (by omega) 1 _).c1, ((r6.far (by omega) 0 _).far (by omega) 1 _).c0, ((r6.far (by omega) 0 _).far (by omega) 1 _).c1⟩ | fail) (first | (go_at_call 80; refine (B _).mono ?_; rintro r w3 ⟨rfl, t3⟩; have p8 : Own2 w3 w2.heap.size (.int .u64 p) (.int .u64 q) := (by first | exact q8.only t3 | exact (q8.alloc _).only t3 | fail); have p6 : Own2 w3 w.heap.size (.int .u64 h) (.int .u64 l) := (by first | exact q6.only t3 | exact (q6.alloc _).only t3 | fail); have l83 := p8.lt; have l63 := p6.lt; have p7 : Own2 w3 (w.heap.size + 1) (.int .u64 0) (.int .u64 0) := (by first | exact h7.drew.only t3 | exact (h7.drew.alloc _).only t3 | fail); have p5 : Only w w3 := (by first | exact h5.drew.trans t3 | exact (h5.drew.alloc _).trans t3 | fail); first | have n3 : Own2 w3 wx.heap.size (.int .u64 0) (.int .u64 0) := (Own2.new wx.drew (.int .u64 0) (.int .u64 0) 85).only t3 | skip) | (go_at_call 102; refine (N _).mono ?_; rintro r w4 ⟨rfl, t4⟩; have r8 : Own2 w4 w2.heap.size (.int .u64 p) (.int .u64 q) := (by first | exact p8.only t4 | exact (p8.alloc _).only t4 | fail); have r6 : Own2 w4 w.heap.size (.int .u64 h) (.int .u64 l) := (by first | exact p6.only t4 | exact (p6.alloc _).only t4 | fail); have r7 : Own2 w4 (w.heap.size + 1) (.int .u64 0) (.int .u64 0) := (by first | exact p7.only t4 | exact (p7.alloc _).only t4 | fail); have r5 : Only w w4 := (by first | exact p5.trans t4 | exact (p5.alloc _).trans t4 | fail); first | (have n4a := (n3.only t4).c0; have n4b := (n3.only t4).c1; have n4c := (n3.only t4).f0; have n4d := (n3.only t4).f1; have n4e := (n3.only t4).lt) | (have n4a := ((Own2.new w3 (.int .u64 0) (.int .u64 0) 85).only t4).c0; have n4b := ((Own2.new w3 (.int .u64 0) (.int .u64 0) 85).only t4).c1; have n4c := ((Own2.new w3 (.int .u64 0) (.int .u64 0) 85).only t4).f0; have n4d := ((Own2.new w3 (.int .u64 0) (.int .u64 0) 85).only t4).f1; have n4e := ((Own2.new w3 (.int .u64 0) (.int .u64 0) 85).only t4).lt) | skip))
  all_goals
    first
      | refine then_name (fun W => Only w W ∧ Own2 W w.heap.size (.int .u64 h) (.int .u64 l) ∧ Own2 W (w.heap.size + 1) (.int .u64 0) (.int .u64 0) ∧ Own2 W w4.heap.size (.int .u64 a) (.int .u64 b)) ⟨r5.alloc _, r6.alloc _, r7.alloc _, Own2.new _ _ _ _⟩ ?_
      | refine then_name (fun W => Only w W ∧ Own2 W w.heap.size (.int .u64 h) (.int .u64 l) ∧ Own2 W (w.heap.size + 1) (.int .u64 0) (.int .u64 0) ∧ Own2 W w3.heap.size (.int .u64 a) (.int .u64 b)) ⟨(r5.set (by omega) 0 _).set (by omega) 1 _, (r6.far (by omega) 0 _).far (by omega) 1 _, (r7.far (by omega) 0 _).far (by omega) 1 _, ((Own2.new w3 _ _ 85).only t4).set _ _⟩ ?_
      | refine then_name (fun W => Only w W ∧ Own2 W w.heap.size (.int .u64 h) (.int .u64 l) ∧ Own2 W (w.heap.size + 1) (.int .u64 0) (.int .u64 0) ∧ Own2 W wx.heap.size (.int .u64 a) (.int .u64 b)) ⟨(r5.set (by omega) 0 _).set (by omega) 1 _, (r6.far (by omega) 0 _).far (by omega) 1 _, (r7.far (by omega) 0 _).far (by omega) 1 _, (n3.only t4).set _ _⟩ ?_
      | fail
    rintro W ⟨u5, u6, u7, u9⟩
    clear r5 r6 r7 r8 p5 p6 p7 p8 q6 q8 h5 h6 h7 h8 N hg
    obtain ⟨c6a, c6b, f6a, f6b, z6⟩ := u6.all
    obtain ⟨c7a, c7b, f7a, f7b, z7⟩ := u7.all
    obtain ⟨c9a, c9b, f9a, f9b, z9⟩ := u9.all
    rcases hz with ⟨rfl, rfl⟩ | ⟨rfl, hz⟩
    · cases s
      all_goals
        go_wp2_with fail
        go_at_call 80
        refine (B _).mono ?_
        rintro x w6 ⟨rfl, t6⟩
        obtain ⟨d7a, d7b, g7a, g7b, y7⟩ := (u7.only t6).all
        obtain ⟨d9a, d9b, g9a, g9b, y9⟩ := (u9.only t6).all
        have ht2 := u5.trans t6
        clear c6a c6b f6a f6b c7a c7b f7a f7b c9a c9b f9a f9b B
        go_wp2_with fail
        simp [bodyPost, results, Tryz.results108, go_sem, World.cell?_setCell_other, d7a, d7b, quoRes]
        exact (ht2.set (by omega) 0 _).set (by omega) 1 _
    · go_wp2_with fail
      simp [bodyPost, results, Tryz.results108, go_sem, World.cell?_setCell_other, c7a, c7b, quoRes]
      exact (u5.set (by omega) 0 _).set (by omega) 1 _
end Go.Proofs.YtopklnaahdjafaaGreatDoor

/-
  The nearest quotient.
-/
namespace Go.Proofs.YtopklnaahdjafaaGreatDoor
open Go.RowKit Go.Shelf

abbrev BysIs (v : Value) (d : Int) (u : Value) (r : Int) : Prop := ∀ w, Calls Tryz.prog 104 #[v, .int .u64 d] w fun e w' => e = .returned (.tuple #[u, .int .u64 r]) ∧ Only w w'
abbrev PlusIs (v u : Value) (f : Bool) : Prop := ∀ w, Calls Tryz.prog 105 #[v, .int .u64 1] w fun e w' => e = .returned (.tuple #[u, .bool f]) ∧ Only w w'

/-- which way: 2r is more than m; it is m, and q is odd; it is m, and q is even; it is less -/
def Way (t2 m q : Int) (up : Bool) : Prop := (m < t2 ∧ up = true) ∨ (t2 = m ∧ q % 2 = 1 ∧ up = true) ∨ (t2 = m ∧ q % 2 = 0 ∧ up = false) ∨ (t2 < m ∧ up = false)

set_option maxHeartbeats 3200000 in
theorem divEven_walk {h l i j p q p' q' a b e : Int} {d m r t2 : Int} {s g up f bb : Bool} (hd : ¬ d = 0) (S : SizeIs (.agg #[.int .u64 h, .int .u64 l]) (.agg #[.int .u64 i, .int .u64 j])) (Z : SizeOfIs d m)
    (T : BysIs (.agg #[.int .u64 i, .int .u64 j]) m (.agg #[.int .u64 p, .int .u64 q]) r) (ht2 : IntKind.u64.wrap (2 * r) = t2) (hq0 : 0 ≤ q) (hway : Way t2 m q up) (PL : PlusIs (.agg #[.int .u64 p, .int .u64 q]) (.agg #[.int .u64 p', .int .u64 q']) f)
    (B : BelowIs (.agg #[.int .u64 h, .int .u64 l]) s) (hg : decide (d < 0) = g) (hb : bb = (s != g))
    (N : NumberIs (if up then .agg #[.int .u64 p', .int .u64 q'] else .agg #[.int .u64 p, .int .u64 q]) bb (.tuple #[.agg #[.int .u64 a, .int .u64 b], .int .i64 e])) (w : World) :
    Calls Tryz.prog 70 #[.agg #[.int .u64 h, .int .u64 l], .int .i64 d] w fun x w' => x = .returned (.tuple #[.agg #[.int .u64 a, .int .u64 b], .int .i64 e]) ∧ Only w w' := by
  have hd2 : (d == 0) = false := by simp; exact hd
  go_enter Tryz.func70, Tryz.ntmps70
  go_wp2_with (first | (go_at_call 101; refine (Z _).mono ?_; rintro x w2 ⟨rfl, rfl⟩) | fail)
  go_at_call 103
  refine (S _).mono ?_
  rintro x w1 ⟨rfl, t1⟩
  have o1 := ((Own2.new w (.int .u64 h) (.int .u64 l) 85).alloc _).only t1
  have o2 := (Own2.new1 w _ (.int .u64 0) (.int .u64 0) 85).only t1
  have ht := (((Only.refl w).alloc _).alloc _).trans t1
  clear t1 S
  go_wp2_with fail
  go_at_call 104
  refine (T _).mono ?_
  rintro x w2 ⟨rfl, t2'⟩
  have o1 := o1.only t2'
  have o2 := o2.only t2'
  have ht := ht.trans t2'
  clear t2' T Z
  have hl := o2.lt
  rcases hway with ⟨k, rfl⟩ | ⟨k, k2, rfl⟩ | ⟨k, k2, rfl⟩ | ⟨k, rfl⟩
  · have n1 : decide (m < t2) = true := decide_eq_true k
    clear k
    simp only [if_true] at N
    go_wp2_with fail
    go_at_call 105
    refine (PL _).mono ?_
    rintro x w3 ⟨rfl, t3⟩
    have o1 := (o1.alloc _).only t3
    have o2 := (o2.alloc _).only t3
    have o3 := (Own2.new w2 (.int .u64 p) (.int .u64 q) 148).only t3
    have ht := (ht.alloc _).trans t3
    obtain ⟨c1, c2, f1, f2, z1⟩ := o3.all
    go_wp2_with fail
    refine wp_name (fun wx => Only w wx ∧ Own2 wx w.heap.size (.int .u64 h) (.int .u64 l) ∧ Own2 wx (w.heap.size + 1) (.int .u64 0) (.int .u64 0) ∧ Own2 wx w2.heap.size (.int .u64 p') (.int .u64 q')) ⟨(ht.set (by omega) 0 _).set (by omega) 1 _, (o1.far (by omega) 0 _).far (by omega) 1 _, (o2.far (by omega) 0 _).far (by omega) 1 _, o3.set _ _⟩ ?_
    clear c1 c2 f1 f2 o3 t3
    rintro wx ⟨h5, h6, h7, h8⟩
    clear ht o1 o2
    obtain ⟨k6a, k6b⟩ := h6.cone
    obtain ⟨k8a, k8b⟩ := h8.cone
    cases s <;> cases g
    all_goals
      simp only [bne_self_eq_false, Bool.bne_true, Bool.bne_false, Bool.not_false] at hb
      subst hb
      refine wp_region_cone_tail 9 (by kernel_rfl) (by kernel_rfl) (by kernel_rfl) (by kernel_rfl) (by kernel_rfl) (by kernel_rfl) (by kernel_rfl) ?_
      simp only [List.take_succ_cons, List.take_zero, List.drop_succ_cons, List.drop_zero]
      repeat (any_goals (first | go_big_quiet_step ((first | (go_at_call 80; with_reducible exact Cone.call (B _)) | (go_at_call 102; with_reducible exact Cone.call (N _)))) | quiet_step ((first | (go_at_call 80; with_reducible exact Cone.call (B _)) | (go_at_call 102; with_reducible exact Cone.call (N _))))))
      refine wpQuiet_nil ?_
      rintro w6 ⟨⟨_, t6⟩, rfl⟩
      obtain ⟨c1, c2, f1, f2, z1⟩ := (h7.only t6).all
      have ht := h5.trans t6
      clear k6a k6b k8a k8b h6 h7 h8 t6
      go_wp2
      simp [bodyPost, results, Tryz.results70, go_sem, World.cell?_setCell_other, c1, c2]
      exact (ht.set (by omega) 0 _).set (by omega) 1 _
  · have n1 : decide (m < t2) = false := decide_eq_false (by omega)
    have n2 : (t2 == m) = true := by simpa using k
    have n3 : ((q % 2 : Int) == 1) = true := by simpa using k2
    clear k k2
    simp only [if_true] at N
    go_wp2_with fail
    go_at_call 105
    refine (PL _).mono ?_
    rintro x w3 ⟨rfl, t3⟩
    have o1 := (o1.alloc _).only t3
    have o2 := (o2.alloc _).only t3
    have o3 := (Own2.new w2 (.int .u64 p) (.int .u64 q) 148).only t3
    have ht := (ht.alloc _).trans t3
    obtain ⟨c1, c2, f1, f2, z1⟩ := o3.all
    go_wp2_with fail
    refine wp_name (fun wx => Only w wx ∧ Own2 wx w.heap.size (.int .u64 h) (.int .u64 l) ∧ Own2 wx (w.heap.size + 1) (.int .u64 0) (.int .u64 0) ∧ Own2 wx w2.heap.size (.int .u64 p') (.int .u64 q')) ⟨(ht.set (by omega) 0 _).set (by omega) 1 _, (o1.far (by omega) 0 _).far (by omega) 1 _, (o2.far (by omega) 0 _).far (by omega) 1 _, o3.set _ _⟩ ?_
    clear c1 c2 f1 f2 o3 t3
    rintro wx ⟨h5, h6, h7, h8⟩
    clear ht o1 o2
    obtain ⟨k6a, k6b⟩ := h6.cone
    obtain ⟨k8a, k8b⟩ := h8.cone
    cases s <;> cases g
    all_goals
      simp only [bne_self_eq_false, Bool.bne_true, Bool.bne_false, Bool.not_false] at hb
      subst hb
      refine wp_region_cone_tail 9 (by kernel_rfl) (by kernel_rfl) (by kernel_rfl) (by kernel_rfl) (by kernel_rfl) (by kernel_rfl) (by kernel_rfl) ?_
      simp only [List.take_succ_cons, List.take_zero, List.drop_succ_cons, List.drop_zero]
      repeat (any_goals (first | go_big_quiet_step ((first | (go_at_call 80; with_reducible exact Cone.call (B _)) | (go_at_call 102; with_reducible exact Cone.call (N _)))) | quiet_step ((first | (go_at_call 80; with_reducible exact Cone.call (B _)) | (go_at_call 102; with_reducible exact Cone.call (N _))))))
      refine wpQuiet_nil ?_
      rintro w6 ⟨⟨_, t6⟩, rfl⟩
      obtain ⟨c1, c2, f1, f2, z1⟩ := (h7.only t6).all
      have ht := h5.trans t6
      clear k6a k6b k8a k8b h6 h7 h8 t6
      go_wp2
      simp [bodyPost, results, Tryz.results70, go_sem, World.cell?_setCell_other, c1, c2]
      exact (ht.set (by omega) 0 _).set (by omega) 1 _
  · have n1 : decide (m < t2) = false := decide_eq_false (by omega)
    have n2 : (t2 == m) = true := by simpa using k
    have n3 : ((q % 2 : Int) == 1) = false := by simp; omega
    clear k k2
    simp only [Bool.false_eq_true, if_false] at N
    go_wp2_with fail
    refine wp_name (fun wx => Only w wx ∧ Own2 wx w.heap.size (.int .u64 h) (.int .u64 l) ∧ Own2 wx (w.heap.size + 1) (.int .u64 0) (.int .u64 0) ∧ Own2 wx w2.heap.size (.int .u64 p) (.int .u64 q)) ⟨ht.alloc _, o1.alloc _, o2.alloc _, Own2.new _ _ _ _⟩ ?_
    rintro wx ⟨h5, h6, h7, h8⟩
    clear ht o1 o2
    obtain ⟨k6a, k6b⟩ := h6.cone
    obtain ⟨k8a, k8b⟩ := h8.cone
    cases s <;> cases g
    all_goals
      simp only [bne_self_eq_false, Bool.bne_true, Bool.bne_false, Bool.not_false] at hb
      subst hb
      refine wp_region_cone_tail 9 (by kernel_rfl) (by kernel_rfl) (by kernel_rfl) (by kernel_rfl) (by kernel_rfl) (by kernel_rfl) (by kernel_rfl) ?_
      simp only [List.take_succ_cons, List.take_zero, List.drop_succ_cons, List.drop_zero]
      repeat (any_goals (first | go_big_quiet_step ((first | (go_at_call 80; with_reducible exact Cone.call (B _)) | (go_at_call 102; with_reducible exact Cone.call (N _)))) | quiet_step ((first | (go_at_call 80; with_reducible exact Cone.call (B _)) | (go_at_call 102; with_reducible exact Cone.call (N _))))))
      refine wpQuiet_nil ?_
      rintro w6 ⟨⟨_, t6⟩, rfl⟩
      obtain ⟨c1, c2, f1, f2, z1⟩ := (h7.only t6).all
      have ht := h5.trans t6
      clear k6a k6b k8a k8b h6 h7 h8 t6
      go_wp2
      simp [bodyPost, results, Tryz.results70, go_sem, World.cell?_setCell_other, c1, c2]
      exact (ht.set (by omega) 0 _).set (by omega) 1 _
  · have n1 : decide (m < t2) = false := decide_eq_false (by omega)
    have n2 : (t2 == m) = false := by simp; omega
    clear k
    simp only [Bool.false_eq_true, if_false] at N
    go_wp2_with fail
    refine wp_name (fun wx => Only w wx ∧ Own2 wx w.heap.size (.int .u64 h) (.int .u64 l) ∧ Own2 wx (w.heap.size + 1) (.int .u64 0) (.int .u64 0) ∧ Own2 wx w2.heap.size (.int .u64 p) (.int .u64 q)) ⟨ht.alloc _, o1.alloc _, o2.alloc _, Own2.new _ _ _ _⟩ ?_
    rintro wx ⟨h5, h6, h7, h8⟩
    clear ht o1 o2
    obtain ⟨k6a, k6b⟩ := h6.cone
    obtain ⟨k8a, k8b⟩ := h8.cone
    cases s <;> cases g
    all_goals
      simp only [bne_self_eq_false, Bool.bne_true, Bool.bne_false, Bool.not_false] at hb
      subst hb
      refine wp_region_cone_tail 9 (by kernel_rfl) (by kernel_rfl) (by kernel_rfl) (by kernel_rfl) (by kernel_rfl) (by kernel_rfl) (by kernel_rfl) ?_
      simp only [List.take_succ_cons, List.take_zero, List.drop_succ_cons, List.drop_zero]
      repeat (any_goals (first | go_big_quiet_step ((first | (go_at_call 80; with_reducible exact Cone.call (B _)) | (go_at_call 102; with_reducible exact Cone.call (N _)))) | quiet_step ((first | (go_at_call 80; with_reducible exact Cone.call (B _)) | (go_at_call 102; with_reducible exact Cone.call (N _))))))
      refine wpQuiet_nil ?_
      rintro w6 ⟨⟨_, t6⟩, rfl⟩
      obtain ⟨c1, c2, f1, f2, z1⟩ := (h7.only t6).all
      have ht := h5.trans t6
      clear k6a k6b k8a k8b h6 h7 h8 t6
      go_wp2
      simp [bodyPost, results, Tryz.results70, go_sem, World.cell?_setCell_other, c1, c2]
      exact (ht.set (by omega) 0 _).set (by omega) 1 _
end Go.Proofs.YtopklnaahdjafaaGreatDoor

/-
  What quotients mean.
-/
namespace Go.Proofs.YtopklnaahdjafaaGreatDoor
open Go.RowKit Go.Shelf

/-- how far from 0 -/
def far (v : Int) : Int := if v < 0 then -v else v
/-- are they on two sides of 0? -/
def twoSides (v d : Int) : Bool := decide (v < 0) != decide (d < 0)
/-- with a sign, or not -/
def signed (b : Bool) (n : Int) : Int := if b then -n else n

theorem far_un {v : Int} (h : In v) : 0 ≤ far v ∧ far v ≤ 170141183460469231731687303715884105728 := by obtain ⟨a, b⟩ := h; unfold far; split <;> omega
theorem far_i64 {d : Int} (h : I64 d) (hd : d ≠ 0) : 0 < far d ∧ far d ≤ 9223372036854775808 := by obtain ⟨a, b⟩ := h; unfold far; split <;> omega

theorem tdiv_signed (v d : Int) : v.tdiv d = signed (twoSides v d) (far v / far d) := by
  unfold signed twoSides far
  by_cases c1 : v < 0 <;> by_cases c2 : d < 0 <;> simp only [c1, c2, decide_true, decide_false, bne_self_eq_false, if_true, if_false, Bool.not_false, Bool.bne_true, Bool.bne_false, Bool.false_eq_true]
  · rw [← Int.tdiv_eq_ediv_of_nonneg (by omega), Int.neg_tdiv, Int.tdiv_neg, Int.neg_neg]
  · rw [← Int.tdiv_eq_ediv_of_nonneg (by omega), Int.neg_tdiv, Int.neg_neg]
  · rw [← Int.tdiv_eq_ediv_of_nonneg (by omega), Int.tdiv_neg, Int.neg_neg]
  · rw [← Int.tdiv_eq_ediv_of_nonneg (by omega)]

theorem tmod_signed (v d : Int) : v.tmod d = signed (decide (v < 0)) (far v % far d) := by
  unfold signed far
  by_cases c1 : v < 0 <;> by_cases c2 : d < 0 <;> simp only [c1, c2, decide_true, decide_false, if_true, if_false, Bool.false_eq_true]
  · rw [← Int.tmod_eq_emod_of_nonneg (by omega), Int.neg_tmod, Int.tmod_neg, Int.neg_neg]
  · rw [← Int.tmod_eq_emod_of_nonneg (by omega), Int.neg_tmod, Int.neg_neg]
  · rw [← Int.tmod_eq_emod_of_nonneg (by omega), Int.tmod_neg]
  · rw [← Int.tmod_eq_emod_of_nonneg (by omega)]

/-- a quotient, word by word -/
theorem by_words {h l d : Nat} (hd : 0 < d) (hl : l < 18446744073709551616) : (h * 18446744073709551616 + l) / d = h / d * 18446744073709551616 + (h % d * 18446744073709551616 + l) / d ∧
    (h * 18446744073709551616 + l) % d = (h % d * 18446744073709551616 + l) % d ∧ (h % d * 18446744073709551616 + l) / d < 18446744073709551616 := by
  have e : h * 18446744073709551616 + l = d * (h / d * 18446744073709551616) + (h % d * 18446744073709551616 + l) := by
    have k := Nat.div_add_mod h d
    have k2 : d * (h / d * 18446744073709551616) = d * (h / d) * 18446744073709551616 := by rw [Nat.mul_assoc]
    rw [k2]
    generalize d * (h / d) = a at *
    omega
  have hm := Nat.mod_lt h hd
  refine ⟨?_, ?_, Nat.div_lt_of_lt_mul (by omega)⟩
  · rw [e, Nat.mul_add_div hd]
  · rw [e, Nat.mul_add_mod]

theorem word_nat {n : Nat} (h : n < 18446744073709551616) : Word (n : Int) := ⟨Int.natCast_nonneg _, by omega⟩

theorem by_any {v d : Int} (hv : Un v) (hd : 0 < d) (hd2 : d < 18446744073709551616) (w : World) : Calls Tryz.prog 104 #[enc v, .int .u64 d] w fun e w' => e = .returned (.tuple #[enc (v / d), .int .u64 (v % d)]) ∧ Only w w' := by
  obtain ⟨h, l, ⟨h0, h1⟩, ⟨l0, l1⟩, rfl, e⟩ := un_words hv
  obtain ⟨h, rfl⟩ := Int.eq_ofNat_of_zero_le h0
  obtain ⟨l, rfl⟩ := Int.eq_ofNat_of_zero_le l0
  obtain ⟨d, rfl⟩ := Int.eq_ofNat_of_zero_le (Int.le_of_lt hd)
  have hd' : 0 < d := by omega
  have hm := Nat.mod_lt h hd'
  obtain ⟨k1, k2, k3⟩ := by_words (h := h) (l := l) hd' (by omega)
  have D : DivIs ((h : Int) % d) l d _ _ := fun w => div64_any (h % d) l d hm (by omega) (by omega) w
  rw [e]
  refine (by_walk h0 h1 hd D w).mono fun r w' k => ⟨k.1.trans ?_, k.2⟩
  have e1 : (((h : Int) * 18446744073709551616 + l) / d) = (((h * 18446744073709551616 + l) / d : Nat) : Int) := by simp
  have e2 : (((h : Int) * 18446744073709551616 + l) % d) = (((h * 18446744073709551616 + l) % d : Nat) : Int) := by simp
  rw [e1, e2, k1, k2]
  have kq := Nat.div_le_self h d
  rw [← enc_parts (h := (((h / d : Nat)) : Int)) (l := (((h % d * 18446744073709551616 + l) / d : Nat) : Int)) (v := ((h / d * 18446744073709551616 + (h % d * 18446744073709551616 + l) / d : Nat) : Int)) (word_nat (Nat.lt_of_le_of_lt kq (by omega))) (word_nat k3) (by simp)]
  rfl

/-- what QuoRem answers -/
def quoAns (v d : Int) : Value := if In (v.tdiv d) then .tuple #[enc (v.tdiv d), .int .i64 (v.tmod d), .int .i64 0] else .tuple #[enc 0, .int .i64 0, .int .i64 16]

theorem far_mod {v d : Int} (hd : 0 < far d) : 0 ≤ far v % far d ∧ far v % far d < far d := ⟨Int.emod_nonneg _ (by omega), Int.emod_lt_of_pos _ hd⟩

theorem quoRem_any {v d : Int} (hv : In v) (hd : I64 d) (hd0 : d ≠ 0) (w : World) : Calls Tryz.prog 108 #[enc v, .int .i64 d] w fun e w' => e = .returned (quoAns v d) ∧ Only w w' := by
  have S := size_any hv
  have B := below_enc hv
  have Z := sizeOf_is hd.1 hd.2
  obtain ⟨f0, f1⟩ := far_i64 hd hd0
  have hf := far_un hv
  change ∀ w, Calls _ _ _ w fun e w' => e = .returned (enc (far v)) ∧ Only w w' at S
  change SizeOfIs d (far d) at Z
  have T := by_any (v := far v) (d := far d) ⟨hf.1, by omega⟩ f0 (by omega)
  obtain ⟨m0, m1⟩ := far_mod (v := v) f0
  have hq0 : 0 ≤ far v / far d := Int.ediv_nonneg hf.1 (by omega)
  have hq1 : far v / far d ≤ far v := Int.ediv_le_self _ hf.1
  have N := number_any (v := far v / far d) ⟨hq0, by omega⟩ (twoSides v d)
  have eq : (if twoSides v d = true then -(far v / far d) else far v / far d) = v.tdiv d := (tdiv_signed v d).symm
  rw [eq] at N
  have em := tmod_signed v d
  unfold signed at em
  obtain ⟨h, l, -, -, -, -, -, ev⟩ := enc_words v
  obtain ⟨i, j, -, -, -, -, -, e1⟩ := enc_words (far v)
  obtain ⟨p, q, -, -, -, -, -, e2⟩ := enc_words (far v / far d)
  rw [ev, e1] at S; rw [ev] at B; rw [e1, e2] at T; rw [e2] at N; rw [ev]
  unfold quoAns
  by_cases c : In (v.tdiv d)
  · rw [if_pos c, em]
    rw [ans_in c] at N
    obtain ⟨a, b, -, -, -, -, -, e3⟩ := enc_words (v.tdiv d)
    rw [e3] at N ⊢
    exact quoRem_walk (z := true) hd0 S Z T B rfl N (Or.inl ⟨rfl, rfl⟩) m0 (by omega) w
  · rw [if_neg c]
    rw [ans_out c] at N
    exact quoRem_walk (z := false) hd0 S Z T B rfl N (Or.inr ⟨rfl, by decide⟩) m0 (by omega) w

/-- the nearest quotient of two sizes, of two the even one -/
def nearest (m n : Int) : Int := if 2 * (m % n) > n ∨ (2 * (m % n) = n ∧ m / n % 2 = 1) then m / n + 1 else m / n

theorem divEven_any {v d : Int} (hv : In v) (hd : I64 d) (hd0 : d ≠ 0) (w : World) : Calls Tryz.prog 70 #[enc v, .int .i64 d] w fun e w' => e = .returned (ans (signed (twoSides v d) (nearest (far v) (far d)))) ∧ Only w w' := by
  have S := size_any hv
  have B := below_enc hv
  have Z := sizeOf_is hd.1 hd.2
  obtain ⟨f0, f1⟩ := far_i64 hd hd0
  have hf := far_un hv
  change ∀ w, Calls _ _ _ w fun e w' => e = .returned (enc (far v)) ∧ Only w w' at S
  change SizeOfIs d (far d) at Z
  have T := by_any (v := far v) (d := far d) ⟨hf.1, by omega⟩ f0 (by omega)
  obtain ⟨m0, m1⟩ := far_mod (v := v) f0
  have hq0 : 0 ≤ far v / far d := Int.ediv_nonneg hf.1 (by omega)
  have hq1 : far v / far d ≤ far v := Int.ediv_le_self _ hf.1
  have PL := plus_any (v := far v / far d) (n := 1) ⟨hq0, by omega⟩ ⟨by decide, by decide⟩
  have t2 : IntKind.u64.wrap (2 * (far v % far d)) = 2 * (far v % far d) := by rw [IntKind.wrap_u64]; omega
  have hnn : Un (nearest (far v) (far d)) := by unfold nearest; split <;> exact ⟨by omega, by omega⟩
  have N := number_any hnn (twoSides v d)
  change ∀ w, Calls _ _ _ w fun e w' => e = .returned (ans (signed (twoSides v d) (nearest (far v) (far d)))) ∧ Only w w' at N
  obtain ⟨a, b, er, ea⟩ := ans_form (signed (twoSides v d) (nearest (far v) (far d)))
  rw [ea] at N ⊢
  have hlow : ∀ p q : Int, enc (far v / far d) = .agg #[.int .u64 p, .int .u64 q] → 0 ≤ q ∧ q % 2 = far v / far d % 2 := fun p q he => by
    unfold enc at he
    simp only [Value.agg.injEq, Array.mk.injEq, List.cons.injEq, Value.int.injEq, true_and, and_true] at he
    omega
  obtain ⟨h, l, -, -, -, -, -, ev⟩ := enc_words v
  obtain ⟨i, j, -, -, -, -, -, e1⟩ := enc_words (far v)
  obtain ⟨p, q, -, -, -, -, -, e2⟩ := enc_words (far v / far d)
  obtain ⟨p', q', -, -, -, -, -, e3⟩ := enc_words (far v / far d + 1)
  obtain ⟨q0, qq⟩ := hlow p q e2
  rw [ev, e1] at S; rw [ev] at B; rw [e1, e2] at T; rw [e2, e3] at PL; rw [ev]
  have hway : ∃ up : Bool, Way (2 * (far v % far d)) (far d) q up ∧ nearest (far v) (far d) = if up then far v / far d + 1 else far v / far d := by
    unfold nearest Way
    by_cases c1 : far d < 2 * (far v % far d)
    · exact ⟨true, Or.inl ⟨c1, rfl⟩, by rw [if_pos (Or.inl c1)]; rfl⟩
    · by_cases c2 : 2 * (far v % far d) = far d
      · by_cases c3 : q % 2 = 1
        · exact ⟨true, Or.inr (Or.inl ⟨c2, c3, rfl⟩), by rw [if_pos (Or.inr ⟨c2, by omega⟩)]; rfl⟩
        · exact ⟨false, Or.inr (Or.inr (Or.inl ⟨c2, by omega, rfl⟩)), by rw [if_neg (by omega)]; rfl⟩
      · exact ⟨false, Or.inr (Or.inr (Or.inr ⟨by omega, rfl⟩)), by rw [if_neg (by omega)]; rfl⟩
  obtain ⟨up, hw, hnr⟩ := hway
  refine divEven_walk hd0 S Z T t2 q0 hw PL B rfl rfl (fun w => ?_) w
  have := N w
  rw [hnr] at this
  cases up
  · simp only [Bool.false_eq_true, if_false] at this ⊢
    rw [e2] at this; exact this
  · simp only [if_true] at this ⊢
    rw [e3] at this; exact this
end Go.Proofs.YtopklnaahdjafaaGreatDoor
