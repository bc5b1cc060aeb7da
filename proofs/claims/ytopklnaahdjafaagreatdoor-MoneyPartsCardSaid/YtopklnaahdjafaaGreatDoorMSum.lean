/-
  Amounts joined: Add, Sub, Cmp, New, Ratio.
-/
import Derived.Test.YtopklnaahdjafaaGreatDoorMBeside
import Derived.Test.YtopklnaahdjafaaGreatDoorGQu
import Derived.Deep.RegionHeld3
namespace Go.Proofs.YtopklnaahdjafaaGreatDoor
open Go.RowKit Go.Shelf
set_option linter.unusedVariables false

abbrev AnsIs (f : FuncId) (args : Array Value) (n : Int) (s : ByteArray) (e : Int) : Prop := ∀ w, Calls Tryz.prog f args w fun r w' => r = .returned (.tuple #[.agg #[.int .i64 n, .string s], .int .i64 e]) ∧ Only w w'

theorem boxesAAA (w : World) (u v : Int) (s t : ByteArray) : Only w (((w.alloc (.cells #[.int .i64 u, .string s] 23)).alloc (.cells #[.int .i64 v, .string t] 23)).alloc (.cells #[.int .i64 0, .string ⟨#[]⟩] 23)) ∧
    Own2 (((w.alloc (.cells #[.int .i64 u, .string s] 23)).alloc (.cells #[.int .i64 v, .string t] 23)).alloc (.cells #[.int .i64 0, .string ⟨#[]⟩] 23)) w.heap.size (.int .i64 u) (.string s) ∧
    Own2 (((w.alloc (.cells #[.int .i64 u, .string s] 23)).alloc (.cells #[.int .i64 v, .string t] 23)).alloc (.cells #[.int .i64 0, .string ⟨#[]⟩] 23)) (w.heap.size + 1) (.int .i64 v) (.string t) ∧
    Own2 (((w.alloc (.cells #[.int .i64 u, .string s] 23)).alloc (.cells #[.int .i64 v, .string t] 23)).alloc (.cells #[.int .i64 0, .string ⟨#[]⟩] 23)) (w.heap.size + 1 + 1) (.int .i64 0) (.string ⟨#[]⟩) :=
  ⟨(((Only.refl w).alloc _).alloc _).alloc _, ((Own2.new w _ _ _).alloc _).alloc _, (Own2.new1 w _ _ _ _).alloc _, Own2.new2 w _ _ _ _ _⟩

theorem joined_bad {u v k e : Int} {s t c : ByteArray} {fv : Value} (B : BesIs u s v t c k e) (h1 : (e == 0) = false) (h2 : (e != 0) = true) : AnsIs 64 #[.agg #[.int .i64 u, .string s], .agg #[.int .i64 v, .string t], fv] 0 ⟨#[]⟩ e := by
  intro w
  have B := Lib.hid B
  obtain ⟨ht, o1, o2, o3⟩ := boxesAAA w u v s t
  go_enter Tryz.func64, Tryz.ntmps64
  go_wp2_with fail
  go_at_call 44
  refine (B.out _).mono ?_
  rintro r w1 ⟨rfl, t1⟩
  have o3 := (o3.only t1).alloc (.cells #[.string c, .int .i64 k] 45)
  have ht := (ht.trans t1).alloc (.cells #[.string c, .int .i64 k] 45)
  obtain ⟨d1, d2, f1, f2, z1⟩ := o3.all
  clear t1 o1 o2 o3
  go_wp2
  simp [bodyPost, results, Tryz.results64, go_sem, World.cell?_setCell_other, d1, d2]
  exact (ht.set (by omega) 0 _).set (by omega) 1 _

theorem joined_good {u v k h l i j p q m e : Int} {s t c d : ByteArray} {f : FuncId} (hent : ∀ args w, (callFunc f args).run Tryz.prog w = .ok (.enter f args) w) (B : BesIs u s v t c k 0)
    (F : FromIs v (.agg #[.int .u64 h, .int .u64 l])) (J : ∀ w, Calls Tryz.prog f #[.agg #[.int .u64 i, .int .u64 j], .agg #[.int .u64 h, .int .u64 l]] w fun r w' => r = .returned (.tuple #[.agg #[.int .u64 p, .int .u64 q], .int .i64 0]) ∧ Only w w')
    (A : AmIs c k (.agg #[.int .u64 p, .int .u64 q]) m d e) :
    AnsIs 64 #[.agg #[.int .i64 u, .string s], .agg #[.int .i64 v, .string t], .func (.func f) #[.agg #[.int .u64 i, .int .u64 j]] #[]] m d e := by
  intro w
  have B := Lib.hid B
  have F := Lib.hid F
  have J := Lib.hid J
  have A := Lib.hid A
  obtain ⟨ht, o1, o2, o3⟩ := boxesAAA w u v s t
  go_enter Tryz.func64, Tryz.ntmps64
  go_wp2_with fail
  go_at_call 44
  refine (B.out _).mono ?_
  rintro r w1 ⟨rfl, t1⟩
  have o2 := (o2.only t1).alloc (.cells #[.string c, .int .i64 k] 45)
  have o3 := (o3.only t1).alloc (.cells #[.string c, .int .i64 k] 45)
  have o4 := Own2.new w1 (.string c) (.int .i64 k) 45
  have ht := (ht.trans t1).alloc (.cells #[.string c, .int .i64 k] 45)
  obtain ⟨d1, d2, f1, f2, z1⟩ := o2.all
  clear t1 o1 o2
  go_wp2_with fail
  go_at_call 46
  refine (F.out _).mono ?_
  rintro r w2 ⟨rfl, t2⟩
  have o3 := o3.only t2
  have o4 := o4.only t2
  have ht := ht.trans t2
  clear d1 d2 f1 f2 z1 t2
  go_wp2_with fail
  refine (J.out _).mono ?_
  rintro r w3 ⟨rfl, t3⟩
  have o3 := (o3.only t3).alloc (.cells #[.int .u64 p, .int .u64 q] 85)
  have o4 := (o4.only t3).alloc (.cells #[.int .u64 p, .int .u64 q] 85)
  have ht := (ht.trans t3).alloc (.cells #[.int .u64 p, .int .u64 q] 85)
  obtain ⟨d1, d2, f1, f2, z1⟩ := o4.all
  clear t3
  go_wp2_with fail
  go_at_call 47
  refine (A.out _).mono ?_
  rintro r w4 ⟨rfl, t4⟩
  have ht := ht.trans t4
  clear d1 d2 f1 f2 z1
  obtain ⟨d1, d2, f1, f2, z1⟩ := (o3.only t4).all
  clear o3 o4 t4
  go_wp2
  simp [bodyPost, results, Tryz.results64, go_sem, World.cell?_setCell_other, d1, d2]
  exact (ht.set (by omega) 0 _).set (by omega) 1 _

theorem addM_walk {u v i j m e : Int} {s t d : ByteArray} (F : FromIs u (.agg #[.int .u64 i, .int .u64 j]))
    (J : AnsIs 64 #[.agg #[.int .i64 u, .string s], .agg #[.int .i64 v, .string t], .func (.func 45) #[.agg #[.int .u64 i, .int .u64 j]] #[]] m d e) :
    AnsIs 28 #[.agg #[.int .i64 u, .string s], .agg #[.int .i64 v, .string t]] m d e := by
  intro w
  have F := Lib.hid F
  have J := Lib.hid J
  obtain ⟨ht, o1, o2, o3⟩ := boxesAAA w u v s t
  go_enter Tryz.func28, Tryz.ntmps28
  go_wp2_with fail
  refine wp_name (fun wx => Only w wx ∧ Own2 wx w.heap.size (.int .i64 u) (.string s) ∧ Own2 wx (w.heap.size + 1) (.int .i64 v) (.string t) ∧ Own2 wx (w.heap.size + 1 + 1) (.int .i64 0) (.string ⟨#[]⟩)) ⟨ht, o1, o2, o3⟩ ?_
  clear ht o1 o2 o3
  rintro wx ⟨ht, o1, o2, o3⟩
  have q1 := o1.drew
  have q2 := o2.drew
  obtain ⟨x1, x2, -, -, x3⟩ := o1.all
  obtain ⟨y1, y2, -, -, y3⟩ := o2.all
  go_region_held3 (fun w' => w'.cell? ⟨w.heap.size, 0, none⟩ = some (.int .i64 u) ∧ w'.cell? ⟨w.heap.size, 1, none⟩ = some (.string s) ∧ w'.cell? ⟨w.heap.size + 1, 0, none⟩ = some (.int .i64 v) ∧ w'.cell? ⟨w.heap.size + 1, 1, none⟩ = some (.string t)) (first | exact ⟨q1.c0, q1.c1, q2.c0, q2.c1⟩ | exact ⟨p1.c0, p1.c1, p2.c0, p2.c1⟩ | exact ⟨((p1.far (by omega) 0 _).far (by omega) 1 _).c0, ((p1.far (by omega) 0 _).far (by omega) 1 _).c1, ((p2.far (by omega) 0 _).far (by omega) 1 _).c0, ((p2.far (by omega) 0 _).far (by omega) 1 _).c1⟩ | fail) (first | (go_at_call 46; refine (F.out _).mono ?_; rintro r w3 ⟨rfl, t3⟩; have p1 := q1.only t3; have p2 := q2.only t3; have p3 := o3.drew.only t3; have p5 := ht.drew.trans t3) | (go_at_call 64; refine (J.out _).mono ?_; rintro r w4 ⟨rfl, t4⟩; have p1 := p1.only t4; have p2 := p2.only t4; have p3 := p3.only t4; have p5 := p5.trans t4; obtain ⟨g1, g2, g3, g4, g5⟩ := p3.all))
  have HT := Lib.hid ((p5.set (p := w.heap.size + 1 + 1) (by omega) 0 (.int .i64 m)).set (p := w.heap.size + 1 + 1) (by omega) 1 (.string d))
  clear p1 p2 p3 p5 t3 t4 q1 q2 o1 o2 o3 ht
  go_wp2
  simp [bodyPost, results, Tryz.results28, go_sem, World.cell?_setCell_other, g1, g2]
  exact HT.out

theorem subM_walk {u v i j m e : Int} {s t d : ByteArray} (F : FromIs u (.agg #[.int .u64 i, .int .u64 j]))
    (J : AnsIs 64 #[.agg #[.int .i64 u, .string s], .agg #[.int .i64 v, .string t], .func (.func 67) #[.agg #[.int .u64 i, .int .u64 j]] #[]] m d e) :
    AnsIs 30 #[.agg #[.int .i64 u, .string s], .agg #[.int .i64 v, .string t]] m d e := by
  intro w
  have F := Lib.hid F
  have J := Lib.hid J
  obtain ⟨ht, o1, o2, o3⟩ := boxesAAA w u v s t
  go_enter Tryz.func30, Tryz.ntmps30
  go_wp2_with fail
  refine wp_name (fun wx => Only w wx ∧ Own2 wx w.heap.size (.int .i64 u) (.string s) ∧ Own2 wx (w.heap.size + 1) (.int .i64 v) (.string t) ∧ Own2 wx (w.heap.size + 1 + 1) (.int .i64 0) (.string ⟨#[]⟩)) ⟨ht, o1, o2, o3⟩ ?_
  clear ht o1 o2 o3
  rintro wx ⟨ht, o1, o2, o3⟩
  have q1 := o1.drew
  have q2 := o2.drew
  obtain ⟨x1, x2, -, -, x3⟩ := o1.all
  obtain ⟨y1, y2, -, -, y3⟩ := o2.all
  go_region_held3 (fun w' => w'.cell? ⟨w.heap.size, 0, none⟩ = some (.int .i64 u) ∧ w'.cell? ⟨w.heap.size, 1, none⟩ = some (.string s) ∧ w'.cell? ⟨w.heap.size + 1, 0, none⟩ = some (.int .i64 v) ∧ w'.cell? ⟨w.heap.size + 1, 1, none⟩ = some (.string t)) (first | exact ⟨q1.c0, q1.c1, q2.c0, q2.c1⟩ | exact ⟨p1.c0, p1.c1, p2.c0, p2.c1⟩ | exact ⟨((p1.far (by omega) 0 _).far (by omega) 1 _).c0, ((p1.far (by omega) 0 _).far (by omega) 1 _).c1, ((p2.far (by omega) 0 _).far (by omega) 1 _).c0, ((p2.far (by omega) 0 _).far (by omega) 1 _).c1⟩ | fail) (first | (go_at_call 46; refine (F.out _).mono ?_; rintro r w3 ⟨rfl, t3⟩; have p1 := q1.only t3; have p2 := q2.only t3; have p3 := o3.drew.only t3; have p5 := ht.drew.trans t3) | (go_at_call 64; refine (J.out _).mono ?_; rintro r w4 ⟨rfl, t4⟩; have p1 := p1.only t4; have p2 := p2.only t4; have p3 := p3.only t4; have p5 := p5.trans t4; obtain ⟨g1, g2, g3, g4, g5⟩ := p3.all))
  have HT := Lib.hid ((p5.set (p := w.heap.size + 1 + 1) (by omega) 0 (.int .i64 m)).set (p := w.heap.size + 1 + 1) (by omega) 1 (.string d))
  clear p1 p2 p3 p5 t3 t4 q1 q2 o1 o2 o3 ht
  go_wp2
  simp [bodyPost, results, Tryz.results30, go_sem, World.cell?_setCell_other, g1, g2]
  exact HT.out

end Go.Proofs.YtopklnaahdjafaaGreatDoor
