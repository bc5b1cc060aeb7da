/-
  Quotients.
-/
import Derived.Test.YtagilpgplcphpaaNProd
import Derived.Deep.RegionHeld3
namespace Go.Proofs.Ytagilpgplcphpaa
open Go.RowKit Go.Shelf

abbrev ByIs (v : Value) (d : Int) (u : Value) (r : Int) : Prop := ∀ w, Calls Try.prog 44 #[v, .int .u64 d] w fun e w' => e = .returned (.tuple #[u, .int .u64 r]) ∧ Only w w'

/-- what QuoRem answers, n's answer being (a b, e) -/
def quoRes (a b e r : Int) (s : Bool) (z : Bool) : Value := if z then .tuple #[.agg #[.int .u64 a, .int .u64 b], .int .i64 (if s then -r else r), .int .i64 0] else .tuple #[.agg #[.int .u64 0, .int .u64 0], .int .i64 0, .int .i64 e]

set_option maxHeartbeats 1600000 in
theorem quoRem_walk {h l i j p q a b e r : Int} {d m : Int} {s g z : Bool} (hd : ¬ d = 0) (S : SizeIs (.agg #[.int .u64 h, .int .u64 l]) (.agg #[.int .u64 i, .int .u64 j])) (Z : SizeOfIs d m)
    (T : ByIs (.agg #[.int .u64 i, .int .u64 j]) m (.agg #[.int .u64 p, .int .u64 q]) r) (B : BelowIs (.agg #[.int .u64 h, .int .u64 l]) s) (hg : decide (d < 0) = g) 
    (N : NumberIs (.agg #[.int .u64 p, .int .u64 q]) (s != g) (.tuple #[.agg #[.int .u64 a, .int .u64 b], .int .i64 e])) (hz : (z = true ∧ e = 0) ∨ (z = false ∧ e ≠ 0)) (hr0 : 0 ≤ r) (hr1 : r < 9223372036854775808) (w : World) :
    Calls Try.prog 13 #[.agg #[.int .u64 h, .int .u64 l], .int .i64 d] w fun x w' => x = .returned (quoRes a b e r s z) ∧ Only w w' := by
  have hd2 : (d == 0) = false := by simp; exact hd
  have hr : IntKind.i64.wrap r = r := by rw [IntKind.wrap_i64]; omega
  have hr2 : IntKind.i64.wrap (-r) = -r := by rw [IntKind.wrap_i64]; omega
  have HR0 := Lib.hid hr0
  have HR1 := Lib.hid hr1
  clear hr0 hr1
  go_enter Try.func13, Try.ntmps13
  go_wp2_with fail
  go_at_call 40
  refine (S _).mono ?_
  rintro x w1 ⟨rfl, t1⟩
  have o1 := ((Own2.new w (.int .u64 h) (.int .u64 l) 24).alloc _).only t1
  have o2 := (Own2.new1 w _ (.int .u64 0) (.int .u64 0) 24).only t1
  have ht := (((Only.refl w).alloc _).alloc _).trans t1
  clear t1 S
  go_wp2_with (first | (go_at_call 42; refine (Z _).mono ?_; rintro x w2 ⟨rfl, rfl⟩) | fail)
  go_at_call 44
  refine (T _).mono ?_
  rintro x w2 ⟨rfl, t2⟩
  have o1 := o1.only t2
  have o2 := o2.only t2
  have ht := ht.trans t2
  clear t2 T Z
  go_wp2_with fail
  refine wp_name (fun wx => Only w wx ∧ Own2 wx w.heap.size (.int .u64 h) (.int .u64 l) ∧ Own2 wx (w.heap.size + 1) (.int .u64 0) (.int .u64 0) ∧ Own2 wx w2.heap.size (.int .u64 p) (.int .u64 q)) ⟨ht.alloc _, o1.alloc _, o2.alloc _, Own2.new _ _ _ _⟩ ?_
  rintro wx ⟨h5, h6, h7, h8⟩
  have hl := o2.lt
  clear ht o1 o2
  obtain ⟨k6a, k6b⟩ := h6.cone
  obtain ⟨k8a, k8b⟩ := h8.cone
  have l8 := h8.lt
  have l6 := h6.lt
  have q8 := h8.drew
  have q6 := h6.drew
  go_region_held3 (fun w' => w'.cell? ⟨w2.heap.size, 0, none⟩ = some (.int .u64 p) ∧ w'.cell? ⟨w2.heap.size, 1, none⟩ = some (.int .u64 q) ∧ w'.cell? ⟨w.heap.size, 0, none⟩ = some (.int .u64 h) ∧ w'.cell? ⟨w.heap.size, 1, none⟩ = some (.int .u64 l)) (first | exact ⟨q8.c0, q8.c1, q6.c0, q6.c1⟩ | exact ⟨(q8.alloc _).c0, (q8.alloc _).c1, (q6.alloc _).c0, (q6.alloc _).c1⟩ | exact ⟨p8.c0, p8.c1, p6.c0, p6.c1⟩ | exact ⟨(p8.alloc _).c0, (p8.alloc _).c1, (p6.alloc _).c0, (p6.alloc _).c1⟩ | exact ⟨r8.c0, r8.c1, r6.c0, r6.c1⟩ | exact ⟨(r8.alloc _).c0, (r8.alloc _).c1, (r6.alloc _).c0, (r6.alloc _).c1⟩ | exact ⟨((r8.far (by omega) 0 _).far (by omega) 1 _).c0, ((r8.far (by omega) 0 _).far (by omega) 1 _).c1, ((r6.far (by omega) 0 _).far (by omega) 1 _).c0, ((r6.far (by omega) 0 _).far (by omega) 1 _).c1⟩ | fail) (first | (go_at_call 39; refine (B _).mono ?_; rintro r w3 ⟨rfl, t3⟩; have p8 : Own2 w3 w2.heap.size (.int .u64 p) (.int .u64 q) := (by first | exact q8.only t3 | exact (q8.alloc _).only t3 | fail); have p6 : Own2 w3 w.heap.size (.int .u64 h) (.int .u64 l) := (by first | exact q6.only t3 | exact (q6.alloc _).only t3 | fail); have l83 := p8.lt; have l63 := p6.lt; have p7 : Own2 w3 (w.heap.size + 1) (.int .u64 0) (.int .u64 0) := (by first | exact h7.drew.only t3 | exact (h7.drew.alloc _).only t3 | fail); have p5 : Only w w3 := (by first | exact h5.drew.trans t3 | exact (h5.drew.alloc _).trans t3 | fail); first | have n3 : Own2 w3 wx.heap.size (.int .u64 0) (.int .u64 0) := (Own2.new wx.drew (.int .u64 0) (.int .u64 0) 24).only t3 | skip) | (go_at_call 43; refine (N _).mono ?_; rintro r w4 ⟨rfl, t4⟩; have r8 : Own2 w4 w2.heap.size (.int .u64 p) (.int .u64 q) := (by first | exact p8.only t4 | exact (p8.alloc _).only t4 | fail); have r6 : Own2 w4 w.heap.size (.int .u64 h) (.int .u64 l) := (by first | exact p6.only t4 | exact (p6.alloc _).only t4 | fail); have r7 : Own2 w4 (w.heap.size + 1) (.int .u64 0) (.int .u64 0) := (by first | exact p7.only t4 | exact (p7.alloc _).only t4 | fail); have r5 : Only w w4 := (by first | exact p5.trans t4 | exact (p5.alloc _).trans t4 | fail); first | (have n4a := (n3.only t4).c0; have n4b := (n3.only t4).c1; have n4c := (n3.only t4).f0; have n4d := (n3.only t4).f1; have n4e := (n3.only t4).lt) | (have n4a := ((Own2.new w3 (.int .u64 0) (.int .u64 0) 24).only t4).c0; have n4b := ((Own2.new w3 (.int .u64 0) (.int .u64 0) 24).only t4).c1; have n4c := ((Own2.new w3 (.int .u64 0) (.int .u64 0) 24).only t4).f0; have n4d := ((Own2.new w3 (.int .u64 0) (.int .u64 0) 24).only t4).f1; have n4e := ((Own2.new w3 (.int .u64 0) (.int .u64 0) 24).only t4).lt) | skip))
  all_goals
    first
      | refine then_name (fun W => Only w W ∧ Own2 W w.heap.size (.int .u64 h) (.int .u64 l) ∧ Own2 W (w.heap.size + 1) (.int .u64 0) (.int .u64 0) ∧ Own2 W w4.heap.size (.int .u64 a) (.int .u64 b)) ⟨r5.alloc _, r6.alloc _, r7.alloc _, Own2.new _ _ _ _⟩ ?_
      | refine then_name (fun W => Only w W ∧ Own2 W w.heap.size (.int .u64 h) (.int .u64 l) ∧ Own2 W (w.heap.size + 1) (.int .u64 0) (.int .u64 0) ∧ Own2 W w3.heap.size (.int .u64 a) (.int .u64 b)) ⟨(r5.set (by omega) 0 _).set (by omega) 1 _, (r6.far (by omega) 0 _).far (by omega) 1 _, (r7.far (by omega) 0 _).far (by omega) 1 _, ((Own2.new w3 _ _ 24).only t4).set _ _⟩ ?_
      | refine then_name (fun W => Only w W ∧ Own2 W w.heap.size (.int .u64 h) (.int .u64 l) ∧ Own2 W (w.heap.size + 1) (.int .u64 0) (.int .u64 0) ∧ Own2 W wx.heap.size (.int .u64 a) (.int .u64 b)) ⟨(r5.set (by omega) 0 _).set (by omega) 1 _, (r6.far (by omega) 0 _).far (by omega) 1 _, (r7.far (by omega) 0 _).far (by omega) 1 _, (n3.only t4).set _ _⟩ ?_
      | fail
    rintro W ⟨u5, u6, u7, u9⟩
    clear r5 r6 r7 r8 p5 p6 p7 p8 q6 q8 h5 h6 h7 h8 N hg
    obtain ⟨c6a, c6b, f6a, f6b, z6⟩ := u6.all
    obtain ⟨c7a, c7b, f7a, f7b, z7⟩ := u7.all
    obtain ⟨c9a, c9b, f9a, f9b, z9⟩ := u9.all
    rcases hz with ⟨rfl, rfl⟩ | ⟨rfl, hz⟩
    · cases s
      all_goals
        go_wp2_with fail
        go_at_call 39
        refine (B _).mono ?_
        rintro x w6 ⟨rfl, t6⟩
        obtain ⟨d7a, d7b, g7a, g7b, y7⟩ := (u7.only t6).all
        obtain ⟨d9a, d9b, g9a, g9b, y9⟩ := (u9.only t6).all
        have ht2 := u5.trans t6
        clear c6a c6b f6a f6b c7a c7b f7a f7b c9a c9b f9a f9b B
        go_wp2_with fail
        simp [bodyPost, results, Try.results13, go_sem, World.cell?_setCell_other, d7a, d7b, quoRes]
        exact (ht2.set (by omega) 0 _).set (by omega) 1 _
    · go_wp2_with fail
      simp [bodyPost, results, Try.results13, go_sem, World.cell?_setCell_other, c7a, c7b, quoRes]
      exact (u5.set (by omega) 0 _).set (by omega) 1 _
end Go.Proofs.Ytagilpgplcphpaa
