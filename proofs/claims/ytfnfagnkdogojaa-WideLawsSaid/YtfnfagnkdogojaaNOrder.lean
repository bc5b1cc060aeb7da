/-
  WideOrder: the walk.
-/
import Derived.Test.YtfnfagnkdogojaaNFirst
namespace Go.Proofs.Ytfnfagnkdogojaa
open Go.RowKit Go.Shelf

abbrev CmpIs (v u : Value) (k : Int) : Prop := ∀ w, Calls Try.prog 29 #[v, u] w fun e w' => e = .returned (.int .i64 k) ∧ Only w w'
abbrev AddsIs (v u x : Value) (n : Int) : Prop := ∀ w, Calls Try.prog 10 #[v, u] w fun e w' => e = .returned (.tuple #[x, .int .i64 n]) ∧ Only w w'
abbrev SubIs (v u x : Value) (n : Int) : Prop := ∀ w, Calls Try.prog 16 #[v, u] w fun e w' => e = .returned (.tuple #[x, .int .i64 n]) ∧ Only w w'
abbrev SignIs (v : Value) (k : Int) : Prop := ∀ w, Calls Try.prog 30 #[v] w fun e w' => e = .returned (.int .i64 k) ∧ Only w w'

set_option maxHeartbeats 16000000 in
theorem wideOrder_walk {ah al bh bl ch cl xh xl yh yl dh dl : Int} {k kb k2 k3 e f g : Int} {z d1 d2 d3 ez fz gz : Bool}
    (C0 : CmpIs (.agg #[.int .u64 ah, .int .u64 al]) (.agg #[.int .u64 ah, .int .u64 al]) 0) (C1 : CmpIs (.agg #[.int .u64 ah, .int .u64 al]) (.agg #[.int .u64 bh, .int .u64 bl]) k) (C2 : CmpIs (.agg #[.int .u64 bh, .int .u64 bl]) (.agg #[.int .u64 ah, .int .u64 al]) kb) (hkb : IntKind.i64.wrap (-kb) = k) (hz : z = decide (ah = bh ∧ al = bl)) (hz1 : (k == 0) = z)
    (C3 : CmpIs (.agg #[.int .u64 bh, .int .u64 bl]) (.agg #[.int .u64 ch, .int .u64 cl]) k2) (C4 : CmpIs (.agg #[.int .u64 ah, .int .u64 al]) (.agg #[.int .u64 ch, .int .u64 cl]) k3) (h1 : decide (k ≤ 0) = d1) (h2 : decide (k2 ≤ 0) = d2) (h3 : decide (0 < k3) = d3) (hd : d1 = false ∨ (d1 = true ∧ d2 = false) ∨ (d1 = true ∧ d2 = true ∧ d3 = false))
    (A1 : AddsIs (.agg #[.int .u64 ah, .int .u64 al]) (.agg #[.int .u64 ch, .int .u64 cl]) (.agg #[.int .u64 xh, .int .u64 xl]) e) (A2 : AddsIs (.agg #[.int .u64 bh, .int .u64 bl]) (.agg #[.int .u64 ch, .int .u64 cl]) (.agg #[.int .u64 yh, .int .u64 yl]) f) (he : (e == 0) = ez) (hf : (f == 0) = fz) (C5 : Hid (ez = true → fz = true → CmpIs (.agg #[.int .u64 xh, .int .u64 xl]) (.agg #[.int .u64 yh, .int .u64 yl]) k))
    (S : SubIs (.agg #[.int .u64 ah, .int .u64 al]) (.agg #[.int .u64 bh, .int .u64 bl]) (.agg #[.int .u64 dh, .int .u64 dl]) g) (hg : (g == 0) = gz) (hg2 : (g != 0) = !gz) (SG : Hid (gz = true → SignIs (.agg #[.int .u64 dh, .int .u64 dl]) k)) (w : World) :
    Calls Try.prog 7 #[.agg #[.int .u64 ah, .int .u64 al], .agg #[.int .u64 bh, .int .u64 bl], .agg #[.int .u64 ch, .int .u64 cl]] w fun r w' => r = .returned (.bool true) ∧ Only w w' := by
  go_enter Try.func7, Try.ntmps7
  go_wp2_with fail
  go_at_call 9
  refine (first_wide _).mono ?_
  rintro r w1 ⟨rfl, t1⟩
  have o1 := (((Own2.new w (.int .u64 ah) (.int .u64 al) 24).alloc (.cells #[.int .u64 bh, .int .u64 bl] 24)).alloc (.cells #[.int .u64 ch, .int .u64 cl] 24)).only t1
  have o2 := ((Own2.new1 w (.cells #[.int .u64 ah, .int .u64 al] 24) (.int .u64 bh) (.int .u64 bl) 24).alloc (.cells #[.int .u64 ch, .int .u64 cl] 24)).only t1
  have o3 := (Own2.new2 w (.cells #[.int .u64 ah, .int .u64 al] 24) (.cells #[.int .u64 bh, .int .u64 bl] 24) (.int .u64 ch) (.int .u64 cl) 24).only t1
  have ht := ((((Only.refl w).alloc _).alloc _).alloc _).trans t1
  clear t1
  obtain ⟨k1, k2'⟩ := o1.cone
  obtain ⟨k3', k4⟩ := o2.cone
  have HZ := Lib.hid hz
  clear hz
  go_wp2_with fail
  refine wp_region_cone (by kernel_rfl) (by kernel_rfl) ?_
  repeat (any_goals (first | go_big_quiet_step ((first | (go_at_call 29; with_reducible exact Cone.call (C0 _)) | (go_at_call 29; with_reducible exact Cone.call (C1 _)) | (go_at_call 29; with_reducible exact Cone.call (C2 _)))) | quiet_step ((first | (go_at_call 29; with_reducible exact Cone.call (C0 _)) | (go_at_call 29; with_reducible exact Cone.call (C1 _)) | (go_at_call 29; with_reducible exact Cone.call (C2 _))))))
  refine wpQuiet_step (fun K hK => ?_)
  go_simp
  refine ⟨.bool z, fun n => ?_, hK _ ?_⟩
  · have hz := HZ.out
    by_cases q1 : ah = bh <;> by_cases q2 : al = bl <;> simp [q1, q2, hz]
  clear hK K
  repeat (any_goals (first | go_big_quiet_step ((first | (go_at_call 29; with_reducible exact Cone.call (C0 _)) | (go_at_call 29; with_reducible exact Cone.call (C1 _)) | (go_at_call 29; with_reducible exact Cone.call (C2 _)))) | quiet_step ((first | (go_at_call 29; with_reducible exact Cone.call (C0 _)) | (go_at_call 29; with_reducible exact Cone.call (C1 _)) | (go_at_call 29; with_reducible exact Cone.call (C2 _))))))
  refine wpQuiet_nil ?_
  rintro w2 ⟨⟨_, t2⟩, rfl⟩
  have o1 := o1.only t2
  have o2 := o2.only t2
  have o3 := o3.only t2
  have ht := ht.trans t2
  clear k1 k2' k3' k4 t2 C0 C2 hz1
  obtain ⟨c1a, c1b, f1a, f1b, z1⟩ := o1.all
  obtain ⟨c2a, c2b, f2a, f2b, z2⟩ := o2.all
  obtain ⟨c3a, c3b, f3a, f3b, z3⟩ := o3.all
  go_wp2_with fail
  go_at_call 29
  refine (C1 _).mono ?_
  rintro r w3 ⟨rfl, t3⟩
  have o1 := o1.only t3
  have o2 := o2.only t3
  have o3 := o3.only t3
  have ht := ht.trans t3
  clear t3 c1a c1b f1a f1b z1 c2a c2b f2a f2b z2 c3a c3b f3a f3b z3
  rcases hd with rfl | ⟨rfl, rfl⟩ | ⟨rfl, rfl, rfl⟩
  · obtain ⟨c1a, c1b, f1a, f1b, z1⟩ := o1.all
    obtain ⟨c2a, c2b, f2a, f2b, z2⟩ := o2.all
    obtain ⟨c3a, c3b, f3a, f3b, z3⟩ := o3.all
    go_wp2_with fail
    go_at_call 10
    refine (A1 _).mono ?_
    rintro r wa ⟨rfl, t⟩
    have o1 := (o1.only t).alloc (.cells #[.int .u64 xh, .int .u64 xl] 24)
    have o2 := (o2.only t).alloc (.cells #[.int .u64 xh, .int .u64 xl] 24)
    have o3 := (o3.only t).alloc (.cells #[.int .u64 xh, .int .u64 xl] 24)
    have ht := (ht.trans t).alloc (.cells #[.int .u64 xh, .int .u64 xl] 24)
    have o4 := Own2.new wa (.int .u64 xh) (.int .u64 xl) 24
    clear t
    clear c1a c1b f1a f1b z1 c2a c2b f2a f2b z2 c3a c3b f3a f3b z3
    obtain ⟨c1a, c1b, f1a, f1b, z1⟩ := o1.all
    obtain ⟨c2a, c2b, f2a, f2b, z2⟩ := o2.all
    obtain ⟨c3a, c3b, f3a, f3b, z3⟩ := o3.all
    go_wp2_with fail
    go_at_call 10
    refine (A2 _).mono ?_
    rintro r wb ⟨rfl, t⟩
    have o1 := (o1.only t).alloc (.cells #[.int .u64 yh, .int .u64 yl] 24)
    have o2 := (o2.only t).alloc (.cells #[.int .u64 yh, .int .u64 yl] 24)
    have o3 := (o3.only t).alloc (.cells #[.int .u64 yh, .int .u64 yl] 24)
    have ht := (ht.trans t).alloc (.cells #[.int .u64 yh, .int .u64 yl] 24)
    have o4 := (o4.only t).alloc (.cells #[.int .u64 yh, .int .u64 yl] 24)
    have o5 := Own2.new wb (.int .u64 yh) (.int .u64 yl) 24
    clear t
    clear c1a c1b f1a f1b z1 c2a c2b f2a f2b z2 c3a c3b f3a f3b z3
    go_wp2_with fail
    refine wp_name (fun W => Only w W ∧ Own2 W w.heap.size (.int .u64 ah) (.int .u64 al) ∧ Own2 W (w.heap.size + 1) (.int .u64 bh) (.int .u64 bl) ∧ Own2 W wa.heap.size (.int .u64 xh) (.int .u64 xl) ∧ Own2 W wb.heap.size (.int .u64 yh) (.int .u64 yl)) ⟨ht, o1, o2, o4, o5⟩ ?_
    clear ht o1 o2 o3 o4 o5
    rintro W ⟨ht, o1, o2, o4, o5⟩
    obtain ⟨k1, k2'⟩ := o1.cone
    obtain ⟨k3', k4⟩ := o2.cone
    obtain ⟨k5, k6⟩ := o4.cone
    obtain ⟨k7, k8⟩ := o5.cone
    have hef : (ez = false ∧ CmpIs (.agg #[.int .u64 ah, .int .u64 al]) (.agg #[.int .u64 bh, .int .u64 bl]) k) ∨ (ez = true ∧ fz = false ∧ CmpIs (.agg #[.int .u64 ah, .int .u64 al]) (.agg #[.int .u64 bh, .int .u64 bl]) k) ∨ (ez = true ∧ fz = true ∧ CmpIs (.agg #[.int .u64 xh, .int .u64 xl]) (.agg #[.int .u64 yh, .int .u64 yl]) k) := by
      cases ez
      · exact Or.inl ⟨rfl, C1⟩
      · cases fz
        · exact Or.inr (Or.inl ⟨rfl, rfl, C1⟩)
        · exact Or.inr (Or.inr ⟨rfl, rfl, C5.out rfl rfl⟩)
    clear C5
    rcases hef with ⟨rfl, C5'⟩ | ⟨rfl, rfl, C5'⟩ | ⟨rfl, rfl, C5'⟩
    all_goals
      refine wp_region_cone (by kernel_rfl) (by kernel_rfl) ?_
      repeat (any_goals (first | go_big_quiet_step ((first | (go_at_call 11; with_reducible exact Cone.same (num_any _ _)) | (go_at_call 29; with_reducible exact Cone.call (C1 _)) | (go_at_call 29; with_reducible exact Cone.call (C5' _)))) | quiet_step ((first | (go_at_call 11; with_reducible exact Cone.same (num_any _ _)) | (go_at_call 29; with_reducible exact Cone.call (C1 _)) | (go_at_call 29; with_reducible exact Cone.call (C5' _))))))
      refine wpQuiet_nil ?_
      rintro wc ⟨⟨_, t⟩, rfl⟩
      have o1 := o1.only t
      have o2 := o2.only t
      have ht := ht.trans t
      clear k1 k2' k3' k4 k5 k6 k7 k8 t o4 o5 C5'
      obtain ⟨c1a, c1b, f1a, f1b, z1⟩ := o1.all
      obtain ⟨c2a, c2b, f2a, f2b, z2⟩ := o2.all
      go_wp2_with fail
      go_at_call 16
      refine (S _).mono ?_
      rintro r wd ⟨rfl, t⟩
      have o1 := (o1.only t).alloc (.cells #[.int .u64 dh, .int .u64 dl] 24)
      have o2 := (o2.only t).alloc (.cells #[.int .u64 dh, .int .u64 dl] 24)
      have ht := (ht.trans t).alloc (.cells #[.int .u64 dh, .int .u64 dl] 24)
      have o6 := Own2.new wd (.int .u64 dh) (.int .u64 dl) 24
      clear t c1a c1b f1a f1b z1 c2a c2b f2a f2b z2
      go_wp2_with fail
      obtain ⟨k1, k2'⟩ := o1.cone
      obtain ⟨k3', k4⟩ := o2.cone
      obtain ⟨k5, k6⟩ := o6.cone
      have hgg : (gz = false ∧ True) ∨ (gz = true ∧ SignIs (.agg #[.int .u64 dh, .int .u64 dl]) k) := by
        cases gz
        · exact Or.inl ⟨rfl, trivial⟩
        · exact Or.inr ⟨rfl, SG.out rfl⟩
      clear SG
      rcases hgg with ⟨rfl, SG'⟩ | ⟨rfl, SG'⟩
      all_goals
        refine wp_region_cone (by kernel_rfl) (by kernel_rfl) ?_
        repeat (any_goals (first | go_big_quiet_step ((first | (go_at_call 11; with_reducible exact Cone.same (num_any _ _)) | (go_at_call 29; with_reducible exact Cone.call (C1 _)) | (go_at_call 30; with_reducible exact Cone.call (SG' _)))) | quiet_step ((first | (go_at_call 11; with_reducible exact Cone.same (num_any _ _)) | (go_at_call 29; with_reducible exact Cone.call (C1 _)) | (go_at_call 30; with_reducible exact Cone.call (SG' _))))))
        refine wpQuiet_nil ?_
        rintro we ⟨⟨_, t⟩, rfl⟩
        have ht := ht.trans t
        clear k1 k2' k3' k4 k5 k6 t o1 o2 o6
        go_wp2_with fail
        go_ret
        exact ⟨by simp, ht⟩
  · obtain ⟨c1a, c1b, f1a, f1b, z1⟩ := o1.all
    obtain ⟨c2a, c2b, f2a, f2b, z2⟩ := o2.all
    obtain ⟨c3a, c3b, f3a, f3b, z3⟩ := o3.all
    go_wp2_with fail
    go_at_call 29
    refine (C3 _).mono ?_
    rintro r w4 ⟨rfl, t⟩
    have o1 := o1.only t
    have o2 := o2.only t
    have o3 := o3.only t
    have ht := ht.trans t
    clear t
    clear c1a c1b f1a f1b z1 c2a c2b f2a f2b z2 c3a c3b f3a f3b z3
    obtain ⟨c1a, c1b, f1a, f1b, z1⟩ := o1.all
    obtain ⟨c2a, c2b, f2a, f2b, z2⟩ := o2.all
    obtain ⟨c3a, c3b, f3a, f3b, z3⟩ := o3.all
    go_wp2_with fail
    go_at_call 10
    refine (A1 _).mono ?_
    rintro r wa ⟨rfl, t⟩
    have o1 := (o1.only t).alloc (.cells #[.int .u64 xh, .int .u64 xl] 24)
    have o2 := (o2.only t).alloc (.cells #[.int .u64 xh, .int .u64 xl] 24)
    have o3 := (o3.only t).alloc (.cells #[.int .u64 xh, .int .u64 xl] 24)
    have ht := (ht.trans t).alloc (.cells #[.int .u64 xh, .int .u64 xl] 24)
    have o4 := Own2.new wa (.int .u64 xh) (.int .u64 xl) 24
    clear t
    clear c1a c1b f1a f1b z1 c2a c2b f2a f2b z2 c3a c3b f3a f3b z3
    obtain ⟨c1a, c1b, f1a, f1b, z1⟩ := o1.all
    obtain ⟨c2a, c2b, f2a, f2b, z2⟩ := o2.all
    obtain ⟨c3a, c3b, f3a, f3b, z3⟩ := o3.all
    go_wp2_with fail
    go_at_call 10
    refine (A2 _).mono ?_
    rintro r wb ⟨rfl, t⟩
    have o1 := (o1.only t).alloc (.cells #[.int .u64 yh, .int .u64 yl] 24)
    have o2 := (o2.only t).alloc (.cells #[.int .u64 yh, .int .u64 yl] 24)
    have o3 := (o3.only t).alloc (.cells #[.int .u64 yh, .int .u64 yl] 24)
    have ht := (ht.trans t).alloc (.cells #[.int .u64 yh, .int .u64 yl] 24)
    have o4 := (o4.only t).alloc (.cells #[.int .u64 yh, .int .u64 yl] 24)
    have o5 := Own2.new wb (.int .u64 yh) (.int .u64 yl) 24
    clear t
    clear c1a c1b f1a f1b z1 c2a c2b f2a f2b z2 c3a c3b f3a f3b z3
    go_wp2_with fail
    refine wp_name (fun W => Only w W ∧ Own2 W w.heap.size (.int .u64 ah) (.int .u64 al) ∧ Own2 W (w.heap.size + 1) (.int .u64 bh) (.int .u64 bl) ∧ Own2 W wa.heap.size (.int .u64 xh) (.int .u64 xl) ∧ Own2 W wb.heap.size (.int .u64 yh) (.int .u64 yl)) ⟨ht, o1, o2, o4, o5⟩ ?_
    clear ht o1 o2 o3 o4 o5
    rintro W ⟨ht, o1, o2, o4, o5⟩
    obtain ⟨k1, k2'⟩ := o1.cone
    obtain ⟨k3', k4⟩ := o2.cone
    obtain ⟨k5, k6⟩ := o4.cone
    obtain ⟨k7, k8⟩ := o5.cone
    have hef : (ez = false ∧ CmpIs (.agg #[.int .u64 ah, .int .u64 al]) (.agg #[.int .u64 bh, .int .u64 bl]) k) ∨ (ez = true ∧ fz = false ∧ CmpIs (.agg #[.int .u64 ah, .int .u64 al]) (.agg #[.int .u64 bh, .int .u64 bl]) k) ∨ (ez = true ∧ fz = true ∧ CmpIs (.agg #[.int .u64 xh, .int .u64 xl]) (.agg #[.int .u64 yh, .int .u64 yl]) k) := by
      cases ez
      · exact Or.inl ⟨rfl, C1⟩
      · cases fz
        · exact Or.inr (Or.inl ⟨rfl, rfl, C1⟩)
        · exact Or.inr (Or.inr ⟨rfl, rfl, C5.out rfl rfl⟩)
    clear C5
    rcases hef with ⟨rfl, C5'⟩ | ⟨rfl, rfl, C5'⟩ | ⟨rfl, rfl, C5'⟩
    all_goals
      refine wp_region_cone (by kernel_rfl) (by kernel_rfl) ?_
      repeat (any_goals (first | go_big_quiet_step ((first | (go_at_call 11; with_reducible exact Cone.same (num_any _ _)) | (go_at_call 29; with_reducible exact Cone.call (C1 _)) | (go_at_call 29; with_reducible exact Cone.call (C5' _)))) | quiet_step ((first | (go_at_call 11; with_reducible exact Cone.same (num_any _ _)) | (go_at_call 29; with_reducible exact Cone.call (C1 _)) | (go_at_call 29; with_reducible exact Cone.call (C5' _))))))
      refine wpQuiet_nil ?_
      rintro wc ⟨⟨_, t⟩, rfl⟩
      have o1 := o1.only t
      have o2 := o2.only t
      have ht := ht.trans t
      clear k1 k2' k3' k4 k5 k6 k7 k8 t o4 o5 C5'
      obtain ⟨c1a, c1b, f1a, f1b, z1⟩ := o1.all
      obtain ⟨c2a, c2b, f2a, f2b, z2⟩ := o2.all
      go_wp2_with fail
      go_at_call 16
      refine (S _).mono ?_
      rintro r wd ⟨rfl, t⟩
      have o1 := (o1.only t).alloc (.cells #[.int .u64 dh, .int .u64 dl] 24)
      have o2 := (o2.only t).alloc (.cells #[.int .u64 dh, .int .u64 dl] 24)
      have ht := (ht.trans t).alloc (.cells #[.int .u64 dh, .int .u64 dl] 24)
      have o6 := Own2.new wd (.int .u64 dh) (.int .u64 dl) 24
      clear t c1a c1b f1a f1b z1 c2a c2b f2a f2b z2
      go_wp2_with fail
      obtain ⟨k1, k2'⟩ := o1.cone
      obtain ⟨k3', k4⟩ := o2.cone
      obtain ⟨k5, k6⟩ := o6.cone
      have hgg : (gz = false ∧ True) ∨ (gz = true ∧ SignIs (.agg #[.int .u64 dh, .int .u64 dl]) k) := by
        cases gz
        · exact Or.inl ⟨rfl, trivial⟩
        · exact Or.inr ⟨rfl, SG.out rfl⟩
      clear SG
      rcases hgg with ⟨rfl, SG'⟩ | ⟨rfl, SG'⟩
      all_goals
        refine wp_region_cone (by kernel_rfl) (by kernel_rfl) ?_
        repeat (any_goals (first | go_big_quiet_step ((first | (go_at_call 11; with_reducible exact Cone.same (num_any _ _)) | (go_at_call 29; with_reducible exact Cone.call (C1 _)) | (go_at_call 30; with_reducible exact Cone.call (SG' _)))) | quiet_step ((first | (go_at_call 11; with_reducible exact Cone.same (num_any _ _)) | (go_at_call 29; with_reducible exact Cone.call (C1 _)) | (go_at_call 30; with_reducible exact Cone.call (SG' _))))))
        refine wpQuiet_nil ?_
        rintro we ⟨⟨_, t⟩, rfl⟩
        have ht := ht.trans t
        clear k1 k2' k3' k4 k5 k6 t o1 o2 o6
        go_wp2_with fail
        go_ret
        exact ⟨by simp, ht⟩
  · obtain ⟨c1a, c1b, f1a, f1b, z1⟩ := o1.all
    obtain ⟨c2a, c2b, f2a, f2b, z2⟩ := o2.all
    obtain ⟨c3a, c3b, f3a, f3b, z3⟩ := o3.all
    go_wp2_with fail
    go_at_call 29
    refine (C3 _).mono ?_
    rintro r w4 ⟨rfl, t⟩
    have o1 := o1.only t
    have o2 := o2.only t
    have o3 := o3.only t
    have ht := ht.trans t
    clear t
    clear c1a c1b f1a f1b z1 c2a c2b f2a f2b z2 c3a c3b f3a f3b z3
    obtain ⟨c1a, c1b, f1a, f1b, z1⟩ := o1.all
    obtain ⟨c2a, c2b, f2a, f2b, z2⟩ := o2.all
    obtain ⟨c3a, c3b, f3a, f3b, z3⟩ := o3.all
    go_wp2_with fail
    go_at_call 29
    refine (C4 _).mono ?_
    rintro r w5 ⟨rfl, t⟩
    have o1 := o1.only t
    have o2 := o2.only t
    have o3 := o3.only t
    have ht := ht.trans t
    clear t
    clear c1a c1b f1a f1b z1 c2a c2b f2a f2b z2 c3a c3b f3a f3b z3
    obtain ⟨c1a, c1b, f1a, f1b, z1⟩ := o1.all
    obtain ⟨c2a, c2b, f2a, f2b, z2⟩ := o2.all
    obtain ⟨c3a, c3b, f3a, f3b, z3⟩ := o3.all
    go_wp2_with fail
    go_at_call 10
    refine (A1 _).mono ?_
    rintro r wa ⟨rfl, t⟩
    have o1 := (o1.only t).alloc (.cells #[.int .u64 xh, .int .u64 xl] 24)
    have o2 := (o2.only t).alloc (.cells #[.int .u64 xh, .int .u64 xl] 24)
    have o3 := (o3.only t).alloc (.cells #[.int .u64 xh, .int .u64 xl] 24)
    have ht := (ht.trans t).alloc (.cells #[.int .u64 xh, .int .u64 xl] 24)
    have o4 := Own2.new wa (.int .u64 xh) (.int .u64 xl) 24
    clear t
    clear c1a c1b f1a f1b z1 c2a c2b f2a f2b z2 c3a c3b f3a f3b z3
    obtain ⟨c1a, c1b, f1a, f1b, z1⟩ := o1.all
    obtain ⟨c2a, c2b, f2a, f2b, z2⟩ := o2.all
    obtain ⟨c3a, c3b, f3a, f3b, z3⟩ := o3.all
    go_wp2_with fail
    go_at_call 10
    refine (A2 _).mono ?_
    rintro r wb ⟨rfl, t⟩
    have o1 := (o1.only t).alloc (.cells #[.int .u64 yh, .int .u64 yl] 24)
    have o2 := (o2.only t).alloc (.cells #[.int .u64 yh, .int .u64 yl] 24)
    have o3 := (o3.only t).alloc (.cells #[.int .u64 yh, .int .u64 yl] 24)
    have ht := (ht.trans t).alloc (.cells #[.int .u64 yh, .int .u64 yl] 24)
    have o4 := (o4.only t).alloc (.cells #[.int .u64 yh, .int .u64 yl] 24)
    have o5 := Own2.new wb (.int .u64 yh) (.int .u64 yl) 24
    clear t
    clear c1a c1b f1a f1b z1 c2a c2b f2a f2b z2 c3a c3b f3a f3b z3
    go_wp2_with fail
    refine wp_name (fun W => Only w W ∧ Own2 W w.heap.size (.int .u64 ah) (.int .u64 al) ∧ Own2 W (w.heap.size + 1) (.int .u64 bh) (.int .u64 bl) ∧ Own2 W wa.heap.size (.int .u64 xh) (.int .u64 xl) ∧ Own2 W wb.heap.size (.int .u64 yh) (.int .u64 yl)) ⟨ht, o1, o2, o4, o5⟩ ?_
    clear ht o1 o2 o3 o4 o5
    rintro W ⟨ht, o1, o2, o4, o5⟩
    obtain ⟨k1, k2'⟩ := o1.cone
    obtain ⟨k3', k4⟩ := o2.cone
    obtain ⟨k5, k6⟩ := o4.cone
    obtain ⟨k7, k8⟩ := o5.cone
    have hef : (ez = false ∧ CmpIs (.agg #[.int .u64 ah, .int .u64 al]) (.agg #[.int .u64 bh, .int .u64 bl]) k) ∨ (ez = true ∧ fz = false ∧ CmpIs (.agg #[.int .u64 ah, .int .u64 al]) (.agg #[.int .u64 bh, .int .u64 bl]) k) ∨ (ez = true ∧ fz = true ∧ CmpIs (.agg #[.int .u64 xh, .int .u64 xl]) (.agg #[.int .u64 yh, .int .u64 yl]) k) := by
      cases ez
      · exact Or.inl ⟨rfl, C1⟩
      · cases fz
        · exact Or.inr (Or.inl ⟨rfl, rfl, C1⟩)
        · exact Or.inr (Or.inr ⟨rfl, rfl, C5.out rfl rfl⟩)
    clear C5
    rcases hef with ⟨rfl, C5'⟩ | ⟨rfl, rfl, C5'⟩ | ⟨rfl, rfl, C5'⟩
    all_goals
      refine wp_region_cone (by kernel_rfl) (by kernel_rfl) ?_
      repeat (any_goals (first | go_big_quiet_step ((first | (go_at_call 11; with_reducible exact Cone.same (num_any _ _)) | (go_at_call 29; with_reducible exact Cone.call (C1 _)) | (go_at_call 29; with_reducible exact Cone.call (C5' _)))) | quiet_step ((first | (go_at_call 11; with_reducible exact Cone.same (num_any _ _)) | (go_at_call 29; with_reducible exact Cone.call (C1 _)) | (go_at_call 29; with_reducible exact Cone.call (C5' _))))))
      refine wpQuiet_nil ?_
      rintro wc ⟨⟨_, t⟩, rfl⟩
      have o1 := o1.only t
      have o2 := o2.only t
      have ht := ht.trans t
      clear k1 k2' k3' k4 k5 k6 k7 k8 t o4 o5 C5'
      obtain ⟨c1a, c1b, f1a, f1b, z1⟩ := o1.all
      obtain ⟨c2a, c2b, f2a, f2b, z2⟩ := o2.all
      go_wp2_with fail
      go_at_call 16
      refine (S _).mono ?_
      rintro r wd ⟨rfl, t⟩
      have o1 := (o1.only t).alloc (.cells #[.int .u64 dh, .int .u64 dl] 24)
      have o2 := (o2.only t).alloc (.cells #[.int .u64 dh, .int .u64 dl] 24)
      have ht := (ht.trans t).alloc (.cells #[.int .u64 dh, .int .u64 dl] 24)
      have o6 := Own2.new wd (.int .u64 dh) (.int .u64 dl) 24
      clear t c1a c1b f1a f1b z1 c2a c2b f2a f2b z2
      go_wp2_with fail
      obtain ⟨k1, k2'⟩ := o1.cone
      obtain ⟨k3', k4⟩ := o2.cone
      obtain ⟨k5, k6⟩ := o6.cone
      have hgg : (gz = false ∧ True) ∨ (gz = true ∧ SignIs (.agg #[.int .u64 dh, .int .u64 dl]) k) := by
        cases gz
        · exact Or.inl ⟨rfl, trivial⟩
        · exact Or.inr ⟨rfl, SG.out rfl⟩
      clear SG
      rcases hgg with ⟨rfl, SG'⟩ | ⟨rfl, SG'⟩
      all_goals
        refine wp_region_cone (by kernel_rfl) (by kernel_rfl) ?_
        repeat (any_goals (first | go_big_quiet_step ((first | (go_at_call 11; with_reducible exact Cone.same (num_any _ _)) | (go_at_call 29; with_reducible exact Cone.call (C1 _)) | (go_at_call 30; with_reducible exact Cone.call (SG' _)))) | quiet_step ((first | (go_at_call 11; with_reducible exact Cone.same (num_any _ _)) | (go_at_call 29; with_reducible exact Cone.call (C1 _)) | (go_at_call 30; with_reducible exact Cone.call (SG' _))))))
        refine wpQuiet_nil ?_
        rintro we ⟨⟨_, t⟩, rfl⟩
        have ht := ht.trans t
        clear k1 k2' k3' k4 k5 k6 t o1 o2 o6
        go_wp2_with fail
        go_ret
        exact ⟨by simp, ht⟩
end Go.Proofs.Ytfnfagnkdogojaa
