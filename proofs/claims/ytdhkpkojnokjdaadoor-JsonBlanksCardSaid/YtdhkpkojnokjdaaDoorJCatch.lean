/-
  What takes a fault back at Parse's face.
-/
import Derived.Test.YtdhkpkojnokjdaaDoorJValue
import Derived.Test.YtdhkpkojnokjdaaDoorGNt
import Derived.Defers
import Derived.Recover
namespace Go.Proofs.YtdhkpkojnokjdaaDoor
open Go.RowKit Go.Shelf
set_option linter.unusedVariables false
set_option linter.unusedSimpArgs false

/-- block b holds one cell -/
def Own1 (w : World) (b : Nat) (x : Value) : Prop := ∃ ty, w.heap[b]? = some (.cells #[x] ty)
theorem Own1.lt {w : World} {b : Nat} {x : Value} (h : Own1 w b x) : b < w.heap.size := by
  obtain ⟨ty, h⟩ := h; exact (Array.getElem?_eq_some_iff.1 h).1
theorem Own1.turn {w w' : World} {b : Nat} {x : Value} (h : Own1 w b x) {Q : Nat → Prop} (t : Turn Q w w') (hq : ¬ Q b) : Own1 w' b x := by
  have := h.lt
  obtain ⟨ty, h⟩ := h
  exact ⟨ty, (t.block b this hq).trans h⟩
theorem Own1.new (w : World) (x : Value) (ty : TypeId) : Own1 (w.alloc (.cells #[x] ty)) w.heap.size x := ⟨_, heap_alloc_new ..⟩
theorem Own1.all {w : World} {b : Nat} {x : Value} (h : Own1 w b x) : w.cell? ⟨b, 0, none⟩ = some x ∧ w.frozen? ⟨b, 0, none⟩ = false := by
  obtain ⟨ty, h⟩ := h
  refine ⟨?_, ?_⟩ <;> simp [World.cell?, World.frozen?, h]
theorem Own1.set {w : World} {b : Nat} {x : Value} (h : Own1 w b x) (u : Value) : Own1 (w.setCell ⟨b, 0, none⟩ u) b u := by
  obtain ⟨ty, h⟩ := h
  exact ⟨ty, heap_setCell_same h u⟩
theorem Own4.turn {w w' : World} {b : Nat} {x y z u : Value} (h : Own4 w b x y z u) {Q : Nat → Prop} (t : Turn Q w w') (hq : ¬ Q b) : Own4 w' b x y z u := by
  have := h.lt
  obtain ⟨ty, h⟩ := h
  exact ⟨ty, (t.block b this hq).trans h⟩

/-- the three results of Parse -/
def Res3 (w : World) (b : Nat) (x y z u p e : Value) : Prop := Own4 w b x y z u ∧ Own1 w (b + 1) p ∧ Own1 w (b + 2) e

theorem as_hit (v : Value) (w : World) : (Instr.typeAssert (.iface 55 v) 20 55 true).run Tryd.prog w = .ok (.tuple #[v, .bool true]) w := by kernel_rfl
theorem as_nil (w : World) : (Instr.typeAssert .nilIface 20 55 true).run Tryd.prog w = .ok (.tuple #[.agg #[.int .i64 0, .int .i64 0], .bool false]) w := by kernel_rfl

set_option maxRecDepth 100000 in
theorem catch_idle {a1 a2 a3 : Value} (w : World) : CallsD Tryd.prog 23 #[a1, a2, a3] .returning w fun e u' w' => e = .returned (.tuple #[]) ∧ u' = .returning ∧ Only w w' := by
  refine callsD_of_wpS Tryd.func23 rfl fun c₀ cs hu => ?_
  simp only [Tryd.ntmps23, List.size_toArray, List.length_cons, List.length_nil, Nat.reduceAdd, Nat.reduceSub, Array.replicate_succ, Array.replicate_zero, List.push_toArray, List.append_toArray, List.nil_append, List.cons_append]
  apply wpS_seq
  apply wpS_region
  simp [wpOpsS, go_sem, recoverD, hu, Exit.thenS, as_nil]
  refine wpS_of_wp ?_
  go_wp2
  cases c₀
  simp_all [bodyPostS, results, Tryd.results23]
  exact (Only.refl w).alloc _

set_option maxRecDepth 100000 in
set_option maxHeartbeats 3200000 in
theorem catch_fault {b : Nat} {x y z u p e : Value} {pl er : Int} {older : List PanicEntry} {w : World} (h : Res3 w b x y z u p e) :
    CallsD Tryd.prog 23 #[.pointer (some ⟨b, 0, none⟩), .pointer (some ⟨b + 1, 0, none⟩), .pointer (some ⟨b + 2, 0, none⟩)] (.panicking ({ v := .iface 55 (.agg #[.int .i64 pl, .int .i64 er]), recovered := false } :: older)) w
      fun r u' w' => r = .returned (.tuple #[]) ∧ u' = .panicking ({ v := .iface 55 (.agg #[.int .i64 pl, .int .i64 er]), recovered := true } :: older) ∧
        Res3 w' b (.int .i64 0) (.string ⟨#[]⟩) nilS nilS (.int .i64 pl) (.int .i64 er) ∧ Turn (fun i => b ≤ i ∧ i ≤ b + 2) w w' := by
  refine callsD_of_wpS Tryd.func23 rfl fun c₀ cs hu => ?_
  simp only [Tryd.ntmps23, List.size_toArray, List.length_cons, List.length_nil, Nat.reduceAdd, Nat.reduceSub, Array.replicate_succ, Array.replicate_zero, List.push_toArray, List.append_toArray, List.nil_append, List.cons_append]
  apply wpS_seq
  apply wpS_region
  simp [wpOpsS, go_sem, recoverD, hu, Exit.thenS, as_hit]
  refine wpS_of_wp ?_
  have o1 := Own2.new w (.int .i64 pl) (.int .i64 er) 55
  have hA := Only.alloc (Only.refl w) (.cells #[.int .i64 pl, .int .i64 er] 55)
  obtain ⟨h4, hp, he⟩ := h
  have g4 := h4.only hA
  have gp := hp.turn hA.turn (fun q => q)
  have ge := he.turn hA.turn (fun q => q)
  obtain ⟨⟨c1, c2, c3, c4⟩, f1, f2, f3, f4⟩ := g4.all
  obtain ⟨d1, d2⟩ := gp.all
  obtain ⟨e1, e2⟩ := ge.all
  obtain ⟨z1, z2, z3, z4, z5⟩ := o1.all
  have lt4 := h4.lt
  have ltp := hp.lt
  have lte := he.lt
  have n1 : b ≠ w.heap.size := by omega
  have n2 : b + 1 ≠ w.heap.size := by omega
  have n3 : b + 2 ≠ w.heap.size := by omega
  have n4 : w.heap.size ≠ b := by omega
  have n5 : w.heap.size ≠ b + 1 := by omega
  have n6 : w.heap.size ≠ b + 2 := by omega
  have H4 := Lib.hid g4
  have HP := Lib.hid gp
  have HE := Lib.hid ge
  have HA := Lib.hid hA
  clear h4 hp he g4 gp ge hA o1 lt4 ltp lte
  go_wp2_with fail
  go_region_law (fail)
  all_goals
    refine ⟨rfl, _, rfl, .tuple #[], results_none rfl _ _ _, rfl, rfl, ⟨?_, ?_, ?_⟩, ?_⟩
    · exact ((H4.out.set (.int .i64 0) (.string ⟨#[]⟩) nilS nilS).turn (Turn.set (Q := fun i => i = b + 1) (Turn.refl _ _) (b + 1) 0 (Or.inl rfl) _) (fun q => by omega)).turn (Turn.drew (Turn.set (Q := fun i => i = b + 2) (Turn.refl _ _) (b + 2) 0 (Or.inl rfl) _)) (fun q => by omega)
    · exact ((HP.out.turn (turn_set4 (Q := fun i => i = b) (Turn.refl _ _) (Or.inl rfl) (.int .i64 0) (.string ⟨#[]⟩) nilS nilS) (fun q => by omega)).set _).turn (Turn.drew (Turn.set (Q := fun i => i = b + 2) (Turn.refl _ _) (b + 2) 0 (Or.inl rfl) _)) (fun q => by omega)
    · exact (((HE.out.turn (turn_set4 (Q := fun i => i = b) (Turn.refl _ _) (Or.inl rfl) (.int .i64 0) (.string ⟨#[]⟩) nilS nilS) (fun q => by omega)).turn (Turn.set (Q := fun i => i = b + 1) (Turn.refl _ _) (b + 1) 0 (Or.inl rfl) _) (fun q => by omega)).set _).turn (Turn.drew (Turn.refl (fun _ => False) _)) (fun q => q)
    · exact Turn.drew (Turn.set (Turn.set (turn_set4 (HA.out.turn.mono (fun _ q => q.elim)) (Or.inl ⟨Nat.le_refl _, by omega⟩) _ _ _ _) (b + 1) 0 (Or.inl ⟨by omega, by omega⟩) _) (b + 2) 0 (Or.inl ⟨by omega, by omega⟩) _)
end Go.Proofs.YtdhkpkojnokjdaaDoor
