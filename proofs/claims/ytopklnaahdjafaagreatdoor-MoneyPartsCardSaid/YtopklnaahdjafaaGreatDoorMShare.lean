/-
  The chapter's example of an allocation: 100 USD parted by 1, 1, 1.
-/
import Derived.Test.YtopklnaahdjafaaGreatDoorMOps
namespace Go.Proofs.YtopklnaahdjafaaGreatDoor
open Go.RowKit Go.Shelf
set_option linter.unusedVariables false

/-- block b holds just these cells -/
def At (w : World) (b : Nat) (cs : Array Value) : Prop := ∃ ty, w.heap[b]? = some (.cells cs ty)
theorem At.lt {w : World} {b : Nat} {cs : Array Value} (h : At w b cs) : b < w.heap.size := by
  obtain ⟨ty, h⟩ := h; exact (Array.getElem?_eq_some_iff.1 h).1
theorem At.only {w w' : World} {b : Nat} {cs : Array Value} (h : At w b cs) (t : Only w w') : At w' b cs := by
  have := h.lt
  obtain ⟨ty, h⟩ := h
  exact ⟨ty, (t.block b this).trans h⟩
theorem At.alloc {w : World} {b : Nat} {cs : Array Value} (h : At w b cs) (o : Obj) : At (w.alloc o) b cs := h.only ((Only.refl w).alloc o)
theorem At.cell {w : World} {b : Nat} {cs : Array Value} (h : At w b cs) (j : Nat) (v : Value) (e : cs[j]? = some v) : w.cell? ⟨b, j, none⟩ = some v := by
  obtain ⟨ty, h⟩ := h; simp [World.cell?, h, e]
theorem At.free {w : World} {b : Nat} {cs : Array Value} (h : At w b cs) (j : Nat) : w.frozen? ⟨b, j, none⟩ = false := by
  obtain ⟨ty, h⟩ := h; simp [World.frozen?, h]
theorem At.new (w : World) (cs : Array Value) (ty : TypeId) : At (w.alloc (.cells cs ty)) w.heap.size cs := ⟨_, heap_alloc_new ..⟩
theorem At.far {w : World} {b p : Nat} {cs : Array Value} (h : At w b cs) (e : b ≠ p) (j : Nat) (u : Value) : At (w.setCell ⟨p, j, none⟩ u) b cs := by
  obtain ⟨ty, h⟩ := h
  exact ⟨ty, (heap_setCell_other e u).trans h⟩
theorem At.set {w : World} {b : Nat} {cs : Array Value} (h : At w b cs) (j : Nat) (u : Value) : At (w.setCell ⟨b, j, none⟩ u) b (cs.setIfInBounds j u) := by
  obtain ⟨ty, h⟩ := h
  exact ⟨ty, heap_setCell_same h u⟩

/-! ### the weights' sum -/
theorem total3 {b : Nat} {w : World} (h : At w b #[.int .i64 1, .int .i64 1, .int .i64 1]) : Calls Tryz.prog 41 #[.slice (some ⟨b, 0, none⟩) 3 3] w fun e w' => e = .returned (.tuple #[.int .i64 3, .int .i64 0]) ∧ w' = w := by
  have c0 := h.cell 0 (.int .i64 1) rfl
  have c1 := h.cell 1 (.int .i64 1) rfl
  have c2 := h.cell 2 (.int .i64 1) rfl
  go_enter Tryz.func41, Tryz.ntmps41
  go_wp2_with fail
  go_loop [4, 15] (fun t i => ∃ k : Int, 0 ≤ k ∧ k ≤ 3 ∧ i = .int .i64 k ∧ t = .int .i64 k) (fun _ i => 3 - (intOf i).toNat)
  case atStart => exact ⟨0, by omega, by omega, rfl, rfl⟩
  case round =>
    obtain ⟨k, hk0, hk, rfl, rfl⟩ := hrel
    rcases (by omega : k = 0 ∨ k = 1 ∨ k = 2 ∨ k = 3) with rfl | rfl | rfl | rfl
    · clear hk0 hk
      go_wp2
      go_round
      case rel => exact ⟨1, by omega, by omega, rfl, rfl⟩
      case measure => simp [intOf]
    · clear hk0 hk
      go_wp2
      go_round
      case rel => exact ⟨2, by omega, by omega, rfl, rfl⟩
      case measure => simp [intOf]
    · clear hk0 hk
      go_wp2
      go_round
      case rel => exact ⟨3, by omega, by omega, rfl, rfl⟩
      case measure => simp [intOf]
    · clear hk0 hk
      go_wp2
      go_ret2
      exact ⟨rfl, rfl⟩

/-! ### a share -/
theorem share_walk {n u t h l p q a r e : Int} (M : ∀ w, Calls Tryz.prog 69 #[.int .i64 n, .int .i64 u] w fun e w' => e = .returned (.agg #[.int .u64 h, .int .u64 l]) ∧ Only w w')
    (Q : ∀ w, Calls Tryz.prog 108 #[.agg #[.int .u64 h, .int .u64 l], .int .i64 t] w fun e w' => e = .returned (.tuple #[.agg #[.int .u64 p, .int .u64 q], .int .i64 r, .int .i64 0]) ∧ Only w w')
    (I : IntIs (.agg #[.int .u64 p, .int .u64 q]) a e) (w : World) :
    Calls Tryz.prog 75 #[.int .i64 n, .int .i64 u, .int .i64 t] w fun e w' => e = .returned (.agg #[.int .i64 a, .int .i64 r]) ∧ Only w w' := by
  have M := Lib.hid M
  have Q := Lib.hid Q
  have I := Lib.hid I
  have ht := (Only.refl w).alloc (.cells #[.int .i64 0, .int .i64 0] 80)
  have o1 := Own2.new w (.int .i64 0) (.int .i64 0) 80
  go_enter Tryz.func75, Tryz.ntmps75
  go_wp2_with fail
  go_at_call 69
  refine (M.out _).mono ?_
  rintro r' w1 ⟨rfl, t1⟩
  have o1 := o1.only t1
  have ht := ht.trans t1
  clear t1
  go_wp2_with fail
  go_at_call 108
  refine (Q.out _).mono ?_
  rintro r' w2 ⟨rfl, t2⟩
  have o1 := (o1.only t2).alloc (.cells #[.int .u64 p, .int .u64 q] 85)
  have ht := (ht.trans t2).alloc (.cells #[.int .u64 p, .int .u64 q] 85)
  clear t2
  go_wp2_with fail
  go_at_call 81
  refine (I.out _).mono ?_
  rintro r' w3 ⟨rfl, t3⟩
  obtain ⟨d1, d2, f1, f2, z1⟩ := (o1.only t3).all
  have ht := ht.trans t3
  clear t3 o1
  go_wp2
  simp [bodyPost, results, Tryz.results75, go_sem, World.cell?_setCell_other, d1, d2]
  exact (ht.set (by omega) 0 _).set (by omega) 1 _

theorem share_any {n u t : Int} (hn : 0 ≤ n ∧ n ≤ 4611686018427387904) (hu : 0 ≤ u ∧ u ≤ t) (ht : 0 < t ∧ t ≤ 1099511627776) (w : World) :
    Calls Tryz.prog 75 #[.int .i64 n, .int .i64 u, .int .i64 t] w fun e w' => e = .returned (.agg #[.int .i64 (n * u / t), .int .i64 (n * u % t)]) ∧ Only w w' := by
  have i1 : I64 n := ⟨by omega, by omega⟩
  have i2 : I64 u := ⟨by omega, by omega⟩
  have i3 : I64 t := ⟨by omega, by omega⟩
  have p0 : 0 ≤ n * u := Int.mul_nonneg hn.1 hu.1
  have p1 : n * u ≤ n * t := Int.mul_le_mul_of_nonneg_left hu.2 hn.1
  have q0 : 0 ≤ n * u / t := Int.ediv_nonneg p0 (by omega)
  have q1 : n * u / t ≤ n := by
    have := Int.ediv_le_ediv (c := t) ht.1 p1
    rwa [Int.mul_ediv_cancel _ (by omega)] at this
  have M : ∀ w, Calls Tryz.prog 69 #[.int .i64 n, .int .i64 u] w fun e w' => e = .returned (enc (n * u)) ∧ Only w w' := fun w => (mul_any i1 i2 w).mono fun _ _ k => ⟨k.1, k.2.2⟩
  have hm := mul_bd (u := n) (n := u) ⟨by omega, by omega⟩ i2
  have hI : In (n * u) := ⟨by omega, by omega⟩
  have Q := quoRem_any hI i3 (by omega)
  have e1 : (n * u).tdiv t = n * u / t := Int.tdiv_eq_ediv_of_nonneg p0
  have e2 : (n * u).tmod t = n * u % t := Int.tmod_eq_emod_of_nonneg p0
  have hI2 : In (n * u / t) := ⟨by omega, by omega⟩
  unfold quoAns at Q
  rw [e1, e2] at Q
  simp only [if_pos hI2] at Q
  have I := int_any hI2
  unfold intAns at I
  simp only [if_pos (show -9223372036854775808 ≤ n * u / t ∧ n * u / t < 9223372036854775808 by omega)] at I
  obtain ⟨h, l, -, -, -, -, -, w1⟩ := enc_words (n * u)
  obtain ⟨p, q, -, -, -, -, -, w2⟩ := enc_words (n * u / t)
  rw [w1] at M Q; rw [w2] at Q I
  exact share_walk M Q I w
end Go.Proofs.YtopklnaahdjafaaGreatDoor
