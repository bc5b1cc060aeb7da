/-
  Products and quotients.
-/
import Derived.Test.YtopklnaahdjafaaGreatDoorGSz
import Derived.Test.YtopklnaahdjafaaGreatDoorGTl
namespace Go.Proofs.YtopklnaahdjafaaGreatDoor
open Go.RowKit Go.Shelf

abbrev SizeIs (v u : Value) : Prop := ∀ w, Calls Tryz.prog 103 #[v] w fun e w' => e = .returned u ∧ Only w w'
abbrev SizeOfIs (n : Int) (m : Int) : Prop := ∀ w, Calls Tryz.prog 101 #[.int .i64 n] w fun e w' => e = .returned (.int .u64 m) ∧ w' = w
abbrev NumberIs (v : Value) (b : Bool) (u : Value) : Prop := ∀ w, Calls Tryz.prog 102 #[v, .bool b] w fun e w' => e = .returned u ∧ Only w w'





theorem mul_walk {n k m1 m2 h l a b e : Int} {g1 g2 bb : Bool} (Z1 : SizeOfIs n m1) (Z2 : SizeOfIs k m2) (M : MulIs m1 m2 h l) (hg1 : decide (n < 0) = g1) (hg2 : decide (k < 0) = g2) (hb : bb = (g1 != g2))
    (N : NumberIs (.agg #[.int .u64 h, .int .u64 l]) bb (.tuple #[.agg #[.int .u64 a, .int .u64 b], .int .i64 e])) (w : World) :
    Calls Tryz.prog 69 #[.int .i64 n, .int .i64 k] w fun r w' => r = .returned (.agg #[.int .u64 a, .int .u64 b]) ∧ Only w w' := by
  cases g1 <;> cases g2
  all_goals
    simp only [bne_self_eq_false, Bool.bne_true, Bool.bne_false, Bool.not_false] at hb
    subst hb
    go_enter Tryz.func69, Tryz.ntmps69
    go_wp2_with fail
    go_at_call 101
    refine (Z1 _).mono ?_
    rintro r w1 ⟨rfl, rfl⟩
    go_wp2_with fail
    go_at_call 101
    refine (Z2 _).mono ?_
    rintro r w1 ⟨rfl, rfl⟩
    go_wp2_with fail
    go_at_call 100
    refine (M _).mono ?_
    rintro r w1 ⟨rfl, rfl⟩
    go_wp2_with fail
    go_at_call 102
    refine (N _).mono ?_
    rintro r w1 ⟨rfl, t1⟩
    obtain ⟨c1, c2, f1, f2, z1⟩ := ((Own2.new w (.int .u64 0) (.int .u64 0) 85).only t1).all
    have ht := ((Only.refl w).alloc _).trans t1
    clear t1 N M Z1 Z2
    go_wp2_with fail
    simp [bodyPost, results, Tryz.results69, go_sem, World.cell?_setCell_other, c1, c2, z1, cell_kept]
    exact ((ht.set (by omega) 0 _).set (by omega) 1 _).alloc _

/-! ### what they mean -/
theorem sizeOf_is {n : Int} (h0 : -9223372036854775808 ≤ n) (h1 : n < 9223372036854775808) : SizeOfIs n (if n < 0 then -n else n) := fun w => sizeOf_any n h0 h1 w
theorem ans_form (n : Int) : ∃ h l e : Int, ans n = .tuple #[.agg #[.int .u64 h, .int .u64 l], .int .i64 e] := by
  unfold ans; split
  · exact ⟨_, _, _, rfl⟩
  · exact ⟨_, _, _, rfl⟩

/-- an int -/
def I64 (n : Int) : Prop := -9223372036854775808 ≤ n ∧ n < 9223372036854775808
theorem I64.in_ {n : Int} (h : I64 n) : In n := by obtain ⟨a, b⟩ := h; exact ⟨by omega, by omega⟩

theorem mul_any {n k : Int} (hn : I64 n) (hk : I64 k) (w : World) : Calls Tryz.prog 69 #[.int .i64 n, .int .i64 k] w fun r w' => r = .returned (enc (n * k)) ∧ In (n * k) ∧ Only w w' := by
  obtain ⟨a1, b1⟩ := hn
  obtain ⟨a2, b2⟩ := hk
  have Z1 := sizeOf_is a1 b1
  have Z2 := sizeOf_is a2 b2
  obtain ⟨m1, h1⟩ : ∃ m, m = if n < 0 then -n else n := ⟨_, rfl⟩
  obtain ⟨m2, h2⟩ : ∃ m, m = if k < 0 then -k else k := ⟨_, rfl⟩
  rw [← h1] at Z1; rw [← h2] at Z2
  have p1 : 0 ≤ m1 ∧ m1 ≤ 9223372036854775808 := by rw [h1]; split <;> omega
  have p2 : 0 ≤ m2 ∧ m2 ≤ 9223372036854775808 := by rw [h2]; split <;> omega
  have p3 : m1 * m2 ≤ 9223372036854775808 * 9223372036854775808 := Int.mul_le_mul p1.2 p2.2 p2.1 (by decide)
  have p4 := Int.mul_nonneg p1.1 p2.1
  have e : n * k = if (decide (n < 0) != decide (k < 0)) then -(m1 * m2) else m1 * m2 := by
    by_cases c1 : n < 0 <;> by_cases c2 : k < 0 <;> simp [c1, c2, h1, h2, Int.neg_mul, Int.mul_neg]
  have M := mul64 m1 m2 ⟨by omega, by omega⟩ ⟨by omega, by omega⟩
  have hin : In (n * k) := by rw [e]; split <;> exact ⟨by omega, by omega⟩
  have hun : Un (m1 * m2) := ⟨p4, by omega⟩
  have hen : Value.agg #[.int .u64 (m1 * m2 / 18446744073709551616), .int .u64 (m1 * m2 % 18446744073709551616)] = enc (m1 * m2) := by
    generalize m1 * m2 = p at *
    exact enc_mk (by omega) rfl
  have N : NumberIs (enc (m1 * m2)) (decide (n < 0) != decide (k < 0)) (ans (n * k)) := fun w => by
    have := number_any hun (decide (n < 0) != decide (k < 0)) w
    rwa [← e] at this
  rw [← hen, ans_in hin] at N
  exact (mul_walk Z1 Z2 M rfl rfl rfl N w).mono fun r w' k => ⟨k.1, hin, k.2⟩


end Go.Proofs.YtopklnaahdjafaaGreatDoor
