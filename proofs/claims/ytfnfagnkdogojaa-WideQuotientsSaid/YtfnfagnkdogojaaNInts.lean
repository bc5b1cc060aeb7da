/-
  WideInts: the walk.
-/
import Derived.Test.YtfnfagnkdogojaaNFirst
namespace Go.Proofs.Ytfnfagnkdogojaa
open Go.RowKit Go.Shelf

abbrev MulsIs (n k : Int) (v : Value) : Prop := ∀ w, Calls Try.prog 25 #[.int .i64 n, .int .i64 k] w fun e w' => e = .returned v ∧ Only w w'
abbrev NegIs (v u : Value) : Prop := ∀ w, Calls Try.prog 18 #[v] w fun e w' => e = .returned u ∧ Only w w'
abbrev IntIs (v u : Value) : Prop := ∀ w, Calls Try.prog 27 #[v] w fun e w' => e = .returned u ∧ Only w w'

set_option maxHeartbeats 800000 in
theorem wideInts_walk {n m nn i j a b c d : Int} {z : Bool} (F : FromIs n (.agg #[.int .u64 i, .int .u64 j])) (I : IntIs (.agg #[.int .u64 i, .int .u64 j]) (.tuple #[.int .i64 n, .int .i64 0]))
    (M1 : MulsIs n m (.agg #[.int .u64 a, .int .u64 b])) (M2 : MulsIs m n (.agg #[.int .u64 a, .int .u64 b])) (hn : IntKind.i64.wrap (-n) = nn) (hz : (n == nn) = z)
    (M3 : z = false → MulsIs nn m (.agg #[.int .u64 c, .int .u64 d])) (N : z = false → NegIs (.agg #[.int .u64 c, .int .u64 d]) (.tuple #[.agg #[.int .u64 a, .int .u64 b], .int .i64 0])) (w : World) :
    Calls Try.prog 8 #[.int .i64 n, .int .i64 m] w fun e w' => e = .returned (.bool true) ∧ Only w w' := by
  have M3 := Lib.hid M3
  have N := Lib.hid N
  go_enter Try.func8, Try.ntmps8
  go_wp2_with fail
  go_at_call 9
  refine (first_wide _).mono ?_
  rintro r w1 ⟨rfl, ht⟩
  go_wp2_with fail
  go_at_call 14
  refine (F _).mono ?_
  rintro r w2 ⟨rfl, t2⟩
  have ht := ht.trans t2
  clear t2
  go_wp2_with fail
  go_at_call 27
  refine (I _).mono ?_
  rintro r w3 ⟨rfl, t3⟩
  have ht := ht.trans t3
  clear t3
  go_wp2_with fail
  go_at_call 25
  refine (M1 _).mono ?_
  rintro r w4 ⟨rfl, t4⟩
  have ht := (ht.trans t4).alloc (.cells #[.int .u64 a, .int .u64 b] 24)
  have o1 := Own2.new w4 (.int .u64 a) (.int .u64 b) 24
  clear t4
  go_wp2_with fail
  go_at_call 25
  refine (M2 _).mono ?_
  rintro r w5 ⟨rfl, t5⟩
  have ht := (ht.trans t5).alloc (.cells #[.int .u64 a, .int .u64 b] 24)
  have o1 := (o1.only t5).alloc (.cells #[.int .u64 a, .int .u64 b] 24)
  have o2 := Own2.new w5 (.int .u64 a) (.int .u64 b) 24
  clear t5
  go_wp2_with fail
  go_at_call 11
  refine (num_any _ _).mono ?_
  rintro r w6 ⟨rfl, rfl⟩
  obtain ⟨c1, c2, f1, f2, z1⟩ := o1.all
  cases z
  · go_wp2_with fail
    go_at_call 25
    refine (M3.out (by simp) _).mono ?_
    rintro r w7 ⟨rfl, t7⟩
    have ht := ht.trans t7
    have o1 := o1.only t7
    clear t7 c1 c2 f1 f2 z1
    go_wp2_with fail
    go_at_call 18
    refine (N.out (by simp) _).mono ?_
    rintro r w8 ⟨rfl, t8⟩
    have ht := (ht.trans t8).alloc (.cells #[.int .u64 a, .int .u64 b] 24)
    have o1 := (o1.only t8).alloc (.cells #[.int .u64 a, .int .u64 b] 24)
    clear t8
    obtain ⟨c1, c2, f1, f2, z1⟩ := o1.all
    go_wp2_with fail
    go_at_call 11
    refine (num_any _ _).mono ?_
    rintro r w9 ⟨rfl, rfl⟩
    go_wp2_with fail
    go_ret
    exact ⟨by simp, ht⟩
  · go_wp2_with fail
    go_ret
    exact ⟨by simp, ht⟩

theorem in_mul {n k : Int} (hn : I64 n) (hk : I64 k) : In (n * k) := by
  obtain ⟨a1, b1⟩ := hn
  obtain ⟨a2, b2⟩ := hk
  obtain ⟨m1, h1⟩ : ∃ m, m = if n < 0 then -n else n := ⟨_, rfl⟩
  obtain ⟨m2, h2⟩ : ∃ m, m = if k < 0 then -k else k := ⟨_, rfl⟩
  have p1 : 0 ≤ m1 ∧ m1 ≤ 9223372036854775808 := by rw [h1]; split <;> omega
  have p2 : 0 ≤ m2 ∧ m2 ≤ 9223372036854775808 := by rw [h2]; split <;> omega
  have p3 : m1 * m2 ≤ 9223372036854775808 * 9223372036854775808 := Int.mul_le_mul p1.2 p2.2 p2.1 (by decide)
  have p4 := Int.mul_nonneg p1.1 p2.1
  have e : n * k = if (decide (n < 0) != decide (k < 0)) then -(m1 * m2) else m1 * m2 := by
    by_cases c1 : n < 0 <;> by_cases c2 : k < 0 <;> simp [c1, c2, h1, h2, Int.neg_mul, Int.mul_neg]
  rw [e]; split <;> exact ⟨by omega, by omega⟩

theorem wideInts_any {n m : Int} (hn : I64 n) (hm : I64 m) (w : World) : Calls Try.prog 8 #[.int .i64 n, .int .i64 m] w fun e w' => e = .returned (.bool true) ∧ Only w w' := by
  have F := fromInt_is hn
  have I := int_any (v := n) hn.in_
  have eI : intAns n = .tuple #[.int .i64 n, .int .i64 0] := if_pos hn
  rw [eI] at I
  have M1 : MulsIs n m (enc (n * m)) := fun w => (mul_any hn hm w).mono fun _ _ k => ⟨k.1, k.2.2⟩
  have M2 : MulsIs m n (enc (n * m)) := fun w => (mul_any hm hn w).mono fun _ _ k => ⟨by rw [Int.mul_comm]; exact k.1, k.2.2⟩
  obtain ⟨nn, hnn⟩ : ∃ nn, nn = IntKind.i64.wrap (-n) := ⟨_, rfl⟩
  obtain ⟨z, hz⟩ : ∃ z, z = (n == nn) := ⟨_, rfl⟩
  have k3 : z = false → I64 nn ∧ nn = -n := fun e => by
    have e2 : n ≠ nn := by rw [e] at hz; intro h; rw [h] at hz; simp at hz
    rw [IntKind.wrap_i64] at hnn
    obtain ⟨a, b⟩ := hn
    exact ⟨⟨by omega, by omega⟩, by omega⟩
  have M3 : z = false → MulsIs nn m (enc (-(n * m))) := fun e w => by
    obtain ⟨q1, q2⟩ := k3 e
    refine (mul_any q1 hm w).mono fun _ _ k => ⟨?_, k.2.2⟩
    rw [k.1, q2, Int.neg_mul]
  have hin : ∀ {n k : Int}, I64 n → I64 k → In (n * k) := fun {n k} hn hk => in_mul hn hk
  have N : z = false → NegIs (enc (-(n * m))) (.tuple #[enc (n * m), .int .i64 0]) := fun e => by
    obtain ⟨q1, q2⟩ := k3 e
    have h1 := hin q1 hm
    rw [q2, Int.neg_mul] at h1
    have h2 := neg_any h1
    rw [Int.neg_neg, ans_in (hin hn hm)] at h2
    exact h2
  obtain ⟨i, j, -, -, -, -, -, e1⟩ := enc_words n
  obtain ⟨a, b, -, -, -, -, -, e2⟩ := enc_words (n * m)
  obtain ⟨c, d, -, -, -, -, -, e3⟩ := enc_words (-(n * m))
  rw [e1] at F I; rw [e2] at M1 M2 N; rw [e3] at M3 N
  exact wideInts_walk F I M1 M2 hnn.symm hz.symm M3 N w
end Go.Proofs.Ytfnfagnkdogojaa
