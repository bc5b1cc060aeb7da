/-
  WideQuotients: for all numbers.
-/
import Derived.Test.YtfnfagnkdogojaaBQuots
import Derived.Test.YtfnfagnkdogojaaBSums2
namespace Go.Proofs.Ytfnfagnkdogojaa
open Go.RowKit Go.Maps Go.WideMaps

theorem quoRem_none {h l : Int} (w : World) : Calls Try.prog 13 #[.agg #[.int .u64 h, .int .u64 l], .int .i64 0] w fun e w' => e = .returned (.tuple #[.agg #[.int .u64 0, .int .u64 0], .int .i64 0, .int .i64 17]) ∧ Only w w' := by
  go_enter Try.func13, Try.ntmps13
  go_wp2_with fail
  simp [bodyPost, results, Try.results13, go_sem]
  exact ((Only.refl w).alloc _).alloc _

theorem divEven_none {h l : Int} (w : World) : Calls Try.prog 15 #[.agg #[.int .u64 h, .int .u64 l], .int .i64 0] w fun e w' => e = .returned (.tuple #[.agg #[.int .u64 0, .int .u64 0], .int .i64 17]) ∧ Only w w' := by
  go_enter Try.func15, Try.ntmps15
  go_wp2_with fail
  simp [bodyPost, results, Try.results15, go_sem]
  first
    | exact ((Only.refl w).alloc _).alloc _
    | exact (Only.refl w).alloc _
    | exact (((Only.refl w).alloc _).alloc _).alloc _
    | exact Only.refl w

set_option maxRecDepth 100000 in
set_option maxHeartbeats 16000000 in
theorem wideQuotients_zero {ah al : Int}
    (QR : Gives 13 #[.agg #[.int .u64 ah, .int .u64 al], .int .i64 0] (.tuple #[.agg #[.int .u64 0, .int .u64 0], .int .i64 0, .int .i64 17]))
    (DE : Gives 15 #[.agg #[.int .u64 ah, .int .u64 al], .int .i64 0] (.tuple #[.agg #[.int .u64 0, .int .u64 0], .int .i64 17])) (w : World) :
    Calls Try.prog 5 #[.agg #[.int .u64 ah, .int .u64 al], .int .i64 0] w fun r w' => r = .returned (.bool true) ∧ Only w w' := by
  have QR := Lib.hid QR
  have DE := Lib.hid DE
  have oa := Own2.new w (.int .u64 ah) (.int .u64 al) 24
  have ht := (Only.refl w).alloc (.cells #[.int .u64 ah, .int .u64 al] 24)
  go_enter Try.func5, Try.ntmps5
  go_wp2_with fail
  go_at_call 9
  refine (first_wide _).mono ?_
  rintro r w1 ⟨rfl, t⟩
  replace oa := (oa.only t)
  replace ht := (ht.trans t)
  clear t
  obtain ⟨av1, av2, av3, av4, av5⟩ := oa.all
  go_wp2_with fail
  go_at_call 13
  refine (QR.out _).mono ?_
  rintro r w2 ⟨rfl, t⟩
  clear av1 av2 av3 av4 av5
  replace oa := (oa.only t).alloc (.cells #[.int .u64 0, .int .u64 0] 24)
  replace ht := (ht.trans t).alloc (.cells #[.int .u64 0, .int .u64 0] 24)
  have oq : Own2 (w2.alloc (.cells #[.int .u64 0, .int .u64 0] 24)) w2.heap.size (.int .u64 0) (.int .u64 0) := Own2.new _ _ _ _
  clear t
  obtain ⟨av1, av2, av3, av4, av5⟩ := oa.all
  go_wp2_with fail
  go_at_call 15
  refine (DE.out _).mono ?_
  rintro r w3 ⟨rfl, t⟩
  clear av1 av2 av3 av4 av5
  replace oq := (oq.only t).alloc (.cells #[.int .u64 0, .int .u64 0] 24)
  replace ht := (ht.trans t).alloc (.cells #[.int .u64 0, .int .u64 0] 24)
  have on : Own2 (w3.alloc (.cells #[.int .u64 0, .int .u64 0] 24)) w3.heap.size (.int .u64 0) (.int .u64 0) := Own2.new _ _ _ _
  clear t oa
  obtain ⟨q1, q2, q3, q4, q5⟩ := oq.all
  obtain ⟨n1, n2, n3, n4, n5⟩ := on.all
  go_wp2_with fail
  go_at_call 11
  refine (num_any _ _).mono ?_
  rintro r w4 ⟨rfl, rfl⟩
  go_wp2_with fail
  go_at_call 11
  refine (num_any _ _).mono ?_
  rintro r w5 ⟨rfl, rfl⟩
  go_wp2_with fail
  go_ret
  exact ⟨by simp, ht⟩

theorem far_pos {d : Int} (hd : d ≠ 0) : 0 < far d := by unfold far; split <;> omega
theorem far_abs (d : Int) : (d.natAbs : Int) = far d := by unfold far; split <;> omega

theorem evenOf_near (a : Int) {d : Int} (hd : d ≠ 0) : signed (twoSides a d) (nearest (far a) (far d)) = evenOf a d := by
  have hq := tdiv_signed a d
  have hr := tmod_signed a d
  have f0 := far_pos hd
  have fa : 0 ≤ far a := by rw [← far_abs]; omega
  have q0 := Int.ediv_nonneg fa (Int.le_of_lt f0)
  have r0 := (far_mod (v := a) f0).1
  have nd := far_abs d
  have nq : ((a.tdiv d).natAbs : Int) = far a / far d := by rw [hq]; unfold signed; split <;> omega
  have nr : ((a.tmod d).natAbs : Int) = far a % far d := by rw [hr]; unfold signed; split <;> omega
  unfold evenOf nearest
  by_cases c : 2 * (far a % far d) > far d ∨ (2 * (far a % far d) = far d ∧ far a / far d % 2 = 1)
  · rw [if_pos c, if_pos (by omega), hq]
    unfold signed twoSides
    split <;> omega
  · rw [if_neg c, if_neg (by omega), hq]

theorem tmod_i64 (a : Int) {d : Int} (hd : I64 d) (hd0 : d ≠ 0) : I64 (a.tmod d) := by
  obtain ⟨f0, f1⟩ := far_i64 hd hd0
  have m := far_mod (v := a) f0
  rw [tmod_signed]
  unfold signed
  split <;> exact ⟨by omega, by omega⟩

theorem Lim.tdiv {a : Int} {K : Nat} (l : Lim a K) (d : Int) : Lim (a.tdiv d) K := by
  unfold Lim at l ⊢
  rw [Int.natAbs_tdiv]
  exact Nat.lt_of_le_of_lt (Nat.div_le_self _ _) l

theorem Lim.even {a d : Int} (l : Lim a 10) : Lim (evenOf a d) 4000 := by
  have q := l.tdiv d
  have s : ∀ v : Int, v = -1 ∨ v = 1 → Lim v 10 := fun v hv => by
    refine (Lim.of_i64 (n := v) ⟨?_, ?_⟩).mono (by omega) <;> omega
  unfold evenOf
  split
  · exact (q.add (s _ (by split; exact Or.inl rfl; exact Or.inr rfl))).mono (by omega)
  · exact q.mono (by omega)

theorem wideQuotients_any {a d : Int} (ha : In a) (hd : I64 d) (w : World) :
    Calls Try.prog 5 #[enc a, .int .i64 d] w fun e w' => e = .returned (.bool true) ∧ Only w w' := by
  obtain ⟨ah, al, -, -, -, -, -, ea⟩ := enc_words a
  by_cases hd0 : d = 0
  · subst hd0
    rw [ea]
    exact wideQuotients_zero (fun W => quoRem_none W) (fun W => divEven_none W) w
  have la := Lim.of_in ha
  have ld := Lim.of_i64 hd
  have VA := fun W => value_any ha W
  have QR := fun W => quoRem_any ha hd hd0 W
  have DE := fun W => divEven_any ha hd hd0 W
  rw [evenOf_near a hd0] at DE
  obtain ⟨nv, f, nh, nl, E2, W2, I2, B2⟩ := ans_split (evenOf a d)
  have IS2 := isYes_of I2 W2 B2 (la.even.mono (by omega))
  have rm := tmod_i64 a hd hd0
  have BQ : ∀ W b s k c b' s' k' c', BigR W b s k c a → BigR W b' s' k' c' d → Calls Try.prog 31 #[.agg #[.bool b, .slice s k c], .agg #[.bool b', .slice s' k' c']] W (BigSays2 W (a.tdiv d) (a.tmod d)) := fun W b s k c b' s' k' c' r1 r2 => bigQuo_any r1 r2 (la.mono (by omega)) (ld.mono (by omega)) hd0
  have BE : ∀ W b s k c b' s' k' c', BigR W b s k c a → BigR W b' s' k' c' d → Calls Try.prog 32 #[.agg #[.bool b, .slice s k c], .agg #[.bool b', .slice s' k' c']] W (BigSays W (evenOf a d)) := fun W b s k c b' s' k' c' r1 r2 => bigEven_any r1 r2 (la.mono (by omega)) (ld.mono (by omega)) hd0
  have BI : ∀ W b' s k c, BigR W b' s k c (a.tmod d) → Calls Try.prog 28 #[.agg #[.bool b', .slice s k c]] W fun r w' => r = .returned (.tuple #[.int .i64 (a.tmod d), .bool true]) ∧ Only W w' := fun W b' s k c r => by
    have := bigInt_any r ((Lim.of_i64 rm).mono (by omega))
    rw [show intOrNone (a.tmod d) = .tuple #[.int .i64 (a.tmod d), .bool true] from if_pos ⟨rm.1, by have := rm.2; omega⟩] at this
    exact this
  rw [E2] at DE
  rw [ea] at VA QR DE
  rw [ea]
  obtain ⟨qv, rr, e, qh, ql, E1, W1, I1, B1, hr⟩ : ∃ (v rr e : Int) (h l : Int), quoAns a d = .tuple #[.agg #[.int .u64 h, .int .u64 l], .int .i64 rr, .int .i64 e] ∧ enc v = .agg #[.int .u64 h, .int .u64 l] ∧ In v ∧ isB v e (a.tdiv d) = true ∧ ((e = 0 ∧ rr = a.tmod d) ∨ (e ≠ 0 ∧ rr = 0)) := by
    by_cases c : In (a.tdiv d)
    · obtain ⟨h, l, -, -, -, -, -, e⟩ := enc_words (a.tdiv d)
      exact ⟨a.tdiv d, a.tmod d, 0, h, l, by unfold quoAns; rw [if_pos c, e], e, c, by unfold isB; rw [if_pos c]; simp, Or.inl ⟨rfl, rfl⟩⟩
    · obtain ⟨h, l, -, -, -, -, -, e⟩ := enc_words 0
      exact ⟨0, 0, 16, h, l, by unfold quoAns; rw [if_neg c, e], e, in_zero, by unfold isB; rw [if_neg c]; simp, Or.inr ⟨by decide, rfl⟩⟩
  rw [E1] at QR
  have IS1 := isYes_of I1 W1 B1 ((la.tdiv d).mono (by omega))
  exact wideQuotients_walk (by simpa using hd0) VA QR DE IS1 IS2 (bigOf_any hd.1 hd.2) BQ BE BI hr w
end Go.Proofs.Ytfnfagnkdogojaa
