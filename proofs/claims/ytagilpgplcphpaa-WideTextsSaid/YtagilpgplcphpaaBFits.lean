/-
  Is a number one of 128 bits? Is an answer this number?
-/
import Derived.Test.YtagilpgplcphpaaBVal
namespace Go.Proofs.Ytagilpgplcphpaa
open Go.RowKit Go.Maps Go.WideMaps

set_option maxRecDepth 100000 in
set_option maxHeartbeats 6400000 in
theorem fits_walk {b : Bool} {s : Option Addr} {k c : Nat} {n : Int} {w : World} (h : BigR w b s k c n) (ln : Lim n 20000) :
    Calls Try.prog 36 #[.agg #[.bool b, .slice s k c]] w fun e w' => e = .returned (.bool (decide (In n))) ∧ Only w w' := by
  obtain ⟨R, hR⟩ : ∃ R, R = decide (In n) := ⟨_, rfl⟩
  rw [← hR]
  have HR := Lib.hid hR
  clear hR
  have P : Hid (∀ W, Calls Try.prog 48 #[.int .i64 127] W (BigSays W ((2 : Int) ^ 127))) := Lib.hid (power_any (N := 127) (by decide))
  have LN := Lib.hid (ln.mono (M := 100000) (by omega))
  have LP : Hid (Lim ((2 : Int) ^ 127) 100000) := Lib.hid ((Lim.two (i := 127) (K := 127) (by omega)).mono (by omega))
  have LQ : Hid (Lim (-(2 : Int) ^ 127) 100000) := Lib.hid LP.out.neg
  have o1 : BigAt (w.alloc (boxOf b s k c)) w.heap.size b s k c := Own2.new _ _ _ _
  have ht := (Only.refl w).alloc (boxOf b s k c)
  have H := Lib.hid h
  clear h ln
  by_cases hlt : n < (2 : Int) ^ 127
  · have t1 : Hid (decide (cmpI n ((2 : Int) ^ 127) < 0) = true) := Lib.hid (by rw [cmpI_lss]; simpa using hlt)
    obtain ⟨c1, hc1⟩ : ∃ x, x = cmpI n ((2 : Int) ^ 127) := ⟨_, rfl⟩
    obtain ⟨c2, hc2⟩ : ∃ x, x = cmpI n (-(2 : Int) ^ 127) := ⟨_, rfl⟩
    obtain ⟨z, hz⟩ : ∃ z, z = decide (-(2 : Int) ^ 127 ≤ n) := ⟨_, rfl⟩
    have tt1 : decide (c1 < 0) = true := by rw [hc1]; exact t1.out
    have tt2 : decide (0 ≤ c2) = z := by rw [hc2, hz]; exact cmpI_geq _ _
    have HZ : Hid (R = z) := Lib.hid (by
      rw [HR.out, hz, decide_eq_decide]; unfold In
      rw [show (2 : Int) ^ 127 = 170141183460469231731687303715884105728 from rfl] at *; omega)
    have C1 : Hid (∀ W b' s' k' c', BigR W b s k c n → BigR W b' s' k' c' ((2 : Int) ^ 127) → Calls Try.prog 26 #[.agg #[.bool b, .slice s k c], .agg #[.bool b', .slice s' k' c']] W fun e w' => e = .returned (.int .i64 c1) ∧ Only W w') := Lib.hid fun W b' s' k' c' r1 r2 => by rw [hc1]; exact bigCmp_any r1 r2 LN.out LP.out
    have C2 : Hid (∀ W b' s' k' c', BigR W b s k c n → BigR W b' s' k' c' (-(2 : Int) ^ 127) → Calls Try.prog 26 #[.agg #[.bool b, .slice s k c], .agg #[.bool b', .slice s' k' c']] W fun e w' => e = .returned (.int .i64 c2) ∧ Only W w') := Lib.hid fun W b' s' k' c' r1 r2 => by rw [hc2]; exact bigCmp_any r1 r2 LN.out LQ.out
    clear hc1 hc2 hz hlt t1
    go_enter Try.func36, Try.ntmps36
    go_upto_region 1 with (fail)
    refine wp_name (fun wx => Only w wx ∧ BigAt wx w.heap.size b s k c) ⟨ht, o1⟩ ?_
    clear ht o1
    rintro wx ⟨ht, o1⟩
    obtain ⟨x1, x2, x3, x4, x5⟩ := o1.all
    go_region_held3 (fun w' => w'.cell? ⟨w.heap.size, 0, none⟩ = some (.bool b) ∧ w'.cell? ⟨w.heap.size, 1, none⟩ = some (.slice s k c)) (first | with_reducible exact ⟨p1.c0, p1.c1⟩ | with_reducible exact ⟨o1.drew.c0, o1.drew.c1⟩ | with_reducible exact ⟨x1, x2⟩ | fail) (first | (go_at_call 48; (first | (have T9 := T1; refine (P.out _).mono ?_; rintro r w2 ⟨b2, s2, k2, c2', rfl, r2, t2⟩; have T2 := T9.trans t2; have p1 := p1.only t2) | (refine (P.out _).mono ?_; rintro r w1 ⟨b1, s1, k1, c1', rfl, r1, t1⟩; have T1 := (Only.refl wx).drew.trans t1; have p1 := o1.only T1))) | (go_at_call 24; refine (bigNeg_any r2 LP.out).mono ?_; rintro r w3 ⟨b3, s3, k3, c3', rfl, r3, t3⟩; have T3 := T2.trans t3; have p1 := p1.only t3) | (go_at_call 26; (first | (refine (C2.out _ _ _ _ _ (H.out.only (ht.trans T3)) r3).mono ?_; rintro r w4 ⟨rfl, t4⟩; have T4 := T3.trans t4; have p1 := p1.only t4) | (refine (C1.out _ _ _ _ _ (H.out.only (ht.trans T1)) r1).mono ?_; rintro r w4 ⟨rfl, t4⟩; have T1 := T1.trans t4; have p1 := p1.only t4))))
    have HT4 := Lib.hid (ht.trans T4)
    clear p1 T1 T2 T3 T4 t1 t2 t3 t4 r1 r2 r3
    go_wp2
    go_ret
    refine ⟨?_, HT4.out⟩
    rw [HZ.out]; rfl
  · have t1 : Hid (decide (cmpI n ((2 : Int) ^ 127) < 0) = false) := Lib.hid (by rw [cmpI_lss]; simpa using hlt)
    obtain ⟨c1, hc1⟩ : ∃ x, x = cmpI n ((2 : Int) ^ 127) := ⟨_, rfl⟩
    have tt1 : decide (c1 < 0) = false := by rw [hc1]; exact t1.out
    have HZ : Hid (R = false) := Lib.hid (by
      rw [HR.out, decide_eq_false_iff_not]; unfold In
      rw [show (2 : Int) ^ 127 = 170141183460469231731687303715884105728 from rfl] at *; omega)
    have C1 : Hid (∀ W b' s' k' c', BigR W b s k c n → BigR W b' s' k' c' ((2 : Int) ^ 127) → Calls Try.prog 26 #[.agg #[.bool b, .slice s k c], .agg #[.bool b', .slice s' k' c']] W fun e w' => e = .returned (.int .i64 c1) ∧ Only W w') := Lib.hid fun W b' s' k' c' r1 r2 => by rw [hc1]; exact bigCmp_any r1 r2 LN.out LP.out
    clear hc1 hlt t1
    go_enter Try.func36, Try.ntmps36
    go_upto_region 1 with (fail)
    refine wp_name (fun wx => Only w wx ∧ BigAt wx w.heap.size b s k c) ⟨ht, o1⟩ ?_
    clear ht o1
    rintro wx ⟨ht, o1⟩
    obtain ⟨x1, x2, x3, x4, x5⟩ := o1.all
    go_region_law (first | (go_simp; go_at_call 48; refine (P.out _).mono ?_; rintro r w1 ⟨b1, s1, k1, c1', rfl, r1, t1⟩; have T1 := (Only.refl wx).drew.trans t1; have p1 := o1.only T1; obtain ⟨e1, e2, e3, e4, e5⟩ := p1.all) | (go_simp; go_at_call 26; refine (C1.out _ _ _ _ _ (H.out.only (ht.trans T1)) r1).mono ?_; rintro r w4 ⟨rfl, t4⟩; have T1 := T1.trans t4))
    all_goals
      have HT4 := Lib.hid (ht.trans T1)
      clear p1 T1 t1 t4 r1
      go_wp2
      go_ret
      refine ⟨?_, HT4.out⟩
      rw [HZ.out]; rfl

/-- is this pair of answers the number's? -/
def isB (x e n : Int) : Bool := if In n then (e == 0 && decide (x = n)) else (e == 16 && decide (x = 0))

abbrev FitsIs (w : World) (b : Bool) (s : Option Addr) (k c : Nat) (z : Bool) : Prop := ∀ W, Only w W → Calls Try.prog 36 #[.agg #[.bool b, .slice s k c]] W fun e w' => e = .returned (.bool z) ∧ Only W w'

theorem in_zero : In 0 := ⟨by decide, by decide⟩

set_option maxRecDepth 100000 in
set_option maxHeartbeats 6400000 in
theorem is_out {b : Bool} {s : Option Addr} {k c : Nat} {h l e : Int} {w : World} (F : FitsIs w b s k c false) :
    Calls Try.prog 19 #[.agg #[.int .u64 h, .int .u64 l], .int .i64 e, .agg #[.bool b, .slice s k c]] w fun r w' => r = .returned (.bool (e == 16 && (h == 0 && l == 0))) ∧ Only w w' := by
  have F := Lib.hid F
  have oa := (Own2.new w (.int .u64 h) (.int .u64 l) 24).alloc (boxOf b s k c)
  have o1 : BigAt ((w.alloc (.cells #[.int .u64 h, .int .u64 l] 24)).alloc (boxOf b s k c)) (w.heap.size + 1) b s k c := Own2.new1 w _ _ _ _
  have ht := ((Only.refl w).alloc (.cells #[.int .u64 h, .int .u64 l] 24)).alloc (boxOf b s k c)
  obtain ⟨z, hz⟩ : ∃ z, z = (e == 16) := ⟨_, rfl⟩
  have hz' : (e == 16) = z := hz.symm
  rw [hz']
  clear hz
  cases z
  all_goals
    go_enter Try.func19, Try.ntmps19
    go_wp2_with fail
    go_at_call 36
    refine (F.out _ ht).mono ?_
    rintro r w2 ⟨rfl, t2⟩
    obtain ⟨x1, x2, x3, x4, x5⟩ := (oa.only t2).all
    have HT := Lib.hid (ht.trans t2)
    clear oa o1 ht t2
    go_wp2_with fail
    all_goals
      go_ret
      refine ⟨?_, HT.out⟩
      simp [*]

set_option maxRecDepth 100000 in
set_option maxHeartbeats 6400000 in
theorem is_in {b : Bool} {s : Option Addr} {k c : Nat} {h l e : Int} {x n : Int} {w : World} (F : FitsIs w b s k c true) (V : ∀ W, Calls Try.prog 17 #[.agg #[.int .u64 h, .int .u64 l]] W (BigSays W x)) (hb : BigR w b s k c n) (lx : Lim x 100000) (ln : Lim n 100000) :
    Calls Try.prog 19 #[.agg #[.int .u64 h, .int .u64 l], .int .i64 e, .agg #[.bool b, .slice s k c]] w fun r w' => r = .returned (.bool (e == 0 && decide (x = n))) ∧ Only w w' := by
  obtain ⟨c1, hc1⟩ : ∃ c1, c1 = cmpI x n := ⟨_, rfl⟩
  have C : Hid (∀ W b' s' k' c', Only w W → BigR W b' s' k' c' x → Calls Try.prog 26 #[.agg #[.bool b', .slice s' k' c'], .agg #[.bool b, .slice s k c]] W fun e w' => e = .returned (.int .i64 c1) ∧ Only W w') := Lib.hid fun W b' s' k' c' t r1 => by rw [hc1]; exact bigCmp_any r1 (hb.only t) lx ln
  obtain ⟨d, hd⟩ : ∃ d, d = decide (x = n) := ⟨_, rfl⟩
  have hd' : (c1 == 0) = d := by rw [hc1, hd, cmpI_zero]
  rw [← hd]
  have F := Lib.hid F
  have V := Lib.hid V
  have oa := (Own2.new w (.int .u64 h) (.int .u64 l) 24).alloc (boxOf b s k c)
  have o1 : BigAt ((w.alloc (.cells #[.int .u64 h, .int .u64 l] 24)).alloc (boxOf b s k c)) (w.heap.size + 1) b s k c := Own2.new1 w _ _ _ _
  have ht := ((Only.refl w).alloc (.cells #[.int .u64 h, .int .u64 l] 24)).alloc (boxOf b s k c)
  obtain ⟨z, hz⟩ : ∃ z, z = (e == 0) := ⟨_, rfl⟩
  have hz' : (e == 0) = z := hz.symm
  rw [hz']
  clear hz hc1 hd hb lx ln
  cases z
  · go_enter Try.func19, Try.ntmps19
    go_wp2_with fail
    go_at_call 36
    refine (F.out _ ht).mono ?_
    rintro r w2 ⟨rfl, t2⟩
    have HT := Lib.hid (ht.trans t2)
    clear oa o1 ht t2
    go_wp2_with fail
    go_region_law (fail)
    all_goals
      go_wp2
      go_ret
      exact ⟨rfl, HT.out.drew⟩
  · go_enter Try.func19, Try.ntmps19
    go_wp2_with fail
    go_at_call 36
    refine (F.out _ ht).mono ?_
    rintro r w2 ⟨rfl, t2⟩
    replace ht := ht.trans t2
    replace oa := oa.only t2
    replace o1 := o1.only t2
    clear t2
    go_wp2_with fail
    refine wp_name (fun wx => Only w wx ∧ Own2 wx w.heap.size (.int .u64 h) (.int .u64 l) ∧ BigAt wx (w.heap.size + 1) b s k c) ⟨ht, oa, o1⟩ ?_
    clear ht oa o1
    rintro wx ⟨ht, oa, o1⟩
    obtain ⟨x1, x2, x3, x4, x5⟩ := oa.all
    obtain ⟨y1, y2, y3, y4, y5⟩ := o1.all
    go_region_held3 (fun w' => w'.cell? ⟨w.heap.size, 0, none⟩ = some (.int .u64 h) ∧ w'.cell? ⟨w.heap.size, 1, none⟩ = some (.int .u64 l) ∧ w'.cell? ⟨w.heap.size + 1, 0, none⟩ = some (.bool b) ∧ w'.cell? ⟨w.heap.size + 1, 1, none⟩ = some (.slice s k c)) (first | with_reducible exact ⟨p1.c0, p1.c1, q1.c0, q1.c1⟩ | with_reducible exact ⟨oa.drew.c0, oa.drew.c1, o1.drew.c0, o1.drew.c1⟩ | with_reducible exact ⟨x1, x2, y1, y2⟩ | fail) (first | (go_at_call 17; refine (V.out _).mono ?_; rintro r w3 ⟨b3, s3, k3, c3, rfl, r3, t3⟩; have T3 := (Only.refl wx).drew.trans t3; have p1 := oa.only T3; have q1 := o1.only T3) | (go_at_call 26; refine (C.out _ _ _ _ _ (ht.trans T3) r3).mono ?_; rintro r w4 ⟨rfl, t4⟩; have T4 := T3.trans t4; have p1 := p1.only t4; have q1 := q1.only t4))
    have HT := Lib.hid (ht.trans T4)
    clear p1 q1 T3 T4 t3 t4 r3
    go_wp2
    go_ret
    exact ⟨by simp, HT.out⟩

theorem is_any {b : Bool} {s : Option Addr} {k c : Nat} {x e n : Int} {w : World} (hx : In x) (hb : BigR w b s k c n) (ln : Lim n 20000) :
    Calls Try.prog 19 #[enc x, .int .i64 e, .agg #[.bool b, .slice s k c]] w fun r w' => r = .returned (.bool (isB x e n)) ∧ Only w w' := by
  have F : FitsIs w b s k c (decide (In n)) := fun W t => fits_walk (hb.only t) ln
  have V := value_any hx
  obtain ⟨h, l, h0, h1, l0, l1, t, ex⟩ := enc_words x
  rw [ex] at V ⊢
  unfold isB
  by_cases hin : In n
  · rw [decide_eq_true hin] at F
    rw [if_pos hin]
    refine is_in F V hb (Lim.mono (K := 10) ?_ (by omega)) (ln.mono (by omega))
    obtain ⟨a1, a2⟩ := hx
    unfold Lim; omega
  · rw [decide_eq_false hin] at F
    rw [if_neg hin]
    refine (is_out F).mono fun r w' q => ⟨q.1.trans ?_, q.2⟩
    have e2 : (h == 0 && l == 0) = decide (x = 0) := by
      obtain ⟨eh, el⟩ := t
      obtain ⟨a1, a2⟩ := hx
      rw [Bool.eq_iff_iff]
      simp only [Bool.and_eq_true, beq_iff_eq, decide_eq_true_eq]
      omega
    rw [e2]
end Go.Proofs.Ytagilpgplcphpaa
