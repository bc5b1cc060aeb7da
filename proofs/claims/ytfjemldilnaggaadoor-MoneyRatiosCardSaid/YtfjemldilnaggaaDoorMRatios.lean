/-
  MoneyRatios: the walk.
-/
import Derived.Test.YtfjemldilnaggaaDoorMOrder
import Derived.Deep.DeepCutAuto
namespace Go.Proofs.YtfjemldilnaggaaDoor
open Go.RowKit Go.Shelf
set_option linter.unusedVariables false

theorem ratios_long1 {u v n d : Int} {s t : ByteArray} {w : World} (FM : FirstIs w) (h1 : (200 : Int) < (s.size : Int)) :
    Calls Tryd.prog 5 #[.agg #[.int .i64 u, .string s], .agg #[.int .i64 v, .string t], .int .i64 n, .int .i64 d] w fun e w' => e = .returned (.bool true) ∧ Only w w' := by
  have FM := Lib.hid FM
  have oa := (Own2.new w (.int .i64 u) (.string s) 23).alloc (.cells #[.int .i64 v, .string t] 23)
  have ob := Own2.new1 w (.cells #[.int .i64 u, .string s] 23) (.int .i64 v) (.string t) 23
  have ht := ((Only.refl w).alloc (.cells #[.int .i64 u, .string s] 23)).alloc (.cells #[.int .i64 v, .string t] 23)
  go_enter Tryd.func5, Tryd.ntmps5
  go_wp2_with fail
  go_at_call 6
  refine (FM.out _ ht).mono ?_
  rintro r w1 ⟨rfl, t1⟩
  replace oa := oa.only t1
  replace ob := ob.only t1
  replace ht := ht.trans t1
  obtain ⟨ca1, ca2, -, -, za⟩ := oa.all
  obtain ⟨cb1, cb2, -, -, zb⟩ := ob.all
  clear t1
  go_wp2
  go_ret
  exact ⟨rfl, ht⟩

theorem ratios_long2 {u v n d : Int} {s t : ByteArray} {w : World} (FM : FirstIs w) (h1 : (s.size : Int) ≤ 200) (h2 : (200 : Int) < (t.size : Int)) :
    Calls Tryd.prog 5 #[.agg #[.int .i64 u, .string s], .agg #[.int .i64 v, .string t], .int .i64 n, .int .i64 d] w fun e w' => e = .returned (.bool true) ∧ Only w w' := by
  have FM := Lib.hid FM
  have oa := (Own2.new w (.int .i64 u) (.string s) 23).alloc (.cells #[.int .i64 v, .string t] 23)
  have ob := Own2.new1 w (.cells #[.int .i64 u, .string s] 23) (.int .i64 v) (.string t) 23
  have ht := ((Only.refl w).alloc (.cells #[.int .i64 u, .string s] 23)).alloc (.cells #[.int .i64 v, .string t] 23)
  go_enter Tryd.func5, Tryd.ntmps5
  go_wp2_with fail
  go_at_call 6
  refine (FM.out _ ht).mono ?_
  rintro r w1 ⟨rfl, t1⟩
  replace oa := oa.only t1
  replace ob := ob.only t1
  replace ht := ht.trans t1
  obtain ⟨ca1, ca2, -, -, za⟩ := oa.all
  obtain ⟨cb1, cb2, -, -, zb⟩ := ob.all
  clear t1
  go_wp2
  go_ret
  exact ⟨rfl, ht⟩

/-- does the law turn both parts of the ratio over? -/
def turns (n d : Int) : Bool := decide (n ≠ 0 ∧ n ≠ -9223372036854775808 ∧ d ≠ 0 ∧ d ≠ -9223372036854775808)

set_option maxRecDepth 100000 in
set_option maxHeartbeats 8000000 in
theorem ratios_walk {u v n d X P Q Z e g h i : Int} {s t xm pm qm zm : ByteArray} {w : World} (FM : FirstIs w) (hn : I64 n) (hd : I64 d) (h1 : (s.size : Int) ≤ 200) (h2 : (t.size : Int) ≤ 200)
    (R1 : AnsIs 14 #[.agg #[.int .i64 u, .string s], .int .i64 n, .int .i64 d] X xm e) (R2 : turns n d = true → AnsIs 14 #[.agg #[.int .i64 u, .string s], .int .i64 (-n), .int .i64 (-d)] X xm e)
    (R3 : AnsIs 14 #[.agg #[.int .i64 u, .string s], .int .i64 d, .int .i64 d] P pm g) (N : AnsIs 15 #[.int .i64 u, .string s] Q qm h) (R4 : AnsIs 14 #[.agg #[.int .i64 v, .string t], .int .i64 n, .int .i64 d] Z zm i)
    (HN : d ≠ 0 → h = 0 → P = Q ∧ pm = qm ∧ g = 0) (HF : e = 0 → i = 0 → s = t → 0 ≤ n → 0 ≤ d → v < u ∨ X ≤ Z) :
    Calls Tryd.prog 5 #[.agg #[.int .i64 u, .string s], .agg #[.int .i64 v, .string t], .int .i64 n, .int .i64 d] w fun e w' => e = .returned (.bool true) ∧ Only w w' := by
  have FM := Lib.hid FM
  have R1 := Lib.hid R1
  have R2 := Lib.hid R2
  have R3 := Lib.hid R3
  have N := Lib.hid N
  have R4 := Lib.hid R4
  have HN := Lib.hid HN
  have HF := Lib.hid HF
  obtain ⟨n1, n2⟩ := hn
  obtain ⟨d1, d2⟩ := hd
  have oa := (Own2.new w (.int .i64 u) (.string s) 23).alloc (.cells #[.int .i64 v, .string t] 23)
  have ob := Own2.new1 w (.cells #[.int .i64 u, .string s] 23) (.int .i64 v) (.string t) 23
  have ht := ((Only.refl w).alloc (.cells #[.int .i64 u, .string s] 23)).alloc (.cells #[.int .i64 v, .string t] 23)
  go_enter Tryd.func5, Tryd.ntmps5
  go_wp2_with fail
  go_at_call 6
  refine (FM.out _ ht).mono ?_
  rintro r w1 ⟨rfl, t1⟩
  replace oa := oa.only t1
  replace ob := ob.only t1
  replace ht := ht.trans t1
  obtain ⟨ca1, ca2, -, -, za⟩ := oa.all
  obtain ⟨cb1, cb2, -, -, zb⟩ := ob.all
  clear t1
  go_wp2_with fail
  go_at_call 14
  refine (R1.out _).mono ?_
  rintro r w2 ⟨rfl, t2⟩
  replace oa := (oa.only t2).alloc (.cells #[.int .i64 X, .string xm] 23)
  replace ob := (ob.only t2).alloc (.cells #[.int .i64 X, .string xm] 23)
  have ox := Own2.new w2 (.int .i64 X) (.string xm) 23
  replace ht := (ht.trans t2).alloc (.cells #[.int .i64 X, .string xm] 23)
  clear ca1 ca2 za cb1 cb2 zb t2
  obtain ⟨T, hT⟩ : ∃ T, T = turns n d := ⟨_, rfl⟩
  have HT := Lib.hid hT
  clear hT
  go_upto_region 5 with (fail)
  go_cut [52] (fun sl wc => sl = .bool T ∧ Only w wc ∧ Own2 wc w.heap.size (.int .i64 u) (.string s) ∧ Own2 wc (w.heap.size + 1) (.int .i64 v) (.string t) ∧ Own2 wc w2.heap.size (.int .i64 X) (.string xm))
  case first =>
    as_aux_lemma =>
      by_cases q1 : n = 0
      · have hb : T = false := by rw [HT.out]; unfold turns; simp [q1]
        subst q1
        have HB := Lib.hid hb
        clear hb
        go_wp2
        go_meet
        exact ⟨by rw [HB.out], ht, oa, ob, ox⟩
      by_cases q2 : n = -9223372036854775808
      · have hb : T = false := by rw [HT.out]; unfold turns; simp [q2]
        have hw : wrap64 (-n) = n := by rw [q2]; kernel_rfl
        have HB := Lib.hid hb
        clear hb q2 q1
        go_wp2
        go_meet
        exact ⟨by rw [HB.out], ht, oa, ob, ox⟩
      have k1 : (n == -n) = false := by simp; omega
      have k2 : (n != -n) = true := by simp; omega
      have k0 : -9223372036854775807 ≤ n := by omega
      by_cases q3 : d = 0
      · have hb : T = false := by rw [HT.out]; unfold turns; simp [q3]
        subst q3
        have HB := Lib.hid hb
        clear hb q1 q2
        go_wp2
        go_meet
        exact ⟨by rw [HB.out], ht, oa, ob, ox⟩
      by_cases q4 : d = -9223372036854775808
      · have hb : T = false := by rw [HT.out]; unfold turns; simp [q4]
        have hw : wrap64 (-d) = d := by rw [q4]; kernel_rfl
        have HB := Lib.hid hb
        clear hb q1 q2 q3 q4
        go_wp2
        go_meet
        exact ⟨by rw [HB.out], ht, oa, ob, ox⟩
      have hb : T = true := by rw [HT.out]; unfold turns; exact decide_eq_true ⟨q1, q2, q3, q4⟩
      have k3 : (d == -d) = false := by simp; omega
      have k4 : (d != -d) = true := by simp; omega
      have k5 : -9223372036854775807 ≤ d := by omega
      have HB := Lib.hid hb
      clear hb q1 q2 q3 q4
      go_wp2
      go_meet
      exact ⟨by rw [HB.out], ht, oa, ob, ox⟩
  case rest =>
   as_aux_lemma =>
    clear ht oa ob ox
    obtain ⟨rfl, ht, oa, ob, ox⟩ := hcut
    have HB := Lib.hid (show T = true → -9223372036854775807 ≤ n ∧ -9223372036854775807 ≤ d by
      intro k; rw [HT.out] at k; unfold turns at k; have := of_decide_eq_true k; omega)
    have R2 := Lib.hid (show T = true → _ from fun k => R2.out (by rw [← HT.out]; exact k))
    go_upto_if 52 with (fail)
    go_cut [] (fun wc => Only w wc ∧ Own2 wc w.heap.size (.int .i64 u) (.string s) ∧ Own2 wc (w.heap.size + 1) (.int .i64 v) (.string t) ∧ Own2 wc w2.heap.size (.int .i64 X) (.string xm))
    case first =>
      as_aux_lemma =>
        cases T
        · go_wp2
          go_meet
          exact ⟨ht, oa, ob, ox⟩
        · have R2b := R2.out rfl
          replace R2b := Lib.hid R2b
          obtain ⟨k1, k2⟩ := HB.out rfl
          obtain ⟨ca1, ca2, -, -, za⟩ := oa.all
          go_wp2_with fail
          go_at_call 14
          refine (R2b.out _).mono ?_
          rintro r w3 ⟨rfl, t3⟩
          replace oa := (oa.only t3).alloc (.cells #[.int .i64 X, .string xm] 23)
          replace ob := (ob.only t3).alloc (.cells #[.int .i64 X, .string xm] 23)
          replace ox := (ox.only t3).alloc (.cells #[.int .i64 X, .string xm] 23)
          replace ht := (ht.trans t3).alloc (.cells #[.int .i64 X, .string xm] 23)
          clear ca1 ca2 za t3
          obtain ⟨cx1, cx2, -, -, zx⟩ := ox.all
          go_wp2
          go_meet
          exact ⟨ht, oa, ob, ox⟩
    case rest =>
     as_aux_lemma =>
      clear ht oa ob ox
      obtain ⟨ht, oa, ob, ox⟩ := hcut
      obtain ⟨ca1, ca2, -, -, za⟩ := oa.all
      go_wp2_with fail
      go_at_call 14
      refine (R3.out _).mono ?_
      rintro r w4 ⟨rfl, t4⟩
      replace oa := (oa.only t4).alloc (.cells #[.int .i64 P, .string pm] 23)
      replace ob := (ob.only t4).alloc (.cells #[.int .i64 P, .string pm] 23)
      replace ox := (ox.only t4).alloc (.cells #[.int .i64 P, .string pm] 23)
      have op := Own2.new w4 (.int .i64 P) (.string pm) 23
      replace ht := (ht.trans t4).alloc (.cells #[.int .i64 P, .string pm] 23)
      clear ca1 ca2 za t4
      obtain ⟨ca1, ca2, -, -, za⟩ := oa.all
      go_wp2_with fail
      go_at_call 15
      refine (N.out _).mono ?_
      rintro r w5 ⟨rfl, t5⟩
      replace oa := (oa.only t5).alloc (.cells #[.int .i64 Q, .string qm] 23)
      replace ob := (ob.only t5).alloc (.cells #[.int .i64 Q, .string qm] 23)
      replace ox := (ox.only t5).alloc (.cells #[.int .i64 Q, .string qm] 23)
      replace op := (op.only t5).alloc (.cells #[.int .i64 Q, .string qm] 23)
      have oq := Own2.new w5 (.int .i64 Q) (.string qm) 23
      replace ht := (ht.trans t5).alloc (.cells #[.int .i64 Q, .string qm] 23)
      clear ca1 ca2 za t5
      go_upto_region 11 with (fail)
      go_cut [101] (fun sl wc => sl = .bool false ∧ Only w wc ∧ Own2 wc w.heap.size (.int .i64 u) (.string s) ∧ Own2 wc (w.heap.size + 1) (.int .i64 v) (.string t) ∧ Own2 wc w2.heap.size (.int .i64 X) (.string xm))
      case first =>
        as_aux_lemma =>
          obtain ⟨cp1, cp2, -, -, zp⟩ := op.all
          obtain ⟨cq1, cq2, -, -, zq⟩ := oq.all
          by_cases q1 : d = 0
          · subst q1
            go_wp2_with (go_at_call 9; refine (numM_any _ _).mono ?_; rintro r wn ⟨rfl, rfl⟩)
            go_meet
            exact ⟨rfl, ht, oa, ob, ox⟩
          have k1 : (d != 0) = true := by simpa using q1
          have k2 : (d == 0) = false := by simpa using q1
          by_cases q2 : h = 0
          · obtain ⟨rfl, rfl, rfl⟩ := HN.out q1 q2
            subst q2
            clear q1
            go_wp2_with (go_at_call 9; refine (numM_any _ _).mono ?_; rintro r wn ⟨rfl, rfl⟩)
            go_meet
            exact ⟨rfl, ht, oa, ob, ox⟩
          · have k3 : (h == 0) = false := by simpa using q2
            clear q1 q2
            go_wp2_with (go_at_call 9; refine (numM_any _ _).mono ?_; rintro r wn ⟨rfl, rfl⟩)
            go_meet
            exact ⟨rfl, ht, oa, ob, ox⟩
      case rest =>
       as_aux_lemma =>
        clear ht oa ob ox op oq
        obtain ⟨rfl, ht, oa, ob, ox⟩ := hcut
        obtain ⟨cb1, cb2, -, -, zb⟩ := ob.all
        go_wp2_with fail
        go_at_call 14
        refine (R4.out _).mono ?_
        rintro r w6 ⟨rfl, t6⟩
        replace oa := (oa.only t6).alloc (.cells #[.int .i64 Z, .string zm] 23)
        replace ob := (ob.only t6).alloc (.cells #[.int .i64 Z, .string zm] 23)
        replace ox := (ox.only t6).alloc (.cells #[.int .i64 Z, .string zm] 23)
        have oz := Own2.new w6 (.int .i64 Z) (.string zm) 23
        replace ht := (ht.trans t6).alloc (.cells #[.int .i64 Z, .string zm] 23)
        clear cb1 cb2 zb t6
        obtain ⟨B, hB⟩ : ∃ B, B = (!decide (e = 0 ∧ i = 0 ∧ s = t ∧ 0 ≤ n ∧ 0 ≤ d)) := ⟨_, rfl⟩
        have HB2 := Lib.hid hB
        clear hB
        go_upto_region 14 with (fail)
        go_cut [131] (fun sl wc => sl = .bool B ∧ Only w wc ∧ Own2 wc w.heap.size (.int .i64 u) (.string s) ∧ Own2 wc (w.heap.size + 1) (.int .i64 v) (.string t) ∧ Own2 wc w2.heap.size (.int .i64 X) (.string xm) ∧ Own2 wc w6.heap.size (.int .i64 Z) (.string zm))
        case first =>
          as_aux_lemma =>
            obtain ⟨ca1, ca2, -, -, za⟩ := oa.all
            obtain ⟨cb1, cb2, -, -, zb⟩ := ob.all
            by_cases q1 : e = 0
            · subst q1
              by_cases q2 : i = 0
              · subst q2
                by_cases q3 : s = t
                · have k3 : (s.toList == t.toList) = true := by rw [toList_beq]; exact decide_eq_true q3
                  have k3' : (s.toList != t.toList) = false := by rw [bne, k3]; rfl
                  by_cases q4 : 0 ≤ n
                  · have k4 : decide (n < 0) = false := by simp; omega
                    by_cases q5 : 0 ≤ d
                    · have k5 : decide (d < 0) = false := by simp; omega
                      have hv : B = false := by rw [HB2.out]; simp [q3, q4, q5]
                      have HV := Lib.hid hv
                      clear q3 hv
                      go_wp2_with (go_at_call 9; refine (numM_any _ _).mono ?_; rintro r wn ⟨rfl, rfl⟩)
                      go_meet
                      exact ⟨by rw [HV.out], ht, oa, ob, ox, oz⟩
                    · have k5 : d < 0 := by omega
                      have hv : B = true := by rw [HB2.out]; simp [q5]
                      have HV := Lib.hid hv
                      clear q3 q5 hv
                      go_wp2_with (go_at_call 9; refine (numM_any _ _).mono ?_; rintro r wn ⟨rfl, rfl⟩)
                      go_meet
                      exact ⟨by rw [HV.out], ht, oa, ob, ox, oz⟩
                  · have k4 : n < 0 := by omega
                    have hv : B = true := by rw [HB2.out]; simp [q4]
                    have HV := Lib.hid hv
                    clear q3 q4 hv
                    go_wp2_with (go_at_call 9; refine (numM_any _ _).mono ?_; rintro r wn ⟨rfl, rfl⟩)
                    go_meet
                    exact ⟨by rw [HV.out], ht, oa, ob, ox, oz⟩
                · have k3 : (s.toList == t.toList) = false := by rw [toList_beq]; exact decide_eq_false q3
                  have k3' : (s.toList != t.toList) = true := by rw [bne, k3]; rfl
                  have hv : B = true := by rw [HB2.out]; simp [q3]
                  have HV := Lib.hid hv
                  clear q3 hv
                  go_wp2_with (go_at_call 9; refine (numM_any _ _).mono ?_; rintro r wn ⟨rfl, rfl⟩)
                  go_meet
                  exact ⟨by rw [HV.out], ht, oa, ob, ox, oz⟩
              · have k2 : (i != 0) = true := by simpa using q2
                have k2' : (i == 0) = false := by simpa using q2
                have hv : B = true := by rw [HB2.out]; simp [q2]
                have HV := Lib.hid hv
                clear q2 hv
                go_wp2_with (go_at_call 9; refine (numM_any _ _).mono ?_; rintro r wn ⟨rfl, rfl⟩)
                go_meet
                exact ⟨by rw [HV.out], ht, oa, ob, ox, oz⟩
            · have k1 : (e != 0) = true := by simpa using q1
              have k1' : (e == 0) = false := by simpa using q1
              have hv : B = true := by rw [HB2.out]; simp [q1]
              have HV := Lib.hid hv
              clear q1 hv
              go_wp2_with (go_at_call 9; refine (numM_any _ _).mono ?_; rintro r wn ⟨rfl, rfl⟩)
              go_meet
              exact ⟨by rw [HV.out], ht, oa, ob, ox, oz⟩
        case rest =>
         as_aux_lemma =>
          clear ht oa ob ox oz
          obtain ⟨rfl, ht, oa, ob, ox, oz⟩ := hcut
          obtain ⟨ca1, ca2, -, -, za⟩ := oa.all
          obtain ⟨cb1, cb2, -, -, zb⟩ := ob.all
          obtain ⟨cx1, cx2, -, -, zx⟩ := ox.all
          obtain ⟨cz1, cz2, -, -, zz⟩ := oz.all
          cases B
          rotate_left
          · go_wp2
            go_ret
            exact ⟨rfl, ht⟩
          · have hB := HB2.out
            obtain ⟨e0, i0, st, m0, m1⟩ : e = 0 ∧ i = 0 ∧ s = t ∧ 0 ≤ n ∧ 0 ≤ d := by
              apply of_decide_eq_true
              rw [← Bool.not_eq_false']; exact hB.symm
            have hF := HF.out e0 i0 st m0 m1
            clear hB e0 i0 st
            by_cases q1 : v < u
            · clear hF
              go_wp2
              go_ret
              exact ⟨rfl, ht⟩
            · have q2 : X ≤ Z := by rcases hF with h | h; exact absurd h q1; exact h
              have q3 : u ≤ v := by omega
              clear hF q1
              go_wp2
              go_ret
              exact ⟨rfl, ht⟩
end Go.Proofs.YtfjemldilnaggaaDoor
