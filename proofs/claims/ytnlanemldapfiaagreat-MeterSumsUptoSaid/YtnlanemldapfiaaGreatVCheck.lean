/-
  meter.Check, copied.
-/
import Derived.Test.YtnlanemldapfiaaGreatVTree
import Derived.Test.YtnlanemldapfiaaGreatVName
namespace Go.Proofs.YtnlanemldapfiaaGreat.se
open Go.RowKit Go.Maps Go.WideMaps Go.Proofs.YtnlanemldapfiaaGreat.Tb
set_option linter.unusedVariables false

/-- a box for an event -/
theorem ev_box1 (w : World) (x : Ev) : ∃ W1, w.alloc (.cells #[strE x.key, strE x.acc, strE x.met, .int .i64 x.qty, .int .i64 x.at_] 32) = W1 ∧ Turn (fun _ => False) w W1 ∧ W1.cell? ⟨w.heap.size, 0, none⟩ = some (strE x.key) ∧ W1.cell? ⟨w.heap.size, 1, none⟩ = some (strE x.acc) ∧
    W1.cell? ⟨w.heap.size, 2, none⟩ = some (strE x.met) ∧ W1.cell? ⟨w.heap.size, 3, none⟩ = some (.int .i64 x.qty) ∧ W1.cell? ⟨w.heap.size, 4, none⟩ = some (.int .i64 x.at_) :=
  ⟨_, rfl, turnBox w _, cell_new w _ _ 0, cell_new w _ _ 1, cell_new w _ _ 2, cell_new w _ _ 3, cell_new w _ _ 4⟩

/-- are its names names? -/
def namesB (x : Ev) : Bool := keyB x.key && nameB x.acc && nameB x.met
/-- may its numbers be? -/
def numsB (x : Ev) : Bool := decide (0 ≤ x.qty) && decide (x.qty ≤ 1099511627776) && decide (0 ≤ x.at_) && decide (x.at_ ≤ 1099511627776)
def checkE (x : Ev) : Int := if namesB x then (if numsB x then 0 else 6) else 1

/-- short enough for any machine -/
structure EvIn (x : Ev) : Prop where
  k : x.key.length ≤ 281474976710656
  a : x.acc.length ≤ 281474976710656
  m : x.met.length ≤ 281474976710656

set_option maxRecDepth 100000 in
set_option maxHeartbeats 2000000 in
theorem check_any (x : Ev) (hx : EvIn x) (w : World) : Calls Tryz.prog 14 #[valV x] w fun r w' => r = .returned (.int .i64 (checkE x)) ∧ Turn (fun _ => False) w w' := by
  obtain ⟨W1, hW1, tb, bx0, bx1, bx2, bx3, bx4⟩ := ev_box1 w x
  obtain ⟨kb, hk⟩ : ∃ b, keyB x.key = b := ⟨_, rfl⟩
  obtain ⟨ab, ha⟩ : ∃ b, nameB x.acc = b := ⟨_, rfl⟩
  obtain ⟨mb, hm⟩ : ∃ b, nameB x.met = b := ⟨_, rfl⟩
  have HK := Lib.hid (isKey_any x.key hx.k)
  have HA := Lib.hid (validName_any x.acc hx.a)
  have HM := Lib.hid (validName_any x.met hx.m)
  rw [hk] at HK
  rw [ha] at HA
  rw [hm] at HM
  have hn : namesB x = (kb && ab && mb) := by unfold namesB; rw [hk, ha, hm]
  unfold checkE
  rw [hn]
  have TB := Lib.hid tb
  have HG := Lib.hid (rfl : w.heap.size = w.heap.size)
  clear hk ha hm hn tb hx
  cases kb with
  | false =>
    go_enter Tryz.func14, Tryz.ntmps14
    go_wp2_with (go_at_call 32; refine (HK.out _).mono ?_; rintro e w2 ⟨rfl, t2⟩)
    go_ret
    exact ⟨rfl, TB.out.trans t2 (fun _ _ q => q)⟩
  | true =>
    cases ab with
    | false =>
      go_enter Tryz.func14, Tryz.ntmps14
      go_wp2_with (first | (go_at_call 32; refine (HK.out _).mono ?_; rintro e w2 ⟨rfl, t2⟩; have cx1 := turn_cell t2 bx1) | (go_at_call 33; refine (HA.out _).mono ?_; rintro e w3 ⟨rfl, t3⟩))
      go_ret
      exact ⟨rfl, (TB.out.trans t2 (fun _ _ q => q)).trans t3 (fun _ _ q => q)⟩
    | true =>
      cases mb with
      | false =>
        go_enter Tryz.func14, Tryz.ntmps14
        go_wp2_with (first | (go_at_call 32; refine (HK.out _).mono ?_; rintro e w2 ⟨rfl, t2⟩; have cx1 := turn_cell t2 bx1) | (go_at_call 33; refine (HA.out _).mono ?_; rintro e w3 ⟨rfl, t3⟩; have cx2 := turn_cell t3 (turn_cell t2 bx2); clear HA) | (go_at_call 33; refine (HM.out _).mono ?_; rintro e w4 ⟨rfl, t4⟩))
        go_ret
        exact ⟨rfl, ((TB.out.trans t2 (fun _ _ q => q)).trans t3 (fun _ _ q => q)).trans t4 (fun _ _ q => q)⟩
      | true =>
        have fin : ∀ (z : Bool), numsB x = z → Calls Tryz.prog 14 #[valV x] w fun r w' => r = .returned (.int .i64 (if z then 0 else 6)) ∧ Turn (fun _ => False) w w' := by
          intro z hz
          unfold numsB at hz
          by_cases q1 : 0 ≤ x.qty
          · have i1 : ¬ x.qty < 0 := by omega
            by_cases q2 : x.qty ≤ 1099511627776
            · have i2 : ¬ 1099511627776 < x.qty := by omega
              by_cases q3 : 0 ≤ x.at_
              · have i3 : ¬ x.at_ < 0 := by omega
                by_cases q4 : x.at_ ≤ 1099511627776
                · have i4 : ¬ 1099511627776 < x.at_ := by omega
                  rw [decide_eq_true q1, decide_eq_true q2, decide_eq_true q3, decide_eq_true q4] at hz
                  simp at hz
                  subst hz
                  clear q1 q2 q3 q4
                  go_enter Tryz.func14, Tryz.ntmps14
                  go_wp2_with (first | (go_at_call 32; refine (HK.out _).mono ?_; rintro e w2 ⟨rfl, t2⟩; have cx1 := turn_cell t2 bx1) | (go_at_call 33; refine (HA.out _).mono ?_; rintro e w3 ⟨rfl, t3⟩; have cx2 := turn_cell t3 (turn_cell t2 bx2); clear HA) | (go_at_call 33; refine (HM.out _).mono ?_; rintro e w4 ⟨rfl, t4⟩; have cx3 := turn_cell t4 (turn_cell t3 (turn_cell t2 bx3)); have cx4 := turn_cell t4 (turn_cell t3 (turn_cell t2 bx4))))
                  go_ret
                  exact ⟨rfl, ((TB.out.trans t2 (fun _ _ q => q)).trans t3 (fun _ _ q => q)).trans t4 (fun _ _ q => q)⟩
                · have i4 : 1099511627776 < x.at_ := by omega
                  rw [decide_eq_true q1, decide_eq_true q2, decide_eq_true q3, decide_eq_false q4] at hz
                  simp at hz
                  subst hz
                  clear q1 q2 q3 q4
                  go_enter Tryz.func14, Tryz.ntmps14
                  go_wp2_with (first | (go_at_call 32; refine (HK.out _).mono ?_; rintro e w2 ⟨rfl, t2⟩; have cx1 := turn_cell t2 bx1) | (go_at_call 33; refine (HA.out _).mono ?_; rintro e w3 ⟨rfl, t3⟩; have cx2 := turn_cell t3 (turn_cell t2 bx2); clear HA) | (go_at_call 33; refine (HM.out _).mono ?_; rintro e w4 ⟨rfl, t4⟩; have cx3 := turn_cell t4 (turn_cell t3 (turn_cell t2 bx3)); have cx4 := turn_cell t4 (turn_cell t3 (turn_cell t2 bx4))))
                  go_ret
                  exact ⟨rfl, ((TB.out.trans t2 (fun _ _ q => q)).trans t3 (fun _ _ q => q)).trans t4 (fun _ _ q => q)⟩
              · have i3 : x.at_ < 0 := by omega
                rw [decide_eq_true q1, decide_eq_true q2, decide_eq_false q3] at hz
                simp at hz
                subst hz
                clear q1 q2 q3
                go_enter Tryz.func14, Tryz.ntmps14
                go_wp2_with (first | (go_at_call 32; refine (HK.out _).mono ?_; rintro e w2 ⟨rfl, t2⟩; have cx1 := turn_cell t2 bx1) | (go_at_call 33; refine (HA.out _).mono ?_; rintro e w3 ⟨rfl, t3⟩; have cx2 := turn_cell t3 (turn_cell t2 bx2); clear HA) | (go_at_call 33; refine (HM.out _).mono ?_; rintro e w4 ⟨rfl, t4⟩; have cx3 := turn_cell t4 (turn_cell t3 (turn_cell t2 bx3)); have cx4 := turn_cell t4 (turn_cell t3 (turn_cell t2 bx4))))
                go_ret
                exact ⟨rfl, ((TB.out.trans t2 (fun _ _ q => q)).trans t3 (fun _ _ q => q)).trans t4 (fun _ _ q => q)⟩
            · have i2 : 1099511627776 < x.qty := by omega
              rw [decide_eq_true q1, decide_eq_false q2] at hz
              simp at hz
              subst hz
              clear q1 q2
              go_enter Tryz.func14, Tryz.ntmps14
              go_wp2_with (first | (go_at_call 32; refine (HK.out _).mono ?_; rintro e w2 ⟨rfl, t2⟩; have cx1 := turn_cell t2 bx1) | (go_at_call 33; refine (HA.out _).mono ?_; rintro e w3 ⟨rfl, t3⟩; have cx2 := turn_cell t3 (turn_cell t2 bx2); clear HA) | (go_at_call 33; refine (HM.out _).mono ?_; rintro e w4 ⟨rfl, t4⟩; have cx3 := turn_cell t4 (turn_cell t3 (turn_cell t2 bx3)); have cx4 := turn_cell t4 (turn_cell t3 (turn_cell t2 bx4))))
              go_ret
              exact ⟨rfl, ((TB.out.trans t2 (fun _ _ q => q)).trans t3 (fun _ _ q => q)).trans t4 (fun _ _ q => q)⟩
          · have i1 : x.qty < 0 := by omega
            rw [decide_eq_false q1] at hz
            simp at hz
            subst hz
            clear q1
            go_enter Tryz.func14, Tryz.ntmps14
            go_wp2_with (first | (go_at_call 32; refine (HK.out _).mono ?_; rintro e w2 ⟨rfl, t2⟩; have cx1 := turn_cell t2 bx1) | (go_at_call 33; refine (HA.out _).mono ?_; rintro e w3 ⟨rfl, t3⟩; have cx2 := turn_cell t3 (turn_cell t2 bx2); clear HA) | (go_at_call 33; refine (HM.out _).mono ?_; rintro e w4 ⟨rfl, t4⟩; have cx3 := turn_cell t4 (turn_cell t3 (turn_cell t2 bx3)); have cx4 := turn_cell t4 (turn_cell t3 (turn_cell t2 bx4))))
            go_ret
            exact ⟨rfl, ((TB.out.trans t2 (fun _ _ q => q)).trans t3 (fun _ _ q => q)).trans t4 (fun _ _ q => q)⟩
        have := fin (numsB x) rfl
        simpa using this
end Go.Proofs.YtnlanemldapfiaaGreat.se
