/-
  turnLeft, turnRight, over. (se)
-/
import Derived.Test.YtnlanemldapfiaaGreatVOver
namespace Go.Proofs.YtnlanemldapfiaaGreat.se
open Go.RowKit Go.Maps Go.WideMaps Go.Proofs.YtnlanemldapfiaaGreat.Tb

section
variable {w : World} {b s : Nat} {k : Key} {x : Val} {lv rv pl pr : Option Addr} {l r : Tr Key Val}

theorem small_made {k : Key} {x : Val} {l r : Tr Key Val} (h : l.count + r.count + 1 < 1000000000000) : Small (made k x l r) := h

set_option maxRecDepth 100000 in
set_option maxHeartbeats 1000000 in
theorem turnLeft_any (hn : NCells w b k x s lv rv) (hl : TrAt w (.pointer pl) l) (hr : TrAt w (.pointer pr) r) (zr : r.Sized) (hs : l.count + r.count + 1 < 1000000000000) (hh : 3 * (l.count + 1) < r.count + 1) :
    Calls Tryz.prog 109 #[.pointer (some ⟨b, 0, none⟩), .pointer pl, .pointer pr] w (Made w (turnLeft k x l r)) := by
  cases r with
  | nil => simp [Tr.count] at hh
  | node rk rx rs m rr =>
    obtain ⟨e1, z1, z2⟩ := zr
    have hrs : (Tr.node rk rx rs m rr).count = rs := rfl
    rw [hrs] at hs hh
    obtain ⟨rb, mv, rrv, hp, hb, hm, hrr⟩ := hr
    cases hp
    have rc := ncells hb
    have r3 := rc.c3
    have r4 := rc.c4
    obtain ⟨a, ha⟩ : ∃ a, a = m.count + 1 := ⟨_, rfl⟩
    obtain ⟨c, hc⟩ : ∃ c, c = rr.count + 1 := ⟨_, rfl⟩
    have sl : Small l := by unfold Small; omega
    have sm : Small m := by unfold Small; omega
    have srr : Small rr := by unfold Small; omega
    have wm := fun (W : World) (hW : Like w W) => weight_q (hm.like hW) sm ha
    have wr := fun (W : World) (hW : Like w W) => weight_q (hrr.like hW) srr hc
    have k1 : IntKind.i64.wrap (2 * (c : Int)) = 2 * (c : Int) := IntWalk.i64_in _ (by omega)
    unfold turnLeft
    dsimp only
    by_cases hd : m.count + 1 < 2 * (rr.count + 1)
    · rw [if_pos hd]
      have k2 : decide ((a : Int) < 2 * (c : Int)) = true := by rw [decide_eq_true_iff]; omega
      have HI := Lib.hid (fun (W : World) (hW : Like w W) => with_any (w := W) (hn.turned (hW.turn _)) (hl.like hW) (hm.like hW) sl sm)
      have HO := Lib.hid (fun (W : World) (p : Option Addr) (hW : Turn (fun _ => False) w W) (hp : TrAt W (.pointer p) (made k x l m)) => with_any (rc.turned hW) hp (hrr.later hW) (small_made (by omega)) srr)
      have HM := Lib.hid wm
      have HR := Lib.hid wr
      clear wm wr hn hl hm hrr hb rc e1 z1 z2 hrs hs hh ha hc sl sm srr hd
      go_enter Tryz.func109, Tryz.ntmps109
      go_wp2_with fail
      go_quiet ((first | (go_at_call 108; with_reducible exact Calls.quiet_of_same (HM.out _ (like_drewN _ _))) | (go_at_call 108; with_reducible exact Calls.quiet_of_same (HR.out _ (like_drewN _ _)))))
      go_wp2_with fail
      go_region_held3 (fun w' => w'.cell? ⟨rb, 8, none⟩ = some (.pointer rrv)) (first | (exact turn_cell t2 r4) | (exact turn_cell t1 r4) | go_keep) (first | (go_at_call 111; refine (HI.out _ ((like_drewN w nq).trans (like_drew _))).mono ?_; rintro e w1 ⟨p1, rfl, hp1, t1'⟩; have t1 : Turn (fun _ => False) w w1 := ((((like_drewN w nq).trans (like_drew _)).turn _)).trans t1' (fun _ _ q => q); clear HI) | (go_at_call 111; refine (HO.out _ p1 t1 hp1).mono ?_; rintro e w2 ⟨p2, rfl, hp2, t2'⟩; have t2 := t1.trans t2' (fun _ _ q => q)))
      go_wp2
      go_ret
      exact ⟨p2, rfl, hp2, t2⟩
    · rw [if_neg hd]
      cases m with
      | nil => simp [Tr.count] at hd; omega
      | node mk mx ms ml mr =>
        obtain ⟨e2, z3, z4⟩ := z1
        have hms : (Tr.node mk mx ms ml mr).count = ms := rfl
        rw [hms] at ha hd e1
        obtain ⟨mb, mlv, mrv, hp, hmb, hml, hmr⟩ := hm
        cases hp
        have mc := ncells hmb
        have m3 := mc.c3
        have m4 := mc.c4
        dsimp only
        have k2 : decide ((a : Int) < 2 * (c : Int)) = false := by rw [decide_eq_false_iff_not]; omega
        have HI := Lib.hid (fun (W : World) (hW : Like w W) => with_any (w := W) (hn.turned (hW.turn _)) (hl.like hW) (hml.like hW) sl (show Small ml by unfold Small; omega))
        have HJ := Lib.hid (fun (W : World) (hW : Turn (fun _ => False) w W) => with_any (w := W) (rc.turned hW) (hmr.later hW) (hrr.later hW) (show Small mr by unfold Small; omega) srr)
        have HO := Lib.hid (fun (W : World) (p q : Option Addr) (hW : Turn (fun _ => False) w W) (hp : TrAt W (.pointer p) (made k x l ml)) (hq : TrAt W (.pointer q) (made rk rx mr rr)) => with_any (mc.turned hW) hp hq (small_made (by omega)) (small_made (by omega)))
        have HM := Lib.hid wm
        have HR := Lib.hid wr
        clear wm wr hn hl hml hmr hrr hb hmb rc mc e1 e2 z2 z3 z4 hrs hms hs hh ha hc sl sm srr hd
        go_enter Tryz.func109, Tryz.ntmps109
        go_wp2_with fail
        go_quiet ((first | (go_at_call 108; with_reducible exact Calls.quiet_of_same (HM.out _ (like_drewN _ _))) | (go_at_call 108; with_reducible exact Calls.quiet_of_same (HR.out _ (like_drewN _ _)))))
        go_wp2_with fail
        go_region_held3 (fun w' => w'.cell? ⟨rb, 8, none⟩ = some (.pointer rrv) ∧ w'.cell? ⟨mb, 7, none⟩ = some (.pointer mlv) ∧ w'.cell? ⟨mb, 8, none⟩ = some (.pointer mrv)) (first | (exact ⟨turn_cell t3 r4, turn_cell t3 m3, turn_cell t3 m4⟩) | (exact ⟨turn_cell t2 r4, turn_cell t2 m3, turn_cell t2 m4⟩) | (exact ⟨turn_cell t1 r4, turn_cell t1 m3, turn_cell t1 m4⟩) | go_keep) (first | (go_at_call 111; refine (HI.out _ ((like_drewN w nq).trans (like_drew _))).mono ?_; rintro e w1 ⟨p1, rfl, hp1, t1'⟩; have t1 : Turn (fun _ => False) w w1 := ((((like_drewN w nq).trans (like_drew _)).turn _)).trans t1' (fun _ _ q => q); clear HI) | (go_at_call 111; refine (HJ.out _ t1).mono ?_; rintro e w2 ⟨p2, rfl, hp2, t2'⟩; have t2 := t1.trans t2' (fun _ _ q => q); have hp1' := hp1.later t2'; clear HJ) | (go_at_call 111; refine (HO.out _ p1 p2 t2 hp1' hp2).mono ?_; rintro e w3 ⟨p3, rfl, hp3, t3'⟩; have t3 := t2.trans t3' (fun _ _ q => q)))
        go_wp2
        go_ret
        exact ⟨p3, rfl, hp3, t3⟩

set_option maxRecDepth 100000 in
set_option maxHeartbeats 1000000 in
theorem turnRight_any (hn : NCells w b k x s lv rv) (hl : TrAt w (.pointer pl) l) (hr : TrAt w (.pointer pr) r) (zl : l.Sized) (hs : l.count + r.count + 1 < 1000000000000) (hh : 3 * (r.count + 1) < l.count + 1) :
    Calls Tryz.prog 110 #[.pointer (some ⟨b, 0, none⟩), .pointer pl, .pointer pr] w (Made w (turnRight k x l r)) := by
  cases l with
  | nil => simp [Tr.count] at hh
  | node lk lx ls ll m =>
    obtain ⟨e1, z1, z2⟩ := zl
    have hls : (Tr.node lk lx ls ll m).count = ls := rfl
    rw [hls] at hs hh
    obtain ⟨lb, llv, mv, hp, hb, hll, hm⟩ := hl
    cases hp
    have lc := ncells hb
    have r3 := lc.c3
    have r4 := lc.c4
    obtain ⟨a, ha⟩ : ∃ a, a = m.count + 1 := ⟨_, rfl⟩
    obtain ⟨c, hc⟩ : ∃ c, c = ll.count + 1 := ⟨_, rfl⟩
    have sr : Small r := by unfold Small; omega
    have sm : Small m := by unfold Small; omega
    have sll : Small ll := by unfold Small; omega
    have wm := fun (W : World) (hW : Like w W) => weight_q (hm.like hW) sm ha
    have wl := fun (W : World) (hW : Like w W) => weight_q (hll.like hW) sll hc
    have k1 : IntKind.i64.wrap (2 * (c : Int)) = 2 * (c : Int) := IntWalk.i64_in _ (by omega)
    unfold turnRight
    dsimp only
    by_cases hd : m.count + 1 < 2 * (ll.count + 1)
    · rw [if_pos hd]
      have k2 : decide ((a : Int) < 2 * (c : Int)) = true := by rw [decide_eq_true_iff]; omega
      have HI := Lib.hid (fun (W : World) (hW : Like w W) => with_any (w := W) (hn.turned (hW.turn _)) (hm.like hW) (hr.like hW) sm sr)
      have HO := Lib.hid (fun (W : World) (p : Option Addr) (hW : Turn (fun _ => False) w W) (hp : TrAt W (.pointer p) (made k x m r)) => with_any (lc.turned hW) (hll.later hW) hp sll (small_made (by omega)))
      have HM := Lib.hid wm
      have HR := Lib.hid wl
      clear wm wl hn hll hm hr hb lc e1 z1 z2 hls hs hh ha hc sll sm sr hd
      go_enter Tryz.func110, Tryz.ntmps110
      go_wp2_with fail
      go_quiet ((first | (go_at_call 108; with_reducible exact Calls.quiet_of_same (HM.out _ (like_drewN _ _))) | (go_at_call 108; with_reducible exact Calls.quiet_of_same (HR.out _ (like_drewN _ _)))))
      go_wp2_with fail
      go_region_held3 (fun w' => w'.cell? ⟨lb, 7, none⟩ = some (.pointer llv)) (first | (exact turn_cell t2 r3) | (exact turn_cell t1 r3) | go_keep) (first | (go_at_call 111; refine (HI.out _ ((like_drewN w nq).trans (like_drew _))).mono ?_; rintro e w1 ⟨p1, rfl, hp1, t1'⟩; have t1 : Turn (fun _ => False) w w1 := ((((like_drewN w nq).trans (like_drew _)).turn _)).trans t1' (fun _ _ q => q); clear HI) | (go_at_call 111; refine (HO.out _ p1 t1 hp1).mono ?_; rintro e w2 ⟨p2, rfl, hp2, t2'⟩; have t2 := t1.trans t2' (fun _ _ q => q)))
      go_wp2
      go_ret
      exact ⟨p2, rfl, hp2, t2⟩
    · rw [if_neg hd]
      cases m with
      | nil => simp [Tr.count] at hd; omega
      | node mk mx ms ml mr =>
        obtain ⟨e2, z3, z4⟩ := z2
        have hms : (Tr.node mk mx ms ml mr).count = ms := rfl
        rw [hms] at ha hd e1
        obtain ⟨mb, mlv, mrv, hp, hmb, hml, hmr⟩ := hm
        cases hp
        have mc := ncells hmb
        have m3 := mc.c3
        have m4 := mc.c4
        dsimp only
        have k2 : decide ((a : Int) < 2 * (c : Int)) = false := by rw [decide_eq_false_iff_not]; omega
        have HI := Lib.hid (fun (W : World) (hW : Like w W) => with_any (w := W) (lc.turned (hW.turn _)) (hll.like hW) (hml.like hW) sll (show Small ml by unfold Small; omega))
        have HJ := Lib.hid (fun (W : World) (hW : Turn (fun _ => False) w W) => with_any (w := W) (hn.turned hW) (hmr.later hW) (hr.later hW) (show Small mr by unfold Small; omega) sr)
        have HO := Lib.hid (fun (W : World) (p q : Option Addr) (hW : Turn (fun _ => False) w W) (hp : TrAt W (.pointer p) (made lk lx ll ml)) (hq : TrAt W (.pointer q) (made k x mr r)) => with_any (mc.turned hW) hp hq (small_made (by omega)) (small_made (by omega)))
        have HM := Lib.hid wm
        have HR := Lib.hid wl
        clear wm wl hn hll hml hmr hr hb hmb lc mc e1 e2 z1 z3 z4 hls hms hs hh ha hc sll sm sr hd
        go_enter Tryz.func110, Tryz.ntmps110
        go_wp2_with fail
        go_quiet ((first | (go_at_call 108; with_reducible exact Calls.quiet_of_same (HM.out _ (like_drewN _ _))) | (go_at_call 108; with_reducible exact Calls.quiet_of_same (HR.out _ (like_drewN _ _)))))
        go_wp2_with fail
        go_region_held3 (fun w' => w'.cell? ⟨lb, 7, none⟩ = some (.pointer llv) ∧ w'.cell? ⟨mb, 7, none⟩ = some (.pointer mlv) ∧ w'.cell? ⟨mb, 8, none⟩ = some (.pointer mrv)) (first | (exact ⟨turn_cell t3 r3, turn_cell t3 m3, turn_cell t3 m4⟩) | (exact ⟨turn_cell t2 r3, turn_cell t2 m3, turn_cell t2 m4⟩) | (exact ⟨turn_cell t1 r3, turn_cell t1 m3, turn_cell t1 m4⟩) | go_keep) (first | (go_at_call 111; refine (HI.out _ ((like_drewN w nq).trans (like_drew _))).mono ?_; rintro e w1 ⟨p1, rfl, hp1, t1'⟩; have t1 : Turn (fun _ => False) w w1 := ((((like_drewN w nq).trans (like_drew _)).turn _)).trans t1' (fun _ _ q => q); clear HI) | (go_at_call 111; refine (HJ.out _ t1).mono ?_; rintro e w2 ⟨p2, rfl, hp2, t2'⟩; have t2 := t1.trans t2' (fun _ _ q => q); have hp1' := hp1.later t2'; clear HJ) | (go_at_call 111; refine (HO.out _ p1 p2 t2 hp1' hp2).mono ?_; rintro e w3 ⟨p3, rfl, hp3, t3'⟩; have t3 := t2.trans t3' (fun _ _ q => q)))
        go_wp2
        go_ret
        exact ⟨p3, rfl, hp3, t3⟩

set_option maxRecDepth 100000 in
set_option maxHeartbeats 1000000 in
theorem over_any (hn : NCells w b k x s lv rv) (hl : TrAt w (.pointer pl) l) (hr : TrAt w (.pointer pr) r) (zl : l.Sized) (zr : r.Sized) (hs : l.count + r.count + 1 < 1000000000000) :
    Calls Tryz.prog 91 #[.pointer (some ⟨b, 0, none⟩), .pointer pl, .pointer pr] w (Made w (over k x l r)) := by
  obtain ⟨a, ha⟩ : ∃ a, a = l.count + 1 := ⟨_, rfl⟩
  obtain ⟨c, hc⟩ : ∃ c, c = r.count + 1 := ⟨_, rfl⟩
  have wl := weight_any hl (show Small l by unfold Small; omega) ha
  have wr := weight_any hr (show Small r by unfold Small; omega) hc
  have i0 : (0 : Int) ≤ (a : Int) := by omega
  have i1 : (a : Int) < 1000000000001 := by omega
  have i2 : (0 : Int) ≤ (c : Int) := by omega
  have i3 : (c : Int) < 1000000000001 := by omega
  have HL := Lib.hid wl
  have HR := Lib.hid wr
  unfold over
  by_cases h1 : 3 * (l.count + 1) < r.count + 1
  · rw [if_pos h1]
    have HT := Lib.hid (turnLeft_any hn hl hr zr hs h1)
    have k1 : 3 * (a : Int) < (c : Int) := by omega
    clear wl wr hn hl hr zl zr hs h1 ha hc
    go_enter Tryz.func91, Tryz.ntmps91
    go_wp2_with (first | (go_at_call 108; (with_reducible refine HR.out.mono ?_); rintro e w' ⟨rfl, rfl⟩) | (go_at_call 108; (with_reducible refine HL.out.mono ?_); rintro e w' ⟨rfl, rfl⟩) | (go_at_call 109; refine HT.out.mono ?_; rintro e w1 ⟨p1, rfl, hp1, t1⟩))
    go_ret
    exact ⟨p1, rfl, hp1, t1⟩
  · rw [if_neg h1]
    have k1 : decide (3 * (a : Int) < (c : Int)) = false := by rw [decide_eq_false_iff_not]; omega
    by_cases h2 : 3 * (r.count + 1) < l.count + 1
    · rw [if_pos h2]
      have HT := Lib.hid (turnRight_any hn hl hr zl hs h2)
      have k2 : decide (3 * (c : Int) < (a : Int)) = true := by rw [decide_eq_true_iff]; omega
      clear wl wr hn hl hr zl zr hs h1 h2 ha hc
      go_enter Tryz.func91, Tryz.ntmps91
      go_wp2_with (first | (go_at_call 108; (with_reducible refine HR.out.mono ?_); rintro e w' ⟨rfl, rfl⟩) | (go_at_call 108; (with_reducible refine HL.out.mono ?_); rintro e w' ⟨rfl, rfl⟩) | (go_at_call 110; refine HT.out.mono ?_; rintro e w1 ⟨p1, rfl, hp1, t1⟩))
      go_ret
      exact ⟨p1, rfl, hp1, t1⟩
    · rw [if_neg h2]
      have HT := Lib.hid (with_any hn hl hr (show Small l by unfold Small; omega) (show Small r by unfold Small; omega))
      have k2 : decide (3 * (c : Int) < (a : Int)) = false := by rw [decide_eq_false_iff_not]; omega
      clear wl wr hn hl hr zl zr hs h1 h2 ha hc
      go_enter Tryz.func91, Tryz.ntmps91
      go_wp2_with (first | (go_at_call 108; (with_reducible refine HR.out.mono ?_); rintro e w' ⟨rfl, rfl⟩) | (go_at_call 108; (with_reducible refine HL.out.mono ?_); rintro e w' ⟨rfl, rfl⟩) | (go_at_call 111; refine HT.out.mono ?_; rintro e w1 ⟨p1, rfl, hp1, t1⟩))
      go_ret
      exact ⟨p1, rfl, hp1, t1⟩

end
end Go.Proofs.YtnlanemldapfiaaGreat.se
