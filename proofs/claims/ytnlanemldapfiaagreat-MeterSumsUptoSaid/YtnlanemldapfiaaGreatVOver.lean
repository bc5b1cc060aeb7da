/-
  made, with, turnLeft, turnRight, over. (se)
-/
import Derived.Test.YtnlanemldapfiaaGreatVTree
import Derived.Deep.RegionHeld3
import Derived.Test.YtnlanemldapfiaaGreatTRound3
namespace Go.Proofs.YtnlanemldapfiaaGreat.se
open Go.RowKit Go.Maps Go.WideMaps Go.Proofs.YtnlanemldapfiaaGreat.Tb

section
variable {w : World} {b s : Nat} {k : Key} {x : Val} {lv rv pl pr : Option Addr} {l r : Tr Key Val}

set_option maxRecDepth 100000 in
set_option maxHeartbeats 1000000 in
theorem made_any (hl : TrAt w (.pointer pl) l) (hr : TrAt w (.pointer pr) r) (sl : Small l) (sr : Small r) (k : Key) (x : Val) :
    Calls Tryz.prog 90 #[keyV k, valV x, .pointer pl, .pointer pr] w (Made w (made k x l r)) := by
  have HL := Lib.hid hl
  have HR := Lib.hid hr
  unfold Small at sl sr
  obtain ⟨a, ha⟩ : ∃ a, a = l.count := ⟨_, rfl⟩
  obtain ⟨c, hc⟩ : ∃ c, c = r.count := ⟨_, rfl⟩
  have cl := count_any hl
  have cr := count_any hr
  rw [← ha] at cl sl
  rw [← hc] at cr sr
  have HA := Lib.hid ha
  have HC := Lib.hid hc
  have HCL := Lib.hid cl
  have HCR := Lib.hid cr
  have i0 : (0 : Int) ≤ (a : Int) := by omega
  have i1 : (a : Int) < 1000000000000 := by omega
  have i2 : (0 : Int) ≤ (c : Int) := by omega
  have i3 : (c : Int) < 1000000000000 := by omega
  clear hl hr sl sr ha hc cl cr
  have hbx : Turn (fun _ => False) w (w.alloc (evBox x)) := turnBox w _
  have HBX := Lib.hid (fun k => hbx.like (like_drewN _ k))
  have HQL := Lib.hid (fun k => count_q ((HL.out.later hbx).like (like_drewN _ k)) HA.out)
  have HQR := Lib.hid (fun k => count_q ((HR.out.later hbx).like (like_drewN _ k)) HC.out)
  have b0 : (w.alloc (evBox x)).cell? ⟨w.heap.size, 0, none⟩ = some (strE x.key) := cell_new w _ _ 0
  have b1 : (w.alloc (evBox x)).cell? ⟨w.heap.size, 1, none⟩ = some (strE x.acc) := cell_new w _ _ 1
  have b2 : (w.alloc (evBox x)).cell? ⟨w.heap.size, 2, none⟩ = some (strE x.met) := cell_new w _ _ 2
  have b3 : (w.alloc (evBox x)).cell? ⟨w.heap.size, 3, none⟩ = some (.int .i64 x.qty) := cell_new w _ _ 3
  have b4 : (w.alloc (evBox x)).cell? ⟨w.heap.size, 4, none⟩ = some (.int .i64 x.at_) := cell_new w _ _ 4
  clear hbx
  go_enter Tryz.func90, Tryz.ntmps90
  go_wp2_with fail
  refine (wpIn_wide (n := 10)).1 ?_
  refine Qt.quiet_tail_wide 10 (by kernel_rfl) (by kernel_rfl) (by kernel_rfl) (by kernel_rfl) (by kernel_rfl) (by kernel_rfl) (by kernel_rfl) (by kernel_rfl) ?_
  simp only [List.take_succ_cons, List.take_zero, List.drop_succ_cons, List.drop_zero]
  repeat (any_goals (first | go_big_quiet_step ((go_at_call 53; first | (with_reducible exact Calls.quiet_of_same (HQL.out _)) | (with_reducible exact Calls.quiet_of_same (HQR.out _)))) | quiet_step ((go_at_call 53; first | (with_reducible exact Calls.quiet_of_same (HQL.out _)) | (with_reducible exact Calls.quiet_of_same (HQR.out _))))))
  refine wpQuiet_nil ?_
  rintro w2 ⟨nq, rfl⟩
  gi_wp2
  go_wp2
  go_ret
  have ht : Turn (fun _ => False) w (((w.alloc (evBox x)).drewN nq).alloc (.cells (nodeC k x ((a : Int) + c + 1) pl pr) 135)) := (HBX.out nq).trans (turnBox _ _) (fun _ _ q => q)
  refine ⟨some ⟨w.heap.size + 1, 0, none⟩, rfl, ⟨w.heap.size + 1, pl, pr, rfl, ?_, HL.out.later ht, HR.out.later ht⟩, ht⟩
  have h := heap_alloc_new ((w.alloc (evBox x)).drewN nq) (.cells (nodeC k x ((a : Int) + c + 1) pl pr) 135)
  rw [show ((w.alloc (evBox x)).drewN nq).heap.size = w.heap.size + 1 from World.size_alloc _ _] at h
  rw [show (((l.count + r.count + 1 : Nat) : Int)) = (a : Int) + c + 1 by rw [HA.out, HC.out]; omega]
  exact h

theorem TrAt.drew {v : Value} {t : Tr Key Val} (h : TrAt w v t) : TrAt w.drew v t := h.like (like_drew w)
theorem NCells.drew (h : NCells w b k x s lv rv) : NCells w.drew b k x s lv rv := h.turned ((like_drew w).turn _)

set_option maxRecDepth 100000 in
set_option maxHeartbeats 1000000 in
theorem with_any (hn : NCells w b k x s lv rv) (hl : TrAt w (.pointer pl) l) (hr : TrAt w (.pointer pr) r) (sl : Small l) (sr : Small r) :
    Calls Tryz.prog 111 #[.pointer (some ⟨b, 0, none⟩), .pointer pl, .pointer pr] w (Made w (made k x l r)) := by
  have c0 := hn.c0
  have c1 := hn.c1
  have c1b := hn.c1b
  have c1c := hn.c1c
  have c1d := hn.c1d
  have c1e := hn.c1e
  have HM := Lib.hid (made_any hl.drew hr.drew sl sr k x)
  clear hn hl hr sl sr
  go_enter Tryz.func111, Tryz.ntmps111
  go_wp2_with fail
  go_still_tail 10, (by kernel_rfl)
  change wpList _ _ _ _ _ w.drew
  go_wp2_with (go_at_call 90; refine HM.out.mono ?_; rintro e w1 ⟨p, rfl, hp, ht⟩)
  go_ret
  exact ⟨p, rfl, hp, (Turn.refl _ _).drew.trans ht (fun _ _ q => q)⟩

end
end Go.Proofs.YtnlanemldapfiaaGreat.se
