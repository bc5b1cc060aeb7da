/-
  made, with, turnLeft, turnRight, over. (si)
-/
import Derived.Test.YtblaicejpijfbaaTTreeSi
import Derived.Deep.RegionHeld3
namespace Go.Proofs.Ytblaicejpijfbaa.si
open Go.RowKit Go.Maps Go.WideMaps Go.Proofs.Ytblaicejpijfbaa.Tb

section
variable {w : World} {b s : Nat} {k : Key} {x : Val} {lv rv pl pr : Option Addr} {l r : Tr Key Val}

set_option maxHeartbeats 400000 in
theorem made_any (hl : TrAt w (.pointer pl) l) (hr : TrAt w (.pointer pr) r) (sl : Small l) (sr : Small r) (k : Key) (x : Val) :
    Calls Try.prog 55 #[keyV k, valV x, .pointer pl, .pointer pr] w (Made w (made k x l r)) := by
  have HL := Lib.hid hl
  have HR := Lib.hid hr
  unfold Small at sl sr
  obtain ⟨a, ha⟩ : ∃ a, a = l.count := ⟨_, rfl⟩
  obtain ⟨c, hc⟩ : ∃ c, c = r.count := ⟨_, rfl⟩
  have cl := count_any hl
  have cr := count_any hr
  rw [← ha] at cl sl
  rw [← hc] at cr sr
  have HA := Lib.hid ha
  have HC := Lib.hid hc
  have HCL := Lib.hid cl
  have HCR := Lib.hid cr
  have i0 : (0 : Int) ≤ (a : Int) := by omega
  have i1 : (a : Int) < 1000000000000 := by omega
  have i2 : (0 : Int) ≤ (c : Int) := by omega
  have i3 : (c : Int) < 1000000000000 := by omega
  clear hl hr sl sr ha hc cl cr
  go_enter Try.func55, Try.ntmps55
  go_wp2_with fail
  go_at_call 42
  refine HCL.out.mono ?_
  rintro e w' ⟨rfl, rfl⟩
  go_wp2_with fail
  go_at_call 42
  refine HCR.out.mono ?_
  rintro e w' ⟨rfl, rfl⟩
  go_wp2
  go_ret
  have ht : Turn (fun _ => False) w (w.alloc (.cells #[keyV k, valV x, .int .i64 ((a : Int) + c + 1), .pointer pl, .pointer pr] 92)) := turnBox w _
  refine ⟨_, rfl, ⟨w.heap.size, pl, pr, rfl, ?_, HL.out.later ht, HR.out.later ht⟩, ht⟩
  rw [heap_alloc_new, ← HA.out, ← HC.out]
  have e : ((a + c + 1 : Nat) : Int) = (a : Int) + c + 1 := by omega
  rw [e]

theorem TrAt.drew {v : Value} {t : Tr Key Val} (h : TrAt w v t) : TrAt w.drew v t := h.like (like_drew w)
theorem NCells.drew (h : NCells w b k x s lv rv) : NCells w.drew b k x s lv rv := h.turned ((like_drew w).turn _)

set_option maxHeartbeats 400000 in
theorem with_any (hn : NCells w b k x s lv rv) (hl : TrAt w (.pointer pl) l) (hr : TrAt w (.pointer pr) r) (sl : Small l) (sr : Small r) :
    Calls Try.prog 74 #[.pointer (some ⟨b, 0, none⟩), .pointer pl, .pointer pr] w (Made w (made k x l r)) := by
  have c0 := hn.c0
  have c1 := hn.c1
  have HM := Lib.hid (made_any hl.drew hr.drew sl sr k x)
  clear hn hl hr sl sr
  go_enter Try.func74, Try.ntmps74
  go_wp2_with fail
  go_region_held3 (fun w' => w'.cell? ⟨b, 0, none⟩ = some (keyV k) ∧ w'.cell? ⟨b, 1, none⟩ = some (valV x)) (first | (exact ⟨turn_cell ht c0, turn_cell ht c1⟩) | go_keep) (first | (go_at_call 55; refine HM.out.mono ?_; rintro e w1 ⟨p, rfl, hp, ht⟩))
  go_wp2
  go_ret
  exact ⟨p, rfl, hp, (Turn.refl _ _).drew.trans ht (fun _ _ q => q)⟩

end
end Go.Proofs.Ytblaicejpijfbaa.si
