/-
  cutTo of a log; find.
-/
import Derived.Test.YtjjajnfkngfpjaaGreatDoorWDrop
import Derived.Test.YtjjajnfkngfpjaaGreatDoorWTexts
namespace Go.Proofs.YtjjajnfkngfpjaaGreatDoor
open Go.RowKit Go.Maps Go.WideMaps

section
variable {w0 w w' : World} {p lp : Nat} {S S' : Fsp.Fs} {c c' : Bool} {Q : Nat → Prop} {mo : Option Nat} {pl : List UInt8 → Pl} {l l' : Walp.Lg}

theorem truncate_seg {w1 : World} (hr : Rep w1 p S Q) (hs : StepsLow S) (d : List UInt8) (n : Nat) (hd : d.length ≤ 1000) (k : Int) {S1 : Fsp.Fs} {e : Nat} (he : Fsp.truncate S (Walp.seg d n) k = (S1, e)) :
    Calls Tryz.prog 88 #[.pointer (some ⟨p, 0, none⟩), .string (segName (txt d) n), .int .i64 k] w1 fun r w' => r = .returned (.int .i64 (e : Int)) ∧ Post w1 p S1 Q w' := by
  obtain ⟨mo, pl, hr⟩ := hr
  refine (truncate_any hr hs.ok (segName (txt d) n) (seg_size d n hd) k).mono ?_
  rintro r w' ⟨rfl, hp⟩
  rw [segName_list, txt_list, he] at hp ⊢
  exact ⟨rfl, hp⟩

theorem truncate_steps (S : Fsp.Fs) (n : List UInt8) (k : Int) : (Fsp.truncate S n k).1.steps ≤ S.steps + 1 := by
  have h := steps_stepped S
  unfold Fsp.truncate
  repeat' split
  all_goals first | (show S.steps ≤ S.steps + 1; omega) | exact h

theorem cutTo_ok (hx : LogX w0 w p S Q lp l) (hd : l.dir.length ≤ 1000) (h1 : 1 ≤ l.last) (hl : l.last < 100) (hs : S.steps + 10 < 4611686018427387000) (n : Nat) {S1 S2 : Fsp.Fs}
    (ht : Fsp.truncate S (Walp.seg l.dir l.last) n = (S1, 0)) {e2 : Nat} (hy : Fsp.sync S1 (Walp.seg l.dir l.last) = (S2, e2)) :
    Calls Tryz.prog 72 #[.pointer (some ⟨lp, 0, none⟩), .int .i64 (n : Nat)] w fun r w' => r = .returned (.int .i64 (e2 : Nat)) ∧ LogP w0 w p S2 Q lp l w' := by
  have c0 := hx.log.cells.c0
  have c1 := hx.log.cells.c1
  have c4 := hx.log.cells.c4
  have hst1 : StepsLow S1 := by
    have h := truncate_steps S (Walp.seg l.dir l.last) n
    rw [ht] at h
    unfold StepsLow; simp only at h; omega
  have hst : StepsLow S := by unfold StepsLow; omega
  have HX := Lib.hid hx
  have HD := Lib.hid hd
  have HS := Lib.hid hst
  have HS1 := Lib.hid hst1
  have H1 := Lib.hid h1
  have HL := Lib.hid hl
  have HT := Lib.hid ht
  have HY := Lib.hid hy
  clear hx hd hst hst1 h1 hl hs ht hy
  go_enter Tryz.func72, Tryz.ntmps72
  go_wp2_with fail
  go_region_held3 (fun w' => w'.cell? ⟨lp, 0, none⟩ = some (.pointer (some ⟨p, 0, none⟩)) ∧ w'.cell? ⟨lp, 1, none⟩ = some (.string (txt l.dir)) ∧ w'.cell? ⟨lp, 4, none⟩ = some (.int .i64 (l.last : Nat))) (first | (exact ⟨q0, q1, q4⟩) | (exact ⟨c0, c1, c4⟩) | go_keep) (first | (go_at_call 29; refine (name_any (txt l.dir) (txt_size _ HD.out) l.last H1.out HL.out _).mono ?_; rintro r w2 ⟨rfl, t2⟩; have hx2 := HX.out.later (drewTurn t2); have q0 := hx2.log.cells.c0; have q1 := hx2.log.cells.c1; have q4 := hx2.log.cells.c4))
  clear c0 c1 c4
  go_wp2_with (first | (go_at_call 88; refine (truncate_seg hx2.rep HS.out l.dir l.last HD.out n HT.out).mono ?_; rintro r w3 ⟨rfl, hp3⟩; have hP3 := HX.out.call (drewTurn t2) hp3; have r0 := hP3.1.log.cells.c0) | (go_at_call 45; refine (sync_seg hP3.1.rep HS1.out l.dir l.last HD.out HY.out).mono ?_; rintro r w4 ⟨rfl, hp4⟩))
  go_ret
  exact ⟨rfl, hP3.trans (hP3.1.call (Turn.refl _ _) hp4)⟩

end
end Go.Proofs.YtjjajnfkngfpjaaGreatDoor
