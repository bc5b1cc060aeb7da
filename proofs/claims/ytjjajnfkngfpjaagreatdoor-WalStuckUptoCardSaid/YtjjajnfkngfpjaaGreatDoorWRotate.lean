/-
  Rotate.
-/
import Derived.Test.YtjjajnfkngfpjaaGreatDoorWLog
namespace Go.Proofs.YtjjajnfkngfpjaaGreatDoor
open Go.RowKit Go.Maps Go.WideMaps

section
variable {w0 w w' : World} {p lp : Nat} {S S' : Fsp.Fs} {c c' : Bool} {Q : Nat → Prop} {mo : Option Nat} {pl : List UInt8 → Pl} {l l' : Walp.Lg}

def StepsLow (S : Fsp.Fs) : Prop := S.steps < 4611686018427387000
theorem StepsLow.ok (h : StepsLow S) : StepsOk S := by unfold StepsLow at h; unfold StepsOk; omega

theorem seg_size (d : List UInt8) (n : Nat) (h : d.length ≤ 1000) : (segName (txt d) n).size ≤ maxLen := by
  rw [Lib.size_eq, segName_list, Walp.seg_length]; show d.length + 9 ≤ _; unfold maxLen; omega
theorem txt_size (d : List UInt8) (h : d.length ≤ 1000) : (txt d).size ≤ 1000 := by rw [Lib.size_eq]; exact h

theorem create_seg {w1 : World} (hr : Rep w1 p S Q) (hs : StepsLow S) (d : List UInt8) (n : Nat) (hd : d.length ≤ 1000) {S1 : Fsp.Fs} {e : Nat} (he : Fsp.create S (Walp.seg d n) = (S1, e)) :
    Calls Tryz.prog 38 #[.pointer (some ⟨p, 0, none⟩), .string (segName (txt d) n)] w1 fun r w' => r = .returned (.int .i64 (e : Int)) ∧ Post w1 p S1 Q w' := by
  obtain ⟨mo, pl, hr⟩ := hr
  refine (create_any hr hs.ok (segName (txt d) n) (seg_size d n hd)).mono ?_
  rintro r w' ⟨rfl, hp⟩
  rw [segName_list, txt_list, he] at hp ⊢
  exact ⟨rfl, hp⟩

theorem rotate_stuck (hx : LogX w0 w p S Q lp l) (hst : l.stuck = true) :
    Calls Tryz.prog 32 #[.pointer (some ⟨lp, 0, none⟩)] w fun r w' => r = .returned (.int .i64 25) ∧ w = w' := by
  go_enter Tryz.func32, Tryz.ntmps32
  go_wp2_with (go_at_call 51; refine (isStuck_any hx.log hst).mono ?_; rintro r w' ⟨rfl, rfl⟩)
  go_ret
  exact ⟨rfl, rfl⟩

set_option maxRecDepth 100000 in
set_option maxHeartbeats 1000000 in
theorem rotate_err (hx : LogX w0 w p S Q lp l) (hst : l.stuck = false) (hs : StepsLow S) (hd : l.dir.length ≤ 1000) (hlast : l.last < 99) {S1 : Fsp.Fs} {e : Nat} (he : Fsp.create S (Walp.seg l.dir (l.last + 1)) = (S1, e)) (h0 : e ≠ 0) (h5 : e ≠ 5) :
    Calls Tryz.prog 32 #[.pointer (some ⟨lp, 0, none⟩)] w fun r w' => r = .returned (.int .i64 (e : Int)) ∧ LogP w0 w p S1 Q lp l w' := by
  have c0 := hx.log.cells.c0
  have c1 := hx.log.cells.c1
  have c4 := hx.log.cells.c4
  obtain ⟨n1, hn1⟩ : ∃ n1, n1 = l.last + 1 := ⟨_, rfl⟩
  rw [← hn1] at he
  have b0 : ((e : Int) != 0) = true := by rw [bne_iff_ne]; omega
  have i1 : decide ((99999999 : Int) ≤ (l.last : Int)) = false := by rw [decide_eq_false_iff_not]; omega
  have HX := Lib.hid hx
  have HE := Lib.hid he
  have H5 := Lib.hid h5
  have HN := Lib.hid hn1
  have HL := Lib.hid hlast
  have HS := Lib.hid hs
  have HD := Lib.hid hd
  have HST := Lib.hid hst
  clear hx he h0 h5 hn1 hlast hs hd hst
  go_enter Tryz.func32, Tryz.ntmps32
  go_wp2_with (go_at_call 51; refine (isStuck_any HX.out.log HST.out).mono ?_; rintro r w' ⟨rfl, rfl⟩)
  have hw1 : IntKind.i64.wrap ((l.last : Int) + 1) = (n1 : Int) := by have := HN.out; have := HL.out; rw [IntWalk.i64_in _ (by omega)]; omega
  go_region_held3 (fun w' => w'.cell? ⟨lp, 0, none⟩ = some (.pointer (some ⟨p, 0, none⟩)) ∧ w'.cell? ⟨lp, 1, none⟩ = some (.string (txt l.dir)) ∧ w'.cell? ⟨lp, 4, none⟩ = some (.int .i64 (l.last : Nat))) (first | (exact ⟨q0, q1, q4⟩) | (exact ⟨c0, c1, c4⟩) | go_keep) (first | (go_at_call 29; refine (name_any (txt l.dir) (txt_size _ HD.out) n1 (by have := HN.out; omega) (by have := HN.out; have := HL.out; omega) _).mono ?_; rintro r w2 ⟨rfl, t2⟩; have hx2 := HX.out.later ((Turn.refl (fun _ => False) w).drew.trans t2 (fun _ _ q => q)); have q0 := hx2.log.cells.c0; have q1 := hx2.log.cells.c1; have q4 := hx2.log.cells.c4) | (go_at_call 38; refine (create_seg hx2.rep HS.out l.dir n1 HD.out HE.out).mono ?_; rintro r w3 ⟨rfl, hp3⟩; have hx3 := hx2.post hp3; have q0 := hx3.log.cells.c0; have q1 := hx3.log.cells.c1; have q4 := hx3.log.cells.c4) | (go_at_call 53; refine (met_no e H5.out _ _).mono ?_; rintro r w4 ⟨rfl, rfl⟩))
  go_wp2
  go_ret
  exact ⟨rfl, HX.out.call ((Turn.refl (fun _ => False) w).drew.trans t2 (fun _ _ q => q)) hp3⟩

set_option maxRecDepth 100000 in
set_option maxHeartbeats 1000000 in
theorem rotate_down (hx : LogX w0 w p S Q lp l) (hst : l.stuck = false) (hs : StepsLow S) (hd : l.dir.length ≤ 1000) (hlast : l.last < 99) {S1 : Fsp.Fs} (he : Fsp.create S (Walp.seg l.dir (l.last + 1)) = (S1, 5)) :
    Calls Tryz.prog 32 #[.pointer (some ⟨lp, 0, none⟩)] w fun r w' => r = .returned (.int .i64 5) ∧ LogP w0 w p S1 Q lp { l with stuck := true } w' := by
  have c0 := hx.log.cells.c0
  have c1 := hx.log.cells.c1
  have c4 := hx.log.cells.c4
  obtain ⟨n1, hn1⟩ : ∃ n1, n1 = l.last + 1 := ⟨_, rfl⟩
  rw [← hn1] at he
  have i1 : decide ((99999999 : Int) ≤ (l.last : Int)) = false := by rw [decide_eq_false_iff_not]; omega
  have HX := Lib.hid hx
  have HE := Lib.hid he
  have HN := Lib.hid hn1
  have HL := Lib.hid hlast
  have HS := Lib.hid hs
  have HD := Lib.hid hd
  have HST := Lib.hid hst
  clear hx he hn1 hlast hs hd hst
  go_enter Tryz.func32, Tryz.ntmps32
  go_wp2_with (go_at_call 51; refine (isStuck_any HX.out.log HST.out).mono ?_; rintro r w' ⟨rfl, rfl⟩)
  have hw1 : IntKind.i64.wrap ((l.last : Int) + 1) = (n1 : Int) := by have := HN.out; have := HL.out; rw [IntWalk.i64_in _ (by omega)]; omega
  go_region_held3 (fun w' => w'.cell? ⟨lp, 0, none⟩ = some (.pointer (some ⟨p, 0, none⟩)) ∧ w'.cell? ⟨lp, 1, none⟩ = some (.string (txt l.dir)) ∧ w'.cell? ⟨lp, 4, none⟩ = some (.int .i64 (l.last : Nat))) (first | (exact ⟨q0, q1, q4⟩) | (exact ⟨c0, c1, c4⟩) | go_keep) (first | (go_at_call 29; refine (name_any (txt l.dir) (txt_size _ HD.out) n1 (by have := HN.out; omega) (by have := HN.out; have := HL.out; omega) _).mono ?_; rintro r w2 ⟨rfl, t2⟩; have hx2 := HX.out.later ((Turn.refl (fun _ => False) w).drew.trans t2 (fun _ _ q => q)); have q0 := hx2.log.cells.c0; have q1 := hx2.log.cells.c1; have q4 := hx2.log.cells.c4) | (go_at_call 38; refine (create_seg hx2.rep HS.out l.dir n1 HD.out HE.out).mono ?_; rintro r w3 ⟨rfl, hp3⟩; have hx3 := hx2.post hp3; have q0 := hx3.log.cells.c0; have q1 := hx3.log.cells.c1; have q4 := hx3.log.cells.c4) | (go_at_call 53; refine (met_yes hx3.log).mono ?_; rintro r w4 ⟨rfl, rfl⟩; have hl4 := hx3.log.set (j := 6) (v := .bool true) (l' := { l with stuck := true }) rfl; have q0 := hl4.cells.c0; have q1 := hl4.cells.c1; have q4 := hl4.cells.c4))
  go_wp2
  go_ret
  have hfin := HX.out.call ((Turn.refl (fun _ => False) w).drew.trans t2 (fun _ _ q => q)) hp3
  exact ⟨rfl, hfin.set (hx3.log.set (l' := { l with stuck := true }) rfl)⟩

set_option maxRecDepth 100000 in
set_option maxHeartbeats 1000000 in
theorem rotate_ok (hx : LogX w0 w p S Q lp l) (hst : l.stuck = false) (hs : StepsLow S) (hd : l.dir.length ≤ 1000) (hlast : l.last < 99) {S1 : Fsp.Fs} (he : Fsp.create S (Walp.seg l.dir (l.last + 1)) = (S1, 0)) :
    Calls Tryz.prog 32 #[.pointer (some ⟨lp, 0, none⟩)] w fun r w' => r = .returned (.int .i64 0) ∧ LogP w0 w p S1 Q lp { l with last := l.last + 1 } w' := by
  have c0 := hx.log.cells.c0
  have c1 := hx.log.cells.c1
  have c4 := hx.log.cells.c4
  obtain ⟨n1, hn1⟩ : ∃ n1, n1 = l.last + 1 := ⟨_, rfl⟩
  rw [← hn1] at he
  have i1 : decide ((99999999 : Int) ≤ (l.last : Int)) = false := by rw [decide_eq_false_iff_not]; omega
  have HX := Lib.hid hx
  have HE := Lib.hid he
  have HN := Lib.hid hn1
  have HL := Lib.hid hlast
  have HS := Lib.hid hs
  have HD := Lib.hid hd
  have HST := Lib.hid hst
  clear hx he hn1 hlast hs hd hst
  go_enter Tryz.func32, Tryz.ntmps32
  go_wp2_with (go_at_call 51; refine (isStuck_any HX.out.log HST.out).mono ?_; rintro r w' ⟨rfl, rfl⟩)
  have hw1 : IntKind.i64.wrap ((l.last : Int) + 1) = (n1 : Int) := by have := HN.out; have := HL.out; rw [IntWalk.i64_in _ (by omega)]; omega
  go_region_held3 (fun w' => w'.cell? ⟨lp, 0, none⟩ = some (.pointer (some ⟨p, 0, none⟩)) ∧ w'.cell? ⟨lp, 1, none⟩ = some (.string (txt l.dir)) ∧ w'.cell? ⟨lp, 4, none⟩ = some (.int .i64 (l.last : Nat))) (first | (exact ⟨q0, q1, q4⟩) | (exact ⟨c0, c1, c4⟩) | go_keep) (first | (go_at_call 29; refine (name_any (txt l.dir) (txt_size _ HD.out) n1 (by have := HN.out; omega) (by have := HN.out; have := HL.out; omega) _).mono ?_; rintro r w2 ⟨rfl, t2⟩; have hx2 := HX.out.later ((Turn.refl (fun _ => False) w).drew.trans t2 (fun _ _ q => q)); have q0 := hx2.log.cells.c0; have q1 := hx2.log.cells.c1; have q4 := hx2.log.cells.c4) | (go_at_call 38; refine (create_seg hx2.rep HS.out l.dir n1 HD.out HE.out).mono ?_; rintro r w3 ⟨rfl, hp3⟩; have hx3 := hx2.post hp3; have q0 := hx3.log.cells.c0; have q1 := hx3.log.cells.c1; have q4 := hx3.log.cells.c4) | (go_at_call 53; refine (met_no 0 (by decide) _ _).mono ?_; rintro r w4 ⟨rfl, rfl⟩))
  clear hw1
  have i2 : (l.last : Int) + 1 = (n1 : Int) := by have := HN.out; omega
  have i3 : (l.last : Int) < 1000 := by have := HL.out; omega
  have f4 := hx3.log.cells.fr 4
  go_wp2
  go_ret
  have hfin := HX.out.call ((Turn.refl (fun _ => False) w).drew.trans t2 (fun _ _ q => q)) hp3
  refine ⟨rfl, hfin.set (hx3.log.set (l' := { l with last := l.last + 1 }) ?_)⟩
  rw [HN.out]; rfl

theorem rotate_any (hx : LogX w0 w p S Q lp l) (hs : StepsLow S) (hd : l.dir.length ≤ 1000) (hlast : l.last < 99) :
    Calls Tryz.prog 32 #[.pointer (some ⟨lp, 0, none⟩)] w fun r w' => r = .returned (.int .i64 ((Walp.rotate S l).2 : Nat)) ∧ LogP w0 w p (Walp.rotate S l).1.1 Q lp (Walp.rotate S l).1.2 w' := by
  unfold Walp.rotate
  by_cases hst : l.stuck = true
  · rw [if_pos hst]
    refine (rotate_stuck hx hst).mono ?_
    rintro r w' ⟨rfl, rfl⟩
    exact ⟨rfl, hx.same⟩
  · rw [if_neg hst, if_neg (by omega)]
    have hst' : l.stuck = false := by simpa using hst
    obtain ⟨S1, e, he⟩ : ∃ S1 e, Fsp.create S (Walp.seg l.dir (l.last + 1)) = (S1, e) := ⟨_, _, rfl⟩
    rw [he]
    by_cases h0 : e = 0
    · subst h0
      exact rotate_ok hx hst' hs hd hlast he
    · rw [if_neg h0]
      by_cases h5 : e = 5
      · subst h5
        exact rotate_down hx hst' hs hd hlast he
      · have : Walp.met l e = l := by unfold Walp.met; rw [if_neg h5]
        show Calls _ _ _ _ (fun r w' => r = .returned (.int .i64 (e : Int)) ∧ LogP w0 w p S1 Q lp (Walp.met l e) w')
        rw [this]
        exact rotate_err hx hst' hs hd hlast he h0 h5

end
end Go.Proofs.YtjjajnfkngfpjaaGreatDoor
