/-
  PARTS: WDrop, WCutTo.
-/
import Derived.Test.YtinghngnehhgfaaGreatDoorWG
import Derived.Test.YtinghngnehhgfaaGreatDoorWB
/-
  Drop; Segment, First, Cut.
-/
namespace Go.Proofs.YtinghngnehhgfaaGreatDoor
open Go.RowKit Go.Maps Go.WideMaps

section
variable {w0 w w' : World} {p lp : Nat} {S S' : Fsp.Fs} {c c' : Bool} {Q : Nat → Prop} {mo : Option Nat} {pl : List UInt8 → Pl} {l l' : Walp.Lg}

theorem segment_is (hx : LogX w0 w p S Q lp l) : Calls Tryz.prog 13 #[.pointer (some ⟨lp, 0, none⟩)] w fun r w' => r = .returned (.int .i64 (l.last : Nat)) ∧ w = w' := by
  have c4 := hx.log.cells.c4
  go_enter Tryz.func13, Tryz.ntmps13
  go_wp2
  go_ret
  exact ⟨rfl, rfl⟩

theorem first_is (hx : LogX w0 w p S Q lp l) : Calls Tryz.prog 14 #[.pointer (some ⟨lp, 0, none⟩)] w fun r w' => r = .returned (.int .i64 (l.first : Nat)) ∧ w = w' := by
  have c3 := hx.log.cells.c3
  go_enter Tryz.func14, Tryz.ntmps14
  go_wp2
  go_ret
  exact ⟨rfl, rfl⟩



theorem remove_seg {w1 : World} (hr : Rep w1 p S Q) (hs : StepsLow S) (d : List UInt8) (n : Nat) (hd : d.length ≤ 1000) {S1 : Fsp.Fs} {e : Nat} (he : Fsp.remove S (Walp.seg d n) = (S1, e)) :
    Calls Tryz.prog 29 #[.pointer (some ⟨p, 0, none⟩), .string (segName (txt d) n)] w1 fun r w' => r = .returned (.int .i64 (e : Int)) ∧ Post w1 p S1 Q w' := by
  obtain ⟨mo, pl, hr⟩ := hr
  refine (remove_any hr hs.ok (segName (txt d) n) (seg_size d n hd)).mono ?_
  rintro r w' ⟨rfl, hp⟩
  rw [segName_list, txt_list, he] at hp ⊢
  exact ⟨rfl, hp⟩

theorem remove_steps (S : Fsp.Fs) (n : List UInt8) : (Fsp.remove S n).1.steps ≤ S.steps + 1 := by
  have h := steps_stepped S
  unfold Fsp.remove
  repeat' split
  all_goals first | (show S.steps ≤ S.steps + 1; omega) | exact h

/-- so many of the first segments dropped -/
def drops : Nat → Fsp.Fs → Walp.Lg → Fsp.Fs × Walp.Lg
  | 0, S, l => (S, l)
  | k + 1, S, l => ((Fsp.remove (drops k S l).1 (Walp.seg (drops k S l).2.dir (drops k S l).2.first)).1, { (drops k S l).2 with first := (drops k S l).2.first + 1 })

theorem drops_l (k : Nat) (S : Fsp.Fs) (l : Walp.Lg) : (drops k S l).2 = { l with first := l.first + k } := by
  induction k with
  | zero => rfl
  | succ k ih => simp only [drops, ih]; rfl

theorem drops_steps (k : Nat) (S : Fsp.Fs) (l : Walp.Lg) : (drops k S l).1.steps ≤ S.steps + k := by
  induction k with
  | zero => exact Nat.le_refl _
  | succ k ih =>
    have := remove_steps (drops k S l).1 (Walp.seg (drops k S l).2.dir (drops k S l).2.first)
    simp only [drops]; omega

theorem drop_stuck (hx : LogX w0 w p S Q lp l) (hst : l.stuck = true) (n : Int) :
    Calls Tryz.prog 10 #[.pointer (some ⟨lp, 0, none⟩), .int .i64 n] w fun r w' => r = .returned (.int .i64 25) ∧ w = w' := by
  go_enter Tryz.func10, Tryz.ntmps10
  go_wp2_with (go_at_call 26; refine (isStuck_any hx.log hst).mono ?_; rintro r w' ⟨rfl, rfl⟩)
  go_ret
  exact ⟨rfl, rfl⟩

theorem drop_range (hx : LogX w0 w p S Q lp l) (hst : l.stuck = false) (n : Int) (hn : (l.last : Int) < n) :
    Calls Tryz.prog 10 #[.pointer (some ⟨lp, 0, none⟩), .int .i64 n] w fun r w' => r = .returned (.int .i64 6) ∧ w = w' := by
  have c4 := hx.log.cells.c4
  have HX := Lib.hid hx
  clear hx
  go_enter Tryz.func10, Tryz.ntmps10
  go_wp2_with (go_at_call 26; refine (isStuck_any HX.out.log hst).mono ?_; rintro r w' ⟨rfl, rfl⟩)
  go_ret
  exact ⟨rfl, rfl⟩

/-- the first segment's number, read off the world -/
def firstOf (w : World) (lp : Nat) : Int := match w.cell? ⟨lp, 3, none⟩ with
  | some (.int _ n) => n
  | _ => 0

set_option maxRecDepth 100000 in
set_option maxHeartbeats 2000000 in
theorem drop_ok (hx : LogX w0 w p S Q lp l) (hst : l.stuck = false) (hd : l.dir.length ≤ 1000) (n : Int) (hn : n ≤ (l.last : Int)) (hl : l.last < 100) (h1 : 1 ≤ l.first) (k : Nat) (hk : n ≤ (l.first : Int) + k) (hk2 : k = 0 ∨ (l.first : Int) + k = n) (hs : S.steps + 200 < 4611686018427387000)
    (hok : ∀ j, j < k → (Fsp.remove (drops j S l).1 (Walp.seg (drops j S l).2.dir (drops j S l).2.first)).2 = 0) :
    Calls Tryz.prog 10 #[.pointer (some ⟨lp, 0, none⟩), .int .i64 n] w fun r w' => r = .returned (.int .i64 0) ∧ LogP w0 w p (drops k S l).1 Q lp (drops k S l).2 w' := by
  have c4 := hx.log.cells.c4
  have hn' : ¬ (l.last : Int) < n := by omega
  have HX := Lib.hid hx
  have HST := Lib.hid hst
  have HD := Lib.hid hd
  have HL := Lib.hid hl
  have H1 := Lib.hid h1
  have HK := Lib.hid hk
  have HK2 := Lib.hid hk2
  have HS := Lib.hid hs
  have HOK := Lib.hid hok
  have HN := Lib.hid hn
  clear hx hst hd hl h1 hk hk2 hs hok
  go_enter Tryz.func10, Tryz.ntmps10
  go_wp2_with (go_at_call 26; refine (isStuck_any HX.out.log HST.out).mono ?_; rintro r w' ⟨rfl, rfl⟩)
  clear c4 hn'
  go_loopw [5] (fun _ wr => ∃ j : Nat, j ≤ k ∧ LogP w0 w p (drops j S l).1 Q lp (drops j S l).2 wr) (fun _ wr => (n - firstOf wr lp).toNat)
  case atStart => exact ⟨0, Nat.zero_le _, HX.out.same⟩
  case round =>
    obtain ⟨j, hj, hP⟩ := hrel
    have hfj := hP.1.log.cells.c3
    have hlj := drops_l j S l
    have hsj := drops_steps j S l
    have hfo : firstOf wr lp = ((drops j S l).2.first : Nat) := by unfold firstOf; rw [hfj]
    by_cases hlt : j < k
    · obtain ⟨S1, hr⟩ : ∃ S1, Fsp.remove (drops j S l).1 (Walp.seg (drops j S l).2.dir (drops j S l).2.first) = (S1, 0) := ⟨_, Prod.ext rfl (HOK.out j hlt)⟩
      have hnext : drops (j + 1) S l = (S1, { (drops j S l).2 with first := (drops j S l).2.first + 1 }) := by simp only [drops, hr]
      obtain ⟨SJ, hSJ⟩ : ∃ SJ, SJ = (drops j S l).1 := ⟨_, rfl⟩
      obtain ⟨lj, hlj2⟩ : ∃ lj, lj = (drops j S l).2 := ⟨_, rfl⟩
      rw [← hSJ] at hP hsj hr
      rw [← hlj2] at hP hfj hlj hr hnext hfo
      have hdj : lj.dir.length ≤ 1000 := by rw [hlj]; exact HD.out
      have hff : lj.first = l.first + j := by rw [hlj]
      have hst : StepsLow SJ := by have := HS.out; have := HL.out; have := HN.out; have := HK2.out; unfold StepsLow; omega
      have hlow : 1 ≤ lj.first := by have := H1.out; omega
      have hhigh : lj.first < 100 := by have := HL.out; have := HN.out; have := HK2.out; omega
      have i1 : (lj.first : Int) < n := by have := HK2.out; omega
      have hdir : lj.dir = l.dir := by rw [hlj]
      have c0 := hP.1.log.cells.c0
      have c1 := hP.1.log.cells.c1
      have HP := Lib.hid hP
      have HR := Lib.hid hr
      have HNX := Lib.hid hnext
      have HDJ := Lib.hid hdj
      have HSJ := Lib.hid hst
      have HLO := Lib.hid hlow
      have HHI := Lib.hid hhigh
      have HFO := Lib.hid hfo
      have HLT := Lib.hid hlt
      clear hP hr hnext hSJ hlj2 hdj hst hff hlj hsj hlow hfo hdir hhigh hlt
      go_wp2_with fail
      go_region_held3 (fun w' => w'.cell? ⟨lp, 0, none⟩ = some (.pointer (some ⟨p, 0, none⟩)) ∧ w'.cell? ⟨lp, 1, none⟩ = some (.string (txt lj.dir)) ∧ w'.cell? ⟨lp, 3, none⟩ = some (.int .i64 (lj.first : Nat))) (first | (exact ⟨q0, q1, q3⟩) | (exact ⟨c0, c1, hfj⟩) | go_keep) (first | (go_at_call 21; refine (name_any (txt lj.dir) (txt_size _ HDJ.out) lj.first HLO.out HHI.out _).mono ?_; rintro r w2 ⟨rfl, t2⟩; have hx2 := HP.out.1.later (drewTurn t2); have q0 := hx2.log.cells.c0; have q1 := hx2.log.cells.c1; have q3 := hx2.log.cells.c3) | (go_at_call 29; refine (remove_seg hx2.rep HSJ.out lj.dir lj.first HDJ.out HR.out).mono ?_; rintro r w3 ⟨rfl, hp3⟩; have hx3 := hx2.post hp3; have q0 := hx3.log.cells.c0; have q1 := hx3.log.cells.c1; have q3 := hx3.log.cells.c3) | (go_at_call 27; refine (met_no 0 (by decide) _ _).mono ?_; rintro r w4 ⟨rfl, rfl⟩))
      have f3 := hx3.log.cells.fr 3
      have i3 : (lj.first : Int) ≤ 1000 := by have := HHI.out; omega
      have hP4 := HP.out.trans (HP.out.1.call (drewTurn t2) hp3)
      have hset : LogAt (w3.setCell ⟨lp, 3, none⟩ (.int .i64 ((lj.first : Int) + 1))) lp p { lj with first := lj.first + 1 } := hx3.log.set (by rfl)
      have hP5 := hP4.set hset
      have HP5 := Lib.hid hP5
      have HST5 := Lib.hid hset
      clear hP5 hP4 hset hx3 hx2
      go_wp2
      go_roundw
      case rel => exact ⟨j + 1, by have := HLT.out; omega, by rw [HNX.out]; exact HP5.out⟩
      case measure =>
        have e5 : firstOf (w3.setCell ⟨lp, 3, none⟩ (.int .i64 ((lj.first : Int) + 1))) lp = (lj.first : Int) + 1 := by
          unfold firstOf; rw [HST5.out.cells.c3]; rfl
        rw [e5, HFO.out]; omega
    · have hj0 : j = k := by omega
      subst hj0
      have i1 : ¬ (((drops j S l).2.first : Nat) : Int) < n := by
        rw [hlj]; show ¬ ((l.first + j : Nat) : Int) < n
        have := HK.out; omega
      have HP := Lib.hid hP
      clear hP hlj hsj hfo
      go_wp2
      go_ret
      exact ⟨rfl, HP.out⟩

end
end Go.Proofs.YtinghngnehhgfaaGreatDoor

/-
  cutTo of a log; find.
-/
namespace Go.Proofs.YtinghngnehhgfaaGreatDoor
open Go.RowKit Go.Maps Go.WideMaps

section
variable {w0 w w' : World} {p lp : Nat} {S S' : Fsp.Fs} {c c' : Bool} {Q : Nat → Prop} {mo : Option Nat} {pl : List UInt8 → Pl} {l l' : Walp.Lg}

theorem truncate_seg {w1 : World} (hr : Rep w1 p S Q) (hs : StepsLow S) (d : List UInt8) (n : Nat) (hd : d.length ≤ 1000) (k : Int) {S1 : Fsp.Fs} {e : Nat} (he : Fsp.truncate S (Walp.seg d n) k = (S1, e)) :
    Calls Tryz.prog 63 #[.pointer (some ⟨p, 0, none⟩), .string (segName (txt d) n), .int .i64 k] w1 fun r w' => r = .returned (.int .i64 (e : Int)) ∧ Post w1 p S1 Q w' := by
  obtain ⟨mo, pl, hr⟩ := hr
  refine (truncate_any hr hs.ok (segName (txt d) n) (seg_size d n hd) k).mono ?_
  rintro r w' ⟨rfl, hp⟩
  rw [segName_list, txt_list, he] at hp ⊢
  exact ⟨rfl, hp⟩

theorem truncate_steps (S : Fsp.Fs) (n : List UInt8) (k : Int) : (Fsp.truncate S n k).1.steps ≤ S.steps + 1 := by
  have h := steps_stepped S
  unfold Fsp.truncate
  repeat' split
  all_goals first | (show S.steps ≤ S.steps + 1; omega) | exact h

theorem cutTo_ok (hx : LogX w0 w p S Q lp l) (hd : l.dir.length ≤ 1000) (h1 : 1 ≤ l.last) (hl : l.last < 100) (hs : S.steps + 10 < 4611686018427387000) (n : Nat) {S1 S2 : Fsp.Fs}
    (ht : Fsp.truncate S (Walp.seg l.dir l.last) n = (S1, 0)) {e2 : Nat} (hy : Fsp.sync S1 (Walp.seg l.dir l.last) = (S2, e2)) :
    Calls Tryz.prog 46 #[.pointer (some ⟨lp, 0, none⟩), .int .i64 (n : Nat)] w fun r w' => r = .returned (.int .i64 (e2 : Nat)) ∧ LogP w0 w p S2 Q lp l w' := by
  have c0 := hx.log.cells.c0
  have c1 := hx.log.cells.c1
  have c4 := hx.log.cells.c4
  have hst1 : StepsLow S1 := by
    have h := truncate_steps S (Walp.seg l.dir l.last) n
    rw [ht] at h
    unfold StepsLow; simp only at h; omega
  have hst : StepsLow S := by unfold StepsLow; omega
  have HX := Lib.hid hx
  have HD := Lib.hid hd
  have HS := Lib.hid hst
  have HS1 := Lib.hid hst1
  have H1 := Lib.hid h1
  have HL := Lib.hid hl
  have HT := Lib.hid ht
  have HY := Lib.hid hy
  clear hx hd hst hst1 h1 hl hs ht hy
  go_enter Tryz.func46, Tryz.ntmps46
  go_wp2_with fail
  go_region_held3 (fun w' => w'.cell? ⟨lp, 0, none⟩ = some (.pointer (some ⟨p, 0, none⟩)) ∧ w'.cell? ⟨lp, 1, none⟩ = some (.string (txt l.dir)) ∧ w'.cell? ⟨lp, 4, none⟩ = some (.int .i64 (l.last : Nat))) (first | (exact ⟨q0, q1, q4⟩) | (exact ⟨c0, c1, c4⟩) | go_keep) (first | (go_at_call 21; refine (name_any (txt l.dir) (txt_size _ HD.out) l.last H1.out HL.out _).mono ?_; rintro r w2 ⟨rfl, t2⟩; have hx2 := HX.out.later (drewTurn t2); have q0 := hx2.log.cells.c0; have q1 := hx2.log.cells.c1; have q4 := hx2.log.cells.c4))
  clear c0 c1 c4
  go_wp2_with (first | (go_at_call 63; refine (truncate_seg hx2.rep HS.out l.dir l.last HD.out n HT.out).mono ?_; rintro r w3 ⟨rfl, hp3⟩; have hP3 := HX.out.call (drewTurn t2) hp3; have r0 := hP3.1.log.cells.c0) | (go_at_call 35; refine (sync_seg hP3.1.rep HS1.out l.dir l.last HD.out HY.out).mono ?_; rintro r w4 ⟨rfl, hp4⟩))
  go_ret
  exact ⟨rfl, hP3.trans (hP3.1.call (Turn.refl _ _) hp4)⟩

end
end Go.Proofs.YtinghngnehhgfaaGreatDoor
