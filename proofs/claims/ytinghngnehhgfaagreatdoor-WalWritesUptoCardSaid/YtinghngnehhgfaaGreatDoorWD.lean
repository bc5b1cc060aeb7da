/-
  PARTS: WLog, WRotate.
-/
import Derived.Test.YtinghngnehhgfaaGreatDoorWC
import Derived.Test.YtinghngnehhgfaaGreatDoorWA
import Derived.Deep.RegionHeld3
/-
  A log in memory; its small calls; Rotate.
-/
namespace Go.Proofs.YtinghngnehhgfaaGreatDoor
open Go.RowKit Go.Maps Go.WideMaps

def LogAt (w : World) (lp p : Nat) (l : Walp.Lg) : Prop :=
  w.heap[lp]? = some (.cells #[.pointer (some ⟨p, 0, none⟩), .string (txt l.dir), .int .i64 (l.size : Nat), .int .i64 (l.first : Nat), .int .i64 (l.last : Nat), .int .i64 (l.cut : Nat), .bool l.stuck] 53 (0, 0))

structure LogX (w0 w : World) (p : Nat) (S : Fsp.Fs) (Q : Nat → Prop) (lp : Nat) (l : Walp.Lg) : Prop where
  rep : Rep w p S Q
  log : LogAt w lp p l
  out : ¬ Q lp
  new : w0.heap.size ≤ lp
  newQ : ∀ b, Q b → w0.heap.size ≤ b
  turn : Turn (fun _ => False) w0 w

/-- what a call of a log leaves -/
def LogP (w0 w : World) (p : Nat) (S' : Fsp.Fs) (Q : Nat → Prop) (lp : Nat) (l' : Walp.Lg) (w' : World) : Prop := LogX w0 w' p S' (Grow Q w w') lp l' ∧ Turn (fun b => Q b ∨ b = lp) w w'

structure LCells (w : World) (lp p : Nat) (l : Walp.Lg) : Prop where
  c0 : w.cell? ⟨lp, 0, none⟩ = some (.pointer (some ⟨p, 0, none⟩))
  c1 : w.cell? ⟨lp, 1, none⟩ = some (.string (txt l.dir))
  c2 : w.cell? ⟨lp, 2, none⟩ = some (.int .i64 (l.size : Nat))
  c3 : w.cell? ⟨lp, 3, none⟩ = some (.int .i64 (l.first : Nat))
  c4 : w.cell? ⟨lp, 4, none⟩ = some (.int .i64 (l.last : Nat))
  c5 : w.cell? ⟨lp, 5, none⟩ = some (.int .i64 (l.cut : Nat))
  c6 : w.cell? ⟨lp, 6, none⟩ = some (.bool l.stuck)
  fr : ∀ j, w.frozen? ⟨lp, j, none⟩ = false

section
variable {w0 w w' : World} {p lp : Nat} {S S' : Fsp.Fs} {c c' : Bool} {Q : Nat → Prop} {mo : Option Nat} {pl : List UInt8 → Pl} {l l' : Walp.Lg}

theorem LogAt.cells (h : LogAt w lp p l) : LCells w lp p l := by
  unfold LogAt at h
  constructor <;> simp [World.cell?, World.frozen?, h]

theorem LogAt.lt (h : LogAt w lp p l) : lp < w.heap.size := (Array.getElem?_eq_some_iff.1 h).1
theorem LogAt.turned (h : LogAt w lp p l) (ht : Turn Q w w') (hq : ¬ Q lp) : LogAt w' lp p l := (ht.block lp h.lt hq).trans h

theorem LogAt.set (h : LogAt w lp p l) {j : Nat} {v : Value} (he : (#[.pointer (some ⟨p, 0, none⟩), .string (txt l.dir), .int .i64 (l.size : Nat), .int .i64 (l.first : Nat), .int .i64 (l.last : Nat), .int .i64 (l.cut : Nat), .bool l.stuck] : Array Value).setIfInBounds j v =
    #[.pointer (some ⟨p, 0, none⟩), .string (txt l'.dir), .int .i64 (l'.size : Nat), .int .i64 (l'.first : Nat), .int .i64 (l'.last : Nat), .int .i64 (l'.cut : Nat), .bool l'.stuck]) : LogAt (w.setCell ⟨lp, j, none⟩ v) lp p l' := by
  unfold LogAt at *
  rw [heap_setCell_same h, he]

theorem isStuck_any (h : LogAt w lp p l) {b : Bool} (hb : l.stuck = b) : Calls Tryz.prog 26 #[.pointer (some ⟨lp, 0, none⟩)] w fun r w' => r = .returned (.bool b) ∧ w = w' := by
  have c6 := h.cells.c6
  rw [hb] at c6
  cases b
  all_goals
    go_enter Tryz.func26, Tryz.ntmps26
    go_wp2
    go_ret
    exact ⟨rfl, rfl⟩

theorem met_no (e : Nat) (he : e ≠ 5) (a : Addr) (w : World) : Calls Tryz.prog 27 #[.pointer (some a), .int .i64 (e : Int)] w fun r w' => r = .returned (.int .i64 (e : Int)) ∧ w = w' := by
  have b1 : ((e : Int) == 5) = false := by rw [beq_eq_false_iff_ne]; omega
  clear he
  go_enter Tryz.func27, Tryz.ntmps27
  go_wp2
  go_ret
  exact ⟨rfl, rfl⟩

theorem met_yes (h : LogAt w lp p l) : Calls Tryz.prog 27 #[.pointer (some ⟨lp, 0, none⟩), .int .i64 5] w fun r w' => r = .returned (.int .i64 5) ∧ w.setCell ⟨lp, 6, none⟩ (.bool true) = w' := by
  have c6 := h.cells.c6
  have f6 := h.cells.fr 6
  go_enter Tryz.func27, Tryz.ntmps27
  go_wp2
  go_ret
  exact ⟨rfl, rfl⟩

theorem LogX.same (h : LogX w0 w p S Q lp l) : LogP w0 w p S Q lp l w := by
  obtain ⟨⟨mo, pl, hr⟩, h2, h3, h4, h5, h6⟩ := h
  exact ⟨⟨⟨mo, pl, hr.grow w⟩, h2, fun q => q.elim h3 (fun q => by have := h2.lt; omega), h4, fun b q => q.elim (h5 b) (fun q => by have := h6.size; omega), h6⟩, Turn.refl _ _⟩

/-- behind a call of the files -/
theorem LogX.post (h : LogX w0 w p S Q lp l) {w1 : World} (hp : Post w p S' Q w1) : LogX w0 w1 p S' (Grow Q w w1) lp l := by
  obtain ⟨hr, ht⟩ := hp
  obtain ⟨_, h2, h3, h4, h5, h6⟩ := h
  exact ⟨hr, h2.turned ht h3, fun q => q.elim h3 (fun q => by have := h2.lt; omega), h4, fun b q => q.elim (h5 b) (fun q => by have := h6.size; omega), h6.trans ht (fun i hi q => by have := h5 i q; omega)⟩

/-- behind what turned nothing -/
theorem LogX.later (h : LogX w0 w p S Q lp l) {w1 : World} (ht : Turn (fun _ => False) w w1) : LogX w0 w1 p S Q lp l :=
  ⟨h.rep.turned ht (fun _ _ q => q), h.log.turned ht (fun q => q), h.out, h.new, h.newQ, h.turn.trans ht (fun _ _ q => q)⟩

/-- a cell of the log's own -/
theorem LogX.set (h : LogX w0 w p S Q lp l) {j : Nat} {v : Value} (hl : LogAt (w.setCell ⟨lp, j, none⟩ v) lp p l') : LogX w0 (w.setCell ⟨lp, j, none⟩ v) p S Q lp l' :=
  have ht : Turn (fun b => b = lp) w (w.setCell ⟨lp, j, none⟩ v) := turnP w lp j v
  ⟨h.rep.turned ht (fun b hb e => h.out (by rw [← e]; exact hb)), hl, h.out, h.new, h.newQ, h.turn.trans ht (fun i hi e => by have := h.new; omega)⟩

theorem LogP.of {w1 : World} (h : LogX w0 w1 p S' (Grow Q w w1) lp l') (ht : Turn (fun b => Q b ∨ b = lp) w w1) : LogP w0 w p S' Q lp l' w1 := ⟨h, ht⟩

theorem LogP.set {w1 : World} (h : LogP w0 w p S' Q lp l w1) {j : Nat} {v : Value} (hl : LogAt (w1.setCell ⟨lp, j, none⟩ v) lp p l') : LogP w0 w p S' Q lp l' (w1.setCell ⟨lp, j, none⟩ v) := by
  obtain ⟨hx, ht⟩ := h
  have h2 := hx.set hl
  have hsz : (w1.setCell ⟨lp, j, none⟩ v).heap.size = w1.heap.size := by simp [World.setCell]
  refine ⟨?_, ht.set lp j (Or.inl (Or.inr rfl)) v⟩
  have e : Grow Q w (w1.setCell ⟨lp, j, none⟩ v) = Grow Q w w1 := by
    funext b; unfold Grow; rw [hsz]
  rw [e]; exact h2

/-- first what turned nothing, then a call of the files -/
theorem LogX.call {w1 w2 : World} (h : LogX w0 w p S Q lp l) (ht : Turn (fun _ => False) w w1) (hp : Post w1 p S' Q w2) : LogP w0 w p S' Q lp l w2 := by
  have h1 := (h.later ht).post hp
  refine ⟨?_, (ht.mono (fun _ q => q.elim)).trans (hp.2.mono (fun _ q => Or.inl q)) (fun _ _ q => q)⟩
  have hp2 := hp.pre ht
  exact { h1 with rep := hp2.1, out := fun q => q.elim h.out (fun q => by have := h.log.lt; omega), newQ := fun b q => q.elim (h.newQ b) (fun q => by have := h.turn.size; omega) }

theorem LogP.trans {w1 w2 : World} {S1 : Fsp.Fs} {l1 : Walp.Lg} (h : LogP w0 w p S1 Q lp l1 w1) (h2 : LogP w0 w1 p S' (Grow Q w w1) lp l' w2) : LogP w0 w p S' Q lp l' w2 := by
  obtain ⟨hx, ht⟩ := h
  obtain ⟨hx2, ht2⟩ := h2
  refine ⟨?_, ht.trans ht2 (fun i hi q => ?_)⟩
  · have hq : ∀ b, Grow (Grow Q w w1) w1 w2 b → Grow Q w w2 b := fun b q => Grow.trans ht.size ht2.size b q
    obtain ⟨⟨mo, pl, hr⟩, g2, g3, g4, g5, g6⟩ := hx2
    refine ⟨⟨mo, pl, hr.mono hq (fun b q => ?_)⟩, g2, fun q => ?_, g4, fun b q => ?_, g6⟩
    · rcases q with q | q
      · exact hr.lt b (Or.inl (Or.inl q))
      · exact q.2
    · rcases q with q | q
      · exact g3 (Or.inl (Or.inl q))
      · by_cases hlt : lp < w1.heap.size
        · exact g3 (Or.inl (Or.inr ⟨q.1, hlt⟩))
        · have := hx.log.lt; omega
    · rcases q with q | q
      · exact g5 b (Or.inl (Or.inl q))
      · by_cases hlt : b < w1.heap.size
        · exact g5 b (Or.inl (Or.inr ⟨q.1, hlt⟩))
        · exact g5 b (Or.inr ⟨by omega, q.2⟩)
  · rcases q with (q | q) | q
    · exact Or.inl q
    · omega
    · exact Or.inr q

theorem LogP.later {w1 w2 : World} (h : LogP w0 w p S' Q lp l' w1) (ht : Turn (fun _ => False) w1 w2) : LogP w0 w p S' Q lp l' w2 := by
  obtain ⟨hx, h2⟩ := h
  have h3 := hx.later ht
  obtain ⟨⟨mo, pl, hr⟩, g2, g3, g4, g5, g6⟩ := h3
  refine ⟨⟨⟨mo, pl, hr.mono (fun b q => q.imp id (fun q => ⟨q.1, by have := ht.size; omega⟩)) (fun b q => ?_)⟩, g2, fun q => ?_, g4, fun b q => ?_, g6⟩, h2.trans ht (fun _ _ q => q.elim)⟩
  · rcases q with q | q
    · exact hr.lt b (Or.inl q)
    · exact q.2
  · rcases q with q | q
    · exact g3 (Or.inl q)
    · exact g3 (Or.inr ⟨q.1, hx.log.lt⟩)
  · rcases q with q | q
    · exact g5 b (Or.inl q)
    · have := h2.size; have := hx.turn.size; have := g6.size
      by_cases hb : b < w1.heap.size
      · exact g5 b (Or.inr ⟨q.1, hb⟩)
      · omega

end
end Go.Proofs.YtinghngnehhgfaaGreatDoor

/-
  Rotate.
-/
namespace Go.Proofs.YtinghngnehhgfaaGreatDoor
open Go.RowKit Go.Maps Go.WideMaps

section
variable {w0 w w' : World} {p lp : Nat} {S S' : Fsp.Fs} {c c' : Bool} {Q : Nat → Prop} {mo : Option Nat} {pl : List UInt8 → Pl} {l l' : Walp.Lg}

def StepsLow (S : Fsp.Fs) : Prop := S.steps < 4611686018427387000
theorem StepsLow.ok (h : StepsLow S) : StepsOk S := by unfold StepsLow at h; unfold StepsOk; omega

theorem seg_size (d : List UInt8) (n : Nat) (h : d.length ≤ 1000) : (segName (txt d) n).size ≤ maxLen := by
  rw [Lib.size_eq, segName_list, Walp.seg_length]; show d.length + 9 ≤ _; unfold maxLen; omega
theorem txt_size (d : List UInt8) (h : d.length ≤ 1000) : (txt d).size ≤ 1000 := by rw [Lib.size_eq]; exact h

theorem create_seg {w1 : World} (hr : Rep w1 p S Q) (hs : StepsLow S) (d : List UInt8) (n : Nat) (hd : d.length ≤ 1000) {S1 : Fsp.Fs} {e : Nat} (he : Fsp.create S (Walp.seg d n) = (S1, e)) :
    Calls Tryz.prog 28 #[.pointer (some ⟨p, 0, none⟩), .string (segName (txt d) n)] w1 fun r w' => r = .returned (.int .i64 (e : Int)) ∧ Post w1 p S1 Q w' := by
  obtain ⟨mo, pl, hr⟩ := hr
  refine (create_any hr hs.ok (segName (txt d) n) (seg_size d n hd)).mono ?_
  rintro r w' ⟨rfl, hp⟩
  rw [segName_list, txt_list, he] at hp ⊢
  exact ⟨rfl, hp⟩

theorem rotate_stuck (hx : LogX w0 w p S Q lp l) (hst : l.stuck = true) :
    Calls Tryz.prog 9 #[.pointer (some ⟨lp, 0, none⟩)] w fun r w' => r = .returned (.int .i64 25) ∧ w = w' := by
  go_enter Tryz.func9, Tryz.ntmps9
  go_wp2_with (go_at_call 26; refine (isStuck_any hx.log hst).mono ?_; rintro r w' ⟨rfl, rfl⟩)
  go_ret
  exact ⟨rfl, rfl⟩

set_option maxRecDepth 100000 in
set_option maxHeartbeats 1000000 in
theorem rotate_err (hx : LogX w0 w p S Q lp l) (hst : l.stuck = false) (hs : StepsLow S) (hd : l.dir.length ≤ 1000) (hlast : l.last < 99) {S1 : Fsp.Fs} {e : Nat} (he : Fsp.create S (Walp.seg l.dir (l.last + 1)) = (S1, e)) (h0 : e ≠ 0) (h5 : e ≠ 5) :
    Calls Tryz.prog 9 #[.pointer (some ⟨lp, 0, none⟩)] w fun r w' => r = .returned (.int .i64 (e : Int)) ∧ LogP w0 w p S1 Q lp l w' := by
  have c0 := hx.log.cells.c0
  have c1 := hx.log.cells.c1
  have c4 := hx.log.cells.c4
  obtain ⟨n1, hn1⟩ : ∃ n1, n1 = l.last + 1 := ⟨_, rfl⟩
  rw [← hn1] at he
  have b0 : ((e : Int) != 0) = true := by rw [bne_iff_ne]; omega
  have i1 : decide ((99999999 : Int) ≤ (l.last : Int)) = false := by rw [decide_eq_false_iff_not]; omega
  have HX := Lib.hid hx
  have HE := Lib.hid he
  have H5 := Lib.hid h5
  have HN := Lib.hid hn1
  have HL := Lib.hid hlast
  have HS := Lib.hid hs
  have HD := Lib.hid hd
  have HST := Lib.hid hst
  clear hx he h0 h5 hn1 hlast hs hd hst
  go_enter Tryz.func9, Tryz.ntmps9
  go_wp2_with (go_at_call 26; refine (isStuck_any HX.out.log HST.out).mono ?_; rintro r w' ⟨rfl, rfl⟩)
  have hw1 : IntKind.i64.wrap ((l.last : Int) + 1) = (n1 : Int) := by have := HN.out; have := HL.out; rw [IntWalk.i64_in _ (by omega)]; omega
  go_region_held3 (fun w' => w'.cell? ⟨lp, 0, none⟩ = some (.pointer (some ⟨p, 0, none⟩)) ∧ w'.cell? ⟨lp, 1, none⟩ = some (.string (txt l.dir)) ∧ w'.cell? ⟨lp, 4, none⟩ = some (.int .i64 (l.last : Nat))) (first | (exact ⟨q0, q1, q4⟩) | (exact ⟨c0, c1, c4⟩) | go_keep) (first | (go_at_call 21; refine (name_any (txt l.dir) (txt_size _ HD.out) n1 (by have := HN.out; omega) (by have := HN.out; have := HL.out; omega) _).mono ?_; rintro r w2 ⟨rfl, t2⟩; have hx2 := HX.out.later ((Turn.refl (fun _ => False) w).drew.trans t2 (fun _ _ q => q)); have q0 := hx2.log.cells.c0; have q1 := hx2.log.cells.c1; have q4 := hx2.log.cells.c4) | (go_at_call 28; refine (create_seg hx2.rep HS.out l.dir n1 HD.out HE.out).mono ?_; rintro r w3 ⟨rfl, hp3⟩; have hx3 := hx2.post hp3; have q0 := hx3.log.cells.c0; have q1 := hx3.log.cells.c1; have q4 := hx3.log.cells.c4) | (go_at_call 27; refine (met_no e H5.out _ _).mono ?_; rintro r w4 ⟨rfl, rfl⟩))
  go_wp2
  go_ret
  exact ⟨rfl, HX.out.call ((Turn.refl (fun _ => False) w).drew.trans t2 (fun _ _ q => q)) hp3⟩

set_option maxRecDepth 100000 in
set_option maxHeartbeats 1000000 in
theorem rotate_down (hx : LogX w0 w p S Q lp l) (hst : l.stuck = false) (hs : StepsLow S) (hd : l.dir.length ≤ 1000) (hlast : l.last < 99) {S1 : Fsp.Fs} (he : Fsp.create S (Walp.seg l.dir (l.last + 1)) = (S1, 5)) :
    Calls Tryz.prog 9 #[.pointer (some ⟨lp, 0, none⟩)] w fun r w' => r = .returned (.int .i64 5) ∧ LogP w0 w p S1 Q lp { l with stuck := true } w' := by
  have c0 := hx.log.cells.c0
  have c1 := hx.log.cells.c1
  have c4 := hx.log.cells.c4
  obtain ⟨n1, hn1⟩ : ∃ n1, n1 = l.last + 1 := ⟨_, rfl⟩
  rw [← hn1] at he
  have i1 : decide ((99999999 : Int) ≤ (l.last : Int)) = false := by rw [decide_eq_false_iff_not]; omega
  have HX := Lib.hid hx
  have HE := Lib.hid he
  have HN := Lib.hid hn1
  have HL := Lib.hid hlast
  have HS := Lib.hid hs
  have HD := Lib.hid hd
  have HST := Lib.hid hst
  clear hx he hn1 hlast hs hd hst
  go_enter Tryz.func9, Tryz.ntmps9
  go_wp2_with (go_at_call 26; refine (isStuck_any HX.out.log HST.out).mono ?_; rintro r w' ⟨rfl, rfl⟩)
  have hw1 : IntKind.i64.wrap ((l.last : Int) + 1) = (n1 : Int) := by have := HN.out; have := HL.out; rw [IntWalk.i64_in _ (by omega)]; omega
  go_region_held3 (fun w' => w'.cell? ⟨lp, 0, none⟩ = some (.pointer (some ⟨p, 0, none⟩)) ∧ w'.cell? ⟨lp, 1, none⟩ = some (.string (txt l.dir)) ∧ w'.cell? ⟨lp, 4, none⟩ = some (.int .i64 (l.last : Nat))) (first | (exact ⟨q0, q1, q4⟩) | (exact ⟨c0, c1, c4⟩) | go_keep) (first | (go_at_call 21; refine (name_any (txt l.dir) (txt_size _ HD.out) n1 (by have := HN.out; omega) (by have := HN.out; have := HL.out; omega) _).mono ?_; rintro r w2 ⟨rfl, t2⟩; have hx2 := HX.out.later ((Turn.refl (fun _ => False) w).drew.trans t2 (fun _ _ q => q)); have q0 := hx2.log.cells.c0; have q1 := hx2.log.cells.c1; have q4 := hx2.log.cells.c4) | (go_at_call 28; refine (create_seg hx2.rep HS.out l.dir n1 HD.out HE.out).mono ?_; rintro r w3 ⟨rfl, hp3⟩; have hx3 := hx2.post hp3; have q0 := hx3.log.cells.c0; have q1 := hx3.log.cells.c1; have q4 := hx3.log.cells.c4) | (go_at_call 27; refine (met_yes hx3.log).mono ?_; rintro r w4 ⟨rfl, rfl⟩; have hl4 := hx3.log.set (j := 6) (v := .bool true) (l' := { l with stuck := true }) rfl; have q0 := hl4.cells.c0; have q1 := hl4.cells.c1; have q4 := hl4.cells.c4))
  go_wp2
  go_ret
  have hfin := HX.out.call ((Turn.refl (fun _ => False) w).drew.trans t2 (fun _ _ q => q)) hp3
  exact ⟨rfl, hfin.set (hx3.log.set (l' := { l with stuck := true }) rfl)⟩

set_option maxRecDepth 100000 in
set_option maxHeartbeats 1000000 in
theorem rotate_ok (hx : LogX w0 w p S Q lp l) (hst : l.stuck = false) (hs : StepsLow S) (hd : l.dir.length ≤ 1000) (hlast : l.last < 99) {S1 : Fsp.Fs} (he : Fsp.create S (Walp.seg l.dir (l.last + 1)) = (S1, 0)) :
    Calls Tryz.prog 9 #[.pointer (some ⟨lp, 0, none⟩)] w fun r w' => r = .returned (.int .i64 0) ∧ LogP w0 w p S1 Q lp { l with last := l.last + 1 } w' := by
  have c0 := hx.log.cells.c0
  have c1 := hx.log.cells.c1
  have c4 := hx.log.cells.c4
  obtain ⟨n1, hn1⟩ : ∃ n1, n1 = l.last + 1 := ⟨_, rfl⟩
  rw [← hn1] at he
  have i1 : decide ((99999999 : Int) ≤ (l.last : Int)) = false := by rw [decide_eq_false_iff_not]; omega
  have HX := Lib.hid hx
  have HE := Lib.hid he
  have HN := Lib.hid hn1
  have HL := Lib.hid hlast
  have HS := Lib.hid hs
  have HD := Lib.hid hd
  have HST := Lib.hid hst
  clear hx he hn1 hlast hs hd hst
  go_enter Tryz.func9, Tryz.ntmps9
  go_wp2_with (go_at_call 26; refine (isStuck_any HX.out.log HST.out).mono ?_; rintro r w' ⟨rfl, rfl⟩)
  have hw1 : IntKind.i64.wrap ((l.last : Int) + 1) = (n1 : Int) := by have := HN.out; have := HL.out; rw [IntWalk.i64_in _ (by omega)]; omega
  go_region_held3 (fun w' => w'.cell? ⟨lp, 0, none⟩ = some (.pointer (some ⟨p, 0, none⟩)) ∧ w'.cell? ⟨lp, 1, none⟩ = some (.string (txt l.dir)) ∧ w'.cell? ⟨lp, 4, none⟩ = some (.int .i64 (l.last : Nat))) (first | (exact ⟨q0, q1, q4⟩) | (exact ⟨c0, c1, c4⟩) | go_keep) (first | (go_at_call 21; refine (name_any (txt l.dir) (txt_size _ HD.out) n1 (by have := HN.out; omega) (by have := HN.out; have := HL.out; omega) _).mono ?_; rintro r w2 ⟨rfl, t2⟩; have hx2 := HX.out.later ((Turn.refl (fun _ => False) w).drew.trans t2 (fun _ _ q => q)); have q0 := hx2.log.cells.c0; have q1 := hx2.log.cells.c1; have q4 := hx2.log.cells.c4) | (go_at_call 28; refine (create_seg hx2.rep HS.out l.dir n1 HD.out HE.out).mono ?_; rintro r w3 ⟨rfl, hp3⟩; have hx3 := hx2.post hp3; have q0 := hx3.log.cells.c0; have q1 := hx3.log.cells.c1; have q4 := hx3.log.cells.c4) | (go_at_call 27; refine (met_no 0 (by decide) _ _).mono ?_; rintro r w4 ⟨rfl, rfl⟩))
  clear hw1
  have i2 : (l.last : Int) + 1 = (n1 : Int) := by have := HN.out; omega
  have i3 : (l.last : Int) < 1000 := by have := HL.out; omega
  have f4 := hx3.log.cells.fr 4
  go_wp2
  go_ret
  have hfin := HX.out.call ((Turn.refl (fun _ => False) w).drew.trans t2 (fun _ _ q => q)) hp3
  refine ⟨rfl, hfin.set (hx3.log.set (l' := { l with last := l.last + 1 }) ?_)⟩
  rw [HN.out]; rfl

theorem rotate_any (hx : LogX w0 w p S Q lp l) (hs : StepsLow S) (hd : l.dir.length ≤ 1000) (hlast : l.last < 99) :
    Calls Tryz.prog 9 #[.pointer (some ⟨lp, 0, none⟩)] w fun r w' => r = .returned (.int .i64 ((Walp.rotate S l).2 : Nat)) ∧ LogP w0 w p (Walp.rotate S l).1.1 Q lp (Walp.rotate S l).1.2 w' := by
  unfold Walp.rotate
  by_cases hst : l.stuck = true
  · rw [if_pos hst]
    refine (rotate_stuck hx hst).mono ?_
    rintro r w' ⟨rfl, rfl⟩
    exact ⟨rfl, hx.same⟩
  · rw [if_neg hst, if_neg (by omega)]
    have hst' : l.stuck = false := by simpa using hst
    obtain ⟨S1, e, he⟩ : ∃ S1 e, Fsp.create S (Walp.seg l.dir (l.last + 1)) = (S1, e) := ⟨_, _, rfl⟩
    rw [he]
    by_cases h0 : e = 0
    · subst h0
      exact rotate_ok hx hst' hs hd hlast he
    · rw [if_neg h0]
      by_cases h5 : e = 5
      · subst h5
        exact rotate_down hx hst' hs hd hlast he
      · have : Walp.met l e = l := by unfold Walp.met; rw [if_neg h5]
        show Calls _ _ _ _ (fun r w' => r = .returned (.int .i64 (e : Int)) ∧ LogP w0 w p S1 Q lp (Walp.met l e) w')
        rw [this]
        exact rotate_err hx hst' hs hd hlast he h0 h5

end
end Go.Proofs.YtinghngnehhgfaaGreatDoor
