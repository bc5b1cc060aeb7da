/-
  PARTS: WFull, WApp1, WApp2.
-/
import Derived.Test.YtinghngnehhgfaaGreatDoorWD
import Derived.Test.YtinghngnehhgfaaGreatDoorWE
/-
  isFull, Append.
-/
namespace Go.Proofs.YtinghngnehhgfaaGreatDoor
open Go.RowKit Go.Maps Go.WideMaps

section
variable {w0 w w' : World} {p lp : Nat} {S S' : Fsp.Fs} {c c' : Bool} {Q : Nat → Prop} {mo : Option Nat} {pl : List UInt8 → Pl} {l l' : Walp.Lg}

theorem size_seg {w1 : World} (hr : Rep w1 p S Q) (d : List UInt8) (n : Nat) (hd : d.length ≤ 1000) {f : Fsp.File} (hf : Fsp.find S.L (Walp.seg d n) = some f) :
    Calls Tryz.prog 49 #[.pointer (some ⟨p, 0, none⟩), .string (segName (txt d) n)] w1 fun r w' => r = .returned (.tuple #[.int .i64 (f.data.length : Nat), .int .i64 0]) ∧ w1 = w' := by
  obtain ⟨mo, pl, hr⟩ := hr
  exact size_some hr (segName (txt d) n) (seg_size d n hd) hf

theorem drewTurn {w1 w2 : World} (t : Turn (fun _ => False) w1.drew w2) : Turn (fun _ => False) w1 w2 := (Turn.refl (fun _ => False) w1).drew.trans t (fun _ _ q => q)

set_option maxRecDepth 100000 in
set_option maxHeartbeats 1000000 in
theorem isFull_any (hx : LogX w0 w p S Q lp l) (hd : l.dir.length ≤ 1000) (h1 : 1 ≤ l.last) (hlast : l.last < 100) {f : Fsp.File} (hf : Fsp.find S.L (Walp.seg l.dir l.last) = some f) :
    Calls Tryz.prog 32 #[.pointer (some ⟨lp, 0, none⟩)] w fun r w' => r = .returned (.bool (decide (l.size ≤ f.data.length))) ∧ Turn (fun _ => False) w w' := by
  have c0 := hx.log.cells.c0
  have c1 := hx.log.cells.c1
  have c4 := hx.log.cells.c4
  have HX := Lib.hid hx
  have HF := Lib.hid hf
  have HL := Lib.hid hlast
  have HL1 := Lib.hid h1
  have HD := Lib.hid hd
  clear hx hf hlast h1 hd
  go_enter Tryz.func32, Tryz.ntmps32
  go_wp2_with fail
  go_region_held3 (fun w' => w'.cell? ⟨lp, 0, none⟩ = some (.pointer (some ⟨p, 0, none⟩)) ∧ w'.cell? ⟨lp, 1, none⟩ = some (.string (txt l.dir)) ∧ w'.cell? ⟨lp, 4, none⟩ = some (.int .i64 (l.last : Nat))) (first | (exact ⟨q0, q1, q4⟩) | (exact ⟨c0, c1, c4⟩) | go_keep) (first | (go_at_call 21; refine (name_any (txt l.dir) (txt_size _ HD.out) l.last HL1.out HL.out _).mono ?_; rintro r w2 ⟨rfl, t2⟩; have hx2 := HX.out.later (drewTurn t2); have q0 := hx2.log.cells.c0; have q1 := hx2.log.cells.c1; have q4 := hx2.log.cells.c4) | (go_at_call 49; refine (size_seg hx2.rep l.dir l.last HD.out HF.out).mono ?_; rintro r w3 ⟨rfl, rfl⟩))
  have q2 := hx2.log.cells.c2
  go_wp2
  go_ret
  exact ⟨by first | rfl | congr 2, drewTurn t2⟩

theorem isFull_is (hx : LogX w0 w p S Q lp l) (hd : l.dir.length ≤ 1000) (h1 : 1 ≤ l.last) (hlast : l.last < 100) {f : Fsp.File} (hf : Fsp.find S.L (Walp.seg l.dir l.last) = some f) {b : Bool} (hb : decide (l.size ≤ f.data.length) = b) :
    Calls Tryz.prog 32 #[.pointer (some ⟨lp, 0, none⟩)] w fun r w' => r = .returned (.bool b) ∧ Turn (fun _ => False) w w' := by
  rw [← hb]; exact isFull_any hx hd h1 hlast hf

theorem rotate_is (hx : LogX w0 w p S Q lp l) (hs : StepsLow S) (hd : l.dir.length ≤ 1000) (hlast : l.last < 99) {S1 : Fsp.Fs} {l1 : Walp.Lg} {e : Nat} (he : Walp.rotate S l = ((S1, l1), e)) :
    Calls Tryz.prog 9 #[.pointer (some ⟨lp, 0, none⟩)] w fun r w' => r = .returned (.int .i64 (e : Int)) ∧ LogP w0 w p S1 Q lp l1 w' := by
  have := rotate_any hx hs hd hlast
  rw [he] at this
  exact this

theorem append_seg {w3 : World} {b : List UInt8} {g base : Nat} (hr : Rep w3 p S Q) (hs : StepsLow S) (d : List UInt8) (n : Nat) (hd : d.length ≤ 1000) (hown : w3.ownsRow base 5 1 (.slice (some ⟨g, 0, none⟩) (8 + b.length) (8 + b.length)) (8 + b.length) ((Walp.frame b).map byteV))
    (hq : ∀ i, Q i → i < base) (hb : b.length ≤ 1048576) {S1 : Fsp.Fs} {e : Nat} (he : Fsp.append S (Walp.seg d n) (Walp.frame b) = (S1, e)) :
    Calls Tryz.prog 33 #[.pointer (some ⟨p, 0, none⟩), .string (segName (txt d) n), .slice (some ⟨g, 0, none⟩) (8 + b.length) (8 + b.length)] w3 fun r w' => r = .returned (.int .i64 (e : Int)) ∧ Post w3 p S1 Q w' := by
  obtain ⟨mo, pl, hr⟩ := hr
  have hl := Walp.frame_length b
  have hsb : SliceB w3 (.slice (some ⟨g, 0, none⟩) (8 + b.length) (8 + b.length)) (Walp.frame b) := by
    refine Or.inr ⟨⟨g, 0, none⟩, 8 + b.length, by rw [hl], fun j x hj => ?_⟩
    have hjl := (List.getElem?_eq_some_iff.1 hj).1
    rw [add_head, hown.cellAt j (by omega), List.getElem?_map, hj]; rfl
  have hg : base ≤ g := (own_block hown rfl).1
  refine (append_any hr hs.ok (segName (txt d) n) (seg_size d n hd) _ (Walp.frame b) hsb (by rw [hl]; unfold maxLen; omega) (fun ad k cap e2 _ q => ?_)).mono ?_
  · simp only [Value.slice.injEq, Option.some.injEq] at e2
    obtain ⟨rfl, _, _⟩ := e2
    have h2 : g < base := hq _ q
    omega
  · rintro r w' ⟨rfl, hp⟩
    rw [segName_list, txt_list, he] at hp ⊢
    exact ⟨rfl, hp⟩

theorem sync_seg {w1 : World} (hr : Rep w1 p S Q) (hs : StepsLow S) (d : List UInt8) (n : Nat) (hd : d.length ≤ 1000) {S1 : Fsp.Fs} {e : Nat} (he : Fsp.sync S (Walp.seg d n) = (S1, e)) :
    Calls Tryz.prog 35 #[.pointer (some ⟨p, 0, none⟩), .string (segName (txt d) n)] w1 fun r w' => r = .returned (.int .i64 (e : Int)) ∧ Post w1 p S1 Q w' := by
  obtain ⟨mo, pl, hr⟩ := hr
  refine (sync_any hr hs.ok (segName (txt d) n) (seg_size d n hd)).mono ?_
  rintro r w' ⟨rfl, hp⟩
  rw [segName_list, txt_list, he] at hp ⊢
  exact ⟨rfl, hp⟩

theorem LogP.pre {w1 w2 : World} (h : LogP w0 w1 p S' Q lp l' w2) (ht : Turn (fun _ => False) w w1) (hl : lp < w.heap.size) (ho : ¬ Q lp) (hq : ∀ b, Q b → w0.heap.size ≤ b) : LogP w0 w p S' Q lp l' w2 := by
  obtain ⟨⟨⟨mo, pl, hr⟩, g2, g3, g4, g5, g6⟩, t2⟩ := h
  have hs := ht.size
  refine ⟨⟨⟨mo, pl, hr.mono (fun b q => q.imp id (fun q => ⟨by omega, q.2⟩)) (fun b q => ?_)⟩, g2, fun q => ?_, g4, fun b q => ?_, g6⟩, (ht.mono (fun _ q => q.elim)).trans t2 (fun _ _ q => q)⟩
  · rcases q with q | q
    · exact hr.lt b (Or.inl q)
    · exact q.2
  · rcases q with q | q
    · exact ho q
    · omega
  · rcases q with q | q
    · exact hq b q
    · omega

/-- bytes that lie outside of Q and of the log -/
structure SliceX (w : World) (v : Value) (b : List UInt8) (Q : Nat → Prop) (lp : Nat) : Prop where
  rd : SliceR w v b
  out : ∀ ad n cap, v = .slice (some ad) n cap → 0 < n → ¬ Q ad.block ∧ ad.block ≠ lp

theorem SliceX.after {v : Value} {b : List UInt8} (h : SliceX w v b Q lp) (ht : Turn (fun i => Q i ∨ i = lp) w w') : SliceR w' v b := by
  obtain ⟨⟨sp, cap, rfl, hc⟩, ho⟩ := h
  refine ⟨sp, cap, rfl, fun h0 => ?_⟩
  obtain ⟨ad, rfl, hx⟩ := hc h0
  refine ⟨ad, rfl, fun j x hj => ?_⟩
  have h1 := hx j x hj
  have h2 := ho ad _ _ rfl h0
  exact (World.cell?_of_block (ht.block _ (World.block_lt_of_cell? w _ h1) (by rw [add_block]; exact fun q => q.elim h2.1 h2.2))).trans h1

theorem Rep.lt (h : Rep w p S Q) : ∀ b, Q b → b < w.heap.size := by
  obtain ⟨mo, pl, hr⟩ := h; exact hr.lt

end
end Go.Proofs.YtinghngnehhgfaaGreatDoor

/-
  Append, WApp1.
-/
namespace Go.Proofs.YtinghngnehhgfaaGreatDoor
open Go.RowKit Go.Maps Go.WideMaps

section
variable {w0 w w' : World} {p lp : Nat} {S S' : Fsp.Fs} {c c' : Bool} {Q : Nat → Prop} {mo : Option Nat} {pl : List UInt8 → Pl} {l l' : Walp.Lg}

set_option maxRecDepth 100000 in
set_option maxHeartbeats 2000000 in
theorem app_room_err (hT : SumTab w0) (hx : LogX w0 w p S Q lp l) (hst : l.stuck = false) (hd : l.dir.length ≤ 1000) (h1 : 1 ≤ l.last) (hlast : l.last < 99) {f : Fsp.File} (hf : Fsp.find S.L (Walp.seg l.dir l.last) = some f) {sp : Option Addr} {cap : Nat} {b : List UInt8} (hb : SliceX w (.slice sp b.length cap) b Q lp) (hbl : b.length ≤ 1048576) (hfull : decide (l.size ≤ f.data.length) = false) (hsA : StepsLow S) {S2 : Fsp.Fs} {e2 : Nat} (ha : Fsp.append S (Walp.seg l.dir l.last) (Walp.frame b) = (S2, e2)) (h0 : e2 ≠ 0) (h5 : e2 ≠ 5) :
    Calls Tryz.prog 12 #[.pointer (some ⟨lp, 0, none⟩), .slice sp b.length cap] w fun r w' => r = .returned (.int .i64 (e2 : Int)) ∧ LogP w0 w p S2 Q lp l w' := by
  have hbl' : (b.length : Int) ≤ 1048576 := by omega
  have b0 : ((e2 : Int) != 0) = true := by rw [bne_iff_ne]; omega
  have HTT := Lib.hid hT
  have HX := Lib.hid hx
  have HST := Lib.hid hst
  have HD := Lib.hid hd
  have H1 := Lib.hid h1
  have HL := Lib.hid hlast
  have HF := Lib.hid hf
  have HBX := Lib.hid hb
  have HFU := Lib.hid hfull
  have HSA := Lib.hid hsA
  have HA := Lib.hid ha
  have H5 := Lib.hid h5
  have HBL := Lib.hid hbl
  clear hT hx hst hd h1 hlast hf hb hfull hsA ha h5 hbl h0
  go_enter Tryz.func12, Tryz.ntmps12
  go_wp2_with (first | (go_at_call 26; refine (isStuck_any HX.out.log HST.out).mono ?_; rintro r w' ⟨rfl, rfl⟩) | (go_at_call 32; refine (isFull_is HX.out HD.out H1.out (by have := HL.out; omega) HF.out HFU.out).mono ?_; rintro r w1 ⟨rfl, t1⟩))
  have hPP := HX.out.same.later t1
  have HP := Lib.hid hPP
  have c0 := hPP.1.log.cells.c0
  have c1 := hPP.1.log.cells.c1
  have c4 := hPP.1.log.cells.c4
  clear hPP t1
  go_region_held3 (fun w' => w'.cell? ⟨lp, 1, none⟩ = some (.string (txt l.dir)) ∧ w'.cell? ⟨lp, 4, none⟩ = some (.int .i64 (l.last : Nat))) (first | (exact ⟨q1, q4⟩) | (exact ⟨c1, c4⟩) | go_keep) (first | (go_at_call 21; refine (name_any (txt l.dir) (txt_size _ HD.out) l.last H1.out (by have := HL.out; omega) _).mono ?_; rintro r w2 ⟨rfl, t2⟩; have hx2 := HP.out.1.later (drewTurn t2); have q1 := hx2.log.cells.c1; have q4 := hx2.log.cells.c4))
  have q0 := hx2.log.cells.c0
  have HX2 := Lib.hid hx2
  have HT2 := Lib.hid t2
  clear hx2 t2 c0 c1 c4
  go_wp2_with fail
  go_region_held3 (fun w' => w'.cell? ⟨lp, 0, none⟩ = some (.pointer (some ⟨p, 0, none⟩))) (first | (exact q0) | go_keep) (first | (go_at_call 34; refine (frame_any (HTT.out.turned (HX2.out.turn.drew)) ((HBX.out.after HP.out.2).turned (drewTurn HT2.out).drew) HBL.out).mono ?_; rintro r w3 ⟨g, rfl, hown, t3⟩; have hx3 := HX2.out.later (drewTurn t3); have q0 := hx3.log.cells.c0) | (go_at_call 33; refine (append_seg hx3.rep HSA.out l.dir l.last HD.out hown (fun i hi => HX2.out.rep.lt i hi) HBL.out HA.out).mono ?_; rintro r w4 ⟨rfl, hp4⟩; have hx4 := hx3.post hp4; have q0 := hx4.log.cells.c0) | (go_at_call 27; refine (met_no e2 H5.out _ _).mono ?_; rintro r w5 ⟨rfl, rfl⟩))
  have hP4 := HP.out.trans (HP.out.1.call ((drewTurn HT2.out).trans (drewTurn t3) (fun _ _ q => q)) hp4)
  go_wp2
  go_ret
  exact ⟨rfl, hP4⟩

set_option maxRecDepth 100000 in
set_option maxHeartbeats 2000000 in
theorem app_room_down (hT : SumTab w0) (hx : LogX w0 w p S Q lp l) (hst : l.stuck = false) (hd : l.dir.length ≤ 1000) (h1 : 1 ≤ l.last) (hlast : l.last < 99) {f : Fsp.File} (hf : Fsp.find S.L (Walp.seg l.dir l.last) = some f) {sp : Option Addr} {cap : Nat} {b : List UInt8} (hb : SliceX w (.slice sp b.length cap) b Q lp) (hbl : b.length ≤ 1048576) (hfull : decide (l.size ≤ f.data.length) = false) (hsA : StepsLow S) {S2 : Fsp.Fs} (ha : Fsp.append S (Walp.seg l.dir l.last) (Walp.frame b) = (S2, 5)) :
    Calls Tryz.prog 12 #[.pointer (some ⟨lp, 0, none⟩), .slice sp b.length cap] w fun r w' => r = .returned (.int .i64 5) ∧ LogP w0 w p S2 Q lp { l with stuck := true } w' := by
  have hbl' : (b.length : Int) ≤ 1048576 := by omega
  have HTT := Lib.hid hT
  have HX := Lib.hid hx
  have HST := Lib.hid hst
  have HD := Lib.hid hd
  have H1 := Lib.hid h1
  have HL := Lib.hid hlast
  have HF := Lib.hid hf
  have HBX := Lib.hid hb
  have HFU := Lib.hid hfull
  have HSA := Lib.hid hsA
  have HA := Lib.hid ha
  have HBL := Lib.hid hbl
  clear hT hx hst hd h1 hlast hf hb hfull hsA ha hbl
  go_enter Tryz.func12, Tryz.ntmps12
  go_wp2_with (first | (go_at_call 26; refine (isStuck_any HX.out.log HST.out).mono ?_; rintro r w' ⟨rfl, rfl⟩) | (go_at_call 32; refine (isFull_is HX.out HD.out H1.out (by have := HL.out; omega) HF.out HFU.out).mono ?_; rintro r w1 ⟨rfl, t1⟩))
  have hPP := HX.out.same.later t1
  have HP := Lib.hid hPP
  have c0 := hPP.1.log.cells.c0
  have c1 := hPP.1.log.cells.c1
  have c4 := hPP.1.log.cells.c4
  clear hPP t1
  go_region_held3 (fun w' => w'.cell? ⟨lp, 1, none⟩ = some (.string (txt l.dir)) ∧ w'.cell? ⟨lp, 4, none⟩ = some (.int .i64 (l.last : Nat))) (first | (exact ⟨q1, q4⟩) | (exact ⟨c1, c4⟩) | go_keep) (first | (go_at_call 21; refine (name_any (txt l.dir) (txt_size _ HD.out) l.last H1.out (by have := HL.out; omega) _).mono ?_; rintro r w2 ⟨rfl, t2⟩; have hx2 := HP.out.1.later (drewTurn t2); have q1 := hx2.log.cells.c1; have q4 := hx2.log.cells.c4))
  have q0 := hx2.log.cells.c0
  have HX2 := Lib.hid hx2
  have HT2 := Lib.hid t2
  clear hx2 t2 c0 c1 c4
  go_wp2_with fail
  go_region_held3 (fun w' => w'.cell? ⟨lp, 0, none⟩ = some (.pointer (some ⟨p, 0, none⟩))) (first | (exact q0) | go_keep) (first | (go_at_call 34; refine (frame_any (HTT.out.turned (HX2.out.turn.drew)) ((HBX.out.after HP.out.2).turned (drewTurn HT2.out).drew) HBL.out).mono ?_; rintro r w3 ⟨g, rfl, hown, t3⟩; have hx3 := HX2.out.later (drewTurn t3); have q0 := hx3.log.cells.c0) | (go_at_call 33; refine (append_seg hx3.rep HSA.out l.dir l.last HD.out hown (fun i hi => HX2.out.rep.lt i hi) HBL.out HA.out).mono ?_; rintro r w4 ⟨rfl, hp4⟩; have hx4 := hx3.post hp4; have q0 := hx4.log.cells.c0) | (go_at_call 27; refine (met_yes hx4.log).mono ?_; rintro r w5 ⟨rfl, rfl⟩; have hl5 := hx4.log.set (j := 6) (v := .bool true) (l' := { l with stuck := true }) rfl; have q0 := hl5.cells.c0))
  have hP4 := HP.out.trans (HP.out.1.call ((drewTurn HT2.out).trans (drewTurn t3) (fun _ _ q => q)) hp4)
  go_wp2
  go_ret
  exact ⟨rfl, hP4.set hl5⟩

end
end Go.Proofs.YtinghngnehhgfaaGreatDoor

/-
  Append, WApp2.
-/
namespace Go.Proofs.YtinghngnehhgfaaGreatDoor
open Go.RowKit Go.Maps Go.WideMaps

section
variable {w0 w w' : World} {p lp : Nat} {S S' : Fsp.Fs} {c c' : Bool} {Q : Nat → Prop} {mo : Option Nat} {pl : List UInt8 → Pl} {l l' : Walp.Lg}

set_option maxRecDepth 100000 in
set_option maxHeartbeats 2000000 in
theorem app_room_ok (hT : SumTab w0) (hx : LogX w0 w p S Q lp l) (hst : l.stuck = false) (hd : l.dir.length ≤ 1000) (h1 : 1 ≤ l.last) (hlast : l.last < 99) {f : Fsp.File} (hf : Fsp.find S.L (Walp.seg l.dir l.last) = some f) {sp : Option Addr} {cap : Nat} {b : List UInt8} (hb : SliceX w (.slice sp b.length cap) b Q lp) (hbl : b.length ≤ 1048576) (hfull : decide (l.size ≤ f.data.length) = false) (hsA : StepsLow S) {S2 : Fsp.Fs} (ha : Fsp.append S (Walp.seg l.dir l.last) (Walp.frame b) = (S2, 0)) (hs2 : StepsLow S2) {S3 : Fsp.Fs} {e3 : Nat} (hy : Fsp.sync S2 (Walp.seg l.dir l.last) = (S3, e3)) (h5 : e3 ≠ 5) :
    Calls Tryz.prog 12 #[.pointer (some ⟨lp, 0, none⟩), .slice sp b.length cap] w fun r w' => r = .returned (.int .i64 (e3 : Int)) ∧ LogP w0 w p S3 Q lp l w' := by
  have hbl' : (b.length : Int) ≤ 1048576 := by omega
  have HTT := Lib.hid hT
  have HX := Lib.hid hx
  have HST := Lib.hid hst
  have HD := Lib.hid hd
  have H1 := Lib.hid h1
  have HL := Lib.hid hlast
  have HF := Lib.hid hf
  have HBX := Lib.hid hb
  have HFU := Lib.hid hfull
  have HSA := Lib.hid hsA
  have HA := Lib.hid ha
  have HS2 := Lib.hid hs2
  have HY := Lib.hid hy
  have H5 := Lib.hid h5
  have HBL := Lib.hid hbl
  clear hT hx hst hd h1 hlast hf hb hfull hsA ha hs2 hy h5 hbl
  go_enter Tryz.func12, Tryz.ntmps12
  go_wp2_with (first | (go_at_call 26; refine (isStuck_any HX.out.log HST.out).mono ?_; rintro r w' ⟨rfl, rfl⟩) | (go_at_call 32; refine (isFull_is HX.out HD.out H1.out (by have := HL.out; omega) HF.out HFU.out).mono ?_; rintro r w1 ⟨rfl, t1⟩))
  have hPP := HX.out.same.later t1
  have HP := Lib.hid hPP
  have c0 := hPP.1.log.cells.c0
  have c1 := hPP.1.log.cells.c1
  have c4 := hPP.1.log.cells.c4
  clear hPP t1
  go_region_held3 (fun w' => w'.cell? ⟨lp, 1, none⟩ = some (.string (txt l.dir)) ∧ w'.cell? ⟨lp, 4, none⟩ = some (.int .i64 (l.last : Nat))) (first | (exact ⟨q1, q4⟩) | (exact ⟨c1, c4⟩) | go_keep) (first | (go_at_call 21; refine (name_any (txt l.dir) (txt_size _ HD.out) l.last H1.out (by have := HL.out; omega) _).mono ?_; rintro r w2 ⟨rfl, t2⟩; have hx2 := HP.out.1.later (drewTurn t2); have q1 := hx2.log.cells.c1; have q4 := hx2.log.cells.c4))
  have q0 := hx2.log.cells.c0
  have HX2 := Lib.hid hx2
  have HT2 := Lib.hid t2
  clear hx2 t2 c0 c1 c4
  go_wp2_with fail
  go_region_held3 (fun w' => w'.cell? ⟨lp, 0, none⟩ = some (.pointer (some ⟨p, 0, none⟩))) (first | (exact q0) | go_keep) (first | (go_at_call 34; refine (frame_any (HTT.out.turned (HX2.out.turn.drew)) ((HBX.out.after HP.out.2).turned (drewTurn HT2.out).drew) HBL.out).mono ?_; rintro r w3 ⟨g, rfl, hown, t3⟩; have hx3 := HX2.out.later (drewTurn t3); have q0 := hx3.log.cells.c0) | (go_at_call 33; refine (append_seg hx3.rep HSA.out l.dir l.last HD.out hown (fun i hi => HX2.out.rep.lt i hi) HBL.out HA.out).mono ?_; rintro r w4 ⟨rfl, hp4⟩; have hx4 := hx3.post hp4; have q0 := hx4.log.cells.c0) | (go_at_call 27; refine (met_no 0 (by decide) _ _).mono ?_; rintro r w5 ⟨rfl, rfl⟩))
  have hP4 := HP.out.trans (HP.out.1.call ((drewTurn HT2.out).trans (drewTurn t3) (fun _ _ q => q)) hp4)
  have HP4 := Lib.hid hP4
  clear hP4
  go_wp2_with (first | (go_at_call 35; refine (sync_seg HP4.out.1.rep HS2.out l.dir l.last HD.out HY.out).mono ?_; rintro r w6 ⟨rfl, hp6⟩; have hP5 := HP4.out.trans (HP4.out.1.call (Turn.refl _ _) hp6)) | (go_at_call 27; refine (met_no e3 H5.out _ _).mono ?_; rintro r w7 ⟨rfl, rfl⟩))
  go_ret
  exact ⟨rfl, hP5⟩

set_option maxRecDepth 100000 in
set_option maxHeartbeats 2000000 in
theorem app_room_torn (hT : SumTab w0) (hx : LogX w0 w p S Q lp l) (hst : l.stuck = false) (hd : l.dir.length ≤ 1000) (h1 : 1 ≤ l.last) (hlast : l.last < 99) {f : Fsp.File} (hf : Fsp.find S.L (Walp.seg l.dir l.last) = some f) {sp : Option Addr} {cap : Nat} {b : List UInt8} (hb : SliceX w (.slice sp b.length cap) b Q lp) (hbl : b.length ≤ 1048576) (hfull : decide (l.size ≤ f.data.length) = false) (hsA : StepsLow S) {S2 : Fsp.Fs} (ha : Fsp.append S (Walp.seg l.dir l.last) (Walp.frame b) = (S2, 0)) (hs2 : StepsLow S2) {S3 : Fsp.Fs} (hy : Fsp.sync S2 (Walp.seg l.dir l.last) = (S3, 5)) :
    Calls Tryz.prog 12 #[.pointer (some ⟨lp, 0, none⟩), .slice sp b.length cap] w fun r w' => r = .returned (.int .i64 5) ∧ LogP w0 w p S3 Q lp { l with stuck := true } w' := by
  have hbl' : (b.length : Int) ≤ 1048576 := by omega
  have HTT := Lib.hid hT
  have HX := Lib.hid hx
  have HST := Lib.hid hst
  have HD := Lib.hid hd
  have H1 := Lib.hid h1
  have HL := Lib.hid hlast
  have HF := Lib.hid hf
  have HBX := Lib.hid hb
  have HFU := Lib.hid hfull
  have HSA := Lib.hid hsA
  have HA := Lib.hid ha
  have HS2 := Lib.hid hs2
  have HY := Lib.hid hy
  have HBL := Lib.hid hbl
  clear hT hx hst hd h1 hlast hf hb hfull hsA ha hs2 hy hbl
  go_enter Tryz.func12, Tryz.ntmps12
  go_wp2_with (first | (go_at_call 26; refine (isStuck_any HX.out.log HST.out).mono ?_; rintro r w' ⟨rfl, rfl⟩) | (go_at_call 32; refine (isFull_is HX.out HD.out H1.out (by have := HL.out; omega) HF.out HFU.out).mono ?_; rintro r w1 ⟨rfl, t1⟩))
  have hPP := HX.out.same.later t1
  have HP := Lib.hid hPP
  have c0 := hPP.1.log.cells.c0
  have c1 := hPP.1.log.cells.c1
  have c4 := hPP.1.log.cells.c4
  clear hPP t1
  go_region_held3 (fun w' => w'.cell? ⟨lp, 1, none⟩ = some (.string (txt l.dir)) ∧ w'.cell? ⟨lp, 4, none⟩ = some (.int .i64 (l.last : Nat))) (first | (exact ⟨q1, q4⟩) | (exact ⟨c1, c4⟩) | go_keep) (first | (go_at_call 21; refine (name_any (txt l.dir) (txt_size _ HD.out) l.last H1.out (by have := HL.out; omega) _).mono ?_; rintro r w2 ⟨rfl, t2⟩; have hx2 := HP.out.1.later (drewTurn t2); have q1 := hx2.log.cells.c1; have q4 := hx2.log.cells.c4))
  have q0 := hx2.log.cells.c0
  have HX2 := Lib.hid hx2
  have HT2 := Lib.hid t2
  clear hx2 t2 c0 c1 c4
  go_wp2_with fail
  go_region_held3 (fun w' => w'.cell? ⟨lp, 0, none⟩ = some (.pointer (some ⟨p, 0, none⟩))) (first | (exact q0) | go_keep) (first | (go_at_call 34; refine (frame_any (HTT.out.turned (HX2.out.turn.drew)) ((HBX.out.after HP.out.2).turned (drewTurn HT2.out).drew) HBL.out).mono ?_; rintro r w3 ⟨g, rfl, hown, t3⟩; have hx3 := HX2.out.later (drewTurn t3); have q0 := hx3.log.cells.c0) | (go_at_call 33; refine (append_seg hx3.rep HSA.out l.dir l.last HD.out hown (fun i hi => HX2.out.rep.lt i hi) HBL.out HA.out).mono ?_; rintro r w4 ⟨rfl, hp4⟩; have hx4 := hx3.post hp4; have q0 := hx4.log.cells.c0) | (go_at_call 27; refine (met_no 0 (by decide) _ _).mono ?_; rintro r w5 ⟨rfl, rfl⟩))
  have hP4 := HP.out.trans (HP.out.1.call ((drewTurn HT2.out).trans (drewTurn t3) (fun _ _ q => q)) hp4)
  have HP4 := Lib.hid hP4
  clear hP4
  go_wp2_with (first | (go_at_call 35; refine (sync_seg HP4.out.1.rep HS2.out l.dir l.last HD.out HY.out).mono ?_; rintro r w6 ⟨rfl, hp6⟩; have hP5 := HP4.out.trans (HP4.out.1.call (Turn.refl _ _) hp6)) | (go_at_call 27; refine (met_yes hP5.1.log).mono ?_; rintro r w7 ⟨rfl, rfl⟩))
  go_ret
  exact ⟨rfl, hP5.set (hP5.1.log.set (l' := { l with stuck := true }) rfl)⟩

end
end Go.Proofs.YtinghngnehhgfaaGreatDoor
