/-
  PARTS: WApp3, WApp4, WAppend.
-/
import Derived.Test.YtinghngnehhgfaaGreatDoorWF
/-
  Append, WApp3.
-/
namespace Go.Proofs.YtinghngnehhgfaaGreatDoor
open Go.RowKit Go.Maps Go.WideMaps

section
variable {w0 w w' : World} {p lp : Nat} {S S' : Fsp.Fs} {c c' : Bool} {Q : Nat → Prop} {mo : Option Nat} {pl : List UInt8 → Pl} {l l' : Walp.Lg}

set_option maxRecDepth 100000 in
set_option maxHeartbeats 2000000 in
theorem app_full_err (hT : SumTab w0) (hx : LogX w0 w p S Q lp l) (hst : l.stuck = false) (hd : l.dir.length ≤ 1000) (h1 : 1 ≤ l.last) (hlast : l.last < 99) {f : Fsp.File} (hf : Fsp.find S.L (Walp.seg l.dir l.last) = some f) {sp : Option Addr} {cap : Nat} {b : List UInt8} (hb : SliceX w (.slice sp b.length cap) b Q lp) (hbl : b.length ≤ 1048576) (hfull : decide (l.size ≤ f.data.length) = true) (hs : StepsLow S) {SA : Fsp.Fs} {lA : Walp.Lg} (hrot : Walp.rotate S l = ((SA, lA), 0)) (hdA : lA.dir.length ≤ 1000) (h1A : 1 ≤ lA.last) (hlA : lA.last < 100) (hsA : StepsLow SA) {S2 : Fsp.Fs} {e2 : Nat} (ha : Fsp.append SA (Walp.seg lA.dir lA.last) (Walp.frame b) = (S2, e2)) (h0 : e2 ≠ 0) (h5 : e2 ≠ 5) :
    Calls Tryz.prog 12 #[.pointer (some ⟨lp, 0, none⟩), .slice sp b.length cap] w fun r w' => r = .returned (.int .i64 (e2 : Int)) ∧ LogP w0 w p S2 Q lp lA w' := by
  have hbl' : (b.length : Int) ≤ 1048576 := by omega
  have b0 : ((e2 : Int) != 0) = true := by rw [bne_iff_ne]; omega
  have HTT := Lib.hid hT
  have HX := Lib.hid hx
  have HST := Lib.hid hst
  have HD := Lib.hid hd
  have H1 := Lib.hid h1
  have HL := Lib.hid hlast
  have HF := Lib.hid hf
  have HBX := Lib.hid hb
  have HFU := Lib.hid hfull
  have HSA := Lib.hid hsA
  have HA := Lib.hid ha
  have HS := Lib.hid hs
  have HR := Lib.hid hrot
  have HDA := Lib.hid hdA
  have H1A := Lib.hid h1A
  have HLA := Lib.hid hlA
  have H5 := Lib.hid h5
  have HBL := Lib.hid hbl
  clear hT hx hst hd h1 hlast hf hb hfull hsA ha hs hrot hdA h1A hlA h5 hbl h0
  go_enter Tryz.func12, Tryz.ntmps12
  go_wp2_with (first | (go_at_call 26; refine (isStuck_any HX.out.log HST.out).mono ?_; rintro r w' ⟨rfl, rfl⟩) | (go_at_call 32; refine (isFull_is HX.out HD.out H1.out (by have := HL.out; omega) HF.out HFU.out).mono ?_; rintro r w1 ⟨rfl, t1⟩; have hx1 := HX.out.later t1) | (go_at_call 9; refine (rotate_is hx1 HS.out HD.out HL.out HR.out).mono ?_; rintro r wA ⟨rfl, hPA⟩))
  have hPP := hPA.pre t1 HX.out.log.lt HX.out.out HX.out.newQ
  have HP := Lib.hid hPP
  have c0 := hPP.1.log.cells.c0
  have c1 := hPP.1.log.cells.c1
  have c4 := hPP.1.log.cells.c4
  clear hPP hPA hx1 t1
  go_region_held3 (fun w' => w'.cell? ⟨lp, 1, none⟩ = some (.string (txt lA.dir)) ∧ w'.cell? ⟨lp, 4, none⟩ = some (.int .i64 (lA.last : Nat))) (first | (exact ⟨q1, q4⟩) | (exact ⟨c1, c4⟩) | go_keep) (first | (go_at_call 21; refine (name_any (txt lA.dir) (txt_size _ HDA.out) lA.last H1A.out HLA.out _).mono ?_; rintro r w2 ⟨rfl, t2⟩; have hx2 := HP.out.1.later (drewTurn t2); have q1 := hx2.log.cells.c1; have q4 := hx2.log.cells.c4))
  have q0 := hx2.log.cells.c0
  have HX2 := Lib.hid hx2
  have HT2 := Lib.hid t2
  clear hx2 t2 c0 c1 c4
  go_wp2_with fail
  go_region_held3 (fun w' => w'.cell? ⟨lp, 0, none⟩ = some (.pointer (some ⟨p, 0, none⟩))) (first | (exact q0) | go_keep) (first | (go_at_call 34; refine (frame_any (HTT.out.turned (HX2.out.turn.drew)) ((HBX.out.after HP.out.2).turned (drewTurn HT2.out).drew) HBL.out).mono ?_; rintro r w3 ⟨g, rfl, hown, t3⟩; have hx3 := HX2.out.later (drewTurn t3); have q0 := hx3.log.cells.c0) | (go_at_call 33; refine (append_seg hx3.rep HSA.out lA.dir lA.last HDA.out hown (fun i hi => HX2.out.rep.lt i hi) HBL.out HA.out).mono ?_; rintro r w4 ⟨rfl, hp4⟩; have hx4 := hx3.post hp4; have q0 := hx4.log.cells.c0) | (go_at_call 27; refine (met_no e2 H5.out _ _).mono ?_; rintro r w5 ⟨rfl, rfl⟩))
  have hP4 := HP.out.trans (HP.out.1.call ((drewTurn HT2.out).trans (drewTurn t3) (fun _ _ q => q)) hp4)
  go_wp2
  go_ret
  exact ⟨rfl, hP4⟩

set_option maxRecDepth 100000 in
set_option maxHeartbeats 2000000 in
theorem app_full_down (hT : SumTab w0) (hx : LogX w0 w p S Q lp l) (hst : l.stuck = false) (hd : l.dir.length ≤ 1000) (h1 : 1 ≤ l.last) (hlast : l.last < 99) {f : Fsp.File} (hf : Fsp.find S.L (Walp.seg l.dir l.last) = some f) {sp : Option Addr} {cap : Nat} {b : List UInt8} (hb : SliceX w (.slice sp b.length cap) b Q lp) (hbl : b.length ≤ 1048576) (hfull : decide (l.size ≤ f.data.length) = true) (hs : StepsLow S) {SA : Fsp.Fs} {lA : Walp.Lg} (hrot : Walp.rotate S l = ((SA, lA), 0)) (hdA : lA.dir.length ≤ 1000) (h1A : 1 ≤ lA.last) (hlA : lA.last < 100) (hsA : StepsLow SA) {S2 : Fsp.Fs} (ha : Fsp.append SA (Walp.seg lA.dir lA.last) (Walp.frame b) = (S2, 5)) :
    Calls Tryz.prog 12 #[.pointer (some ⟨lp, 0, none⟩), .slice sp b.length cap] w fun r w' => r = .returned (.int .i64 5) ∧ LogP w0 w p S2 Q lp { lA with stuck := true } w' := by
  have hbl' : (b.length : Int) ≤ 1048576 := by omega
  have HTT := Lib.hid hT
  have HX := Lib.hid hx
  have HST := Lib.hid hst
  have HD := Lib.hid hd
  have H1 := Lib.hid h1
  have HL := Lib.hid hlast
  have HF := Lib.hid hf
  have HBX := Lib.hid hb
  have HFU := Lib.hid hfull
  have HSA := Lib.hid hsA
  have HA := Lib.hid ha
  have HS := Lib.hid hs
  have HR := Lib.hid hrot
  have HDA := Lib.hid hdA
  have H1A := Lib.hid h1A
  have HLA := Lib.hid hlA
  have HBL := Lib.hid hbl
  clear hT hx hst hd h1 hlast hf hb hfull hsA ha hs hrot hdA h1A hlA hbl
  go_enter Tryz.func12, Tryz.ntmps12
  go_wp2_with (first | (go_at_call 26; refine (isStuck_any HX.out.log HST.out).mono ?_; rintro r w' ⟨rfl, rfl⟩) | (go_at_call 32; refine (isFull_is HX.out HD.out H1.out (by have := HL.out; omega) HF.out HFU.out).mono ?_; rintro r w1 ⟨rfl, t1⟩; have hx1 := HX.out.later t1) | (go_at_call 9; refine (rotate_is hx1 HS.out HD.out HL.out HR.out).mono ?_; rintro r wA ⟨rfl, hPA⟩))
  have hPP := hPA.pre t1 HX.out.log.lt HX.out.out HX.out.newQ
  have HP := Lib.hid hPP
  have c0 := hPP.1.log.cells.c0
  have c1 := hPP.1.log.cells.c1
  have c4 := hPP.1.log.cells.c4
  clear hPP hPA hx1 t1
  go_region_held3 (fun w' => w'.cell? ⟨lp, 1, none⟩ = some (.string (txt lA.dir)) ∧ w'.cell? ⟨lp, 4, none⟩ = some (.int .i64 (lA.last : Nat))) (first | (exact ⟨q1, q4⟩) | (exact ⟨c1, c4⟩) | go_keep) (first | (go_at_call 21; refine (name_any (txt lA.dir) (txt_size _ HDA.out) lA.last H1A.out HLA.out _).mono ?_; rintro r w2 ⟨rfl, t2⟩; have hx2 := HP.out.1.later (drewTurn t2); have q1 := hx2.log.cells.c1; have q4 := hx2.log.cells.c4))
  have q0 := hx2.log.cells.c0
  have HX2 := Lib.hid hx2
  have HT2 := Lib.hid t2
  clear hx2 t2 c0 c1 c4
  go_wp2_with fail
  go_region_held3 (fun w' => w'.cell? ⟨lp, 0, none⟩ = some (.pointer (some ⟨p, 0, none⟩))) (first | (exact q0) | go_keep) (first | (go_at_call 34; refine (frame_any (HTT.out.turned (HX2.out.turn.drew)) ((HBX.out.after HP.out.2).turned (drewTurn HT2.out).drew) HBL.out).mono ?_; rintro r w3 ⟨g, rfl, hown, t3⟩; have hx3 := HX2.out.later (drewTurn t3); have q0 := hx3.log.cells.c0) | (go_at_call 33; refine (append_seg hx3.rep HSA.out lA.dir lA.last HDA.out hown (fun i hi => HX2.out.rep.lt i hi) HBL.out HA.out).mono ?_; rintro r w4 ⟨rfl, hp4⟩; have hx4 := hx3.post hp4; have q0 := hx4.log.cells.c0) | (go_at_call 27; refine (met_yes hx4.log).mono ?_; rintro r w5 ⟨rfl, rfl⟩; have hl5 := hx4.log.set (j := 6) (v := .bool true) (l' := { lA with stuck := true }) rfl; have q0 := hl5.cells.c0))
  have hP4 := HP.out.trans (HP.out.1.call ((drewTurn HT2.out).trans (drewTurn t3) (fun _ _ q => q)) hp4)
  go_wp2
  go_ret
  exact ⟨rfl, hP4.set hl5⟩

end
end Go.Proofs.YtinghngnehhgfaaGreatDoor

/-
  Append, WApp4.
-/
namespace Go.Proofs.YtinghngnehhgfaaGreatDoor
open Go.RowKit Go.Maps Go.WideMaps

section
variable {w0 w w' : World} {p lp : Nat} {S S' : Fsp.Fs} {c c' : Bool} {Q : Nat → Prop} {mo : Option Nat} {pl : List UInt8 → Pl} {l l' : Walp.Lg}

set_option maxRecDepth 100000 in
set_option maxHeartbeats 2000000 in
theorem app_full_ok (hT : SumTab w0) (hx : LogX w0 w p S Q lp l) (hst : l.stuck = false) (hd : l.dir.length ≤ 1000) (h1 : 1 ≤ l.last) (hlast : l.last < 99) {f : Fsp.File} (hf : Fsp.find S.L (Walp.seg l.dir l.last) = some f) {sp : Option Addr} {cap : Nat} {b : List UInt8} (hb : SliceX w (.slice sp b.length cap) b Q lp) (hbl : b.length ≤ 1048576) (hfull : decide (l.size ≤ f.data.length) = true) (hs : StepsLow S) {SA : Fsp.Fs} {lA : Walp.Lg} (hrot : Walp.rotate S l = ((SA, lA), 0)) (hdA : lA.dir.length ≤ 1000) (h1A : 1 ≤ lA.last) (hlA : lA.last < 100) (hsA : StepsLow SA) {S2 : Fsp.Fs} (ha : Fsp.append SA (Walp.seg lA.dir lA.last) (Walp.frame b) = (S2, 0)) (hs2 : StepsLow S2) {S3 : Fsp.Fs} {e3 : Nat} (hy : Fsp.sync S2 (Walp.seg lA.dir lA.last) = (S3, e3)) (h5 : e3 ≠ 5) :
    Calls Tryz.prog 12 #[.pointer (some ⟨lp, 0, none⟩), .slice sp b.length cap] w fun r w' => r = .returned (.int .i64 (e3 : Int)) ∧ LogP w0 w p S3 Q lp lA w' := by
  have hbl' : (b.length : Int) ≤ 1048576 := by omega
  have HTT := Lib.hid hT
  have HX := Lib.hid hx
  have HST := Lib.hid hst
  have HD := Lib.hid hd
  have H1 := Lib.hid h1
  have HL := Lib.hid hlast
  have HF := Lib.hid hf
  have HBX := Lib.hid hb
  have HFU := Lib.hid hfull
  have HSA := Lib.hid hsA
  have HA := Lib.hid ha
  have HS := Lib.hid hs
  have HR := Lib.hid hrot
  have HDA := Lib.hid hdA
  have H1A := Lib.hid h1A
  have HLA := Lib.hid hlA
  have HS2 := Lib.hid hs2
  have HY := Lib.hid hy
  have H5 := Lib.hid h5
  have HBL := Lib.hid hbl
  clear hT hx hst hd h1 hlast hf hb hfull hsA ha hs hrot hdA h1A hlA hs2 hy h5 hbl
  go_enter Tryz.func12, Tryz.ntmps12
  go_wp2_with (first | (go_at_call 26; refine (isStuck_any HX.out.log HST.out).mono ?_; rintro r w' ⟨rfl, rfl⟩) | (go_at_call 32; refine (isFull_is HX.out HD.out H1.out (by have := HL.out; omega) HF.out HFU.out).mono ?_; rintro r w1 ⟨rfl, t1⟩; have hx1 := HX.out.later t1) | (go_at_call 9; refine (rotate_is hx1 HS.out HD.out HL.out HR.out).mono ?_; rintro r wA ⟨rfl, hPA⟩))
  have hPP := hPA.pre t1 HX.out.log.lt HX.out.out HX.out.newQ
  have HP := Lib.hid hPP
  have c0 := hPP.1.log.cells.c0
  have c1 := hPP.1.log.cells.c1
  have c4 := hPP.1.log.cells.c4
  clear hPP hPA hx1 t1
  go_region_held3 (fun w' => w'.cell? ⟨lp, 1, none⟩ = some (.string (txt lA.dir)) ∧ w'.cell? ⟨lp, 4, none⟩ = some (.int .i64 (lA.last : Nat))) (first | (exact ⟨q1, q4⟩) | (exact ⟨c1, c4⟩) | go_keep) (first | (go_at_call 21; refine (name_any (txt lA.dir) (txt_size _ HDA.out) lA.last H1A.out HLA.out _).mono ?_; rintro r w2 ⟨rfl, t2⟩; have hx2 := HP.out.1.later (drewTurn t2); have q1 := hx2.log.cells.c1; have q4 := hx2.log.cells.c4))
  have q0 := hx2.log.cells.c0
  have HX2 := Lib.hid hx2
  have HT2 := Lib.hid t2
  clear hx2 t2 c0 c1 c4
  go_wp2_with fail
  go_region_held3 (fun w' => w'.cell? ⟨lp, 0, none⟩ = some (.pointer (some ⟨p, 0, none⟩))) (first | (exact q0) | go_keep) (first | (go_at_call 34; refine (frame_any (HTT.out.turned (HX2.out.turn.drew)) ((HBX.out.after HP.out.2).turned (drewTurn HT2.out).drew) HBL.out).mono ?_; rintro r w3 ⟨g, rfl, hown, t3⟩; have hx3 := HX2.out.later (drewTurn t3); have q0 := hx3.log.cells.c0) | (go_at_call 33; refine (append_seg hx3.rep HSA.out lA.dir lA.last HDA.out hown (fun i hi => HX2.out.rep.lt i hi) HBL.out HA.out).mono ?_; rintro r w4 ⟨rfl, hp4⟩; have hx4 := hx3.post hp4; have q0 := hx4.log.cells.c0) | (go_at_call 27; refine (met_no 0 (by decide) _ _).mono ?_; rintro r w5 ⟨rfl, rfl⟩))
  have hP4 := HP.out.trans (HP.out.1.call ((drewTurn HT2.out).trans (drewTurn t3) (fun _ _ q => q)) hp4)
  have HP4 := Lib.hid hP4
  clear hP4
  go_wp2_with (first | (go_at_call 35; refine (sync_seg HP4.out.1.rep HS2.out lA.dir lA.last HDA.out HY.out).mono ?_; rintro r w6 ⟨rfl, hp6⟩; have hP5 := HP4.out.trans (HP4.out.1.call (Turn.refl _ _) hp6)) | (go_at_call 27; refine (met_no e3 H5.out _ _).mono ?_; rintro r w7 ⟨rfl, rfl⟩))
  go_ret
  exact ⟨rfl, hP5⟩

set_option maxRecDepth 100000 in
set_option maxHeartbeats 2000000 in
theorem app_full_torn (hT : SumTab w0) (hx : LogX w0 w p S Q lp l) (hst : l.stuck = false) (hd : l.dir.length ≤ 1000) (h1 : 1 ≤ l.last) (hlast : l.last < 99) {f : Fsp.File} (hf : Fsp.find S.L (Walp.seg l.dir l.last) = some f) {sp : Option Addr} {cap : Nat} {b : List UInt8} (hb : SliceX w (.slice sp b.length cap) b Q lp) (hbl : b.length ≤ 1048576) (hfull : decide (l.size ≤ f.data.length) = true) (hs : StepsLow S) {SA : Fsp.Fs} {lA : Walp.Lg} (hrot : Walp.rotate S l = ((SA, lA), 0)) (hdA : lA.dir.length ≤ 1000) (h1A : 1 ≤ lA.last) (hlA : lA.last < 100) (hsA : StepsLow SA) {S2 : Fsp.Fs} (ha : Fsp.append SA (Walp.seg lA.dir lA.last) (Walp.frame b) = (S2, 0)) (hs2 : StepsLow S2) {S3 : Fsp.Fs} (hy : Fsp.sync S2 (Walp.seg lA.dir lA.last) = (S3, 5)) :
    Calls Tryz.prog 12 #[.pointer (some ⟨lp, 0, none⟩), .slice sp b.length cap] w fun r w' => r = .returned (.int .i64 5) ∧ LogP w0 w p S3 Q lp { lA with stuck := true } w' := by
  have hbl' : (b.length : Int) ≤ 1048576 := by omega
  have HTT := Lib.hid hT
  have HX := Lib.hid hx
  have HST := Lib.hid hst
  have HD := Lib.hid hd
  have H1 := Lib.hid h1
  have HL := Lib.hid hlast
  have HF := Lib.hid hf
  have HBX := Lib.hid hb
  have HFU := Lib.hid hfull
  have HSA := Lib.hid hsA
  have HA := Lib.hid ha
  have HS := Lib.hid hs
  have HR := Lib.hid hrot
  have HDA := Lib.hid hdA
  have H1A := Lib.hid h1A
  have HLA := Lib.hid hlA
  have HS2 := Lib.hid hs2
  have HY := Lib.hid hy
  have HBL := Lib.hid hbl
  clear hT hx hst hd h1 hlast hf hb hfull hsA ha hs hrot hdA h1A hlA hs2 hy hbl
  go_enter Tryz.func12, Tryz.ntmps12
  go_wp2_with (first | (go_at_call 26; refine (isStuck_any HX.out.log HST.out).mono ?_; rintro r w' ⟨rfl, rfl⟩) | (go_at_call 32; refine (isFull_is HX.out HD.out H1.out (by have := HL.out; omega) HF.out HFU.out).mono ?_; rintro r w1 ⟨rfl, t1⟩; have hx1 := HX.out.later t1) | (go_at_call 9; refine (rotate_is hx1 HS.out HD.out HL.out HR.out).mono ?_; rintro r wA ⟨rfl, hPA⟩))
  have hPP := hPA.pre t1 HX.out.log.lt HX.out.out HX.out.newQ
  have HP := Lib.hid hPP
  have c0 := hPP.1.log.cells.c0
  have c1 := hPP.1.log.cells.c1
  have c4 := hPP.1.log.cells.c4
  clear hPP hPA hx1 t1
  go_region_held3 (fun w' => w'.cell? ⟨lp, 1, none⟩ = some (.string (txt lA.dir)) ∧ w'.cell? ⟨lp, 4, none⟩ = some (.int .i64 (lA.last : Nat))) (first | (exact ⟨q1, q4⟩) | (exact ⟨c1, c4⟩) | go_keep) (first | (go_at_call 21; refine (name_any (txt lA.dir) (txt_size _ HDA.out) lA.last H1A.out HLA.out _).mono ?_; rintro r w2 ⟨rfl, t2⟩; have hx2 := HP.out.1.later (drewTurn t2); have q1 := hx2.log.cells.c1; have q4 := hx2.log.cells.c4))
  have q0 := hx2.log.cells.c0
  have HX2 := Lib.hid hx2
  have HT2 := Lib.hid t2
  clear hx2 t2 c0 c1 c4
  go_wp2_with fail
  go_region_held3 (fun w' => w'.cell? ⟨lp, 0, none⟩ = some (.pointer (some ⟨p, 0, none⟩))) (first | (exact q0) | go_keep) (first | (go_at_call 34; refine (frame_any (HTT.out.turned (HX2.out.turn.drew)) ((HBX.out.after HP.out.2).turned (drewTurn HT2.out).drew) HBL.out).mono ?_; rintro r w3 ⟨g, rfl, hown, t3⟩; have hx3 := HX2.out.later (drewTurn t3); have q0 := hx3.log.cells.c0) | (go_at_call 33; refine (append_seg hx3.rep HSA.out lA.dir lA.last HDA.out hown (fun i hi => HX2.out.rep.lt i hi) HBL.out HA.out).mono ?_; rintro r w4 ⟨rfl, hp4⟩; have hx4 := hx3.post hp4; have q0 := hx4.log.cells.c0) | (go_at_call 27; refine (met_no 0 (by decide) _ _).mono ?_; rintro r w5 ⟨rfl, rfl⟩))
  have hP4 := HP.out.trans (HP.out.1.call ((drewTurn HT2.out).trans (drewTurn t3) (fun _ _ q => q)) hp4)
  have HP4 := Lib.hid hP4
  clear hP4
  go_wp2_with (first | (go_at_call 35; refine (sync_seg HP4.out.1.rep HS2.out lA.dir lA.last HDA.out HY.out).mono ?_; rintro r w6 ⟨rfl, hp6⟩; have hP5 := HP4.out.trans (HP4.out.1.call (Turn.refl _ _) hp6)) | (go_at_call 27; refine (met_yes hP5.1.log).mono ?_; rintro r w7 ⟨rfl, rfl⟩))
  go_ret
  exact ⟨rfl, hP5.set (hP5.1.log.set (l' := { lA with stuck := true }) rfl)⟩

end
end Go.Proofs.YtinghngnehhgfaaGreatDoor

/-
  Append, all of it.
-/
namespace Go.Proofs.YtinghngnehhgfaaGreatDoor
open Go.RowKit Go.Maps Go.WideMaps

section
variable {w0 w w' : World} {p lp : Nat} {S S' : Fsp.Fs} {c c' : Bool} {Q : Nat → Prop} {mo : Option Nat} {pl : List UInt8 → Pl} {l l' : Walp.Lg}

theorem create_steps (S : Fsp.Fs) (n : List UInt8) : (Fsp.create S n).1.steps ≤ S.steps + 1 := by
  have h := steps_stepped S
  unfold Fsp.create
  repeat' split
  all_goals first | (show S.steps ≤ S.steps + 1; omega) | exact h
theorem append_steps (S : Fsp.Fs) (n b : List UInt8) : (Fsp.append S n b).1.steps ≤ S.steps + 1 := by
  have h := steps_stepped S
  unfold Fsp.append
  repeat' split
  all_goals first | (show S.steps ≤ S.steps + 1; omega) | exact h
theorem sync_steps (S : Fsp.Fs) (n : List UInt8) : (Fsp.sync S n).1.steps ≤ S.steps + 1 := by
  have h := steps_stepped S
  unfold Fsp.sync
  repeat' split
  all_goals first | (show S.steps ≤ S.steps + 1; omega) | exact h

theorem app_stuck (hx : LogX w0 w p S Q lp l) (hst : l.stuck = true) (v : Value) :
    Calls Tryz.prog 12 #[.pointer (some ⟨lp, 0, none⟩), v] w fun r w' => r = .returned (.int .i64 25) ∧ w = w' := by
  go_enter Tryz.func12, Tryz.ntmps12
  go_wp2_with (go_at_call 26; refine (isStuck_any hx.log hst).mono ?_; rintro r w' ⟨rfl, rfl⟩)
  go_ret
  exact ⟨rfl, rfl⟩

set_option maxRecDepth 100000 in
set_option maxHeartbeats 1000000 in
theorem app_rot (hx : LogX w0 w p S Q lp l) (hst : l.stuck = false) (hd : l.dir.length ≤ 1000) (h1 : 1 ≤ l.last) (hlast : l.last < 99) {f : Fsp.File} (hf : Fsp.find S.L (Walp.seg l.dir l.last) = some f) {sp : Option Addr} {cap : Nat} {b : List UInt8} (hbl : b.length ≤ 1048576)
    (hfull : decide (l.size ≤ f.data.length) = true) (hs : StepsLow S) {SA : Fsp.Fs} {lA : Walp.Lg} {e : Nat} (hrot : Walp.rotate S l = ((SA, lA), e)) (h0 : e ≠ 0) :
    Calls Tryz.prog 12 #[.pointer (some ⟨lp, 0, none⟩), .slice sp b.length cap] w fun r w' => r = .returned (.int .i64 (e : Int)) ∧ LogP w0 w p SA Q lp lA w' := by
  have hbl' : (b.length : Int) ≤ 1048576 := by omega
  have b0 : ((e : Int) != 0) = true := by rw [bne_iff_ne]; omega
  have HX := Lib.hid hx
  have HST := Lib.hid hst
  have HD := Lib.hid hd
  have H1 := Lib.hid h1
  have HL := Lib.hid hlast
  have HF := Lib.hid hf
  have HFU := Lib.hid hfull
  have HS := Lib.hid hs
  have HR := Lib.hid hrot
  clear hx hst hd h1 hlast hf hfull hs hrot hbl h0
  go_enter Tryz.func12, Tryz.ntmps12
  go_wp2_with (first | (go_at_call 26; refine (isStuck_any HX.out.log HST.out).mono ?_; rintro r w' ⟨rfl, rfl⟩) | (go_at_call 32; refine (isFull_is HX.out HD.out H1.out (by have := HL.out; omega) HF.out HFU.out).mono ?_; rintro r w1 ⟨rfl, t1⟩; have hx1 := HX.out.later t1) | (go_at_call 9; refine (rotate_is hx1 HS.out HD.out HL.out HR.out).mono ?_; rintro r wA ⟨rfl, hPA⟩))
  go_ret
  exact ⟨rfl, hPA.pre t1 HX.out.log.lt HX.out.out HX.out.newQ⟩

theorem rotate_eq0 {S1 : Fsp.Fs} {l1 : Walp.Lg} (h : Walp.rotate S l = ((S1, l1), 0)) (hst : l.stuck = false) : l1 = { l with last := l.last + 1 } ∧ S1.steps ≤ S.steps + 1 := by
  unfold Walp.rotate at h
  rw [hst, if_neg Bool.false_ne_true] at h
  by_cases h2 : 99999999 ≤ l.last
  · rw [if_pos h2] at h; simp at h
  rw [if_neg h2] at h
  have hc := create_steps S (Walp.seg l.dir (l.last + 1))
  by_cases h3 : (Fsp.create S (Walp.seg l.dir (l.last + 1))).2 = 0
  · rw [if_pos h3] at h
    simp only [Prod.mk.injEq, and_true] at h
    obtain ⟨h4, h5⟩ := h
    exact ⟨by rw [← h5, hst], by rw [← h4]; exact hc⟩
  · rw [if_neg h3] at h
    simp only [Prod.mk.injEq] at h
    exact absurd h.2 h3

theorem met_same {e : Nat} (h : e ≠ 5) : Walp.met l e = l := by unfold Walp.met; rw [if_neg h]
theorem met_down : Walp.met l 5 = { l with stuck := true } := rfl

theorem wAppend_any (hT : SumTab w0) (hx : LogX w0 w p S Q lp l) (hst : l.stuck = false) (hd : l.dir.length ≤ 1000) (h1 : 1 ≤ l.last) (hlast : l.last < 98) {f : Fsp.File} (hf : Fsp.find S.L (Walp.seg l.dir l.last) = some f) {sp : Option Addr} {cap : Nat} {b : List UInt8}
    (hb : SliceX w (.slice sp b.length cap) b Q lp) (hbl : b.length ≤ 1048576) (hs : S.steps + 10 < 4611686018427387000) :
    Calls Tryz.prog 12 #[.pointer (some ⟨lp, 0, none⟩), .slice sp b.length cap] w fun r w' => r = .returned (.int .i64 ((Walp.append S l b).2 : Nat)) ∧ LogP w0 w p (Walp.append S l b).1.1 Q lp (Walp.append S l b).1.2 w' := by
  have e1 : Walp.append S l b = if Walp.full S l = true then (if (Walp.rotate S l).2 = 0 then Walp.write (Walp.rotate S l).1.1 (Walp.rotate S l).1.2 b else Walp.rotate S l) else Walp.write S l b := by
    unfold Walp.append
    rw [hst, if_neg Bool.false_ne_true, if_neg (by omega)]
  have ef : Walp.full S l = decide (l.size ≤ f.data.length) := by unfold Walp.full; rw [hf]
  have sl : StepsLow S := by unfold StepsLow; omega
  rw [e1, ef]
  cases hfull : decide (l.size ≤ f.data.length) with
  | false =>
    rw [if_neg Bool.false_ne_true]
    unfold Walp.write
    obtain ⟨S2, e2, ha⟩ : ∃ S2 e2, Fsp.append S (Walp.seg l.dir l.last) (Walp.frame b) = (S2, e2) := ⟨_, _, rfl⟩
    have st2 := append_steps S (Walp.seg l.dir l.last) (Walp.frame b)
    rw [ha] at st2 ⊢
    simp only at st2 ⊢
    by_cases h0 : e2 = 0
    · subst h0
      rw [if_pos rfl]
      obtain ⟨S3, e3, hy⟩ : ∃ S3 e3, Fsp.sync S2 (Walp.seg l.dir l.last) = (S3, e3) := ⟨_, _, rfl⟩
      rw [hy]
      simp only
      by_cases h5 : e3 = 5
      · subst h5
        exact app_room_torn hT hx hst hd h1 (by omega) hf hb hbl hfull sl ha (by unfold StepsLow; omega) hy
      · rw [met_same h5]
        exact app_room_ok hT hx hst hd h1 (by omega) hf hb hbl hfull sl ha (by unfold StepsLow; omega) hy h5
    · rw [if_neg h0]
      simp only
      by_cases h5 : e2 = 5
      · subst h5
        exact app_room_down hT hx hst hd h1 (by omega) hf hb hbl hfull sl ha
      · rw [met_same h5]
        exact app_room_err hT hx hst hd h1 (by omega) hf hb hbl hfull sl ha h0 h5
  | true =>
    rw [if_pos rfl]
    obtain ⟨SA, lA, e, hrot⟩ : ∃ SA lA e, Walp.rotate S l = ((SA, lA), e) := ⟨_, _, _, rfl⟩
    rw [hrot]
    simp only
    by_cases he : e = 0
    · subst he
      rw [if_pos rfl]
      obtain ⟨hlA, stA⟩ := rotate_eq0 hrot hst
      have hdA : lA.dir.length ≤ 1000 := by rw [hlA]; exact hd
      have h1A : 1 ≤ lA.last := by rw [hlA]; show 1 ≤ l.last + 1; omega
      have hLA : lA.last < 100 := by rw [hlA]; show l.last + 1 < 100; omega
      unfold Walp.write
      obtain ⟨S2, e2, ha⟩ : ∃ S2 e2, Fsp.append SA (Walp.seg lA.dir lA.last) (Walp.frame b) = (S2, e2) := ⟨_, _, rfl⟩
      have st2 := append_steps SA (Walp.seg lA.dir lA.last) (Walp.frame b)
      rw [ha] at st2 ⊢
      simp only at st2 ⊢
      have slA : StepsLow SA := by unfold StepsLow; omega
      by_cases h0 : e2 = 0
      · subst h0
        rw [if_pos rfl]
        obtain ⟨S3, e3, hy⟩ : ∃ S3 e3, Fsp.sync S2 (Walp.seg lA.dir lA.last) = (S3, e3) := ⟨_, _, rfl⟩
        rw [hy]
        simp only
        by_cases h5 : e3 = 5
        · subst h5
          exact app_full_torn hT hx hst hd h1 (by omega) hf hb hbl hfull sl hrot hdA h1A hLA slA ha (by unfold StepsLow; omega) hy
        · rw [met_same h5]
          exact app_full_ok hT hx hst hd h1 (by omega) hf hb hbl hfull sl hrot hdA h1A hLA slA ha (by unfold StepsLow; omega) hy h5
      · rw [if_neg h0]
        simp only
        by_cases h5 : e2 = 5
        · subst h5
          exact app_full_down hT hx hst hd h1 (by omega) hf hb hbl hfull sl hrot hdA h1A hLA slA ha
        · rw [met_same h5]
          exact app_full_err hT hx hst hd h1 (by omega) hf hb hbl hfull sl hrot hdA h1A hLA slA ha h0 h5
    · rw [if_neg he]
      exact app_rot hx hst hd h1 (by omega) hf hbl hfull sl hrot he

end
end Go.Proofs.YtinghngnehhgfaaGreatDoor
