/-
  Open that refuses: a file system that is down; a number that is missing; a segment ahead of the last one that is not whole.
-/
import Derived.Test.YtkhlejficonhpaaGreatDoorWI
namespace Go.Proofs.YtkhlejficonhpaaGreatDoor
open Go.RowKit Go.Maps Go.WideMaps

section
variable {w0 w w' : World} {p lp : Nat} {S S' : Fsp.Fs} {Q : Nat → Prop} {l l' : Walp.Lg}

/-- Open has refused with this -/
def Refuses (w : World) (e : Int) (r : Ending) (w' : World) : Prop := r = .returned (.tuple #[.pointer none, .slice none 0 0, .int .i64 e]) ∧ Turn (fun _ => False) w w'

set_option maxRecDepth 100000 in
set_option maxHeartbeats 2000000 in
theorem open_down (hr : Rep w p S Q) (d : List UInt8) (hv : Fsp.valid (Walp.seg d 1) = true) (sz : Nat) (hz1 : 16 ≤ sz) (hz2 : sz ≤ 1048576) (hdn : S.down = true) :
    Calls Tryz.prog 13 #[.pointer (some ⟨p, 0, none⟩), .string (txt d), .int .i64 (sz : Nat)] w (Refuses w 5) := by
  have hdl : d.length ≤ 1000 := by
    have h := valid_size hv
    rw [Walp.seg_length] at h; omega
  have i1 : (16 : Int) ≤ (sz : Int) := by omega
  have i2 : (sz : Int) ≤ 1048576 := by omega
  have HR := Lib.hid hr
  have HV := Lib.hid hv
  have HD := Lib.hid hdn
  have HDL := Lib.hid hdl
  clear hr hv hz1 hz2 hdn hdl
  go_enter Tryz.func13, Tryz.ntmps13
  go_wp2_with (first | (go_at_call 29; refine (name_any (txt d) (txt_size _ HDL.out) 1 (by decide) (by decide) _).mono ?_; rintro r w2 ⟨rfl, t2⟩; have HT2 := Lib.hid t2; clear t2) | (go_at_call 47; refine (valid_seg1 d HDL.out HV.out _).mono ?_; rintro r w3 ⟨rfl, rfl⟩) | (go_at_call 44; refine (down_rep (HR.out.turned HT2.out (fun _ _ q => q)) HD.out).mono ?_; rintro r w3 ⟨rfl, rfl⟩))
  go_ret3
  exact ⟨rfl, HT2.out⟩

set_option maxRecDepth 100000 in
set_option maxHeartbeats 2000000 in
theorem open_gap (hr : Rep w p S Q) (hq : ∀ b, Q b → w0.heap.size ≤ b) (ht : Turn (fun _ => False) w0 w) (d : List UInt8) (hv : Fsp.valid (Walp.seg d 1) = true) (sz : Nat) (hz1 : 16 ≤ sz) (hz2 : sz ≤ 1048576) (hdn : S.down = false)
    {l1 : Walp.Lg} (hf : found S (fresh d sz) = (S, l1, 14)) (hn : (Walp.numsOf d (namesOf S d)).length ≠ 0) (hs0 : StepsLow S) :
    Calls Tryz.prog 13 #[.pointer (some ⟨p, 0, none⟩), .string (txt d), .int .i64 (sz : Nat)] w (Refuses w 14) := by
  have hdl : d.length ≤ 1000 := by
    have h := valid_size hv
    rw [Walp.seg_length] at h; omega
  have i1 : (16 : Int) ≤ (sz : Int) := by omega
  have i2 : (sz : Int) ≤ 1048576 := by omega
  have HR := Lib.hid hr
  have HQ := Lib.hid hq
  have HTT := Lib.hid ht
  have HV := Lib.hid hv
  have HD := Lib.hid hdn
  have HF := Lib.hid hf
  have HN := Lib.hid hn
  have HDL := Lib.hid hdl
  have HS0 := Lib.hid hs0
  clear hr hq ht hv hz1 hz2 hdn hdl hf hn hs0
  go_enter Tryz.func13, Tryz.ntmps13
  go_wp2_with (first | (go_at_call 29; refine (name_any (txt d) (txt_size _ HDL.out) 1 (by decide) (by decide) _).mono ?_; rintro r w2 ⟨rfl, t2⟩; have HT2 := Lib.hid t2; clear t2) | (go_at_call 47; refine (valid_seg1 d HDL.out HV.out _).mono ?_; rintro r w3 ⟨rfl, rfl⟩) | (go_at_call 44; refine (down_rep (HR.out.turned HT2.out (fun _ _ q => q)) HD.out).mono ?_; rintro r w3 ⟨rfl, rfl⟩) | (go_at_call 48; refine (clone_any (txt d) (by have := txt_size _ HDL.out; omega) _).mono ?_; rintro r w4 ⟨rfl, t4⟩; have HX5 := Lib.hid (LogX.made HR.out HQ.out HTT.out (HT2.out.trans t4 (fun _ _ q => q)) d sz); have HT5 := Lib.hid ((HT2.out.trans t4 (fun _ _ q => q)).alloc (.cells #[.pointer (some ⟨p, 0, none⟩), .string (txt d), .int .i64 (sz : Nat), .int .i64 0, .int .i64 0, .int .i64 0, .bool false] 71)); have HT4 := Lib.hid (HT2.out.trans t4 (fun _ _ q => q)); clear t4))
  have hx5 := HX5.out
  have ht5 := HT5.out
  clear HX5 HT5
  have hlp := HT4.out.size
  clear HT4 HT2
  go_at_call 49
  revert hx5 ht5
  generalize World.alloc w4 (.cells #[.pointer (some ⟨p, 0, none⟩), .string (txt d), .int .i64 (sz : Nat), .int .i64 0, .int .i64 0, .int .i64 0, .bool false] 71) = w5
  generalize w4.heap.size = lp at hlp ⊢
  intro hx5 ht5
  refine (find_seg hx5 HDL.out HS0.out (by show 0 < 100000000; omega) (by show 0 < 100000000; omega)).mono ?_
  rintro r w6 ⟨rfl, hP6, htl⟩
  rw [HF.out]
  have HTL := Lib.hid htl
  have HT5 := Lib.hid ht5
  have HLP := Lib.hid hlp
  clear hP6 htl hx5 ht5 hlp
  go_wp2_with fail
  go_ret3
  exact ⟨rfl, HT5.out.trans (HTL.out HN.out) (fun i hi q => by have := HLP.out; omega)⟩

set_option maxRecDepth 100000 in
set_option maxHeartbeats 2000000 in
theorem read_bad (hT : SumTab w) (hx : LogX w0 w p S Q lp l) (hd : l.dir.length ≤ 1000) (fs : List Fsp.File) (hfs : ∀ (i : Nat) (g : Fsp.File), fs[i]? = some g → Fsp.find S.L (Walp.seg l.dir (l.first + i)) = some g)
    (hlast : l.last + 1 = l.first + fs.length) (h1 : 1 ≤ l.first) (hl : l.last < 100) (j : Nat) (hj : j + 1 < fs.length) (hw : ∀ i g, i < j → fs[i]? = some g → wholeF g.data = true) (hb : ∀ g, fs[j]? = some g → wholeF g.data = false) :
    Calls Tryz.prog 50 #[.pointer (some ⟨lp, 0, none⟩)] w fun r w' => r = .returned (.tuple #[.slice none 0 0, .int .i64 14]) ∧ Turn (fun _ => False) w w' := by
  have c0 := hx.log.cells.c0
  have c1 := hx.log.cells.c1
  have c3 := hx.log.cells.c3
  have c4 := hx.log.cells.c4
  have HT := Lib.hid hT
  have HX := Lib.hid hx
  have HD := Lib.hid hd
  have HFS := Lib.hid hfs
  have HLA := Lib.hid hlast
  have H1 := Lib.hid h1
  have HL := Lib.hid hl
  have HJ := Lib.hid hj
  have HW := Lib.hid hw
  have HB := Lib.hid hb
  clear hT hx hd hfs hlast h1 hl hj hw hb
  go_enter Tryz.func50, Tryz.ntmps50
  go_wp2_with fail
  go_loopw [4, 5] (fun rv n wr => ∃ i : Nat, i ≤ j ∧ n = .int .i64 ((l.first + i : Nat) : Int) ∧ (∃ sp cap, rv = .slice sp (recsOf (fs.take i)).length cap ∧ ListsO wr w.heap.size (.slice sp (recsOf (fs.take i)).length cap) (recsOf (fs.take i))) ∧ Turn (fun _ => False) w wr) (fun _ n _ => l.last + 1 - (intOf n).toNat)
  case atStart => exact ⟨0, Nat.zero_le _, rfl, ⟨none, 0, rfl, ListsO.nil _ _⟩, Turn.refl _ _⟩
  case round =>
    obtain ⟨i, hi, rfl, ⟨sp, cap, rfl, hls⟩, ht⟩ := hrel
    have hlt : i < fs.length := by have := HJ.out; omega
    have hX := HX.out.later ht
    have d0 := hX.log.cells.c0
    have d1 := hX.log.cells.c1
    have d4 := hX.log.cells.c4
    obtain ⟨n, hn⟩ : ∃ n, n = l.first + i := ⟨_, rfl⟩
    rw [← hn]
    have hfind := HFS.out i fs[i] (List.getElem?_eq_getElem hlt)
    rw [← hn] at hfind
    have hnl : n < l.last := by have := HLA.out; have := HJ.out; omega
    have i1 : (n : Int) ≤ (l.last : Int) := by omega
    have i3 : (n : Int) < (l.last : Int) := by omega
    have hnlo : 1 ≤ n := by have := H1.out; omega
    have hnhi : n < 100 := by have := HL.out; omega
    have hrt := recs_take hlt
    have hT2 := HT.out.turned ht
    have hg2 : fs[i]? = some fs[i] := List.getElem?_eq_getElem hlt
    generalize fs[i] = g at *
    have HX2 := Lib.hid hX
    have HF := Lib.hid hfind
    have HN := Lib.hid hn
    have HNL := Lib.hid hnlo
    have HNH := Lib.hid hnhi
    have HRT := Lib.hid hrt
    have HT2 := Lib.hid hT2
    have HG := Lib.hid hg2
    have HLS := Lib.hid hls
    have HTT := Lib.hid ht
    have HLT := Lib.hid hlt
    have HI := Lib.hid hi
    have HNLL := Lib.hid hnl
    have hrl : (recsOf (fs.take i)).length ≤ 67108864 * 100 := by
      refine Nat.le_trans (recs_le (fs.take i) (fun x hx => ?_)) ?_
      · obtain ⟨j, hj, e⟩ := List.getElem_of_mem hx
        rw [List.length_take] at hj
        rw [List.getElem_take] at e
        have h := HFS.out j fs[j] (List.getElem?_eq_getElem (by omega))
        obtain ⟨mo, pl, hr⟩ := HX.out.rep
        have h1 := hr.good.2.1
        have h2 := hr.good.2.2.1
        have h3 := Fsp.used_find h
        rw [← e]; omega
      · have := HLA.out; have := HL.out; have := H1.out
        rw [List.length_take]
        omega
    have HRL := Lib.hid hrl
    clear hX hfind hn hnlo hnhi hrt hT2 hg2 hls ht hlt hnl hi hrl
    cases hwh : wholeF g.data with
    | true =>
      have hij : i < j := by
        rcases Nat.lt_or_ge i j with h | h
        · exact h
        · have he : i = j := by have := HI.out; omega
          have h2 := HB.out g (by rw [← he]; exact HG.out)
          rw [hwh] at h2; cases h2
      have HIJ := Lib.hid hij
      clear hij
      unfold wholeF at hwh
      have HWH := Lib.hid hwh
      clear hwh i3
      go_wp2_with fail
      go_region_held3 (fun w' => w'.cell? ⟨lp, 0, none⟩ = some (.pointer (some ⟨p, 0, none⟩)) ∧ w'.cell? ⟨lp, 1, none⟩ = some (.string (txt l.dir))) (first | (exact ⟨q0, q1⟩) | (exact ⟨d0, d1⟩) | go_keep) (first | (go_at_call 29; refine (name_any (txt l.dir) (txt_size _ HD.out) n HNL.out HNH.out _).mono ?_; rintro r w2 ⟨rfl, t2⟩; have hx2 := HX2.out.later (drewTurn t2); have q0 := hx2.log.cells.c0; have q1 := hx2.log.cells.c1) | (go_at_call 37; refine (read_file hx2 n HD.out HF.out).mono ?_; rintro r w3 ⟨⟨gb, rfl, hsl⟩, hsz, t3⟩; have hx3 := hx2.later t3; have q0 := hx3.log.cells.c0; have q1 := hx3.log.cells.c1))
      have HR3 := Lib.hid hx3
      have ht3 := (drewTurn t2).trans t3 (fun _ _ q => q)
      have HT3 := Lib.hid ht3
      have HSL := Lib.hid hsl
      have HSZ := Lib.hid hsz
      clear hx2 hx3 t2 t3 ht3 hsl hsz d0 d1
      go_wp2_with (first | (go_at_call 22; refine (scan_bool HWH.out (HT2.out.turned HT3.out) HSL.out (by have := HSZ.out; omega)).mono ?_; rintro r w4 ⟨⟨u, rfl, hls4⟩, t4⟩; have hx4 := HR3.out.later t4; have r4 := hx4.log.cells.c4; have HR4 := Lib.hid hx4; have HLS4 := Lib.hid hls4; have HT4 := Lib.hid t4; clear hx4 hls4 t4) | (at_builtin; refine append_lists rfl (.tmp 68) (.tmp 69) rfl (base := w.heap.size) rfl rfl (HLS.out.new (HT3.out.trans HT4.out (fun _ _ q => q))) (HLS4.out.mono (by have := HTT.out.size; have := HT3.out.size; omega)) (by have := HRL.out; have := scan_le g.data; have := HSZ.out; omega) (by have := HTT.out.size; have := HT3.out.size; have := HT4.out.size; omega) ?_))
      intro sp5 cap5 w5 hls5 t5
      have htw : Turn (fun _ => False) w w5 := by
        have h4 := (HTT.out.trans HT3.out (fun _ _ q => q)).trans HT4.out (fun _ _ q => q)
        refine h4.trans t5 (fun i hi q => ?_)
        obtain ⟨xs, o1, _, _⟩ := HLS.out
        have := (own_block o1 q).1
        omega
      have HTW := Lib.hid htw
      have HL5 := Lib.hid hls5
      clear htw hls5 t5
      have hn2 := HNH.out
      go_wp2
      go_roundw
      case rel =>
        exact ⟨i + 1, HIJ.out, by have := HN.out; go_num, ⟨sp5, cap5, by rw [HRT.out, List.length_append], by rw [HRT.out, List.length_append]; exact HL5.out⟩, HTW.out⟩
      case measure => have := HN.out; have := HNLL.out; simp [intOf]; omega
    | false =>
      unfold wholeF at hwh
      obtain ⟨E, hE⟩ : ∃ E, E = (Walp.frames (Walp.scan g.data)).length := ⟨_, rfl⟩
      rw [← hE] at hwh
      have hscan : ∀ (W : World) (v : Value), SumTab W → SliceC W v g.data → g.data.length ≤ 1073741824 → Calls Tryz.prog 22 #[v] W fun r w' => (∃ u, r = .returned (.tuple #[u, .int .i64 (E : Nat), .bool false]) ∧ ListsO w' W.heap.size u (Walp.scan g.data)) ∧ Turn (fun _ => False) W w' := by
        intro W v h1 h2 h3
        have h := scan_bool (x := false) (by rw [← hE]; exact hwh) h1 h2 h3
        rw [← hE] at h
        exact h
      have HSC := Lib.hid hscan
      clear hscan hwh hE
      go_wp2_with fail
      go_region_held3 (fun w' => w'.cell? ⟨lp, 0, none⟩ = some (.pointer (some ⟨p, 0, none⟩)) ∧ w'.cell? ⟨lp, 1, none⟩ = some (.string (txt l.dir))) (first | (exact ⟨q0, q1⟩) | (exact ⟨d0, d1⟩) | go_keep) (first | (go_at_call 29; refine (name_any (txt l.dir) (txt_size _ HD.out) n HNL.out HNH.out _).mono ?_; rintro r w2 ⟨rfl, t2⟩; have hx2 := HX2.out.later (drewTurn t2); have q0 := hx2.log.cells.c0; have q1 := hx2.log.cells.c1) | (go_at_call 37; refine (read_file hx2 n HD.out HF.out).mono ?_; rintro r w3 ⟨⟨gb, rfl, hsl⟩, hsz, t3⟩; have hx3 := hx2.later t3; have q0 := hx3.log.cells.c0; have q1 := hx3.log.cells.c1))
      have HR3 := Lib.hid hx3
      have ht3 := (drewTurn t2).trans t3 (fun _ _ q => q)
      have HT3 := Lib.hid ht3
      have HSL := Lib.hid hsl
      have HSZ := Lib.hid hsz
      clear hx2 hx3 t2 t3 ht3 hsl hsz d0 d1
      go_wp2_with (first | (go_at_call 22; refine (HSC.out _ _ (HT2.out.turned HT3.out) HSL.out (by have := HSZ.out; omega)).mono ?_; rintro r w4 ⟨⟨u, rfl, hls4⟩, t4⟩; have hx4 := HR3.out.later t4; have r4 := hx4.log.cells.c4; have HR4 := Lib.hid hx4; have HLS4 := Lib.hid hls4; have HT4 := Lib.hid t4; clear hx4 hls4 t4) | (at_builtin; fail))
      go_ret2
      exact ⟨rfl, (HTT.out.trans HT3.out (fun _ _ q => q)).trans HT4.out (fun _ _ q => q)⟩

set_option maxRecDepth 100000 in
set_option maxHeartbeats 2000000 in
theorem open_bad (hT : SumTab w0) (hr : Rep w p S Q) (hq : ∀ b, Q b → w0.heap.size ≤ b) (ht : Turn (fun _ => False) w0 w) (d : List UInt8) (hv : Fsp.valid (Walp.seg d 1) = true) (sz : Nat) (hz1 : 16 ≤ sz) (hz2 : sz ≤ 1048576) (hdn : S.down = false)
    {l1 : Walp.Lg} (hf : found S (fresh d sz) = (S, l1, 0)) (hnn : (Walp.numsOf d (namesOf S d)).length ≠ 0) (fs : List Fsp.File) (hfs : ∀ (i : Nat) (g : Fsp.File), fs[i]? = some g → Fsp.find S.L (Walp.seg d (l1.first + i)) = some g)
    (hlast : l1.last + 1 = l1.first + fs.length) (h1 : 1 ≤ l1.first) (hl : l1.last < 100) (j : Nat) (hj : j + 1 < fs.length) (hw : ∀ i g, i < j → fs[i]? = some g → wholeF g.data = true) (hb : ∀ g, fs[j]? = some g → wholeF g.data = false) (hs0 : StepsLow S) :
    Calls Tryz.prog 13 #[.pointer (some ⟨p, 0, none⟩), .string (txt d), .int .i64 (sz : Nat)] w (Refuses w 14) := by
  have hdl : d.length ≤ 1000 := by
    have h := valid_size hv
    rw [Walp.seg_length] at h; omega
  have i1 : (16 : Int) ≤ (sz : Int) := by omega
  have i2 : (sz : Int) ≤ 1048576 := by omega
  have HT := Lib.hid hT
  have HR := Lib.hid hr
  have HQ := Lib.hid hq
  have HTT := Lib.hid ht
  have HV := Lib.hid hv
  have HD := Lib.hid hdn
  have HF := Lib.hid hf
  have HN := Lib.hid hnn
  have HFS := Lib.hid hfs
  have HLA := Lib.hid hlast
  have H1 := Lib.hid h1
  have HL := Lib.hid hl
  have HJ := Lib.hid hj
  have HW := Lib.hid hw
  have HB := Lib.hid hb
  have HDL := Lib.hid hdl
  have HS0 := Lib.hid hs0
  clear hT hr hq ht hv hz1 hz2 hdn hdl hf hnn hs0 hfs hlast h1 hl hj hw hb
  go_enter Tryz.func13, Tryz.ntmps13
  go_wp2_with (first | (go_at_call 29; refine (name_any (txt d) (txt_size _ HDL.out) 1 (by decide) (by decide) _).mono ?_; rintro r w2 ⟨rfl, t2⟩; have HT2 := Lib.hid t2; clear t2) | (go_at_call 47; refine (valid_seg1 d HDL.out HV.out _).mono ?_; rintro r w3 ⟨rfl, rfl⟩) | (go_at_call 44; refine (down_rep (HR.out.turned HT2.out (fun _ _ q => q)) HD.out).mono ?_; rintro r w3 ⟨rfl, rfl⟩) | (go_at_call 48; refine (clone_any (txt d) (by have := txt_size _ HDL.out; omega) _).mono ?_; rintro r w4 ⟨rfl, t4⟩; have HX5 := Lib.hid (LogX.made HR.out HQ.out HTT.out (HT2.out.trans t4 (fun _ _ q => q)) d sz); have HT5 := Lib.hid ((HT2.out.trans t4 (fun _ _ q => q)).alloc (.cells #[.pointer (some ⟨p, 0, none⟩), .string (txt d), .int .i64 (sz : Nat), .int .i64 0, .int .i64 0, .int .i64 0, .bool false] 71)); have HT4 := Lib.hid (HT2.out.trans t4 (fun _ _ q => q)); clear t4))
  have hx5 := HX5.out
  have ht5 := HT5.out
  clear HX5 HT5
  have hlp := HT4.out.size
  clear HT4 HT2
  go_at_call 49
  revert hx5 ht5
  generalize World.alloc w4 (.cells #[.pointer (some ⟨p, 0, none⟩), .string (txt d), .int .i64 (sz : Nat), .int .i64 0, .int .i64 0, .int .i64 0, .bool false] 71) = w5
  generalize w4.heap.size = lp at hlp ⊢
  intro hx5 ht5
  refine (find_seg hx5 HDL.out HS0.out (by show 0 < 100000000; omega) (by show 0 < 100000000; omega)).mono ?_
  rintro r w6 ⟨rfl, hP6, htl⟩
  rw [HF.out] at hP6 ⊢
  have hdir : l1.dir = d := by
    have h := found_dir S (fresh d sz)
    rw [HF.out] at h; exact h
  have hread := read_bad (HT.out.turned hP6.1.turn) hP6.1 (by rw [hdir]; exact HDL.out) fs (by rw [hdir]; exact HFS.out) HLA.out H1.out HL.out j HJ.out HW.out HB.out
  have HRD := Lib.hid hread
  have HTL := Lib.hid htl
  have HT5 := Lib.hid ht5
  have HLP := Lib.hid hlp
  clear hP6 htl hx5 ht5 hlp hread hdir
  go_wp2_with (go_at_call 50; refine HRD.out.mono ?_; rintro r w7 ⟨rfl, t7⟩; have T7 := Lib.hid t7; clear t7)
  go_ret3
  exact ⟨rfl, (HT5.out.trans (HTL.out HN.out) (fun i hi q => by have := HLP.out; omega)).trans T7.out (fun _ _ q => q)⟩

end
end Go.Proofs.YtkhlejficonhpaaGreatDoor
