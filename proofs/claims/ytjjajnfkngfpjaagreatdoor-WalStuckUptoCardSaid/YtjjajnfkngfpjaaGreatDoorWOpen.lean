/-
  Open of a log.
-/
import Derived.Test.YtjjajnfkngfpjaaGreatDoorWRead
namespace Go.Proofs.YtjjajnfkngfpjaaGreatDoor
open Go.RowKit Go.Maps Go.WideMaps

section
variable {w0 w w' : World} {p lp : Nat} {S S' : Fsp.Fs} {c c' : Bool} {Q : Nat → Prop} {mo : Option Nat} {pl : List UInt8 → Pl} {l l' : Walp.Lg}

/-- a log that knows nothing of its files yet -/
def fresh (d : List UInt8) (sz : Nat) : Walp.Lg := ⟨d, sz, 0, 0, 0, false⟩

theorem down_rep (hr : Rep w p S Q) {b : Bool} (hd : S.down = b) : Calls Tryz.prog 44 #[.pointer (some ⟨p, 0, none⟩)] w fun r w' => r = .returned (.bool b) ∧ w = w' := by
  obtain ⟨mo, pl, h⟩ := hr
  exact down_is h hd

theorem valid_seg1 (d : List UInt8) (hd : d.length ≤ 1000) {b : Bool} (hv : Fsp.valid (Walp.seg d 1) = b) (w : World) : Calls Tryz.prog 47 #[.string (segName (txt d) 1)] w fun r w' => r = .returned (.bool b) ∧ w = w' := by
  have h := valid_any (segName (txt d) 1) (seg_size d 1 hd) w
  rw [segName_list, txt_list, hv] at h
  exact h

theorem LogX.made {w1 : World} (hr : Rep w p S Q) (hq : ∀ b, Q b → w0.heap.size ≤ b) (ht : Turn (fun _ => False) w0 w) (h1 : Turn (fun _ => False) w w1) (d : List UInt8) (sz : Nat) :
    LogX w0 (w1.alloc (.cells #[.pointer (some ⟨p, 0, none⟩), .string (txt d), .int .i64 (sz : Nat), .int .i64 0, .int .i64 0, .int .i64 0, .bool false] 71)) p S Q w1.heap.size (fresh d sz) := by
  have hl := hr.lt
  have s1 := h1.size
  have s0 := ht.size
  have h2 : Turn (fun _ => False) w (w1.alloc (.cells #[.pointer (some ⟨p, 0, none⟩), .string (txt d), .int .i64 (sz : Nat), .int .i64 0, .int .i64 0, .int .i64 0, .bool false] 71)) := h1.alloc _
  refine ⟨hr.turned h2 (fun _ _ q => q), ?_, fun q => by have := hl _ q; omega, by omega, hq, ht.trans h2 (fun _ _ q => q)⟩
  unfold LogAt
  exact heap_alloc_new w1 _

theorem found_dir (S : Fsp.Fs) (l : Walp.Lg) : (found S l).2.1.dir = l.dir := by
  unfold found; split <;> rfl

set_option maxRecDepth 100000 in
set_option maxHeartbeats 2000000 in
theorem open_ok (hT : SumTab w0) (hr : Rep w p S Q) (hq : ∀ b, Q b → w0.heap.size ≤ b) (ht : Turn (fun _ => False) w0 w) (d : List UInt8) (hv : Fsp.valid (Walp.seg d 1) = true) (sz : Nat) (hz1 : 16 ≤ sz) (hz2 : sz ≤ 1048576) (hdn : S.down = false)
    {S1 S2 : Fsp.Fs} {l1 l2 : Walp.Lg} (hf : found S (fresh d sz) = (S1, l1, 0)) (init : List Fsp.File) (f : Fsp.File) (hfs : ∀ (i : Nat) (g : Fsp.File), (init ++ [f])[i]? = some g → Fsp.find S1.L (Walp.seg d (l1.first + i)) = some g)
    (hlast : l1.last = l1.first + init.length) (h1 : 1 ≤ l1.first) (hl : l1.last < 100) (hw : ∀ g, g ∈ init → wholeF g.data = true) (hm : Mended S1 S2 l1 l2 f.data) (hs : S1.steps + 10 < 4611686018427387000) (hs0 : StepsLow S) :
    Calls Tryz.prog 13 #[.pointer (some ⟨p, 0, none⟩), .string (txt d), .int .i64 (sz : Nat)] w fun r w' => ∃ lp u Q', r = .returned (.tuple #[.pointer (some ⟨lp, 0, none⟩), u, .int .i64 0]) ∧ ListsO w' w.heap.size u (recsOf (init ++ [f])) ∧
      LogX w0 w' p S2 Q' lp l2 ∧ (∀ b, Q' b → Q b ∨ w.heap.size ≤ b) ∧ w.heap.size ≤ lp ∧ Turn Q w w' ∧ ((Walp.numsOf d (namesOf S d)).length ≠ 0 ∧ wholeF f.data = true → Turn (fun _ => False) w w') := by
  have hdl : d.length ≤ 91 := by
    have h := valid_size hv
    rw [Walp.seg_length] at h; omega
  have hdl2 : d.length ≤ 1000 := by omega
  have i1 : (16 : Int) ≤ (sz : Int) := by omega
  have i2 : (sz : Int) ≤ 1048576 := by omega
  have HT := Lib.hid hT
  have HR := Lib.hid hr
  have HQ := Lib.hid hq
  have HTT := Lib.hid ht
  have HV := Lib.hid hv
  have HD := Lib.hid hdn
  have HF := Lib.hid hf
  have HFS := Lib.hid hfs
  have HLA := Lib.hid hlast
  have H1 := Lib.hid h1
  have HL := Lib.hid hl
  have HW := Lib.hid hw
  have HM := Lib.hid hm
  have HS := Lib.hid hs
  have HDL := Lib.hid hdl2
  have HS0 := Lib.hid hs0
  clear hT hr hq ht hv hz1 hz2 hdn hf hfs hlast h1 hl hw hm hs hs0 hdl hdl2
  go_enter Tryz.func13, Tryz.ntmps13
  go_wp2_with (first | (go_at_call 29; refine (name_any (txt d) (txt_size _ HDL.out) 1 (by decide) (by decide) _).mono ?_; rintro r w2 ⟨rfl, t2⟩; have HT2 := Lib.hid t2; clear t2) | (go_at_call 47; refine (valid_seg1 d HDL.out HV.out _).mono ?_; rintro r w3 ⟨rfl, rfl⟩) | (go_at_call 44; refine (down_rep (HR.out.turned HT2.out (fun _ _ q => q)) HD.out).mono ?_; rintro r w3 ⟨rfl, rfl⟩) | (go_at_call 48; refine (clone_any (txt d) (by have := txt_size _ HDL.out; omega) _).mono ?_; rintro r w4 ⟨rfl, t4⟩; have HX5 := Lib.hid (LogX.made HR.out HQ.out HTT.out (HT2.out.trans t4 (fun _ _ q => q)) d sz); have HT5 := Lib.hid ((HT2.out.trans t4 (fun _ _ q => q)).alloc (.cells #[.pointer (some ⟨p, 0, none⟩), .string (txt d), .int .i64 (sz : Nat), .int .i64 0, .int .i64 0, .int .i64 0, .bool false] 71)); have HT4 := Lib.hid (HT2.out.trans t4 (fun _ _ q => q)); clear t4))
  have hx5 := HX5.out
  have ht5 := HT5.out
  clear HX5 HT5
  have hlp := HT4.out.size
  clear HT4 HT2
  go_at_call 49
  revert hx5 ht5
  generalize World.alloc w4 (.cells #[.pointer (some ⟨p, 0, none⟩), .string (txt d), .int .i64 (sz : Nat), .int .i64 0, .int .i64 0, .int .i64 0, .bool false] 71) = w5
  generalize w4.heap.size = lp at hlp ⊢
  intro hx5 ht5
  refine (find_seg hx5 HDL.out HS0.out (by show 0 < 100000000; omega) (by show 0 < 100000000; omega)).mono ?_
  rintro r w6 ⟨rfl, hP6, htl⟩
  rw [HF.out] at hP6 ⊢
  have HP6 := Lib.hid hP6
  have HTL := Lib.hid htl
  have HX5 := Lib.hid hx5
  have HT5 := Lib.hid ht5
  have HLP := Lib.hid hlp
  clear hP6 htl hx5 ht5 hlp
  have hdir : l1.dir = d := by
    have h := found_dir S (fresh d sz)
    rw [HF.out] at h; exact h
  have hread := read_ok (HT.out.turned HP6.out.1.turn) HP6.out.1 (by rw [hdir]; exact HDL.out) init f (by rw [hdir]; exact HFS.out) HLA.out H1.out HL.out HW.out HM.out HS.out
  have HRD := Lib.hid hread
  clear hread hdir
  go_wp2_with (go_at_call 50; refine HRD.out.mono ?_; rintro r w7 ⟨⟨u, rfl, hls⟩, hP7, hwt⟩)
  go_ret3
  have hP := HP6.out.trans hP7
  have s5 := HT5.out.size
  have s6 := HP6.out.2.size
  have hl := HR.out.lt
  refine ⟨lp, u, Grow Q w5 w7, rfl, hls.mono (by omega), hP.1, fun b q => ?_, HLP.out, ?_, fun h => ?_⟩
  · rcases q with q | q
    · exact Or.inl q
    · right; omega
  · refine (HT5.out.mono (fun _ q => q.elim)).trans hP.2 (fun i hi q => ?_)
    rcases q with q | q
    · exact q
    · have := HLP.out; omega
  · have h1 := HTL.out h.1
    have h2 := hwt h.2
    refine HT5.out.trans (h1.trans (h2.mono (fun _ q => q.elim)) (fun _ _ q => q)) (fun i hi q => ?_)
    have := HLP.out; omega
end
end Go.Proofs.YtjjajnfkngfpjaaGreatDoor
