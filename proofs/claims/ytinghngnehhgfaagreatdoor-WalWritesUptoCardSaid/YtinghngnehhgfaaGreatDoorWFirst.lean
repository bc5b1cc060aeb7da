/-
  OF THE LAWS: first.
-/
import Derived.Test.YtinghngnehhgfaaGreatDoorWI
import Derived.Lib.SlBytesConst
namespace Go.Proofs.YtinghngnehhgfaaGreatDoor
open Go.RowKit Go.Maps Go.WideMaps

namespace Wx
def d : List UInt8 := [119]
def r1 : List UInt8 := [48, 49, 50, 51, 52, 53, 54, 55, 56, 57]
def r2 : List UInt8 := [120]
def s0 : Fsp.Fs := ⟨1000, 0, 0, false, []⟩
def s1 : Fsp.Fs := ⟨1000, 1, 0, false, [(Walp.seg d 1, ⟨[], 0⟩)]⟩
def l1 : Walp.Lg := ⟨d, 16, 1, 1, 0, false⟩
def s2 : Fsp.Fs := ⟨1000, 3, 0, false, [(Walp.seg d 1, ⟨Walp.frame r1, 18⟩)]⟩
def s3 : Fsp.Fs := ⟨1000, 6, 0, false, [(Walp.seg d 1, ⟨Walp.frame r1, 18⟩), (Walp.seg d 2, ⟨Walp.frame r2, 9⟩)]⟩
def l3 : Walp.Lg := ⟨d, 16, 1, 2, 0, false⟩
def s4 : Fsp.Fs := ⟨1000, 7, 0, false, [(Walp.seg d 2, ⟨Walp.frame r2, 9⟩)]⟩
def l4 : Walp.Lg := ⟨d, 16, 2, 2, 0, false⟩
theorem e0 : Fsp.new 1000 = s0 := rfl
theorem e1 : found s0 (fresh d 16) = (s1, l1, 0) := rfl
theorem e2 : Walp.append s1 l1 r1 = ((s2, l1), 0) := by rfl
theorem e3 : Walp.append s2 l1 r2 = ((s3, l3), 0) := by rfl
theorem e4 : drops 1 s3 l3 = (s4, l4) := by rfl
theorem e5 : Fsp.names s4 [] = [Walp.seg d 2] := by rfl
theorem f1 : Fsp.find s1.L (Walp.seg d 1) = some ⟨[], 0⟩ := by rfl
theorem f2 : Fsp.find s2.L (Walp.seg d 1) = some ⟨Walp.frame r1, 18⟩ := by rfl
theorem v1 : Fsp.valid (Walp.seg d 1) = true := by rfl
theorem k0 : (Fsp.remove s3 (Walp.seg d 1)).2 = 0 := by rfl
end Wx

section
variable {w0 w w' : World} {p lp : Nat} {S S' : Fsp.Fs} {Q : Nat → Prop} {l l' : Walp.Lg}

theorem whole_nil : wholeF [] = true := by
  unfold wholeF
  have := frames_le []
  simp at this
  simp [this]

theorem recs_nil : recsOf [⟨[], 0⟩] = [] := by
  have h : Walp.scan [] = [] := List.length_eq_zero_iff.1 (by have := scan_le []; simpa using this)
  unfold recsOf
  simp [h]

theorem sliceX_lit (hx : LogX w0 w p S Q lp l) (b : List UInt8) (cs : Array Value) (t : TypeId) (fr : Nat × Nat) (n cap : Nat) (hcs : cs = (b.map byteV).toArray) (hn : n = b.length) : SliceX (w.alloc (.cells cs t fr)) (.slice (some ⟨w.heap.size, 0, none⟩) n cap) b Q lp := by
  refine ⟨(slice_lit w b cs t fr n cap hcs hn).toR, fun ad m c e h0 => ?_⟩
  cases e
  refine ⟨fun q => ?_, fun e => ?_⟩
  · have := hx.rep.lt _ q; simp at this
  · have := hx.log.lt; simp at e; omega

theorem drop_one : ∀ j, j < 1 → (Fsp.remove (drops j Wx.s3 Wx.l3).1 (Walp.seg (drops j Wx.s3 Wx.l3).2.dir (drops j Wx.s3 Wx.l3).2.first)).2 = 0 := by
  intro j hj
  have : j = 0 := by omega
  subst this
  exact Wx.k0

theorem texts_one {wa : World} {t : TypeId} {fr : Nat × Nat} (x : List UInt8) (s : ByteArray) (h : s = ⟨x.toArray⟩) : TextsR (wa.alloc (.cells #[.string s] t fr)) (.slice (some ⟨wa.heap.size, 0, none⟩) 1 1) [x] := by
  subst h
  refine ⟨_, 1, rfl, fun _ => ⟨_, rfl, fun j y hj => ?_⟩⟩
  have h0 : j = 0 := by have := (List.getElem?_eq_some_iff.1 hj).1; simp at this; exact this
  subst h0
  cases hj
  rw [add_head]
  unfold World.cell?
  simp only [heap_alloc_new]
  rfl

theorem append_is (hT : SumTab w0) (hx : LogX w0 w p S Q lp l) (hst : l.stuck = false) (hd : l.dir.length ≤ 1000) (h1 : 1 ≤ l.last) (hlast : l.last < 98) {f : Fsp.File} (hf : Fsp.find S.L (Walp.seg l.dir l.last) = some f) (b : List UInt8) (cs : Array Value) (t : TypeId) (fr : Nat × Nat) (n cap : Nat) (hcs : cs = (b.map byteV).toArray) (hn : n = b.length)
    (hbl : b.length ≤ 1048576) (hs : S.steps + 10 < 4611686018427387000) {S1 : Fsp.Fs} {l1 : Walp.Lg} {e : Nat} (he : Walp.append S l b = ((S1, l1), e)) :
    Calls Tryz.prog 12 #[.pointer (some ⟨lp, 0, none⟩), .slice (some ⟨w.heap.size, 0, none⟩) n cap] (w.alloc (.cells cs t fr)) fun r w' => r = .returned (.int .i64 (e : Nat)) ∧ ∃ Q', LogX w0 w' p S1 Q' lp l1 := by
  have hsx := sliceX_lit hx b cs t fr n cap hcs hn
  subst hn
  have h := wAppend_any hT (hx.later (turnBox w _)) hst hd h1 hlast hf hsx hbl hs
  rw [he] at h
  refine h.mono ?_
  rintro r w' ⟨rfl, hp⟩
  exact ⟨rfl, _, hp.1⟩

set_option maxRecDepth 100000 in
set_option maxHeartbeats 2000000 in
theorem first_any (hT : SumTab w) : Calls Tryz.prog 4 #[] w fun r w' => r = .returned (.bool true) ∧ Turn (fun _ => False) w w' := by
  have kc := fun (w : World) (C : Array Value) (n c : Nat) => Lib.run_convert_bytes_const (P := Tryz.prog) w 33 5 C n c Tryz.underlying33 Tryz.underlying5
  have HT := Lib.hid hT
  clear hT
  go_enter Tryz.func4, Tryz.ntmps4
  go_wp2_with fail
  go_at_call 6
  refine (new_any 1000 _).mono ?_
  rintro r w1 ⟨rfl, hr1, ht1⟩
  have hop := open_ok (w0 := w) (w := w1) HT.out hr1 (fun b q => q.1) ht1 Wx.d Wx.v1 16 (by decide) (by decide) rfl Wx.e1 [] ⟨[], 0⟩ (fun i g h => by
    have : i = 0 := by have := (List.getElem?_eq_some_iff.1 h).1; simp at this; exact this
    subst this; cases h; exact Wx.f1) rfl (by decide) (by decide) (fun g h => by cases h) (Or.inl ⟨whole_nil, rfl, rfl⟩) (by decide) (by unfold StepsLow; decide)
  have hop2 : Calls Tryz.prog 7 #[.pointer (some ⟨w.heap.size, 0, none⟩), .string ⟨#[119]⟩, .int .i64 16] w1 fun r w' => ∃ lp sp cap Q', r = .returned (.tuple #[.pointer (some ⟨lp, 0, none⟩), .slice sp 0 cap, .int .i64 0]) ∧ LogX w w' w.heap.size Wx.s1 Q' lp Wx.l1 := by
    refine hop.mono ?_
    rintro r w' ⟨lp, u, Q', rfl, hls, hx, _⟩
    rw [List.nil_append, recs_nil] at hls
    obtain ⟨xs, h1, h2, _⟩ := hls
    obtain ⟨sp, cap, rfl, _⟩ := own_cell h1 h2
    exact ⟨lp, sp, cap, Q', rfl, hx⟩
  have HOP := Lib.hid hop2
  clear hop hop2 hr1 ht1
  go_wp2_with (go_at_call 7; refine HOP.out.mono ?_; rintro r w2 ⟨lp, sp, cap, Q1, rfl, hx1⟩; have HX1 := Lib.hid hx1; clear hx1)
  go_wp2_with (first | (go_at_call 8; refine (num_any _ _).mono ?_; rintro r w' ⟨rfl, rfl⟩) | (go_at_call 12; fail))
  go_at_call 12
  refine (append_is HT.out HX1.out rfl (by decide) (by decide) (by decide) Wx.f1 Wx.r1 _ _ _ _ _ rfl rfl (by decide) (by decide) Wx.e2).mono ?_
  rintro r w3 ⟨rfl, Q2, hx2⟩
  have HX2 := Lib.hid hx2
  clear hx2 HX1
  go_wp2_with (go_at_call 12; fail)
  go_at_call 12
  refine (append_is HT.out HX2.out rfl (by decide) (by decide) (by decide) Wx.f2 Wx.r2 _ _ _ _ _ rfl rfl (by decide) (by decide) Wx.e3).mono ?_
  rintro r w4 ⟨rfl, Q3, hx3⟩
  have HX3 := Lib.hid hx3
  clear hx3 HX2
  go_wp2_with (go_at_call 10; fail)
  go_at_call 10
  refine (drop_ok HX3.out rfl (by decide) 2 (by decide) (by decide) (by decide) 1 (by decide) (Or.inr (by decide)) (by decide) drop_one).mono ?_
  rintro r w5 ⟨rfl, hp5⟩
  rw [Wx.e4] at hp5
  have HX5 := Lib.hid hp5.1
  clear hp5 HX3
  go_wp2_with (go_at_call 10; fail)
  go_at_call 10
  refine (drop_range HX5.out rfl 3 (by decide)).mono ?_
  rintro r w6 ⟨rfl, rfl⟩
  go_wp2_with (first | (go_at_call 8; refine (num_any _ _).mono ?_; rintro r w' ⟨rfl, rfl⟩) | (go_at_call 13; refine (segment_is HX5.out).mono ?_; rintro r w' ⟨rfl, rfl⟩))
  obtain ⟨mo, pl, hr⟩ := HX5.out.rep
  have hnm := names_any hr ⟨#[]⟩
  clear hr
  go_at_call 15
  refine hnm.mono ?_
  rintro r w6 ⟨v, rfl, hown, ht6⟩
  have hown2 : TextsR w6 v [Walp.seg Wx.d 2] := TextsR.of_own hown
  have ht := HX5.out.turn.trans ht6 (fun _ _ q => q)
  have HTX := Lib.hid hown2
  have HTW := Lib.hid ht
  clear hown hown2 ht ht6 hnm HX5
  go_wp2_with (go_at_call 19; fail)
  go_at_call 19
  refine (sameTexts_self (HTX.out.turned (turnBox _ _)) (texts_one (Walp.seg Wx.d 2) _ (by decide)) (by unfold maxLen; decide)).mono ?_
  rintro r w7 ⟨rfl, hlk⟩
  go_wp2
  go_ret
  exact ⟨rfl, Turn.like (HTW.out.alloc _) hlk⟩
end
end Go.Proofs.YtinghngnehhgfaaGreatDoor
