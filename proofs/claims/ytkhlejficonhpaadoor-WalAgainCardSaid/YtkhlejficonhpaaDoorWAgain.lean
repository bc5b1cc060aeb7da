/-
  WalAgain: the walk.
-/
import Derived.Test.YtkhlejficonhpaaDoorWJ
import Derived.Test.YtkhlejficonhpaaDoorWAgainP
namespace Go.Proofs.YtkhlejficonhpaaDoor
open Go.RowKit Go.Maps Go.WideMaps

section
variable {w0 w w' : World} {p : Nat} {S S' : Fsp.Fs} {c c' : Bool} {Q : Nat → Prop} {mo : Option Nat} {pl : List UInt8 → Pl}

abbrev n1 : ByteArray := ⟨#[119, 47, 48, 48, 48, 48, 48, 48, 48, 49]⟩

theorem scan_len {b : List UInt8} (h : b.length ≤ 20000) : (Walp.scan b).length ≤ maxLen := by
  have := scan_le b
  unfold maxLen; omega

theorem scan_each {b : List UInt8} : ∀ q, q ∈ Walp.scan b → q.length ≤ maxLen := fun q hq => by
  have h := Walp.scan_short b q hq
  unfold Walp.maxRec at h
  unfold maxLen; omega

theorem ListsO.cap {base n cap : Nat} {sp : Option Addr} {l : List (List UInt8)} (h : ListsO w base (.slice sp n cap) l) : l.length ≤ cap := by
  obtain ⟨xs, h1, _, _⟩ := h
  rcases h1.2 with ⟨e, hn⟩ | ⟨g, cap', cur, e, _, _, h3, _⟩
  · omega
  · simp only [Value.slice.injEq] at e
    omega

theorem wa_open1 {b : List UInt8} (hT : SumTab w0) (hr : Rep w p (Wa.st 3 b b.length) Q) (hq : ∀ i, Q i → w0.heap.size ≤ i) (ht : Turn (fun _ => False) w0 w) {k c y : Nat}
    (hm : Mended (Wa.st 3 b b.length) (Wa.st k (Walp.frames (Walp.scan b)) y) (Wa.lg 0) (Wa.lg c) b) {sc : List (List UInt8)} (hsc : Walp.scan b = sc) :
    Calls Tryd.prog 9 #[.pointer (some ⟨p, 0, none⟩), .string ⟨#[119]⟩, .int .i64 16] w fun r w' => ∃ lp sp cap Q', r = .returned (.tuple #[.pointer (some ⟨lp, 0, none⟩), .slice sp sc.length cap, .int .i64 0]) ∧
      ListsO w' w.heap.size (.slice sp sc.length cap) sc ∧ LogX w0 w' p (Wa.st k (Walp.frames (Walp.scan b)) y) Q' lp (Wa.lg c) := by
  have h := open_ok hT hr hq ht [119] Wa.v1 16 (by decide) (by decide) rfl (Wa.e5 3 b b.length) [] ⟨b, b.length⟩ (fun i g h => by
    have : i = 0 := by have := (List.getElem?_eq_some_iff.1 h).1; simp at this; exact this
    subst this; cases h; exact Wa.find_st _ _ _) rfl (by decide) (by decide) (fun g h => by cases h) hm (by show 3 + 10 < _; decide) (by unfold StepsLow; show 3 < _; decide)
  refine h.mono ?_
  rintro r w' ⟨lp, u, Q', rfl, hls, hx, _⟩
  rw [Wa.recs_one, hsc] at hls
  obtain ⟨sp, cap, rfl, _⟩ := hls.toR
  exact ⟨lp, sp, cap, Q', rfl, hls, hx⟩

theorem wa_open2 {b : List UInt8} (hT : SumTab w0) {k y : Nat} (hk : k ≤ 5) (hr : Rep w p (Wa.st k (Walp.frames (Walp.scan b)) y) Q) (hq : ∀ i, Q i → w0.heap.size ≤ i) (ht : Turn (fun _ => False) w0 w)
    {sc : List (List UInt8)} (hsc : Walp.scan b = sc) :
    Calls Tryd.prog 9 #[.pointer (some ⟨p, 0, none⟩), .string ⟨#[119]⟩, .int .i64 16] w fun r w' => ∃ lp sp cap Q', r = .returned (.tuple #[.pointer (some ⟨lp, 0, none⟩), .slice sp sc.length cap, .int .i64 0]) ∧
      ListsO w' w.heap.size (.slice sp sc.length cap) sc ∧ LogX w0 w' p (Wa.st k (Walp.frames (Walp.scan b)) y) Q' lp (Wa.lg 0) ∧ Turn (fun _ => False) w w' := by
  have h := open_ok hT hr hq ht [119] Wa.v1 16 (by decide) (by decide) rfl (Wa.e5 k _ y) [] ⟨Walp.frames (Walp.scan b), y⟩ (fun i g h => by
    have : i = 0 := by have := (List.getElem?_eq_some_iff.1 h).1; simp at this; exact this
    subst this; cases h; exact Wa.find_st _ _ _) rfl (by decide) (by decide) (fun g h => by cases h) (Wa.mended2 k b y) (by show k + 10 < _; omega) (by unfold StepsLow; show k < _; omega)
  refine h.mono ?_
  rintro r w' ⟨lp, u, Q', rfl, hls, hx, _, _, _, ht2⟩
  rw [Wa.recs_two, hsc] at hls
  obtain ⟨sp, cap, rfl, _⟩ := hls.toR
  exact ⟨lp, sp, cap, Q', rfl, hls, hx, ht2 ⟨Wa.e6 _ _ _, Wa.whole_frames b⟩⟩

set_option maxRecDepth 100000 in
set_option maxHeartbeats 2000000 in
theorem again_walk (hT : SumTab w) {v : Value} {b : List UInt8} (hC : SliceC w v b) (hB : SliceB w v b) (hl : b.length ≤ maxLen) (cut : Int) (hcut : -9223372036854775808 ≤ cut ∧ cut ≤ 9223372036854775807) :
    Calls Tryd.prog 3 #[v, .int .i64 cut] w fun r w' => r = .returned (.bool true) ∧ Turn (fun _ => False) w w' := by
  obtain ⟨sp, cap, rfl, hcc⟩ := hC
  have HC : Hid (SliceC w (.slice sp b.length cap) b) := Lib.hid ⟨sp, cap, rfl, hcc⟩
  have HB := Lib.hid hB
  have HT := Lib.hid hT
  have HCUT := Lib.hid hcut
  clear hcc hB hT hcut
  unfold maxLen at hl
  go_enter Tryd.func3, Tryd.ntmps3
  go_wp2_with fail
  go_at_call 4
  refine (first_any HT.out).mono ?_
  rintro r w1 ⟨rfl, t1⟩
  have T1 := Lib.hid t1
  clear t1
  by_cases hlen : b.length ≤ 20000
  · have i1 : (b.length : Int) ≤ 20000 := by omega
    go_wp2_with fail
    go_at_call 5
    refine (new_any 67108864 _).mono ?_
    rintro r w2 ⟨rfl, hr2, ht2⟩
    rw [Wa.e0] at hr2
    have hq2 : Since w1 w1.heap.size ⟨67108864, 0, 0, false, []⟩ w2 := ⟨hr2, ht2⟩
    have Q2 := Lib.hid hq2
    clear hr2 ht2 hq2
    go_wp2_with fail
    go_at_call 6
    refine (Q2.out.create (by unfold StepsOk; decide) n1 (by decide) Wa.e1).mono ?_
    rintro r w3 ⟨rfl, q3⟩
    have Q3 := Lib.hid q3
    clear q3 Q2
    go_wp2_with fail
    go_at_call 7
    refine (Q3.out.append (by unfold StepsOk; decide) n1 (by decide) _ b (HB.out.turned (T1.out.trans Q3.out.2 (fun _ _ q => q)) (fun _ _ _ _ _ q => q)) (by unfold maxLen; omega) (HB.out.out (Nat.le_refl _) (fun i q => Nat.le_trans T1.out.size q.1)) (Wa.e2 b hlen)).mono ?_
    rintro r w4 ⟨rfl, q4⟩
    have Q4 := Lib.hid q4
    clear q4 Q3
    go_wp2_with fail
    go_at_call 8
    refine (Q4.out.sync (by unfold StepsOk; show 2 < _; decide) n1 (by decide) (Wa.e3 2 b 0)).mono ?_
    rintro r w5 ⟨rfl, q5⟩
    have Q5 := Lib.hid q5
    clear q5 Q4
    obtain ⟨k, c, y, hk, hm⟩ := Wa.mended b
    obtain ⟨sc, hsc⟩ : ∃ sc, Walp.scan b = sc := ⟨_, rfl⟩
    have HM := Lib.hid hm
    have HSC := Lib.hid hsc
    have HK := Lib.hid hk
    clear hm hsc hk
    go_wp2_with fail
    go_at_call 9
    refine (wa_open1 (w0 := w1) (HT.out.turned T1.out) Q5.out.1 (fun i (q : w1.heap.size ≤ i ∧ i < w5.heap.size) => q.1) Q5.out.2 HM.out HSC.out).mono ?_
    rintro r w6 ⟨lp1, sp1, cap1, Q6, rfl, hls6, hx6⟩
    have hls6x := hls6
    have CAP1 := Lib.hid hls6.cap
    have X6 := Lib.hid hx6
    have L6 := Lib.hid hls6x
    clear hls6 hls6x hx6 Q5 HM
    obtain ⟨mo, pl, hr6⟩ := X6.out.rep
    go_wp2_with fail
    go_at_call 10
    refine (steps_is hr6).mono ?_
    rintro r w' ⟨rfl, rfl⟩
    clear hr6 mo pl
    go_wp2_with fail
    go_at_call 9
    refine (wa_open2 (HT.out.turned T1.out) HK.out X6.out.rep X6.out.newQ X6.out.turn HSC.out).mono ?_
    rintro r w7 ⟨lp2, sp2, cap2, Q7, rfl, hls7, hx7, ht7⟩
    have hls6x := L6.out
    have hR6 := (hls6x.new ht7).toR
    have hR7 := hls7.toR
    have hlen2 : sc.length ≤ maxLen := by rw [← HSC.out]; exact scan_len hlen
    have heach : ∀ q, q ∈ sc → q.length ≤ maxLen := by rw [← HSC.out]; exact scan_each
    have hcut0 : ∀ W, W = w7 → Calls Tryd.prog 12 #[.pointer (some ⟨lp2, 0, none⟩)] W fun r w' => r = .returned (.int .i64 0) ∧ W = w' := fun W e => by subst e; exact cut_is hx7
    have hst7 : ∀ W, W = w7 → Calls Tryd.prog 10 #[.pointer (some ⟨w1.heap.size, 0, none⟩)] W fun r w' => r = .returned (.int .i64 ((Wa.st k (Walp.frames (Walp.scan b)) y).steps : Nat)) ∧ W = w' := fun W e => by subst e; obtain ⟨mo, pl, hr⟩ := hx7.rep; exact steps_is hr
    have R6 := Lib.hid hR6
    have R7 := Lib.hid hR7
    have HL2 := Lib.hid hlen2
    have HE := Lib.hid heach
    have HC0 := Lib.hid hcut0
    have HS7 := Lib.hid hst7
    have T7 := Lib.hid hx7.turn
    clear hls7 hx7 ht7 hR6 hR7 hlen2 heach hcut0 hst7 hls6x
    go_wp2_with (first | (go_at_call 11; refine (num_any _ _).mono ?_; rintro r w' ⟨rfl, rfl⟩) | (go_at_call 12; refine (HC0.out _ rfl).mono ?_; rintro r w' ⟨rfl, rfl⟩) | (go_at_call 10; refine (HS7.out _ rfl).mono ?_; rintro r w' ⟨rfl, rfl⟩))
    go_at_call 13
    refine (sameLists_any R6.out R7.out HL2.out HL2.out HE.out HE.out).mono ?_
    rintro r w8 ⟨rfl, hlk8⟩
    have T8 := Lib.hid (Turn.like T7.out hlk8)
    have R8 := Lib.hid (R6.out.like hlk8)
    rw [decide_eq_true rfl]
    clear hlk8 R6 R7 HC0 HS7 T7 HK
    have hpos : (0 : Int) < (b.length : Int) + 1 := by omega
    have m1 := Int.lt_tmod_of_pos cut hpos
    have m2 := Int.tmod_lt_of_pos cut hpos
    have hm3 := Int.emod_lt_of_pos (cut.tmod (↑b.length + 1) + ↑b.length + 1) hpos
    obtain ⟨kk, hkk⟩ : ∃ kk : Nat, (cut.tmod (↑b.length + 1) + ↑b.length + 1) % (↑b.length + 1) = (kk : Int) := ⟨_, (Int.toNat_of_nonneg (Int.emod_nonneg _ (by omega))).symm⟩
    have hkl : kk ≤ b.length := by omega
    have hcap : b.length ≤ cap := by
      obtain ⟨_, _, e, h, _⟩ := HC.out
      simp only [Value.slice.injEq] at e
      obtain ⟨_, _, rfl⟩ := e
      exact h
    have kc : (kk : Int) ≤ (cap : Int) := by omega
    have hT8 := (HT.out.turned T1.out).turned T8.out
    have hC8 := (HC.out.turned (T1.out.trans T8.out (fun _ _ q => q))).take hkl
    have hsn := scan_any hT8 hC8 (by rw [List.length_take]; omega)
    obtain ⟨tl, htl⟩ : ∃ tl, Walp.scan (b.take kk) = tl := ⟨_, rfl⟩
    have hpre : tl <+: sc := by rw [← htl, ← HSC.out]; exact Walp.scan_take b kk
    have hle : tl.length ≤ sc.length := hpre.length_le
    have heq : tl = sc.take tl.length := List.prefix_iff_eq_take.1 hpre
    rw [htl] at hsn
    have HSN := Lib.hid hsn
    have HEQ := Lib.hid heq
    have HLE := Lib.hid hle
    have hle' : (tl.length : Int) ≤ (sc.length : Int) := by omega
    have hle2 : (tl.length : Int) ≤ (cap1 : Int) := by have := CAP1.out; omega
    have hmt : tl.length ≤ maxLen := by have := HL2.out; omega
    have HMT := Lib.hid hmt
    have het : ∀ q, q ∈ tl → q.length ≤ maxLen := fun q hq => HE.out q (hpre.subset hq)
    have HET := Lib.hid het
    have het2 : ∀ q, q ∈ sc.take tl.length → q.length ≤ maxLen := fun q hq => HE.out q (List.mem_of_mem_take hq)
    have HET2 := Lib.hid het2
    clear hT8 hC8 hsn htl hpre hle heq hmt het het2 hm3 hkl hcap
    go_wp2_with fail
    go_at_call 14
    refine HSN.out.mono ?_
    rintro r w9 ⟨⟨u, rfl, hls9⟩, t9⟩
    obtain ⟨sp9, cap9, rfl, _⟩ := hls9.toR
    have R9 := Lib.hid ((R8.out.turned t9).take HLE.out)
    have L9 := Lib.hid hls9.toR
    have T9 := Lib.hid (T8.out.trans t9 (fun _ _ q => q))
    clear hls9 t9
    go_wp2_with fail
    go_at_call 13
    refine (sameLists_any L9.out R9.out HMT.out (by rw [List.length_take]; have := HLE.out; have := HL2.out; omega) HET.out HET2.out).mono ?_
    rintro r w10 ⟨rfl, hlk⟩
    rw [decide_eq_true HEQ.out]
    go_wp2_with fail
    go_ret
    exact ⟨rfl, Turn.like (T1.out.trans T9.out (fun _ _ q => q)) hlk⟩
  · have i1 : (20000 : Int) < (b.length : Int) := by omega
    go_wp2
    go_ret
    exact ⟨rfl, T1.out⟩
end
end Go.Proofs.YtkhlejficonhpaaDoor
