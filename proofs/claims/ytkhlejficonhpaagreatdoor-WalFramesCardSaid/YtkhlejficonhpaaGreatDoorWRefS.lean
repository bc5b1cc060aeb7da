/-
  The document's own scan (exref2's Scan).
-/
import Derived.Test.YtkhlejficonhpaaGreatDoorWK
import Derived.Test.YtkhlejficonhpaaGreatDoorWC
import Derived.Test.YtkhlejficonhpaaGreatDoorWE
import Derived.Test.YtkhlejficonhpaaGreatDoorWJ
import Derived.Deep.RegionHeld3
namespace Go.Proofs.YtkhlejficonhpaaGreatDoor
open Go.RowKit Go.Maps Go.WideMaps

section
variable {w w' : World}

theorem rec1_short {b : List UInt8} (h : b.length < 8) : Walp.scan b = [] := Walp.scan_none (by unfold Walp.rec1; rw [if_pos h])

theorem rec1_long {b : List UInt8} (h8 : ¬ b.length < 8) (h : 1048576 < Walp.num (b.take 4) ∨ b.length - 8 < Walp.num (b.take 4)) : Walp.scan b = [] :=
  Walp.scan_none (by unfold Walp.rec1; rw [if_neg h8, if_pos h])

theorem rec1_bad {b : List UInt8} (h8 : ¬ b.length < 8) (h : ¬ (1048576 < Walp.num (b.take 4) ∨ b.length - 8 < Walp.num (b.take 4))) (hs : ¬ Walp.sum ((b.drop 8).take (Walp.num (b.take 4))) = Walp.num ((b.drop 4).take 4)) : Walp.scan b = [] :=
  Walp.scan_none (by unfold Walp.rec1; rw [if_neg h8, if_neg h, if_neg hs])

theorem rec1_good {b : List UInt8} (h8 : ¬ b.length < 8) (h : ¬ (1048576 < Walp.num (b.take 4) ∨ b.length - 8 < Walp.num (b.take 4))) (hs : Walp.sum ((b.drop 8).take (Walp.num (b.take 4))) = Walp.num ((b.drop 4).take 4)) :
    Walp.scan b = (b.drop 8).take (Walp.num (b.take 4)) :: Walp.scan (b.drop (8 + Walp.num (b.take 4))) := by
  have h1 : Walp.rec1 b = some ((b.drop 8).take (Walp.num (b.take 4))) := by unfold Walp.rec1; rw [if_neg h8, if_neg h, if_pos hs]
  rw [Walp.scan_some h1]
  have : ((b.drop 8).take (Walp.num (b.take 4))).length = Walp.num (b.take 4) := by simp; omega
  rw [this]

/-- what stands in front of a round: so many bytes are read -/
def Reads (w wr : World) (b : List UInt8) (out : Value) (E : Nat) : Prop :=
  ∃ pre : List (List UInt8), E = (Walp.frames pre).length ∧ ListsO wr w.heap.size out pre ∧ Walp.scan b = pre ++ Walp.scan (b.drop E) ∧ E ≤ b.length ∧ Turn (fun _ => False) w wr

theorem Reads.done {wr : World} {b : List UInt8} {out : Value} {E : Nat} (h : Reads w wr b out E) (h0 : Walp.scan (b.drop E) = []) :
    E = (Walp.frames (Walp.scan b)).length ∧ ListsO wr w.heap.size out (Walp.scan b) ∧ Turn (fun _ => False) w wr := by
  obtain ⟨pre, h1, h2, h3, _, h5⟩ := h
  rw [h0, List.append_nil] at h3
  rw [h3]
  exact ⟨h1, h2, h5⟩

/-- an own record behind an own list -/
theorem snoc_new {wr w3 w4 : World} {base : Nat} {v v' u : Value} {pre : List (List UInt8)} {xs : List Value} {q : List UInt8} {o : Obj} (hbw : base ≤ wr.heap.size)
    (hx1 : wr.ownsRow base 37 1 v pre.length xs) (hx2 : xs.length = pre.length) (hx3 : ∀ (j : Nat) (q : List UInt8), pre[j]? = some q → ∃ u, xs[j]? = some u ∧ wr.ownsRow base 5 1 u q.length (q.map byteV))
    (ht : Turn (fun _ => False) wr w3) (hu : w3.ownsRow wr.heap.size 5 1 u q.length (q.map byteV)) (hg : (w3.alloc o).grownBy w4 v.ownBlock) (h4 : w4.ownsRow base 37 1 v' (pre.length + 1) (xs ++ [u])) :
    ListsO w4 base v' (pre ++ [q]) ∧ Turn (fun b => v.ownBlock = some b) wr w4 := by
  have hvb : ∀ r, v.ownBlock = some r → base ≤ r := fun r hr => (own_block hx1 hr).1
  have t4 : Turn (fun b => v.ownBlock = some b) wr w4 := ((ht.mono (fun _ q => q.elim)).alloc o).grown hg (fun k e => Or.inl e)
  refine ⟨lists_snoc h4 hx2 (fun j q hj => ?_) ?_, t4⟩
  · obtain ⟨y, e, ho⟩ := hx3 j q hj
    refine ⟨y, e, ownsRow_turned ho t4 (fun r hr e2 => ?_)⟩
    obtain ⟨_, _, cur, hc⟩ := own_block hx1 e2
    obtain ⟨_, _, cur2, hc2⟩ := own_block ho hr
    rw [hc] at hc2; cases hc2
  · have h3 : w3.ownsRow base 5 1 u q.length (q.map byteV) := own_mono hu hbw
    have t3 : Turn (fun b => v.ownBlock = some b) w3 w4 := ((Turn.refl _ w3).alloc o).grown hg (fun k e => Or.inl e)
    refine ownsRow_turned h3 t3 (fun r hr e2 => ?_)
    have h5 := (own_block hx1 e2).2.1
    have h6 := (own_block hu hr).1
    omega

theorem frames_many (l : List (List UInt8)) : 8 * l.length ≤ (Walp.frames l).length := by
  induction l with
  | nil => simp
  | cons x r ih => rw [Walp.frames_cons, List.length_append, Walp.frame_length, List.length_cons]; omega

theorem more_of {wx : World} {b : List UInt8} {out' : Value} {E n : Nat} {pre : List (List UInt8)} {q : List UInt8} (hE : E = (Walp.frames pre).length) (h3 : Walp.scan b = pre ++ Walp.scan (b.drop E)) (hs : Walp.scan (b.drop E) = q :: Walp.scan ((b.drop E).drop (8 + n))) (hq : q.length = n) (hn : E + 8 + n ≤ b.length)
    (hl : ListsO wx w.heap.size out' (pre ++ [q])) (ht : Turn (fun _ => False) w wx) : Reads w wx b out' (E + 8 + n) := by
  refine ⟨pre ++ [q], ?_, hl, ?_, hn, ht⟩
  · rw [Walp.frames_snoc_length]; omega
  · rw [h3, hs, List.drop_drop, List.append_assoc]
    have e : E + (8 + n) = E + 8 + n := by omega
    rw [e]; rfl

theorem int_beq (a b : Nat) : ((a : Int) == (b : Int)) = decide (a = b) := by
  rw [Bool.eq_iff_iff]; simp; omega

theorem cut4 (b : List UInt8) (E : Nat) : (b.take (E + 4)).drop E = (b.drop E).take 4 := drop_take_swap b E 4

set_option maxRecDepth 100000 in
set_option maxHeartbeats 4000000 in
theorem refScan_any {u : Value} {b : List UInt8} (hb : SliceC w u b) (hl : b.length ≤ 1073741824) :
    Calls Tryz.prog 23 #[u] w fun r w' => (∃ v, r = .returned (.tuple #[v, .int .i64 ((Walp.frames (Walp.scan b)).length : Nat), .bool (decide ((Walp.frames (Walp.scan b)).length = b.length))]) ∧ ListsO w' w.heap.size v (Walp.scan b)) ∧ Turn (fun _ => False) w w' := by
  obtain ⟨i0, hi, hz0, hz1, hz2⟩ := info_parts infoBytes
  obtain ⟨sp, cap, rfl, hlc, hcm, hcell⟩ := hb
  have HCELL := Lib.hid hcell
  clear hcell
  have hl' : (b.length : Int) ≤ 1073741824 := by omega
  have hlc' : (b.length : Int) ≤ (cap : Int) := by omega
  go_enter Tryz.func23, Tryz.ntmps23
  go_wp2_with fail
  go_loopw [5, 6] (fun out at' wr => ∃ E : Nat, at' = .int .i64 E ∧ Reads w wr b out E) (fun _ at' _ => b.length - (intOf at').toNat)
  case atStart => exact ⟨0, rfl, [], rfl, ListsO.nil _ _, by simp, Nat.zero_le _, Turn.refl _ _⟩
  case round =>
    obtain ⟨E, rfl, hrd⟩ := hrel
    have hEl : E ≤ b.length := by obtain ⟨_, _, _, _, h, _⟩ := hrd; exact h
    have hdl : (b.drop E).length = b.length - E := List.length_drop
    have HRD := Lib.hid hrd
    obtain ⟨d, hd⟩ : ∃ d : Nat, d = b.length - E := ⟨_, rfl⟩
    have hdi : (b.length : Int) - (E : Int) = (d : Int) := by omega
    have iE : (E : Int) ≤ (b.length : Int) := by omega
    by_cases h8 : d < 8
    · have hend := hrd.done (rec1_short (by rw [hdl, ← hd]; exact h8))
      have HEND := Lib.hid hend
      have i1 : ¬ (8 : Int) ≤ (d : Int) := by omega
      clear hrd hdl hd h8 hend hEl
      go_wp2_with fail
      go_ret3
      obtain ⟨hE, hls, ht⟩ := HEND.out
      subst hE
      exact ⟨⟨_, by rw [← int_beq]; rfl, hls⟩, ht⟩
    · have i1 : (8 : Int) ≤ (d : Int) := by omega
      obtain ⟨g, off, rfl, hcl⟩ := HCELL.out (by omega)
      have HC := Lib.hid hcl
      obtain ⟨n, hn⟩ : ∃ n, n = Walp.num ((b.drop E).take 4) := ⟨_, rfl⟩
      obtain ⟨e4, he4⟩ : ∃ e4, e4 = E + 4 := ⟨_, rfl⟩
      have i4 : (E : Int) + 4 = (e4 : Int) := by omega
      have hs4 := sub_slice HC.out (k := E) (e := e4) (by omega) (by omega) hlc hcm (off + E) (by rw [if_neg (by omega)])
      have ht4 : (b.take e4).drop E = (b.drop E).take 4 := by rw [he4]; exact cut4 b E
      rw [ht4] at hs4
      have htw : Turn (fun _ => False) w wr := by obtain ⟨_, _, _, _, _, h⟩ := hrd; exact h
      have hN : ∀ W, Turn (fun _ => False) w W → Calls Tryz.prog 58 #[.slice (some ⟨g, off + E, none⟩) (e4 - E) (cap - E)] W fun r w' => r = .returned (.int .i64 (n : Nat)) ∧ W = w' := fun W hW => by
        have := refNumber_any (hs4.turned hW).toR (by rw [List.length_take, hdl]; omega)
        rw [← hn] at this; exact this
      have hnl : n < 4294967296 := by
        have h1 := Walp.num_lt ((b.drop E).take 4)
        rw [show ((b.drop E).take 4).length = 4 by rw [List.length_take, hdl]; omega] at h1
        rw [hn]; exact h1
      have HN := Lib.hid hN
      have HTW := Lib.hid htw
      have j0 : ¬ cap = E := by omega
      have j1 : (e4 : Int) ≤ (cap : Int) := by omega
      have j2 : (E : Int) ≤ (e4 : Int) := by omega
      have j3 : (e4 : Int) ≤ (b.length : Int) := by omega
      have n1 : (n : Int) < 4294967296 := by omega
      by_cases hc1 : 1048576 < n
      · have hend := hrd.done (rec1_long (by rw [hdl, ← hd]; exact h8) (Or.inl (by rw [← hn]; exact hc1)))
        have HEND := Lib.hid hend
        have k1 : (1048576 : Int) < (n : Int) := by omega
        clear hrd hdl hd h8 hend hcl hn he4 hs4 ht4 htw hN hnl hc1 hEl
        go_wp2_with (go_at_call 58; refine (HN.out _ HTW.out).mono ?_; rintro r w' ⟨rfl, rfl⟩)
        go_ret3
        obtain ⟨hE, hls, ht⟩ := HEND.out
        subst hE
        exact ⟨⟨_, by rw [← int_beq]; rfl, hls⟩, ht⟩
      · have k1 : decide ((1048576 : Int) < (n : Int)) = false := by simp; omega
        obtain ⟨d8, hd8⟩ : ∃ d8, d8 = d - 8 := ⟨_, rfl⟩
        have k2 : (d : Int) - 8 = (d8 : Int) := by omega
        by_cases hc2 : d8 < n
        · have hend := hrd.done (rec1_long (by rw [hdl, ← hd]; exact h8) (Or.inr (by rw [← hn, hdl, ← hd, ← hd8]; exact hc2)))
          have HEND := Lib.hid hend
          have k3 : (d8 : Int) < (n : Int) := by omega
          clear hrd hdl hd h8 hend hcl hn he4 hs4 ht4 htw hN hnl hc1 hc2 hd8 hEl
          go_wp2_with (go_at_call 58; refine (HN.out _ HTW.out).mono ?_; rintro r w' ⟨rfl, rfl⟩)
          go_ret3
          obtain ⟨hE, hls, ht⟩ := HEND.out
          subst hE
          exact ⟨⟨_, by rw [← int_beq]; rfl, hls⟩, ht⟩
        · have k3 : decide (d8 < n) = false := by simpa using hc2
          have k3' : decide ((d8 : Int) < (n : Int)) = false := by simp; omega
          obtain ⟨e8, he8⟩ : ∃ e8, e8 = E + 8 := ⟨_, rfl⟩
          obtain ⟨en, hen⟩ : ∃ en, en = e8 + n := ⟨_, rfl⟩
          have i8 : (E : Int) + 8 = (e8 : Int) := by omega
          have in' : (e8 : Int) + (n : Int) = (en : Int) := by omega
          have hs8 := sub_slice HC.out (k := e4) (e := e8) (by omega) (by omega) hlc hcm (off + e4) (by rw [if_neg (by omega)])
          have ht8 : (b.take e8).drop e4 = ((b.drop E).drop 4).take 4 := by rw [he8, he4, List.drop_drop, ← cut4]
          rw [ht8] at hs8
          obtain ⟨o, ho⟩ : ∃ o, o = if cap = e8 then off else off + e8 := ⟨_, rfl⟩
          have hsp := sub_slice HC.out (k := e8) (e := en) (by omega) (by omega) hlc hcm o ho
          obtain ⟨q, hq⟩ : ∃ q, q = ((b.drop E).drop 8).take n := ⟨_, rfl⟩
          have htp : (b.take en).drop e8 = q := by rw [hq, hen, he8, drop_take_swap, List.drop_drop]
          rw [htp] at hsp
          have hql : q.length = n := by rw [hq, List.length_take, List.length_drop, hdl]; omega
          have hqe : en - e8 = q.length := by omega
          obtain ⟨s, hs⟩ : ∃ s, s = Walp.num (((b.drop E).drop 4).take 4) := ⟨_, rfl⟩
          have hN2 : ∀ W, Like wr W → Calls Tryz.prog 58 #[.slice (some ⟨g, off + e4, none⟩) (e8 - e4) (cap - e4)] W fun r w' => r = .returned (.int .i64 (s : Nat)) ∧ W = w' := fun W hW => by
            have := refNumber_any ((hs8.turned htw).turned hW.turn).toR (by rw [List.length_take, List.length_drop, hdl]; omega)
            rw [← hs] at this; exact this
          have hSum : ∀ W, Like wr W → Calls Tryz.prog 28 #[.slice (some ⟨g, o, none⟩) (en - e8) (cap - e8)] W fun r w' => r = .returned (.int .u32 (Walp.sum q : Nat)) ∧ W = w' := fun W hW => refSum_any ((hsp.turned htw).turned hW.turn).toR (by omega)
          have hByt : ∀ W, Like wr W → Calls Tryz.prog 55 #[.slice (some ⟨g, o, none⟩) (en - e8) (cap - e8)] W fun r w' => ∃ sp cap, r = .returned (.slice sp q.length cap) ∧ w'.ownsRow W.heap.size 5 1 (.slice sp q.length cap) q.length (q.map byteV) ∧ Turn (fun _ => False) W w' := fun W hW =>
            bytes_any (((hsp.turned htw).turned hW.turn).toB (Or.inr ⟨_, _, _, rfl⟩)) (by omega)
          have HN2 := Lib.hid hN2
          have HBYT := Lib.hid hByt
          have m0 : ¬ cap = e4 := by omega
          have m1 : (e8 : Int) ≤ (cap : Int) := by omega
          have m2 : (e4 : Int) ≤ (e8 : Int) := by omega
          have m3 : (en : Int) ≤ (cap : Int) := by omega
          have m4 : (e8 : Int) ≤ (en : Int) := by omega
          have m5 : (en : Int) ≤ (b.length : Int) := by omega
          have hsl := Walp.sum_lt q
          obtain ⟨sm, hsm⟩ : ∃ sm, sm = Walp.sum q := ⟨_, rfl⟩
          rw [← hsm] at hSum hsl
          have HSUM := Lib.hid hSum
          have sml : (sm : Int) < 4294967296 := by omega
          by_cases hsum : sm = s
          · have hgood := rec1_good (b := b.drop E) (by rw [hdl, ← hd]; exact h8) (by rw [← hn, hdl, ← hd, ← hd8]; omega) (by rw [← hn, ← hq, ← hs, ← hsm]; exact hsum)
            rw [← hn, ← hq] at hgood
            have b1 : ((sm : Int) != (s : Int)) = false := by rw [hsum]; simp
            have hcs : cap = e8 ∨ ¬ cap = e8 := Decidable.em _
            obtain ⟨pre, hE, ⟨xs, hx1, hx2, hx3⟩, hscan, _, _⟩ := hrd
            have hpl := frames_many pre
            have hplen : pre.length ≤ 134217728 := by omega
            have hmore := fun (wx : World) (out' : Value) (hl2 : ListsO wx w.heap.size out' (pre ++ [q])) (ht2 : Turn (fun _ => False) w wx) => more_of (w := w) (b := b) (n := n) hE hscan hgood hql (by omega : E + 8 + n ≤ b.length) hl2 ht2
            have hen8 : E + 8 + n = en := by omega
            rw [hen8] at hmore
            have hEn : E < en := by omega
            have henl : en ≤ b.length := by omega
            have HMORE := Lib.hid hmore
            have HX1 := Lib.hid hx1
            have HX2 := Lib.hid hx2
            have HX3 := Lib.hid hx3
            have HPL := Lib.hid hplen
            have HSZ := Lib.hid htw.size
            have HEN := Lib.hid hEn
            have HENL := Lib.hid henl
            clear hdl hd h8 hcl hn he4 hs4 ht4 htw hN hnl hc1 hc2 hd8 hEl he8 hen hs8 ht8 hsp hq htp hql hqe hs hN2 hSum hByt hsum hsm hsl hgood hE hx1 hx2 hx3 hscan hpl hplen hmore hen8 hEn henl HRD
            rcases hcs with hce | hce
            · rw [if_pos hce] at ho
              have jc : (cap = e8) = True := eq_true hce
              subst ho
              clear hce
              go_wp2_with fail
              go_at_call 58
              refine (HN.out _ HTW.out).mono ?_
              rintro r w' ⟨rfl, rfl⟩
              go_wp2_with fail
              go_quiet ((first | (go_at_call 28; exact Calls.quiet_of_same ((HSUM.out _ (like_drewN _ _)).mono fun _ _ h => ⟨h.1, h.2.symm⟩)) | (go_at_call 58; exact Calls.quiet_of_same ((HN2.out _ (like_drewN _ _)).mono fun _ _ h => ⟨h.1, h.2.symm⟩))))
              go_wp2_with fail
              go_at_call 55
              refine (HBYT.out _ (like_drewN _ _)).mono ?_
              rintro r w3 ⟨spq, capq, rfl, hown3, t3⟩
              have t03 : Turn (fun _ => False) wr w3 := (like_drewN wr _).turn.trans t3 (fun _ _ q => q)
              have T03 := Lib.hid t03
              have O3 := Lib.hid hown3
              have HROW := Lib.hid (ownsRow_turned HX1.out t03 (fun _ _ q => q))
              have hz3 := t03.size
              have HZ3 := Lib.hid hz3
              clear t03 t3 hown3 hz3
              go_wp2_with (at_builtin; refine wpList_append_own_at _ rfl _ _ 22 rfl w.heap.size 37 i0 (.slice none 0 0) 1 24 Tryz.underlying22 hi hz0 hz1 hz2 rfl (by decide) u5 _ _ rfl (HROW.out.alloc _) ⟨w3.heap.size, 0, none⟩ 1 1 [.slice spq q.length capq] rfl rfl (cell_one_new _ _ _) (by simp [Value.oneCell']) (by have := HPL.out; unfold maxLen; omega) (by have := HPL.out; omega) (by have := HSZ.out; have := HZ3.out; simp; omega) ?_; intro v' w4 hown4 hg4 hnil4 hblk4; have hsn := snoc_new HSZ.out HX1.out HX2.out HX3.out T03.out O3.out hg4 hown4; have HRD' := Lib.hid (HMORE.out _ _ hsn.1 (HTW.out.trans hsn.2 (fun i hi e => by have := (own_block HX1.out e).1; omega))); clear hsn hown4 hg4 hnil4 hblk4; go_frame)
              go_roundw
              case rel => exact ⟨en, rfl, HRD'.out⟩
              case measure => have := HEN.out; have := HENL.out; simp [intOf]; omega
            · rw [if_neg hce] at ho
              subst ho
              go_wp2_with (go_at_call 58; refine (HN.out _ HTW.out).mono ?_; rintro r w' ⟨rfl, rfl⟩)
              go_quiet ((first | (go_at_call 28; exact Calls.quiet_of_same ((HSUM.out _ (like_drewN _ _)).mono fun _ _ h => ⟨h.1, h.2.symm⟩)) | (go_at_call 58; exact Calls.quiet_of_same ((HN2.out _ (like_drewN _ _)).mono fun _ _ h => ⟨h.1, h.2.symm⟩))))
              go_wp2_with fail
              go_at_call 55
              refine (HBYT.out _ (like_drewN _ _)).mono ?_
              rintro r w3 ⟨spq, capq, rfl, hown3, t3⟩
              have t03 : Turn (fun _ => False) wr w3 := (like_drewN wr _).turn.trans t3 (fun _ _ q => q)
              have T03 := Lib.hid t03
              have O3 := Lib.hid hown3
              have HROW := Lib.hid (ownsRow_turned HX1.out t03 (fun _ _ q => q))
              have hz3 := t03.size
              have HZ3 := Lib.hid hz3
              clear t03 t3 hown3 hz3
              go_wp2_with (at_builtin; refine wpList_append_own_at _ rfl _ _ 22 rfl w.heap.size 37 i0 (.slice none 0 0) 1 24 Tryz.underlying22 hi hz0 hz1 hz2 rfl (by decide) u5 _ _ rfl (HROW.out.alloc _) ⟨w3.heap.size, 0, none⟩ 1 1 [.slice spq q.length capq] rfl rfl (cell_one_new _ _ _) (by simp [Value.oneCell']) (by have := HPL.out; unfold maxLen; omega) (by have := HPL.out; omega) (by have := HSZ.out; have := HZ3.out; simp; omega) ?_; intro v' w4 hown4 hg4 hnil4 hblk4; have hsn := snoc_new HSZ.out HX1.out HX2.out HX3.out T03.out O3.out hg4 hown4; have HRD' := Lib.hid (HMORE.out _ _ hsn.1 (HTW.out.trans hsn.2 (fun i hi e => by have := (own_block HX1.out e).1; omega))); clear hsn hown4 hg4 hnil4 hblk4; go_frame)
              go_roundw
              case rel => exact ⟨en, rfl, HRD'.out⟩
              case measure => have := HEN.out; have := HENL.out; simp [intOf]; omega
          · have hend := hrd.done (rec1_bad (by rw [hdl, ← hd]; exact h8) (by rw [← hn, hdl, ← hd, ← hd8]; omega) (by rw [← hn, ← hq, ← hs, ← hsm]; exact hsum))
            have HEND := Lib.hid hend
            have b1 : ((sm : Int) != (s : Int)) = true := by rw [bne_iff_ne]; omega
            have hcs : cap = e8 ∨ ¬ cap = e8 := Decidable.em _
            clear hrd hdl hd h8 hend hcl hn he4 hs4 ht4 htw hN hnl hc1 hc2 hd8 hEl he8 hen hs8 ht8 hsp hq htp hql hqe hs hN2 hSum hByt hsum hsm hsl
            rcases hcs with hce | hce
            · rw [if_pos hce] at ho
              have jc : (cap = e8) = True := eq_true hce
              subst ho
              clear hce
              go_wp2_with fail
              go_at_call 58
              refine (HN.out _ HTW.out).mono ?_
              rintro r w' ⟨rfl, rfl⟩
              go_wp2_with fail
              go_quiet ((first | (go_at_call 28; exact Calls.quiet_of_same ((HSUM.out _ (like_drewN _ _)).mono fun _ _ h => ⟨h.1, h.2.symm⟩)) | (go_at_call 58; exact Calls.quiet_of_same ((HN2.out _ (like_drewN _ _)).mono fun _ _ h => ⟨h.1, h.2.symm⟩))))
              go_wp2_with fail
              go_ret3
              obtain ⟨hE, hls, ht⟩ := HEND.out
              subst hE
              exact ⟨⟨_, by rw [← int_beq]; rfl, hls.turned (like_drewN _ _).turn (fun _ _ _ _ q => q.elim)⟩, Turn.like ht (like_drewN _ _)⟩
            · rw [if_neg hce] at ho
              subst ho
              go_wp2_with (go_at_call 58; refine (HN.out _ HTW.out).mono ?_; rintro r w' ⟨rfl, rfl⟩)
              go_quiet ((first | (go_at_call 28; exact Calls.quiet_of_same ((HSUM.out _ (like_drewN _ _)).mono fun _ _ h => ⟨h.1, h.2.symm⟩)) | (go_at_call 58; exact Calls.quiet_of_same ((HN2.out _ (like_drewN _ _)).mono fun _ _ h => ⟨h.1, h.2.symm⟩))))
              go_wp2_with fail
              go_ret3
              obtain ⟨hE, hls, ht⟩ := HEND.out
              subst hE
              exact ⟨⟨_, by rw [← int_beq]; rfl, hls.turned (like_drewN _ _).turn (fun _ _ _ _ q => q.elim)⟩, Turn.like ht (like_drewN _ _)⟩
end
end Go.Proofs.YtkhlejficonhpaaGreatDoor
